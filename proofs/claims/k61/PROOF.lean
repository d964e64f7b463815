import PyProof.Rows.All
import Wide.All
import KE.KIsAll
import KE.KNestM
import KE.KSortTup
import KE.KLam
import KE.KTryDeep
import KE.KDictOf
import KE.KFromBytes
import Wide.FinOn
import PySem.Challenge.RW_ringhues_k61_needed_places
set_option compiler.extract_closed false
set_option Elab.async false
set_option linter.all false
namespace Lake
set_option hygiene false
open Lean in
def cv:Nat->Syntax->MacroM (TSyntax `rcasesPat)
 |n+1,s=>match s with
  |`(⟨$xs,*⟩)=>do
   let p<-xs.getElems.mapM λx=>do `(Parser.Tactic.rcasesPatLo|$(<-cv n x):rcasesPat)
   `(rcasesPat|⟨$p,*⟩)
  |`(_)=>`(rcasesPat|_)
  |`($i:ident)=>`(rcasesPat|$i:ident)
  |_=>Macro.throwUnsupported
 |_,_=>Macro.throwUnsupported
local macro_rules(kind:=Lean.Parser.Tactic.tacticLet__)
 |s=>do
  let d:=s[2][0]
  if d.isOfKind `Lean.Parser.Term.letPatDecl then `(tactic|obtain $(<-cv 9 d[0]):rcasesPat:=$(⟨d[4]⟩)) else return s.setKind `Lean.Parser.Tactic.tacticHave__
local macro_rules|`(tactic|show $t)=>`(tactic|refine $t)
local macro_rules|`(tactic|ext)=>`(tactic|refine Y ?_)
local macro_rules(kind:=Lean.Parser.Command.declaration)
 |s=>do
  let d:=s[1]
  if !d.isOfKind `Lean.Parser.Command.definition||s[0].getArgs.any (·.getNumArgs>0) then Lean.Macro.throwUnsupported
  if d[3][1].isOfKind `Lean.Parser.Term.byTactic then return s.setArg 1 (.node .none `Lean.Parser.Command.theorem #[Lean.mkAtom "theorem",d[1],.node .none `Lean.Parser.Command.declSig #[d[2][0],d[2][1][0]],d[3]])
  let m<-`(command|noncomputable def a:=0)
  return s.setArg 0 m.raw[0]
theorem gV{p:Prop}(h:p:=by lia):p:=h
theorem Dc{p:Prop}(h:p:=by decide +kernel):p:=h
theorem J0{p:Prop}(h:p:=by decide):p:=h
theorem RQ{p:Prop}(h:p:=by simp):p:=h
abbrev aB:=@PySem.wpAny_bind
abbrev bW:=@PySem.Heap.get?_push_of_some
abbrev aJ:=@PySem.wpAny_pure
abbrev dz:=@List.getElem?_eq_getElem
abbrev dI:=@List.getElem?_eq_some_iff
abbrev bK:=@PySem.Heap.lt_size
abbrev dZ:=@List.mem_of_getElem?
abbrev dU:=@PySem.Heap.get?_push_size
abbrev dJ:=@List.length_append
abbrev cO:=@List.length_map
abbrev cU:=@Option.some.inj
abbrev eE:=@List.size_toArray
abbrev bU:=@Nat.le_refl
abbrev fD:=@Nat.lt_of_lt_of_le
abbrev g_:=@List.mem_cons_of_mem
abbrev fG:=@of_decide_eq_true
abbrev lq:=@List.getD_eq_getElem?_getD
abbrev gq:=@List.getElem?_map
abbrev cR:=@Nat.ne_of_lt
abbrev gw:=@List.length_cons
abbrev gA:=@Bool.and_eq_true
abbrev gB:=@List.mem_filter
abbrev kJ:=@List.mem_append_right
abbrev fH:=@decide_eq_true
abbrev nJ:=@List.getElem?_append_left
abbrev o8:=@List.getElem?_append_right
abbrev mF:=@Option.map_eq_some_iff
abbrev kO:=@List.mem_cons_self
abbrev ju:=@List.all_eq_true
abbrev o9:=@Int.eq_ofNat_of_zero_le
abbrev qD:=@List.getElem?_eq_none_iff
abbrev jw:=@decide_eq_false
abbrev iG:=@List.mem_cons
abbrev iH:=@List.map_cons
abbrev lM:=@List.length_range
abbrev jN:=@List.mem_append
abbrev wB:=@PyProof.Rows.slot_tuple_getitem
abbrev fK:=@PySem.wpAny_mono
abbrev pH:=@Array.length_toList
abbrev qF:=@List.getElem?_set_ne
abbrev o_:=@PySem.wpAny_newObj_type
abbrev pq:=@Int.toNat_natCast
abbrev yH:=@Int.mul_le_mul_of_nonneg_left
abbrev jO:=@Nat.le_trans
abbrev vA:=@Option.bind_eq_some_iff
abbrev pI:=@List.lookup_cons
abbrev rH:=@Bool.false_eq_true
abbrev lu:=@List.mem_map
abbrev lA:=@Int.mul_comm
abbrev pJ:=@List.length_set
abbrev pA:=@List.mem_range
abbrev kW:=@PySem.wpAny_field
abbrev wC:=@PySem.Heap.get?_update_other
abbrev zZ:=@PyProof.Rows.callWith_type1
abbrev tG:=@Nat.lt_succ_of_lt
abbrev DN:=@Int.mul_le_mul_of_nonneg_right
abbrev vB:=@List.filterMap_cons
abbrev pB:=@PySem.wpAny_holding
abbrev yI:=@PySem.wpAny_callSpecial?_slot
abbrev tH:=@List.length_take
abbrev yJ:=@List.getElem?_set_self
abbrev pK:=@Nat.lt_irrefl
abbrev rJ:=@PySem.wpAny_seqItems
abbrev vC:=@PySem.wpAny_truthy_bool
abbrev z_:=@List.getElem?_replicate
abbrev pL:=@Nat.ne_of_gt
abbrev tV:=@List.map_append
abbrev yK:=@PySem.Heap.get?_update_ne
abbrev yL:=@List.getElem_of_mem
abbrev yM:=@List.getElem?_range
abbrev Aa:=@PySem.Heap.get?_update_self
abbrev Ab:=@List.length_filter_le
abbrev yN:=@PySem.Obj.data_mapFields
abbrev DP:=@List.getElem?_cons_succ
abbrev yO:=@Nat.lt_of_le_of_lt
abbrev Ac:=@List.mem_append_left
abbrev nM:=@beq_iff_eq
abbrev rK:=@Nat.le_of_lt
abbrev wD:=@PySem.wpAny_call_entry
abbrev qG:=@Int.sub_mul
abbrev tW:=@PySem.wpAny_standAt
abbrev vD:=@PySem.Heap.size_push
abbrev wF:=@List.nodup_cons
abbrev lB:=@congrArg
abbrev Ad:=@List.mem_filterMap
abbrev Ae:=@PySem.wpAny_Call_Name_kw
abbrev Af:=@List.pairwise_cons
abbrev Ag:=@List.mem_singleton
abbrev Ah:=@Int.emod_lt_of_pos
abbrev rM:=@Nat.zero_le
abbrev yP:=@decide_eq_decide
abbrev DQ:=@PySem.Heap.get?_none_of_le
abbrev DR:=@Nat.mul_le_mul_right
abbrev vG:=@Int.mul_assoc
abbrev Ai:=@decide_eq_true_eq
abbrev DW:=@beq_eq_false_iff_ne
abbrev yQ:=@List.append_nil
abbrev DX:=@PySem.mem_of_lookup
abbrev Lf:=@Int.mul_lt_mul_of_pos_right
abbrev yR:=@Int.emod_nonneg
abbrev Lg:=@PySem.F.slot_tuple_iterator_next
abbrev Aj:=@PySem.F.plain_min_loop
abbrev Gp:=@List.length_replicate
abbrev DY:=@PySem.wpAny_setField_rec
abbrev Lh:=@List.pairwise_iff_getElem
abbrev Li:=@Decidable.byContradiction
abbrev nO:=@if_false
abbrev Gq:=@PySem.Around.under_plainId
abbrev Ak:=@PySem.wpAny_passesOwn
abbrev D_:=@PySem.Heap.get?_push_ne
abbrev Lj:=@PySem.AutoSeq1.wpAny_loadPart'
abbrev Ln:=@List.length_filterMap_le
abbrev vH:=@PySem.sizeLine_eq
abbrev vI:=@Int.add_mul
abbrev Ed:=@beq_self_eq_true
abbrev Ef:=@List.take_length
abbrev Eh:=@List.countP_cons
abbrev Al:=@List.nodup_nil
abbrev Am:=@Int.mul_nonneg
abbrev Lp:=@PySem.W.cellsFrom_some
abbrev Gs:=@Bool.false_ne_true
abbrev Gu:=@List.zip_cons_cons
abbrev Gv:=@decide_eq_true_iff
abbrev Gw:=@Int.mul_right_comm
abbrev Ej:=@List.length_nil
abbrev yS:=@PySem.codeAny_mono
abbrev wG:=@Nat.le_succ
abbrev Lq:=@PySem.Obj.isFreed_of_fields
abbrev Ek:=@List.forIn_cons
abbrev Lr:=@List.filterMap_eq_map
abbrev Ls:=@Int.ediv_lt_of_lt_mul
abbrev Ao:=@PyProof.Rows.listUpdate_at
abbrev Gx:=@List.append_assoc
abbrev Aq:=@List.all_cons
abbrev Pb:=@Int.lt_of_mul_lt_mul_left
abbrev Gy:=@Nat.lt_succ_self
abbrev Gz:=@List.length_drop
abbrev GC:=@PySem.Heap.size_update
abbrev GD:=@List.filter_cons
abbrev yU:=@PySem.wpAny_letGo
abbrev Pg:=@Option.isSome_iff_exists
abbrev Pj:=@PySem.F.args_tuple_add_2
abbrev Pk:=@PySem.wpAny_comprehension_free
abbrev Ar:=@List.map_map
abbrev Pn:=@PySem.F.entry_tuple_add
abbrev El:=@PySem.wpAny_attempt
abbrev Lw:=@Array.forIn_toList
abbrev GF:=@PySem.codeAny_builtin
abbrev Lx:=@of_decide_eq_false
abbrev Wx:=@List.take_succ_eq_append_getElem
abbrev Pq:=@PySem.F.slot_tuple_add
abbrev Pu:=@List.range_succ_eq_map
abbrev Px:=@List.take_of_length_le
abbrev yV:=@PySem.wpAny_rule
abbrev Av:=@Int.mul_one
abbrev Ly:=@PySem.wpAny_pyIter_list
abbrev Lz:=@List.reverse_cons
abbrev LC:=@List.nodup_append
abbrev Aw:=@Int.le_refl
abbrev LQ:=@Int.mul_left_comm
abbrev GJ:=@PySem.wpAny_setField
abbrev Py:=@List.getElem?_eq_none
abbrev Pz:=@List.filterMap_append
abbrev PB:=@Int.le_ediv_of_mul_le
abbrev LR:=@Nat.le_of_not_lt
abbrev L_:=@PySem.wpAny_isInstance
abbrev PJ:=@Array.toArray_toList
abbrev PK:=@PySem.wpAny_updateSeq_pair
abbrev GK:=@PySem.wpAny_newList
abbrev GP:=@PySem.plainId_quiet
abbrev PL:=@PySem.W.plainGet_of
abbrev Em:=@PySem.wpAny_of_eq
abbrev Ma:=@PySem.F.slot_zip_next
abbrev Mf:=@Bool.or_eq_true
abbrev Mg:=@Nat.not_lt_zero
abbrev En:=@Int.one_mul
abbrev PN:=@PySem.W.callWith_K
abbrev GQ:=@PySem.wpAny_typeOf
abbrev GR:=@List.all_map
abbrev GX:=@Nat.succ_mul
abbrev PX:=@Nat.lt_or_eq_of_le
abbrev Mh:=@List.forIn_nil
abbrev Mj:=@List.take_succ
abbrev Ep:=@PySem.wpAny_call
abbrev Er:=@Nat.not_lt
abbrev P0:=@bne_self_eq_false
abbrev P_:=@List.getElem?_inj
abbrev Qa:=@List.map_inj_left
abbrev zs1:=@List.pairwise_map
abbrev zs2:=@Int.mul_sub
abbrev GZ:=@Int.mul_add
abbrev G3:=@Int.not_lt
set_option Elab.async false
set_option linter.all false
set_option maxRecDepth 100000
set_option maxHeartbeats 4000000
namespace L2
open PySem PySem.Spec PyProof.Rows PySem.W
def subIn(K:W.Frag)(C D:Addr):Bool:=PySem.W.ktsIn K C "BaseException"&&PySem.W.ktsIn K D "BaseException"&&match K.lookup C with
 |some ⟨_,_,.cls cd,_⟩=>cd.mro.contains (.ref D)|_=>false
def G4:List Value:=[.type "ValueError",.type "Exception",.type "BaseException",.type "object"]
def tX:List Value->Bool
 |.ref _::r=>tX r|l=>l==G4
def tY(K:Frag)(C fI:Addr):Bool:=match K.lookup C with
 |some ⟨.type "type",_,.cls cd,sl⟩=>(match cd.mro,sl.toList with
  |.ref C'::bm,[_,_,_,_,some (.builtin n),_]=>C'==C&&n=="ValueError.__new__" && !cd.hasDel&&tailIn K G4 bm&&nsOkIn K cd.ns&&nsIn K cd.ns "__init__"==some (some (.ref fI))|_,_=>false)
 |_=>false
def aU(s:Stmt):Arguments:=match s with
 |.FunctionDef _ a _ _ _ _ _ _ _ _=>a|_=>{posonlyargs:=[],args:=[],vararg:=none,kwonlyargs:=[],kw_defaults:=[],kwarg:=none,defaults:=[]}
def aH(s:Stmt):List Stmt:=match s with
 |.FunctionDef _ _ b _ _ _ _ _ _ _=>b|_=>[]
def aA(s:Stmt):Scope:=match s with
 |.FunctionDef _ _ _ _ _ _ sc _ _ _=>sc|_=>{kind:=.function,names:=[],isGenerator:=false,isCoroutine:=false}
end L2
namespace Mi
open PySem PySem.Spec PyProof.Rows L2 PySem.W
def Ml(n c:Nat):Nat:=if c<n then c else 0
def G5(n c e:Nat):Bool:=Ml n e==0||Ml n c==Ml n e
def iM(L:List Addr)(c:Nat):Addr:=L.getD (Ml L.length c) 0
def xcB(K:W.Frag)(C:Addr):Bool:=
 PySem.W.findIn K (.ref C) "__getattribute__"==some (some (.builtin "BaseException.__getattribute__"))&&PySem.W.findIn K (.ref C) "__getattr__"==some none&&PySem.W.findIn K (.ref C) "__class__"==some (some (.builtin "object.__class__")) &&
 PySem.W.mroIn K C (.type "BaseException")==some true&&PySem.W.mroIn K C (.type "object")==some true&&(PySem.W.clsIn K C).isSome &&
 PySem.W.specialIn K (.builtin "object.__class__") "__get__"==some (some (.builtin "getset_descriptor.__get__"))&&PySem.W.takesIn K (.builtin "object.__class__")==some true
def yW(K:W.Frag)(L:List Addr):Bool:=(List.range L.length).all λc=>xcB K (L.getD c 0)&&PySem.W.kitOne K (.ref (L.getD c 0)) (.type "ValueError")==some true &&
 (List.range L.length).all λe=>PySem.W.kitOne K (.ref (L.getD c 0)) (.ref (L.getD e 0))==some (G5 L.length c e)
def subB(K:W.Frag)(L:List Addr)(d:Nat):Bool:=(List.range L.length).all λc=>!(G5 L.length c d)||L2.subIn K (L.getD c 0) (iM L d)
def nQ(fd:FuncData):FuncData:={fd with kwdefaults:=.none,doc:=.none,pyModule:=.none,annotations:=none,code:=.none,closureTuple:=.none}
def vJ(x:Str)(st:Stmt):FuncData:=fnOf x x (aU st) (aH st) (aA st) .none .none .none .none none .none .none
def wH(K:Frag)(x:Str):Option (Addr×FuncData):=match nsIn K mainGlobals x with
 |some (some (.ref f))=>(match K.lookup f with
  |some ⟨_,_,.func fd,_⟩=>(match codeIn K fd.code x&&keepIn K (.ref f) with
   |true=>some (f,fd)|false=>none)
  |_=>none)
 |_=>none
def dM(K:Frag)(x:Str):Addr:=match nsIn K mainGlobals x with
 |some (some (.ref C))=>C|_=>0
def tZ(K:Frag)(x:Str):Bool:=match nsIn K mainGlobals x with
 |some (some (.ref _))=>true|_=>false
def mH(K:Frag)(p:Str×Int):Bool:=match nsIn K mainGlobals p.1 with
 |some (some (.int i _))=>decide (i=p.2)|_=>false
def qH(K:Frag)(x:Str):Bool:=match nsIn K mainGlobals x with
 |some none=>true|_=>false
def G6(K:Frag)(C:Addr):Bool:=excIn K C [.type "ValueError",.type "Exception",.type "BaseException",.type "object"] "ValueError.__new__"
structure Lk where
 G7:List Str
 wI:List (Str×Int)
 Wy:List Str
 Wz:List Nat
 WD:List Nat
def Lk.L(l:Lk)(K:Frag):List Addr:=l.G7.map (dM K)
def Lk.good(l:Lk)(K:Frag):Bool:=
 l.G7.all (tZ K)&&(l.G7.isEmpty||yW K (l.L K))&&l.Wz.all (λk=>G6 K (iM (l.L K) k))&&l.WD.all (λk=>subB K (l.L K) k)&&l.wI.all (mH K)&&l.Wy.all (qH K)
def qI(h:Heap):List Addr->Frag
 |[]=>[]|a::r=>match h.get? a with
  |some o=>(a,o)::qI h r|none=>qI h r
def dW(s:Stmt):List Stmt:=match s with
 |.ClassDef _ _ _ b _ _ _ _ _ _ _=>b|_=>[]
def Ax(q:Str)(st:Stmt):FuncData:=fnOf "__init__" q (aU st) (aH st) (aA st) .none .none .none .none none .none .none
def G8(K:Frag)(C:Addr):Option FuncData:=match clsIn K C with
 |some cd=>(match nsIn K cd.ns "__init__" with
  |some (some (.ref f))=>(match K.lookup f with
   |some ⟨.type "function",_,.func fd,_⟩=>(match codeIn K fd.code fd.qualname&&tY K C f&&tX cd.mro&&cd.hasDict with
    |true=>some fd|false=>none)
   |_=>none)
  |_=>none)
 |none=>none
def setB(K:Frag)(C:Addr)(fs:List Str):Bool:=findIn K (.ref C) "__setattr__"==some (some (.builtin "object.__setattr__"))&&fs.all (λf=>findIn K (.ref C) f==some none)
def Mp(K:Frag)(C:Addr)(f:Str):Bool:=findIn K (.ref C) "__getattribute__"==some (some (.builtin "BaseException.__getattribute__"))&&findIn K (.ref C) "__getattr__"==some none&&mroIn K C (.type "BaseException")==some true&&findIn K (.ref C) f==some none&&hasDictIn K C
structure t_ where
 c:Nat
 q:Str
 st:Stmt
 fs:List Str
def qJ(o:Obj):Bool:=match o with
 |⟨.none,none,.fields vs,sl⟩=>vs.isEmpty&&sl.isEmpty|_=>false
def G9:Nat->List Obj->Frag
 |_,[]=>[]|i,o::r=>match o.isFreed||qJ o with
  |true=>G9 (i+1) r|false=>(i,o)::G9 (i+1) r
def bM(h:Heap):Frag:=qI h [mainGlobals]++(G9 0 h.objs.toList).reverse
def jP(fs:List (Str×Stmt))(ms:List t_)(xs:List (Nat×Str))(l:Lk)(s:Shared):List (Option FuncData)×List (Option FuncData)×Bool:=
 (fs.map (λp=>(wH (bM s.heap) p.1).map (λq=>nQ q.2)),ms.map (λm=>(G8 (bM s.heap) (iM (l.L (bM s.heap)) m.c)).map nQ),
  l.good (bM s.heap)&&ms.all (λm=>setB (bM s.heap) (iM (l.L (bM s.heap)) m.c) m.fs)&&xs.all (λx=>Mp (bM s.heap) (iM (l.L (bM s.heap)) x.1) x.2))
def lC(fs:List (Str×Stmt))(ms:List t_)(w:World):List (Option FuncData)×List (Option FuncData)×Bool:=(fs.map (λp=>some (vJ p.1 p.2)),ms.map (λm=>some (Ax m.q m.st)),true)
def Mq(fs:List (Str×Stmt))(s:Shared):List (Option FuncData):=fs.map (λp=>(wH (bM s.heap) p.1).map (λq=>nQ q.2))
def WK(ms:List t_)(xs:List (Nat×Str))(l:Lk)(s:Shared):List (Option FuncData)×Bool:=(ms.map (λm=>(G8 (bM s.heap) (iM (l.L (bM s.heap)) m.c)).map nQ),
  l.good (bM s.heap)&&ms.all (λm=>setB (bM s.heap) (iM (l.L (bM s.heap)) m.c) m.fs)&&xs.all (λx=>Mp (bM s.heap) (iM (l.L (bM s.heap)) x.1) x.2))
def ze2{p q:Program}{loose:List Str}{Xt:Shared->Bool}{N:Nat}{fs1 rN:List (Str×Stmt)}{ms:List t_}{xs:List (Nat×Str)}{l:Lk}
  (a:∀w,(openEnds treeTable p w N).map (λs=>openSeen q loose (importedModules p.main.body) Xt true s)=some (openGood q loose))
  (b1:∀w,(openEnds treeTable p w N).map (Mq fs1)=some (fs1.map λp=>some (vJ p.1 p.2)))
  (b2:∀w,(openEnds treeTable p w N).map (Mq rN)=some (rN.map λp=>some (vJ p.1 p.2)))
  (c:∀w,(openEnds treeTable p w N).map (WK ms xs l)=some (ms.map (λm=>some (Ax m.q m.st)),true)):LeftO p q loose Xt (jP (fs1++rN) ms xs l) (lC (fs1++rN) ms) N:=by
 intro w;let a:=a w;let b1:=b1 w;let b2:=b2 w;let c:=c w;cases e:openEnds treeTable p w N with
 |none=>rw[e]at a;cases a|some s=>
  rw[e]at a b1 b2 c;let a:openSeen q loose (importedModules p.main.body) Xt true s=openGood q loose:=cU a;let b1:=cU b1;let b2:=cU b2;let c:=cU c;let c1:=lB Prod.fst c;let c2:=lB Prod.snd c;change some (_,jP (fs1++rN) ms xs l s)=_;rw[a];let:jP (fs1++rN) ms xs l s=lC (fs1++rN) ms w:=by
   unfold jP lC;rw[tV,tV];let b1:List.map _ fs1=List.map _ fs1:=b1;let b2:List.map _ rN=List.map _ rN:=b2;rw[b1,b2];show Prod.ext rfl (Prod.ext c1 c2)
  rw[this]
structure Bd where
 n:Str
 fs:List Str
 ms:List (Str×Str×Stmt)
def lN(K:Frag)(C:Addr)(m:Str):Option (Addr×FuncData):=match findIn K (.ref C) m with
 |some (some (.ref f))=>(match K.lookup f with
  |some ⟨_,_,.func fd,_⟩=>(match codeIn K fd.code fd.qualname&&keepIn K (.ref f)&&isFn K (.ref f) with
   |true=>some (f,fd)|false=>none)
  |_=>none)
 |_=>none
def Et(m q:Str)(st:Stmt):FuncData:=fnOf m q (aU st) (aH st) (aA st) .none .none .none .none none .none .none
def yX(K:Frag)(b:Bd):Bool:=tZ K b.n&&plainGet K (dM K b.n) Str.empty&&hasDictIn K (dM K b.n)&&plainOver K (dM K b.n)&&findIn K (.ref (dM K b.n)) "__setattr__"==some (some (.builtin "object.__setattr__"))&&makesIn K (dM K b.n)&&keepIn K (.ref (dM K b.n))&&b.fs.all (λf=>findIn K (.ref (dM K b.n)) f==some none)
def wJ(b:Bd)(s:Shared):List (Option FuncData)×Bool:=(b.ms.map λp=>(lN (bM s.heap) (dM (bM s.heap) b.n) p.1).map λq=>nQ q.2,yX (bM s.heap) b)
def wK(b:Bd):List (Option FuncData)×Bool:=(b.ms.map λp=>some (Et p.1 p.2.1 p.2.2),true)
def zkn{p q:Program}{loose:List Str}{Xt:Shared->Bool}{N:Nat}{fs:List (Str×Stmt)}{ms:List t_}{xs:List (Nat×Str)}{l:Lk}{b:Bd}(h:LeftO p q loose Xt (jP fs ms xs l) (lC fs ms) N)(e:∀w,(openEnds treeTable p w N).map (wJ b)=some (wK b)) :
  LeftO p q loose Xt (λs=>(jP fs ms xs l s,wJ b s)) (λw=>(lC fs ms w,wK b)) N:=by
 intro w;let h:=h w;let e:=e w;cases z:openEnds treeTable p w N with
 |none=>rw[z]at e;cases e|some s=>
  rw[z]at h e;let e:wJ b s=wK b:=cU e;let h:=cU h;let h1:=lB Prod.fst h;let h2:=lB Prod.snd h;change some (_,_,_)=some (_,_,_);rw[e];show lB some (Prod.ext h1 (Prod.ext h2 rfl))
def lO(o:Obj):Option Value:=match o.data with
 |.fields vs=>(match (vs[1]? : Option Value) with
  |some (.str q _)=>(match q=="plain_rings" with
   |true=>vs[11]?|false=>none)
  |_=>none)
 |_=>none
def WL:Value->Option String
 |.type n=>some n|_=>none
def WM:Value->Option Addr
 |.ref a=>some a|_=>none
def G_:Data->Bool
 |.plain=>true|_=>false
def bmB(K:Frag):Bool:=((nsIn K mainGlobals "__builtins__").bind λv=>v.bind WM).any λbm=>(K.lookup bm).any λo=>WL o.cls==some "module"&&o.dict==some builtinsNs&&G_ o.data&&bm != builtinsNs&&bm != mainGlobals
def Hg(h:Heap)(P:Addr):Bool:=match h.get? P with
 |some o=>qJ o|none=>false
def Ay(K:Frag)(h:Heap):Bool:=match wH K "plain_rings" with
 |some q=>(match q.2.code with
  |.ref c=>(match (K.lookup c).bind lO with
   |some (.ref P)=>codeHdIn K c P&&(K.lookup P).isNone&&Hg h P&&bmB K&&K.all (λr=>match lO r.2 with
    |some (.ref p)=>p==P|_=>true)
   |_=>false)
  |_=>false)
 |none=>false
def nR(s:Shared):Bool:=Ay (bM s.heap) s.heap
def zgT{p q:Program}{loose:List Str}{Xt:Shared->Bool}{N:Nat}{α:Type}{Yf:Shared->α}{Ya:World->α}(h:LeftO p q loose Xt Yf Ya N)(e:∀w,(openEnds treeTable p w N).map nR=some true) :
  LeftO p q loose Xt (λs=>(Yf s,nR s)) (λw=>(Ya w,true)) N:=by
 intro w;let h:=h w;let e:=e w;cases z:openEnds treeTable p w N with
 |none=>rw[z]at h;cases h|some s=>
  rw[z]at h e;let h:=cU h;let e:nR s=true:=cU e;change some (_,(Yf s,nR s))=_;let h1:openSeen q loose (importedModules p.main.body) Xt true s=openGood q loose:=lB Prod.fst h;let h2:Yf s=Ya w:=lB Prod.snd h;rw[e,h1,h2]
end Mi
namespace dR
open PySem PySem.Spec PyProof.Rows PySem.W L2 Mi
def top(i:Nat):Stmt:=PySem.Challenge.pw_ringhues_k61_needed_places.main.body.getD i (.Pass ⟨0,0,0,0⟩)
def Eu:Stmt:=(dW (top 26)).getD 0 (.Pass ⟨0,0,0,0⟩)
def Hj:Stmt:=(dW (top 26)).getD 1 (.Pass ⟨0,0,0,0⟩)
def Hl:Stmt:=(dW (top 26)).getD 2 (.Pass ⟨0,0,0,0⟩)
def Ho:Stmt:=(dW (top 26)).getD 3 (.Pass ⟨0,0,0,0⟩)
def Hq:Stmt:=(dW (top 26)).getD 4 (.Pass ⟨0,0,0,0⟩)
def Hr:Stmt:=(dW (top 26)).getD 5 (.Pass ⟨0,0,0,0⟩)
def Hs:Stmt:=(dW (top 26)).getD 6 (.Pass ⟨0,0,0,0⟩)
def bd:Bd:=⟨"Board",["ends","spots","apart","alike"],[("__init__","Board.__init__",Eu),("far_apart","Board.far_apart",Hj),("settled","Board.settled",Hl),("ties_left","Board.ties_left",Ho),("bound","Board.bound",Hq),("narrowest","Board.narrowest",Hr),("all_free","Board.all_free",Hs)]⟩
def fs1:List (Str×Stmt):=("is_whole",top 6)::("is_within",top 7)::("is_row",top 8)::("is_web",top 11)::("web_of",top 12)::("is_many",top 13)::("is_place",top 14)::("is_tie",top 15)::("tie_by",top 16)::("check_web",top 17)::("check_place",top 18)::("tied_to",top 19)::("all_ends",top 20)::("without",top 22)::("names_but",top 23)::("renamed",top 24)::("ring_board",top 27)::("is_ring",top 30)::("check_ring",top 31)::("lowest_terms",top 32)::("first_hues",top 34)::("first_among",top 35)::("first_spot",top 36)::[]
def rN:List (Str×Stmt):=("can_settle",top 37)::("search",top 38)::("plain_rings",top 41)::("has_room",top 42)::("shortest",top 43)::("is_plain",top 44)::("needed_places",top 46)::("needed_part",top 47)::("is_needed",top 48)::("_law_cell",top 50)::("_law_pen",top 51)::("_law_draw",top 52)::("_law_whole",top 53)::("_law_web",top 54)::("_law_web_is",top 55)::("_law_apart",top 56)::("_law_first",top 57)::("_law_shortest",top 58)::("_law_bare",top 59)::("_law_needs",top 60)::("_law_told_as",top 61)::("_law_part",top 62)::("_law_right",top 63)::("law",top 64)::[]
noncomputable abbrev fs:List (Str×Stmt):=fs1++rN
def lk:Lk:=⟨[],[("MOST_PLACES",8),("MOST_SPOTS",24),("SO_OFTEN",27720)],["abs","all","bool","divmod","enumerate","int","isinstance","len","list","max","min","range","sorted","tuple","zip"],[],[]⟩
def ms:List t_:=[]
def xs:List (Nat×Str):=[]
noncomputable abbrev pv:Program:=PySem.Challenge.pw_ringhues_k61_needed_places
def qv:Program:={pv with main:={pv.main with body:=[pv.main.body.getD 64 (.Pass ⟨0,0,0,0⟩)]}}
def loose:List Str:=(["HueError","NoRing","NoPlace","NoWeb","is_whole","is_within","is_row","MOST_PLACES","is_web","web_of","is_many","is_place","is_tie","tie_by","check_web","check_place","tied_to","all_ends","without","names_but","renamed","Board","ring_board","MOST_SPOTS","is_ring","check_ring","lowest_terms","first_hues","first_among","first_spot","can_settle","search","SO_OFTEN","plain_rings","has_room","shortest","is_plain","needed_places","needed_part","is_needed","_law_cell","_law_pen","_law_draw","_law_whole","_law_web","_law_web_is","_law_apart","_law_first","_law_shortest","_law_bare","_law_needs","_law_told_as","_law_part","_law_right"]:List String).map Str.ofString
def zlt(w:World):(openEnds treeTable pv w 20000).map (λs=>openSeen qv loose (importedModules pv.main.body) (λs=>xlAt qv [] s&&recOk [] s) true s)=some (openGood qv loose):=by
 kernel_rfl
def zlv(w:World):(openEnds treeTable pv w 20000).map (Mq fs1)=some (fs1.map λp=>some (vJ p.1 p.2)):=by
 kernel_rfl
def zk7(w:World):(openEnds treeTable pv w 20000).map (Mq rN)=some (rN.map λp=>some (vJ p.1 p.2)):=by
 kernel_rfl
def zlP(w:World):(openEnds treeTable pv w 20000).map (WK ms xs lk)=some (ms.map (λm=>some (Ax m.q m.st)),true):=by
 kernel_rfl
def ws:PySem.Challenge.rw_ringhues_k61_needed_places.wellSaid=true:=by
 kernel_rfl
def wt:PySem.Challenge.rw_ringhues_k61_needed_places.row.prog.tablesWhole=true:=by
 decide +kernel
def wc:(chainsOk qv&&opensWell PySem.Challenge.rw_ringhues_k61_needed_places.row.prog&&(frees PySem.Challenge.rw_ringhues_k61_needed_places.row.toRowW&&PySem.Challenge.rw_ringhues_k61_needed_places.row.within.isEmpty))=true:=by
 decide +kernel
def zkI(w:World):(openEnds treeTable pv w 20000).map (wJ bd)=some (wK bd):=by
 kernel_rfl
theorem zlK:LeftO pv qv loose (λs=>xlAt qv [] s&&recOk [] s) (λs=>(jP fs ms xs lk s,wJ bd s)) (λw=>(lC fs ms w,wK bd)) 20000:=zkn (ze2 zlt zlv zk7 zlP) zkI
def zl4(w:World):(openEnds treeTable pv w 20000).map nR=some true:=by
 kernel_rfl
theorem left:LeftO pv qv loose (λs=>xlAt qv [] s&&recOk [] s) (λs=>((jP fs ms xs lk s,wJ bd s),nR s)) (λw=>((lC fs ms w,wK bd),true)) 20000:=zgT zlK zl4
end dR
namespace L2
open PySem PySem.Spec PyProof.Rows
def eF{α:Sort u}{β:Sort v}{A B C:α->β->Prop}{P:Prop}(h:∃x y,A x y/\B x y/\C x y)(k:∀x y,A x y->B x y->C x y->P):P:=by
 let⟨x,y,a,b,c⟩:=h;show k x y a b c
def Qc{α:Sort u}{β:Sort v}{γ:Sort w}{A B:α->β->Prop}{C D:α->β->γ->Prop}{P:Prop}(h:∃x y,A x y/\B x y/\∃z,C x y z/\D x y z)(k:∀x y,A x y->B x y->∀z,C x y z->D x y z->P):P:=by
 let⟨x,y,a,b,z,c,d⟩:=h;show k x y a b z c d
def vK{α:Sort u}{A B:α->Prop}{P:Prop}(h:∃x,A x/\B x)(k:∀x,A x->B x->P):P:=by
 let⟨x,a,b⟩:=h;show k x a b
noncomputable abbrev Key:=Sum Int Str
def yZ:Key->Value->Bool
 |.inl k,v=>Value.isInt k v|.inr x,v=>Value.isStrOf x v
def Qd(w:World):Key->Int
 |.inl k=>hashInt k|.inr x=>hashStr w x
theorem wL:∀{k:Key} {v:Value},yZ k v=true->(∃i t,k=Sum.inl i/\v=Value.int i t)\/(∃x t,k=Sum.inr x/\v=Value.str x t)
 |.inl i,v,h=>by
  let⟨t,e⟩:=Value.isInt_shape (k:=i) (v:=v) h;show .inl ⟨i,t,rfl,e⟩
 |.inr x,v,h=>by
  let⟨t,e⟩:=Value.isStrOf_shape (x:=x) (v:=v) h;show .inr ⟨x,t,rfl,e⟩
def zm1(a b:Int):decide ((Sum.inl a:Key)=Sum.inl b)=(a==b):=by
 by_cases e:a=b
 .subst e;simp
 .let h:¬(Sum.inl a:Key)=Sum.inl b:=λq=>e (Sum.inl.inj q);rw[jw h];show(DW.mpr e).symm
def zkY(a b:Str):decide ((Sum.inr a:Key)=Sum.inr b)=decide (a=b):=by
 by_cases e:a=b
 .subst e;simp
 .let h:¬(Sum.inr a:Key)=Sum.inr b:=λq=>e (Sum.inr.inj q);rw[jw h,jw e]
theorem zlA(a:Int)(b:Str):decide ((Sum.inl a:Key)=Sum.inr b)=false:=jw (λq=>nomatch q)
theorem znm(a:Str)(b:Int):decide ((Sum.inr a:Key)=Sum.inl b)=false:=jw (λq=>nomatch q)
def mJ(prog:Program)(w:World):PySem.KeyKind prog w Key where
 is:=yZ
 hash:=Qd w
 inj:=λv a b ha hb=>by
  rcases wL ha with ⟨i,t,rfl,rfl⟩|⟨x,t,rfl,rfl⟩
  .rcases wL hb with ⟨j,u,rfl,e⟩|⟨y,u,rfl,e⟩
   .injection e with e1 _;rw[e1]
   .exact nomatch e
  .rcases wL hb with ⟨j,u,rfl,e⟩|⟨y,u,rfl,e⟩
   .exact nomatch e
   .injection e with e1 _;rw[e1]
 byValue:=λk v h=>by
  rcases wL h with ⟨i,t,rfl,rfl⟩|⟨x,t,rfl,rfl⟩<;>rfl
 pyHash:=λhv h=>by
  rcases wL hv with ⟨i,t,rfl,rfl⟩|⟨x,t,rfl,rfl⟩
  .exact wpAny_pyHash_int h
  .exact wpAny_pyHash_str h
 eqBool:=λhu hv h=>by
  rcases wL hu with ⟨i,t,rfl,rfl⟩|⟨x,t,rfl,rfl⟩
  .rcases wL hv with ⟨j,u,rfl,rfl⟩|⟨y,u,rfl,rfl⟩
   .rw[zm1]at h;show wpAny_eqBool_int h
   .rw[zlA]at h;show SeqAt.EqAt.int_str i t y u _ _ _ _ h
  .rcases wL hv with ⟨j,u,rfl,rfl⟩|⟨y,u,rfl,rfl⟩
   .rw[znm]at h;show SeqAt.EqAt.str_int x t j u _ _ _ _ h
   .rw[zkY]at h;show wpAny_eqBool_str h
 «strs»:=λk x t v h=>by
  rcases wL h with ⟨i,u,rfl,e⟩|⟨y,u,rfl,e⟩
  .exact nomatch e
  .injection e with e1 _;subst e1;cases v<;>rfl
inductive V where
 |non|bl (b:Bool)|int (i:Int)|str (x:Str)|Az (b:Array UInt8)|flt (b:UInt64)|ref (a:Addr)|ty (n:String)
 deriving DecidableEq
def RelV:V->Value->Prop
 |.non,u=>u=Value.none|.bl b,u=>u=Value.bool b|.int i,u=>∃t,u=Value.int i t|.str x,u=>∃t,u=Value.str x t|.Az b,u=>∃t,u=Value.bytes b t|.flt b,u=>∃t,u=Value.float b t|.ref a,u=>u=Value.ref a|.ty n,u=>u=Value.type n
noncomputable abbrev Vals:List V->List Value->Prop:=Paired RelV
theorem Vals.length{xs:List V}{us:List Value}(r:Vals xs us):xs.length=us.length:=Paired.length r
theorem Vals.get:∀{xs:List V} {us:List Value} {i:Nat} {x:V},Vals xs us->xs[i]?=some x->∃u,us[i]?=some u/\RelV x u
 |_,_,_,_,.nil,e=>by simp at e|_,_,0,_,.cons r _,e=>by simp at e;subst e;show⟨_,rfl,r⟩|_,_,i+1,x,.cons _ t,e=>by
  let⟨u,h1,h2⟩:=Vals.get (i:=i) (x:=x) t (by simpa using e);show⟨u,by simpa using h1,h2⟩
theorem Vals.set{x:V}{u:Value}(r:RelV x u):∀{xs:List V} {us:List Value} (i:Nat),Vals xs us->Vals (xs.set i x) (us.set i u)
 |_,_,_,.nil=>.nil|_,_,0,.cons _ t=>.cons r t|_,_,i+1,.cons q t=>.cons q (Vals.set r i t)
def Vals.append{xs ys:List V}{us ws:List Value}(h:Vals xs us)(s:Vals ys ws):Vals (xs++ys) (us++ws):=by
 induction h with
 |nil=>show s|cons r _ ih=>show .cons r ih
theorem Vals.take:∀{xs:List V} {us:List Value} (n:Nat),Vals xs us->Vals (xs.take n) (us.take n)
 |_,_,0,_=>.nil|_,_,_+1,.nil=>.nil|_,_,n+1,.cons r t=>.cons r (Vals.take n t)
theorem Vals.drop:∀{xs:List V} {us:List Value} (n:Nat),Vals xs us->Vals (xs.drop n) (us.drop n)
 |_,_,0,r=>r|_,_,_+1,.nil=>.nil|_,_,n+1,.cons _ t=>Vals.drop n t
def rO:Option V->Option Value->Prop
 |some v,some u=>RelV v u|none,none=>True|_,_=>False
def KV{κ:Type}:List (κ×V)->List (κ×Value)->Prop:=Paired λ(p:κ×V) (q:κ×Value)=>p.1=q.1/\RelV p.2 q.2
def kV:Key->V
 |.inl i=>.int i|.inr x=>.str x
inductive HO where
 |lst (xs:List V)
 |tup (xs:List V)
 |dK (kvs:List (Key×V))|dT (kvs:List (List Key×V))
 |set (S:Int->Bool) (n:Nat)
 |ins (C dx:Addr) (fs:List (Str×V))
 |own (x:Addr)
 |xd (fs:List (Str×V))
 |met (f x:Addr)
 |rng (lo hi:Int)
 |nU (o:Obj) (u:HO)
 |lQ (ps:Array Value)
 |ext (U:Heap->Prop)
noncomputable abbrev Hp:=Addr->Option HO
def upd(H:Hp)(a:Addr)(o:HO):Hp:=λb=>if b=a then some o else H b
def h_{H:Hp}{a:Addr}{o:HO}:upd H a o a=some o:=by unfold upd;rw[if_pos rfl]
def bN{H:Hp}{a b:Addr}{o:HO}(h:b≠a):upd H a o b=H b:=by unfold upd;rw[if_neg h]
def WQ{H:Hp}{a:Addr}{o u:HO}:upd (upd H a o) a u=upd H a u:=by
 funext b;unfold upd;split<;>rfl
def wM{H:Hp}{a b:Addr}{o:HO}(h:H a=some o)(h':H b=none):a≠b:=by
 intro e;subst e;rw[h]at h';cases h'
section
variable (P:Program)(w:World)
def bC(H:Hp)(h:Heap)(a:Addr):HO->Prop
 |.lst xs=>xs.length<=sizeLine/\∃(its:List Value) (n:Nat),Vals xs its/\h.get? a=some {cls:=.type "list",data:=.seq its.toArray n}|.tup xs=>xs.length<=sizeLine/\∃its:List Value,Vals xs its/\IsTup h a its.toArray|.dK kvs=>kvs.length<=sizeLine/\(a==sysModules)=false/\∃vs,KV kvs vs/\h.DictOf (mJ P w) a vs|.dT kvs=>kvs.length<=sizeLine/\(a==sysModules)=false/\∃xs:List (List Key×Addr×Value),
   Paired (λ(p:List Key×V) (q:List Key×Addr×Value)=>p.1=q.1/\H q.2.1=some (.tup (p.1.map kV))/\RelV p.2 q.2.2) kvs xs /\
   ∃o es ep,h.get? a=some o/\o.ExactDict/\o.data=.dict es ep/\es.toList=xs.map (entryOfKey (tupleKind (mJ P w)))/\(xs.map (·.1)).Nodup
 |.set S n=>h.SetOf (intKind P w) a S n|.ins C dx fs=>H dx=some (.own a)/\fs.length<=1000/\dx≠a/\h.get? a=some (PySem.W.instObj C dx) /\
   ∃mA,h.Ns1 dx mA/\(∀f,rO (fs.lookup f) (mA f))/\PySem.Within mA (fs.map (·.1))
 |.own _=>∃o,h.get? a=some o|.xd fs=>∃mA,h.Ns1 a mA/\∀f,rO (fs.lookup f) (mA f)|.rng lo hi=>∃t u v,h.get? a=some {cls:=.type "range",data:=.fields #[.int lo t,.int hi u,.int 1 v]}|.nU o u=>h.get? a=some o/\bC H h a u|.lQ ps=>h.get? a=some {cls:=.none,data:=.fields ps}|.met f x=>h.get? a=some (PySem.W.methodObj (.ref f) (.ref x))|.ext U=>U h/\(∃o,h.get? a=some o)/\∀h1 h2:Heap,U h1->(∀o,h1.get? a=some o->h2.get? a=some o)->U h2
def iI(H:Hp)(h:Heap):Prop:=∀a o,H a=some o->bC P w H h a o
end
section
variable {P:Program}{w:World}{H H':Hp}{h h':Heap}{a:Addr}{o:HO}
def bC.lt(x:bC P w H h a o):a<h.objs.size:=by
 cases o with
 |lst xs=>let⟨_,_,_,_,e⟩:=x;show bK e|tup xs=>let⟨_,_,_,p⟩:=x;show p.lt|dK kvs=>let⟨_,_,_,_,o,_,_,e,_⟩:=x;show bK e|dT kvs=>let⟨_,_,_,_,o,_,_,e,_⟩:=x;show bK e|set S n=>let⟨o,_,_,_,e,_⟩:=x;show bK e|ins C dx fs=>let⟨_,_,_,e,_⟩:=x;show bK e|own y=>let⟨_,e⟩:=x;show bK e|xd fs=>let⟨_,⟨_,_,_,e,_⟩,_⟩:=x;show bK e|rng lo hi=>let⟨_,_,_,e⟩:=x;show bK e|nU ob u=>let⟨e,_⟩:=x;show bK e|lQ ps=>show bK (show h.get? a=some _ from x)|met f y=>show bK (show h.get? a=some _ from x)|ext U=>let⟨_,⟨_,e⟩,_⟩:=x;show bK e
theorem WR{α β:Type}{F G:α->β->Prop}:∀{l₁:List α} {l₂:List β},Paired F l₁ l₂->(∀a b,F a b->G a b)->Paired G l₁ l₂
 |_,_,.nil,_=>.nil|_,_,.cons r t,f=>.cons (f _ _ r) (WR t f)
def bC.stay(x:bC P w H h a o)(k:∀b u,(b=a\/H b=some (.own a))->h.get? b=some u->h'.get? b=some u)
  (ho:∀b,H b=some (.own a)->H' b=some (.own a)) (ht:∀b xs,H b=some (.tup xs)->H' b=some (.tup xs)):bC P w H' h' a o:=by
 induction o with
 |lst xs=>let⟨z,its,n,r,e⟩:=x;show⟨z,its,n,r,k _ _ (.inl rfl) e⟩|tup xs=>let⟨z,its,r,ob,e,c⟩:=x;show⟨z,its,r,ob,k _ _ (.inl rfl) e,c⟩|dK kvs=>let⟨z,y,vs,r,ob,es,ep,e,c⟩:=x;show⟨z,y,vs,r,ob,es,ep,k _ _ (.inl rfl) e,c⟩|dT kvs=>
  let⟨z,y,xs,r,ob,es,ep,e,c⟩:=x;show⟨z,y,xs,WR r λp q z=>⟨z.1,ht _ _ z.2.1,z.2.2⟩,ob,es,ep,k _ _ (.inl rfl) e,c⟩
 |set S n=>let⟨ob,es,ep,t,e,c⟩:=x;show⟨ob,es,ep,t,k _ _ (.inl rfl) e,c⟩|ins C dx fs=>
  let⟨d,z,ne,e,mA,⟨od,es,ep,e2,c⟩,r⟩:=x;show⟨ho _ d,z,ne,k _ _ (.inl rfl) e,mA,⟨od,es,ep,k _ _ (.inr d) e2,c⟩,r⟩
 |own y=>let⟨ob,e⟩:=x;show⟨ob,k _ _ (.inl rfl) e⟩|xd fs=>let⟨mA,⟨od,es,ep,e,c⟩,r⟩:=x;show⟨mA,⟨od,es,ep,k _ _ (.inl rfl) e,c⟩,r⟩|rng lo hi=>let⟨t,u,v,e⟩:=x;show⟨t,u,v,k _ _ (.inl rfl) e⟩|nU ob u ih=>let⟨e,q⟩:=x;show⟨k _ _ (.inl rfl) e,ih q⟩|lQ ps=>
  let e:h.get? a=some {cls:=.none,data:=.fields ps}:=x;change h'.get? a=some {cls:=.none,data:=.fields ps};show k a _ (.inl rfl) e
 |met f y=>
  let e:h.get? a=some (PySem.W.methodObj (.ref f) (.ref y)):=x;change h'.get? a=some (PySem.W.methodObj (.ref f) (.ref y));show k a _ (.inl rfl) e
 |ext U=>let⟨p,⟨o,e⟩,st⟩:=x;show⟨st _ _ p λo q=>k _ _ (.inl rfl) q,⟨o,k _ _ (.inl rfl) e⟩,st⟩
theorem iI.lt(x:iI P w H h)(e:H a=some o):a<h.objs.size:=(x a o e).lt
def iI.fresh(x:iI P w H h)(e:h.objs.size<=a):H a=none:=by
 cases q:H a with
 |none=>rfl|some u=>show absurd (fD (x.lt q) e) (pK _)
theorem iI.kept(x:iI P w H h)(k:∀b u,h.get? b=some u->h'.get? b=some u):iI P w H h':=λa o e=>
 (x a o e).stay (λb u _ q=>k b u q) (λ_ q=>q) λ_ _ q=>q
theorem iI.laid(x:iI P w H h)(k:∀b u,h.get? b=some u->h'.get? b=some u)(hp:h.objs.size<=a)(new:bC P w (upd H a o) h' a o):iI P w (upd H a o) h':=λb u e=>by
 let hn:=x.fresh hp;by_cases hb:b=a
 .subst hb;rw[h_]at e;cases e;show new
 .rw[bN hb]at e;show(x b u e).stay (λc v _ q=>k c v q) (λc q=>by rw[bN (wM q hn)];show q) λc xs q=>by rw[bN (wM q hn)];show q
end
def Rd(H:Hp)(a:Addr)(u:HO):Prop:=H a=some u\/∃o,H a=some (.nU o u)
def Rd.ok{P:Program}{w:World}{H:Hp}{h:Heap}{a:Addr}{u:HO}(r:Rd H a u)(x:iI P w H h):bC P w H h a u:=by
 rcases r with r|⟨o,r⟩
 .exact x a u r
 .obtain⟨_,q⟩:=x a _ r;show q
def Ht:Option HO->Prop
 |some (.lst _)=>True|some (.dK _)=>True|some (.dT _)=>True|some (.set _ _)=>True|some (.ins _ _ _)=>True|some (.ext _)=>True|_=>False
section
variable {P:Program}{w:World}{H:Hp}{h h':Heap}{x e:Addr}{o':HO}
theorem iI.write(ok:iI P w H h)(mu:Ht (H x))(he:e=x\/H e=some (.own x))(k:∀b u,b≠e->h.get? b=some u->h'.get? b=some u)(Ew:∃u,h'.get? e=some u)
  (new:bC P w (upd H x o') h' x o'):iI P w (upd H x o') h':=λb u q=>by
 let Hu:∀c y,H c=some (.own y)->c≠x:=λc y r z=>by subst z;rw[r]at mu;show mu
 let Qe:∀c xs,H c=some (.tup xs)->c≠x:=λc xs r z=>by subst z;rw[r]at mu;show mu
 by_cases hb:b=x
 .subst hb;rw[h_]at q;cases q;show new
 .rw[bN hb]at q;by_cases A_:b=e
  .let q':H b=some (.own x):=by
    rcases he with z|z
    .exact absurd (A_.trans z) hb
    .rw[A_];show z
   rw[q]at q';cases q';let⟨v,hv⟩:=Ew;show⟨v,by rw[A_];show hv⟩
  .refine(ok b u q).stay (λc v hc r=>k c v ?_ r) (λc r=>by rw[bN (Hu c b r)];show r) λc xs r=>by rw[bN (Qe c xs r)];show r
   rcases hc with rfl|hc
   .exact A_
   .rintro rfl;rcases he with z|z
    .exact Hu c b hc z
    .rw[hc]at z;cases z;show hb rfl
end
def iQ:Str:="plain_rings.<locals>.<lambda>"
def qK:Bool:=true
def GoodC(H:Hp)(c:Addr):Prop:=∃oc u vs t,H c=some (.nU oc u)/\oc.data=.fields vs/\vs[1]?=some (.str iQ t)
inductive eZ (H:Hp):List Value->Prop
 |nil:eZ H []
 |cons (l m:Int) (c:Addr) (r:List Value):GoodC H c->eZ H r->eZ H (rawInt l::rawInt m::.ref c::r)
def eZ.app{H:Hp}{a b:List Value}(x:eZ H a)(y:eZ H b):eZ H (a++b):=by
 induction x with
 |nil=>show y|cons l m c r g _ ih=>show .cons l m c _ g ih
def eZ.mono{H H':Hp}(k:∀b o u,H b=some (.nU o u)->H' b=some (.nU o u)){a:List Value}(x:eZ H a):eZ H' a:=by
 induction x with
 |nil=>show .nil|cons l m c r g _ ih=>
  let⟨oc,u,vs,t,e,q⟩:=g;show .cons l m c _ ⟨oc,u,vs,t,k _ _ _ e,q⟩ ih
def jQ(K:W.Frag)(c P:Addr):Bool:=match K.lookup c with
 |some o=>(match o.data with
  |.fields vs=>(match (vs[1]? : Option Value) with|some (.str q _)=>q=="plain_rings"|_=>false)&&(match (vs[11]? : Option Value) with|some (.ref p)=>p==P|_=>false)
  |_=>false)
 |none=>false
def Ba(K:W.Frag)(H:Hp):Prop:=qK=true->∀c P,jQ K c P=true->∃ps,H P=some (.lQ ps)/\eZ H ps.toList
structure Un(fs ex:List Addr)(H H':Hp)(h h':Heap):Prop where
 keep:∀b o,h.get? b=some o->H b=none->b∉fs->b∉ex->h'.get? b=some o
 slot:∀b o,h.get? b=some o->H b=none->b∈fs->b∉ex->∃sl,h'.get? b=some {o with slots:=sl}
 free:∀b o,h.get? b=some o->H b=none->b∉ex->H' b=none
 there:∀b o,h.get? b=some o->b∉ex->∃o',h'.get? b=some o'
 tups:∀b xs,H b=some (.tup xs)->H' b=some (.tup xs)
 iR:∀b o u,H b=some (.nU o u)->H' b=some (.nU o u)
 jy:∀b ps,H b=some (.lQ ps)->∃more,H' b=some (.lQ (ps++more))/\eZ H' more.toList
section
variable {fs fs' ex ex':List Addr}{H H1 H2:Hp}{h h1 h2 h':Heap}{a x e:Addr}{o:HO}
def Un.any(u:Un fs ex H H1 h h1){b:Addr}{ob:Obj}(q:h.get? b=some ob)(n:H b=none)(hx:b∉ex):∃sl,h1.get? b=some {ob with slots:=sl}:=by
 by_cases hb:b∈fs
 .exact u.slot b ob q n hb hx
 .exact⟨ob.slots,u.keep b ob q n hb hx⟩
theorem Un.kept(k:∀b u,h.get? b=some u->h'.get? b=some u):Un fs ex H H h h':=
 ⟨λb ob q _ _ _=>k b ob q,λb ob q _ _ _=>⟨ob.slots,k b ob q⟩,λ_ _ _ n _=>n,λb ob q _=>⟨ob,k b ob q⟩,λ_ _ q=>q,λ_ _ _ q=>q,λ_ ps q=>⟨#[],by rw[q];simp,.nil⟩⟩
theorem Un.refl:Un fs ex H H h h:=Un.kept λ_ _ q=>q
theorem Un.laid(k:∀b u,h.get? b=some u->h'.get? b=some u)(hp:h.objs.size<=a)(hn:H a=none):Un fs ex H (upd H a o) h h' where
 keep:=λb u q _ _ _=>k b u q
 slot:=λb u q _ _ _=>⟨u.slots,k b u q⟩
 free:=λb u q n _=>by rw[bN (cR (fD (bK q) hp))];show n
 there:=λb u q _=>⟨u,k b u q⟩
 tups:=λb xs q=>by rw[bN (wM q hn)];show q
 iR:=λb u xs q=>by rw[bN (wM q hn)];show q
 jy:=λb ps q=>⟨#[],by rw[bN (wM q hn),q];simp,.nil⟩
def Un.write(mu:Ht (H x))(he:e=x\/H e=some (.own x))(k:∀b u,b≠e->h.get? b=some u->h'.get? b=some u)(Ew:∃u,h'.get? e=some u):Un fs ex H (upd H x o) h h':=by
 let hx:∀b,H b=none->b≠x:=λb n z=>by subst z;rw[n]at mu;show mu
 let hb:∀b,H b=none->b≠e:=λb n z=>by
  subst z;rcases he with r|r
  .exact hx b n r
  .rw[n]at r;cases r
 let hm:∀b u,H b=some u->¬Ht (some u)->b≠x:=λb u q nm z=>by subst z;rw[q]at mu;show nm mu
 show⟨λb u q n _ _=>k b u (hb b n) q,λb u q n _ _=>⟨u.slots,k b u (hb b n) q⟩,λb u q n _=>by rw[bN (hx b n)];show n,λb u q _=>?_,
  λb xs q=>by rw[bN (hm b _ q λz=>z)];show q,λb u xs q=>by rw[bN (hm b _ q λz=>z)];show q,λb ps q=>⟨#[],by rw[bN (hm b _ q λz=>z),q];simp,.nil⟩⟩
 by_cases A_:b=e
 .subst A_;show Ew
 .exact⟨u,k b u A_ q⟩
end
def Mr(h:Heap)(H:Hp):List Addr:=(List.range h.objs.size).filter λa=>(H a).isSome
def mK(h:Heap)(H:Hp):Heap:=PySem.W.hideAll h (Mr h H)
theorem zfF(h:Heap)(H:Hp):(mK h H).objs.size=h.objs.size:=PySem.W.hideAll_size _ _
theorem zg2{h:Heap}{H:Hp}{b:Addr}{o:Obj}(e:h.get? b=some o)(n:H b=none):(mK h H).get? b=some o:=
 PySem.W.hideAll_get _ e λhm=>by
  let q:(H b).isSome=true:=(gB.mp hm).2;rw[n]at q;simp at q
def zjr{h:Heap}{H:Hp}{b:Addr}{o:Obj}(e:(mK h H).get? b=some o):h.get? b=some o/\H b=none:=by
 let e':h.get? b=some o:=PySem.W.of_hideAll (Mr h H) e;show⟨e',?_⟩;cases q:H b with
 |none=>rfl|some x=>
  let hm:b∈Mr h H:=gB.mpr ⟨pA.mpr (bK e'),by simp[q]⟩;let z:(mK h H).get? b=none:=PySem.W.hideAll_none (Mr h H) hm;rw[z]at e;cases e
structure Mod(K:W.Frag)(mg:Str->Option Value)(base:Heap):Prop where
 wI:K.In base
 glob:base.Ns mainGlobals mg
 blt:∃mb,base.Ns builtinsNs mb/\∀x:Str,x≠"__name__"->mb x=bootBuiltins x
 nolimit:base.NoLimit
structure Cx where
 prog:Program
 w:World
 K:W.Frag
 mg:Str->Option Value
 base:Heap
 A:Around
 N:List Str
 s₀:Shared
 H₀:Hp
 env:Env
 outer:List Env
 stack:List Env
 ex:List Addr
 fn:Str->Bool
 aj:Bool
 pn:List (Addr×Obj)
 xe:Value->Shared->Prop
def frs(l:List Env):List Addr:=l.filterMap (·.frame)
noncomputable abbrev Cx.fs(X:Cx):List Addr:=frs X.outer
def Ms(sc:Scope)(x:Str):Prop:=sc.names.lookup x=some .local\/sc.names.lookup x=some .cell\/sc.names.lookup x=some .free
def Loc(sc:Scope)(x:Str):Prop:=sc.names.lookup x=some .local\/sc.names.lookup x=some .cell
def Look(env:Env)(h:Heap)(m:Str->Option Value)(x:Str)(u:Value):Prop:=
 (env.kindOf x=some .local/\m x=some u)\/((env.kindOf x=some .cell\/env.kindOf x=some .free)/\∃c,env.cells.lookup x=some c/\h.IsCell c (some u))
structure Cx.Ok(X:Cx):Prop where
 mod:Mod X.K X.mg X.base
 kind:X.env.scope.kind=.function
 glob:X.env.globals=mainGlobals
 blt:X.env.builtins=builtinsNs
 above:X.s₀.heap.objs.size<=X.env.locals
 inj:∀x y c,X.env.cells.lookup x=some c->X.env.cells.lookup y=some c->x=y
 has:∀x,(X.env.kindOf x=some .cell\/X.env.kindOf x=some .free)->∃c,X.env.cells.lookup x=some c
 cab:∀x c,X.fn x=true->X.env.cells.lookup x=some c->X.s₀.heap.objs.size<=c
 hd:X.aj=true->X.A.handled=none
 frames:X.A.frames=some X.stack
 stk:X.stack=X.outer\/(X.stack=X.env::X.outer/\X.env.frame=some X.env.locals)
 WT:∀b∈X.ex,b≠X.env.locals/\∀x c,X.env.cells.lookup x=some c->c≠b
 bs:∀b o,X.base.get? b=some o->X.s₀.heap.get? b=some o/\X.H₀ b=none
 wN:X.base.objs.size<=X.s₀.heap.objs.size
 uc:∀b o,X.base.get? b=some o->b∉X.ex
 wO:∀b∈X.ex,b∉X.fs
 jz:X.s₀.heap.FunFrames X.base X.outer
 zc:(∀b∈X.fs,X.H₀ b=none)/\Ba X.K X.H₀
structure Inv(X:Cx)(ao:List (Addr×Obj))(Z:List (Option V))(H:Hp)(s:Shared):Prop where
 ok:X.Ok
 os:s.os=X.s₀.os
 bare:AllBare s.gens
 base:Un X.fs X.ex X.H₀ H X.s₀.heap s.heap
 loc:∃m,s.heap.Ns X.env.locals m/\∀(i:Nat) (x:Str) (v:V),X.N[i]?=some x->Z[i]?=some (some v)->Ms X.env.scope x->∃u,RelV v u/\Look X.env s.heap m x u
 cell:∀x c,X.env.cells.lookup x=some c->∃v,s.heap.IsCell c v
 free:H X.env.locals=none
 fL:∀x c,X.env.cells.lookup x=some c->H c=none
 pin:∀p∈X.pn++ao,s.heap.get? p.1=some p.2/\H p.1=none/\p.1≠X.env.locals/\p.1∉X.fs/\∀v,p.2.data≠.cell v
 hok:iI X.prog X.w H s.heap
 len:Z.length=X.N.length
section
variable {X:Cx}{ao:List (Addr×Obj)}{Z:List (Option V)}{H H':Hp}{s:Shared}{h':Heap}
theorem Cx.Ok.Qf(ok:X.Ok){b:Addr}{o:Obj}(e:X.base.get? b=some o):b∉X.fs:=λhb=>by
 let:=(ok.jz.mem hb).1;rw[e]at this;cases this
theorem Inv.bs(I:Inv X ao Z H s):∀b o,X.base.get? b=some o->s.heap.get? b=some o/\H b=none:=λb o e=>
 ⟨I.base.keep b o (I.ok.bs b o e).1 (I.ok.bs b o e).2 (I.ok.Qf e) (I.ok.uc b o e),I.base.free b o (I.ok.bs b o e).1 (I.ok.bs b o e).2 (I.ok.uc b o e)⟩
theorem Inv.bk(I:Inv X ao Z H s):∀b o,X.base.get? b=some o->s.heap.get? b=some o:=λb o e=>(I.bs b o e).1
theorem Inv.mod(I:Inv X ao Z H s):Mod X.K X.mg X.base:=I.ok.mod
theorem Inv.lR(I:Inv X ao Z H s):X.K.In s.heap:=I.ok.mod.wI.keeps I.bk
theorem Inv.nolimit(I:Inv X ao Z H s):s.heap.NoLimit:=I.ok.mod.nolimit.keeps I.bk
theorem Inv.lt(I:Inv X ao Z H s):X.env.locals<s.heap.objs.size:=let ⟨_,hn,_⟩:=I.loc;hn.lt
theorem Inv.sz(I:Inv X ao Z H s):X.s₀.heap.objs.size<=s.heap.objs.size:=jO I.ok.above (rK I.lt)
theorem Inv.Bb(I:Inv X ao Z H s):Ba X.K H:=λon c P hc=>by
 let⟨ps,e,g⟩:=I.ok.zc.2 on c P hc;let⟨more,e2,g2⟩:=I.base.jy P ps e;show⟨ps++more,e2,by rw[Array.toList_append];show(g.mono I.base.iR).app g2⟩
theorem Inv.wQ(I:Inv X ao Z H s){a:Addr}(h:s.heap.objs.size<=a):a∉X.fs:=λhb=>by
 let⟨_,o,ho,_⟩:=I.ok.jz.mem hb;show absurd (fD (bK ho) (jO I.sz h)) (pK _)
theorem Inv.Bc(I:Inv X ao Z H s):∀x c,X.env.cells.lookup x=some c->c≠X.env.locals:=λx c e z=>by
 let⟨v,o,ho,hd⟩:=I.cell x c e;let⟨m,⟨o',es,ep,pC,wR,_⟩,_⟩:=I.loc;rw[z,pC]at ho;cases ho;rw[wR]at hd;cases hd
def Inv.jz(I:Inv X ao Z H s):s.heap.FunFrames X.base X.outer:=by
 let all:∀(l:List Env),(∀b∈frs l,b∈X.fs)->X.s₀.heap.FunFrames X.base l->s.heap.FunFrames X.base l:=by
  intro l
  induction l with
  |nil=>intro _ _;trivial|cons env r ih=>
   intro hs hl;let⟨hk,⟨L,o,hf,hn,ho,hd⟩,hr⟩:=hl;let hL:L∈X.fs:=hs L (by unfold frs;rw[vB,hf];show kO);let⟨sl,e⟩:=I.base.slot L o ho (I.ok.zc.1 L hL) hL λz=>I.ok.wO L z hL;show⟨hk,⟨L,_,hf,hn,e,hd⟩,ih (λb hb=>hs b (by unfold frs;rw[vB,hf];show g_ _ hb)) hr⟩
 show all X.outer (λ_ hb=>hb) I.ok.jz
def Inv.stack(I:Inv X ao Z H s):s.heap.FunFrames X.base X.stack:=by
 rcases I.ok.stk with e|⟨e,hf⟩
 .rw[e];show I.jz
 .rw[e];let⟨m,hn,_⟩:=I.loc;show .cons (by rw[I.ok.kind];decide) hf hn ?_ I.jz;show DQ (jO I.ok.wN I.ok.above)
theorem Inv.jR(I:Inv X ao Z H s):∀b∈frs X.stack,b∈X.env.locals::X.fs:=λb hb=>by
 rcases I.ok.stk with e|⟨e,hf⟩
 .rw[e]at hb;show g_ _ hb
 .rw[e]at hb;unfold frs at hb;rw[vB,hf]at hb;show hb
theorem Inv.mL(I:Inv X ao Z H s):∀b∈frs X.stack,H b=none:=λb hb=>by
 rcases iG.mp (I.jR b hb) with e|hb
 .rw[e];show I.free
 .obtain⟨_,o,ho,_⟩:=I.ok.jz.mem hb;show I.base.free b o ho (I.ok.zc.1 b hb) λz=>I.ok.wO b z hb
def Inv.step{g':Array GenState}{t':Nat}{d':Drawn}{ch:List Addr}(I:Inv X ao Z H s)
  (vL:∀b∈ch,(b∈X.ex\/X.s₀.heap.get? b=none)/\b≠X.env.locals/\(∀x c,X.env.cells.lookup x=some c->c≠b)/\∀p∈X.pn++ao,p.1≠b)
  (keep:∀b o,b≠X.env.locals->b∉X.fs->b∉ch->s.heap.get? b=some o->H b=none->h'.get? b=some o)
  (slot:∀b o,b≠X.env.locals->b∈X.fs->b∉ch->s.heap.get? b=some o->H b=none->∃sl,h'.get? b=some {o with slots:=sl}) (free:∀b o,b∉ch->s.heap.get? b=some o->H b=none->H' b=none)
  (there:∀b o,b∉ch->s.heap.get? b=some o->∃o',h'.get? b=some o')
  (tups:∀b xs,H b=some (.tup xs)->H' b=some (.tup xs)) (iR:∀b o u,H b=some (.nU o u)->H' b=some (.nU o u)) (jy:∀b ps,H b=some (.lQ ps)->∃more,H' b=some (.lQ (ps++more))/\eZ H' more.toList)
  (ns:∀m,s.heap.Ns X.env.locals m->h'.Ns X.env.locals m) (hok:iI X.prog X.w H' h') (hg:AllBare g') :
  Inv X ao Z H' {s with heap:=h',gens:=g',drawn:=d',toks:=t'}:=by
 let WW:∀b o,X.s₀.heap.get? b=some o->b≠X.env.locals:=λb o e=>cR (fD (bK e) I.ok.above);let Mu:∀b o,X.s₀.heap.get? b=some o->b∉X.ex->b∉ch:=λb o e hx hb=>by
  rcases(vL b hb).1 with z|z
  .exact hx z
  .rw[e]at z;cases z
 let cellK:∀x c,X.env.cells.lookup x=some c->∀v,s.heap.IsCell c v->h'.IsCell c v:=λx c e v hx=>vK hx λo ho hd=>by
  let Hv:c∉ch:=λz=>(vL c z).2.2.1 x c e rfl;by_cases hc:c∈X.fs
  .obtain⟨sl,q⟩:=slot c o (I.Bc x c e) hc Hv ho (I.fL x c e);show⟨_,q,hd⟩
  .exact⟨o,keep c o (I.Bc x c e) hc Hv ho (I.fL x c e),hd⟩
 show⟨I.ok,I.os,hg,⟨λb o e n hb hx=>?_,λb o e n hb hx=>?_,λb o e n hx=>?_,λb o e hx=>?_,λb xs e=>tups b xs (I.base.tups b xs e),λb o xs e=>iR b o xs (I.base.iR b o xs e),λb ps e=>?_⟩,?_,λx c e=>?_,?_,λx c e=>?_,λp hp=>?_,hok,I.len⟩
 .exact keep b o (WW b o e) hb (Mu b o e hx) (I.base.keep b o e n hb hx) (I.base.free b o e n hx)
 .obtain⟨sl,e1⟩:=I.base.slot b o e n hb hx;let⟨sl',e2⟩:=slot b _ (WW b o e) hb (Mu b o e hx) e1 (I.base.free b o e n hx);show⟨sl',e2⟩
 .obtain⟨o',e1⟩:=I.base.there b o e hx;show free b o' (Mu b o e hx) e1 (I.base.free b o e n hx)
 .obtain⟨o',e1⟩:=I.base.there b o e hx;show there b o' (Mu b o e hx) e1
 .obtain⟨m1,e1,g1⟩:=I.base.jy b ps e;let⟨m2,e2,g2⟩:=jy b _ e1;show⟨m1++m2,by rw[e2,Array.append_assoc],by rw[Array.toList_append];show(g1.mono iR).app g2⟩
 .obtain⟨m,hn,hl⟩:=I.loc;show⟨m,ns m hn,λi x v e1 e2 e3=>?_⟩;let⟨u,r,l⟩:=hl i x v e1 e2 e3;show⟨u,r,?_⟩;rcases l with l|⟨k,c,e,z⟩
  .exact .inl l
  .exact .inr ⟨k,c,e,cellK x c e _ z⟩
 .obtain⟨v,z⟩:=I.cell x c e;show⟨v,cellK x c e v z⟩
 .obtain⟨m,⟨o,_,_,ho,_⟩,_⟩:=I.loc;show free _ o (λz=>(vL _ z).2.1 rfl) ho I.free
 .obtain⟨v,o,ho,hd⟩:=I.cell x c e;show free c o (λz=>(vL c z).2.2.1 x c e rfl) ho (I.fL x c e)
 .obtain⟨e,n,ne,nf,d⟩:=I.pin p hp;let Hv:p.1∉ch:=λz=>(vL p.1 z).2.2.2 p hp rfl;show⟨keep p.1 p.2 ne nf Hv e n,free p.1 p.2 Hv e n,ne,nf,d⟩
def Inv.un{t':Nat}(I:Inv X ao Z H s)(u:Un X.fs [] H H' s.heap h')(hok:iI X.prog X.w H' h'):Inv X ao Z H' {s with heap:=h',toks:=t'}:=by
 let⟨m,⟨o,es,ep,ho,r⟩,_⟩:=id I.loc;let⟨sl,hL⟩:=u.any ho I.free RQ;show I.step (g':=s.gens) (d':=s.drawn) (ch:=[]) (λ_ z=>nomatch z) (λb o _ hb _ e n=>u.keep b o e n hb RQ) (λb o _ hb _ e n=>u.slot b o e n hb RQ) (λb o _ e n=>u.free b o e n RQ) (λb o _ e=>u.there b o e RQ) u.tups u.iR u.jy (λm' hm=>by
  let⟨o',es',ep',pC,r'⟩:=hm;rw[ho]at pC;cases pC;show⟨_,es',ep',hL,r'⟩) hok I.bare
def Inv.call{g':Array GenState}{t':Nat}{d':Drawn}{ch:List Addr}(I:Inv X ao Z H s)(u:Un (frs X.stack) ch H H' s.heap h')(hok:iI X.prog X.w H' h')(hg:AllBare g')
  (vL:∀b∈ch,(b∈X.ex\/X.s₀.heap.get? b=none)/\b≠X.env.locals/\(∀x c,X.env.cells.lookup x=some c->c≠b)/\∀p∈X.pn++ao,p.1≠b) :
  Inv X ao Z H' {s with heap:=h',gens:=g',drawn:=d',toks:=t'}:=by
 let⟨m,⟨o,es,ep,ho,r⟩,_⟩:=id I.loc;let⟨sl,hL⟩:=u.any ho I.free λz=>(vL _ z).2.1 rfl;show I.step (ch:=ch) vL (λb o hL hb hc e n=>u.keep b o e n (λz=>(iG.mp (I.jR b z)).elim hL hb) hc) (λb o _ _ hc e n=>u.any e n hc) (λb o hc e n=>u.free b o e n hc) (λb o hc e=>u.there b o e hc) u.tups u.iR u.jy (λm' hm=>by
  let⟨o',es',ep',pC,r'⟩:=hm;rw[ho]at pC;cases pC;show⟨_,es',ep',hL,r'⟩) hok hg
def Inv.turned{t':Nat}{it:Addr}(I:Inv X ao Z H s)(k:∀b o,b≠it->s.heap.get? b=some o->h'.get? b=some o)(hn:H it=none)(hL:it≠X.env.locals)
  (h1:it∈X.ex\/X.s₀.heap.objs.size<=it) (h2:∀x c,X.env.cells.lookup x=some c->c≠it) (h3:∀p∈X.pn++ao,p.1≠it):Inv X ao Z H {s with heap:=h',toks:=t'}:=by
 let zj:∀b u,H b=some u->b≠it:=λb u e z=>by rw[z,hn]at e;cases e
 show I.step (g':=s.gens) (d':=s.drawn) (ch:=[it]) (λb hb=>?_) (λb o _ _ hc e _=>k b o (λz=>hc (by simp[z])) e) (λb o _ _ hc e _=>⟨o.slots,k b o (λz=>hc (by simp[z])) e⟩) (λ_ _ _ _ n=>n)
  (λb o hc e=>⟨o,k b o (λz=>hc (by simp[z])) e⟩) (λ_ _ e=>e) (λ_ _ _ e=>e) (λb ps e=>⟨#[],by rw[e];simp,.nil⟩) (λm hm=>?_) (λb u e=>?_) I.bare
 .let e:b=it:=by simpa using hb
  subst e;show⟨h1.imp id λz=>DQ z,hL,h2,h3⟩
 .obtain⟨o,es,ep,ho,r⟩:=hm;show⟨o,es,ep,k _ o (Ne.symm hL) ho,r⟩
 .refine(I.hok b u e).stay (λc v hc q=>k c v ?_ q) (λ_ q=>q) λ_ _ q=>q;rcases hc with z|z
  .rw[z];show zj b u e
  .exact zj c _ z
theorem Inv.tok(I:Inv X ao Z H s)(t:Nat):Inv X ao Z H {s with toks:=t}:=I.un (h':=s.heap) (t':=t) Un.refl I.hok
theorem Inv.kept{t':Nat}(I:Inv X ao Z H s)(k:∀b u,s.heap.get? b=some u->h'.get? b=some u):Inv X ao Z H {s with heap:=h',toks:=t'}:=I.un (Un.kept k) (I.hok.kept k)
theorem Inv.laid{a:Addr}{o:HO}{t':Nat}(I:Inv X ao Z H s)(k:∀b u,s.heap.get? b=some u->h'.get? b=some u)(hp:s.heap.objs.size<=a)(new:bC X.prog X.w (upd H a o) h' a o) :
  Inv X ao Z (upd H a o) {s with heap:=h',toks:=t'}:=I.un (Un.laid k hp (I.hok.fresh hp)) (I.hok.laid k hp new)
theorem Inv.write{x e:Addr}{o:HO}{t':Nat}(I:Inv X ao Z H s)(mu:Ht (H x))(he:e=x\/H e=some (.own x))(k:∀b u,b≠e->s.heap.get? b=some u->h'.get? b=some u)(Ew:∃u,h'.get? e=some u)
  (new:bC X.prog X.w (upd H x o) h' x o):Inv X ao Z (upd H x o) {s with heap:=h',toks:=t'}:=I.un (Un.write mu he k Ew) (I.hok.write mu he k Ew new)
theorem Inv.jG{jf:List (Addr×Obj)}(I:Inv X ao Z H s)(h:∀p∈jf,s.heap.get? p.1=some p.2/\H p.1=none/\p.1≠X.env.locals/\p.1∉X.fs/\∀v,p.2.data≠.cell v):Inv X jf Z H s:=
 ⟨I.ok,I.os,I.bare,I.base,I.loc,I.cell,I.free,I.fL,λp hp=>(jN.mp hp).elim (λz=>I.pin p (Ac _ z)) (h p),I.hok,I.len⟩
def WX{N:List Str}(hN:N.Nodup){i j:Nat}{x:Str}(a:N[i]?=some x)(b:N[j]?=some x):i=j:=by
 let⟨h1,e1⟩:=dI.mp a;let⟨h2,e2⟩:=dI.mp b;show(List.getElem_inj hN).mp (e1.trans e2.symm)
def Qg{M:Model}{A:Around}{E:Value->Shared->Prop}{i:Nat}{x:Str}{v:V}{u:Value}{Q:Unit->Shared->Prop}(I:Inv X ao Z H s)(hN:X.N.Nodup)(hi:X.N[i]?=some x)(hx:Loc X.env.scope x)(r:RelV v u)
  (h:∀s',Inv X ao (Z.set i (some v)) H s'->(∃a,Heap.SameBut a s.heap s'.heap/\(a=X.env.locals\/X.env.cells.lookup x=some a))->Q () s') (hf:X.fn x=true\/X.env.scope.names.lookup x=some .local:=by first|exact .inl rfl|exact .inr rfl|assumption):wpAny M A (storeName X.env x u) Q E s:=by
 let⟨m,hn,hl⟩:=id I.loc;let Qh:(X.env.scope.kind==.class||(X.env.scope.kind==.module&&X.env.locals != X.env.globals))=false:=by rw[I.ok.kind];rfl
 let WY:i<Z.length:=by rw[I.len];show(dI.mp hi).1
 let Bc:=I.Bc;let tracked:∀{a:Addr} {h':Heap},(∃o,s.heap.get? a=some o/\H a=none)->Heap.SameBut a s.heap h'->iI X.prog X.w H h':=λ{a h'} ha hs b ob e=>by
  let⟨_,_,qL⟩:=ha;show(I.hok b ob e).stay (λc w' hc q=>(hs.2 c ?_).trans q) (λ_ q=>q) λ_ _ q=>q;rintro rfl;rcases hc with rfl|hc
  .rw[qL]at e;cases e
  .rw[qL]at hc;cases hc
 rcases hx with hk|hk
 .refine wpAny_storeName_local hk hn (λh' Mv hs=>?_) Qh;let⟨oL,_,_,Bf,_⟩:=id hn;show h _ ⟨I.ok,I.os,I.bare,⟨λb o e n hb hx=>?_,λb o e n hb hx=>?_,I.base.free,λb o e hx=>?_,I.base.tups,I.base.iR,I.base.jy⟩,⟨_,Mv,λj y v' e1 e2 e3=>?_⟩,λy c e=>?_,I.free,I.fL,λp hp=>?_,tracked ⟨oL,Bf,I.free⟩ hs,by simpa using I.len⟩ ⟨_,hs,.inl rfl⟩
  .exact(hs.2 b (cR (fD (bK e) I.ok.above))).trans (I.base.keep b o e n hb hx)
  .obtain⟨sl,e1⟩:=I.base.slot b o e n hb hx;show⟨sl,(hs.2 b (cR (fD (bK e) I.ok.above))).trans e1⟩
  .obtain⟨o',e1⟩:=I.base.there b o e hx;show⟨o',(hs.2 b (cR (fD (bK e) I.ok.above))).trans e1⟩
  .by_cases hj:j=i
   .subst hj;rw[hi]at e1;cases e1;rw[yJ WY]at e2;cases e2;show⟨u,r,.inl ⟨hk,by simp⟩⟩
   .rw[qF (Ne.symm hj)]at e2;let⟨u',r',q⟩:=hl j y v' e1 e2 e3;show⟨u',r',?_⟩;rcases q with ⟨k,e⟩|⟨k,c,e,z⟩
    .refine .inl ⟨k,?_⟩;let:y≠x:=λe=>hj (WX hN e1 (e▸hi));simp[this,e]
    .exact .inr ⟨k,c,e,z.sameBut hs (Bc y c e)⟩
  .obtain⟨w',z⟩:=I.cell y c e;show⟨w',z.sameBut hs (Bc y c e)⟩
  .obtain⟨e,n,ne,nf,d⟩:=I.pin p hp;show⟨(hs.2 p.1 ne).trans e,n,ne,nf,d⟩
 .let Qi:X.fn x=true:=by
   rcases hf with z|z
   .exact z
   .rw[z]at hk;cases hk
  let⟨c,hc⟩:=I.ok.has x (.inl hk);let⟨w',z⟩:=I.cell x c hc;show wpAny_storeName_cell I.ok.kind hk hc z (λh' lD hs=>?_);let⟨oc,Hw,Qj⟩:=id z;show h {s with heap:=h'} ⟨I.ok,I.os,I.bare,⟨λb o e n hb hx=>?_,λb o e n hb hx=>?_,I.base.free,λb o e hx=>?_,I.base.tups,I.base.iR,I.base.jy⟩,⟨m,hn.sameBut hs (Ne.symm (Bc x c hc)),λj y v' e1 e2 e3=>?_⟩,λy c' e=>?_,I.free,I.fL,λp hp=>?_,tracked ⟨oc,Hw,I.fL x c hc⟩ hs,by simpa using I.len⟩ ⟨c,hs,.inr hc⟩
  .exact(hs.2 b (cR (fD (bK e) (I.ok.cab x c Qi hc)))).trans (I.base.keep b o e n hb hx)
  .obtain⟨sl,e1⟩:=I.base.slot b o e n hb hx;show⟨sl,(hs.2 b (cR (fD (bK e) (I.ok.cab x c Qi hc)))).trans e1⟩
  .obtain⟨o',e1⟩:=I.base.there b o e hx;show⟨o',(hs.2 b (cR (fD (bK e) (I.ok.cab x c Qi hc)))).trans e1⟩
  .by_cases hj:j=i
   .subst hj;rw[hi]at e1;cases e1;rw[yJ WY]at e2;cases e2;show⟨u,r,.inr ⟨.inl hk,c,hc,lD⟩⟩
   .rw[qF (Ne.symm hj)]at e2;let⟨u',r',q⟩:=hl j y v' e1 e2 e3;show⟨u',r',?_⟩;rcases q with q|⟨k,c',e,z'⟩
    .exact .inl q
    .refine .inr ⟨k,c',e,z'.sameBut hs ?_⟩;rintro rfl;show hj (WX hN e1 (I.ok.inj _ _ _ e hc▸hi))
  .by_cases W0:c'=c
   .subst W0;show⟨_,lD⟩
   .obtain⟨w2,z2⟩:=I.cell y c' e;show⟨w2,z2.sameBut hs W0⟩
  .obtain⟨e,n,ne,nf,d⟩:=I.pin p hp;show⟨(hs.2 p.1 ?_).trans e,n,ne,nf,d⟩;intro q;rw[q,Hw]at e;let q':oc=p.2:=cU e;show d w' (by rw[<-q'];show Qj)
theorem Hx{M:Model}{A:Around}{E:Value->Shared->Prop}{i:Nat}{x:Str}{v:V}{u:Value}{Q:Unit->Shared->Prop}(I:Inv X ao Z H s)(hN:X.N.Nodup)(hi:X.N[i]?=some x)(hx:Loc X.env.scope x)(r:RelV v u)
  (h:∀s',Inv X ao (Z.set i (some v)) H s'->Q () s') (hf:X.fn x=true\/X.env.scope.names.lookup x=some .local:=by first|exact .inl rfl|exact .inr rfl|assumption):wpAny M A (storeName X.env x u) Q E s:=
 Qg I hN hi hx r (λs' I' _=>h s' I') hf
def Inv.call'{s':Shared}{ch:List Addr}(I:Inv X ao Z H s)(ho:s'.os=s.os)(u:Un (frs X.stack) ch H H' s.heap s'.heap)(hok:iI X.prog X.w H' s'.heap)(hg:AllBare s'.gens)
  (vL:∀b∈ch,(b∈X.ex\/X.s₀.heap.get? b=none)/\b≠X.env.locals/\(∀x c,X.env.cells.lookup x=some c->c≠b)/\∀p∈X.pn++ao,p.1≠b):Inv X ao Z H' s':=by
 let⟨h',g',d',t',o'⟩:=s';let e:o'=s.os:=ho;subst e;show I.call (g':=g') (t':=t') (d':=d') u hok hg vL
end
noncomputable abbrev XK:=Value->Option Addr->Hp->Prop
noncomputable abbrev St:=List (Option V)
noncomputable abbrev VK:=V->Hp->Prop
noncomputable abbrev TE:=St->Hp->VK->Prop
noncomputable abbrev TT:=St->Hp->(Bool->Hp->Prop)->Prop
noncomputable abbrev TA:=St->Hp->(List V->Hp->Prop)->Prop
structure Ends where
 nx:St->Hp->Prop
 rt:VK
 bk:St->Hp->Prop:=λ_ _=>False
 ct:St->Hp->Prop:=λ_ _=>False
noncomputable abbrev TS:=Ends->St->Hp->Prop
def EP(X:Cx)(ao:List (Addr×Obj))(Z:St)(Q:VK)(u:Value)(s':Shared):Prop:=∃v H',Inv X ao Z H' s'/\RelV v u/\Q v H'
def TP(X:Cx)(ao:List (Addr×Obj))(Z:St)(Q:Bool->Hp->Prop)(b:Bool)(s':Shared):Prop:=∃H',Inv X ao Z H' s'/\Q b H'
def AP(X:Cx)(ao:List (Addr×Obj))(Z:St)(Q:List V->Hp->Prop)(us:List Value)(s':Shared):Prop:=∃vs H',Inv X ao Z H' s'/\Vals vs us/\Q vs H'
def SP(X:Cx)(ao:List (Addr×Obj))(D:Ends)(f:Flow)(s':Shared):Prop:=
 match f with
 |.next=>∃Z' H',Inv X ao Z' H' s'/\D.nx Z' H'|.brk=>∃Z' H',Inv X ao Z' H' s'/\D.bk Z' H'|.cont=>∃Z' H',Inv X ao Z' H' s'/\D.ct Z' H'|.ret u=>∃v Z' H',Inv X ao Z' H' s'/\RelV v u/\D.rt v H'
def PE(X:Cx)(e:Expr)(t:TE):Prop:=
 ∀(ao:List (Addr×Obj)) (s:Shared) (Z:St) (H:Hp) (Q:VK),Inv X ao Z H s->t Z H Q->wpAny (model X.prog X.w) X.A (eval e X.env) (EP X ao Z Q) X.xe s
def PT(X:Cx)(e:Expr)(t:TT):Prop:=
 ∀(ao:List (Addr×Obj)) (s:Shared) (Z:St) (H:Hp) (Q:Bool->Hp->Prop),Inv X ao Z H s->t Z H Q->wpAny (model X.prog X.w) X.A (isTrue e X.env (eval e X.env)) (TP X ao Z Q) X.xe s
def PW(X:Cx)(e:Expr)(t:TT):Prop:=
 ∀(whole:Sem Value) (ao:List (Addr×Obj)) (s:Shared) (Z:St) (H:Hp) (Q:Bool->Hp->Prop),Inv X ao Z H s->t Z H Q->wpAny (model X.prog X.w) X.A (isTrue e X.env whole) (TP X ao Z Q) X.xe s
theorem Kac{X:Cx}{e:Expr}{t:TT}(h:PW X e t):PT X e t:=h _
def PA(X:Cx)(es:List Expr)(t:TA):Prop:=
 ∀(pos:Pos) (ao:List (Addr×Obj)) (s:Shared) (Z:St) (H:Hp) (Q:List V->Hp->Prop),Inv X ao Z H s->t Z H Q->wpAny (model X.prog X.w) X.A (spliced (backTo pos (starEach es X.env))) (AP X ao Z Q) X.xe s
def PS(X:Cx)(st:Stmt)(t:TS):Prop:=
 ∀(ao:List (Addr×Obj)) (s:Shared) (Z:St) (H:Hp) (D:Ends),Inv X ao Z H s->t D Z H->wpAny (model X.prog X.w) X.A (exec st X.env) (SP X ao D) X.xe s
def pN(X:Cx)(st:List Stmt)(t:TS):Prop:=
 ∀(ao:List (Addr×Obj)) (s:Shared) (Z:St) (H:Hp) (D:Ends),Inv X ao Z H s->t D Z H->wpAny (model X.prog X.w) X.A (execs st X.env) (SP X ao D) X.xe s
theorem aO{α:Type}{t:Sem α}{Q Q':α->Shared->Prop}{M:Model}{A:Around}{E:Value->Shared->Prop}{s:Shared}(h:wpAny M A t Q E s)(hQ:∀a s,Q a s->Q' a s):wpAny M A t Q' E s:=fK h hQ λ_ _ x=>x
section
variable {X:Cx}
def Qk(i:Nat):TE:=λZ H Q=>∃v,Z[i]?=some (some v)/\Q v H
def tC(v:V):TE:=λ_ H Q=>Q v H
def W2{i:Nat}{x:Str}{pos:Pos}(hN:X.N[i]?=some x)(hv:Ms X.env.scope x)(hd:(x==("__debug__" : Str))=false:=by decide)(iu:(x==("__classdict__" : Str))=false:=by decide):PE X (.Name x pos) (Qk i):=by
 intro ao s Z H Q I h;let⟨v,e,h⟩:=h;let⟨m,hn,hl⟩:=I.loc;let⟨u,r,l⟩:=hl i x v hN e hv;let fin:EP X ao Z Q u s:=⟨v,H,I,r,h⟩;rcases l with ⟨hk,hm⟩|⟨hk,c,hc,qM⟩
 .exact wpAny_Name (wpAny_loadName_local I.ok.kind hk hn hm fin) hd
 .rcases hk with hk|hk
  .exact wpAny_Name (wpAny_loadName_cell I.ok.kind hk hc qM fin) hd
  .exact wpAny_Name (wpAny_loadName_free I.ok.kind hk hc qM fin iu) hd
theorem W3{i j pos}:PE X (.Constant (.int i) j pos) (tC (.int i)):=λ_ _ _ H _ I h=>wpAny_Constant_int ⟨.int i,H,I.tok _,⟨_,rfl⟩,h⟩
theorem zof{b j pos}:PE X (.Constant (.bool b) j pos) (tC (.bl b)):=λ_ _ _ H _ I h=>Constant_bool ⟨.bl b,H,I,rfl,h⟩
theorem zl3{j pos}:PE X (.Constant .none j pos) (tC .non):=λ_ _ _ H _ I h=>Constant_none ⟨.non,H,I,rfl,h⟩
def Gl(X:Cx)(x:Str):Prop:=X.env.kindOf x=some .globalImplicit
theorem Ql{E:Value->Shared->Prop}{ao:List (Addr×Obj)}{s:Shared}{Z:St}{H:Hp}{x:Str}{u:Value}{pos:Pos}{Q:Value->Shared->Prop}(I:Inv X ao Z H s)(hg:Gl X x)(hm:X.mg x=some u)(h:Q u s)
  (hd:(x==("__debug__" : Str))=false:=by decide):wpAny (model X.prog X.w) X.A (eval (.Name x pos) X.env) Q E s:=
 Calls.Name_function_global I.ok.kind hg (Calls.loadGlobal_global (by rw[I.ok.glob];show I.mod.glob.keeps I.bk) hm h) hd
def vM{E:Value->Shared->Prop}{ao:List (Addr×Obj)}{s:Shared}{Z:St}{H:Hp}{x:Str}{u:Value}{pos:Pos}{Q:Value->Shared->Prop}(I:Inv X ao Z H s)(hg:Gl X x)(hm:X.mg x=none)(hv:bootBuiltins x=some u)(h:Q u s)
  (hn:x≠"__name__":=by decide) (hd:(x==("__debug__" : Str))=false:=by decide):wpAny (model X.prog X.w) X.A (eval (.Name x pos) X.env) Q E s:=by
 let⟨mb,h1,h2⟩:=I.mod.blt;show Calls.Name_function_global I.ok.kind hg (Calls.loadGlobal_builtin (by rw[I.ok.glob];show I.mod.glob.keeps I.bk) hm (by rw[I.ok.blt];show h1.keeps I.bk) ((h2 x hn).trans hv) h) hd
theorem zjS{x:Str}{v:V}{u:Value}{pos:Pos}(hg:Gl X x)(hm:X.mg x=some u)(r:RelV v u)(hd:(x==("__debug__" : Str))=false:=by decide):PE X (.Name x pos) (tC v):=
 λ_ _ _ H _ I h=>Ql I hg hm ⟨v,H,I,r,h⟩ hd
variable {a b:Expr}{ta tb:TE}{pos:Pos}
def PC(X:Cx)(op:CmpOp)(a b:Expr)(t:TE):Prop:=
 ∀(ao:List (Addr×Obj)) (s:Shared) (Z:St) (H:Hp) (Q:VK),Inv X ao Z H s->t Z H Q->
  wpAny (model X.prog X.w) X.A (eval a X.env) (λv s₁=>wpAny (model X.prog X.w) X.A (eval b X.env) (λu s₂=>wpAny (model X.prog X.w) X.A (compareOp op v u) (EP X ao Z Q) X.xe s₂) X.xe s₁) X.xe s
def nW(b:Expr){op:CmpOp}(h:op≠.In)(h2:op≠.NotIn):behindInMarks op b=false:=by
 let e1:(op==CmpOp.In)=false:=by cases op<;>first|rfl|exact absurd rfl h
 let e2:(op==CmpOp.NotIn)=false:=by cases op<;>first|rfl|exact absurd rfl h2
 cases b<;>simp[behindInMarks,e1,e2]
def Qm(ta:TE):TE:=λZ H Q=>ta Z H λx H1=>Q (.bl (decide (x=.non))) H1
def Hy(ta:TE):TE:=λZ H Q=>ta Z H λx H1=>Q (.bl (!decide (x=.non))) H1
def RelV.nY{x:V}{v:Value}(r:RelV x v):(v==Value.none)=decide (x=.non):=by
 cases x with
 |non=>cases r;rfl|bl _=>cases r;rfl|int _=>let⟨t,rfl⟩:=r;rfl|str _=>let⟨t,rfl⟩:=r;rfl|Az _=>let⟨t,rfl⟩:=r;rfl|flt _=>let⟨t,rfl⟩:=r;rfl|ref _=>cases r;rfl|ty _=>cases r;rfl
def W4{j pos'}(ha:PE X a ta):PC X .Is a (.Constant .none j pos') (Qm ta):=by
 intro ao s Z H Q I h;show aO (ha ao s Z H _ I h) λv s1 hx=>eF hx λx H1 I1 r1 q1=>?_;show Constant_none (is_none_gen ⟨.bl _,H1,I1,by rw[r1.nY];rfl,q1⟩)
def W5{j pos'}(ha:PE X a ta):PC X .IsNot a (.Constant .none j pos') (Hy ta):=by
 intro ao s Z H Q I h;show aO (ha ao s Z H _ I h) λv s1 hx=>eF hx λx H1 I1 r1 q1=>?_;show Constant_none (isnot_none_gen ⟨.bl _,H1,I1,by rw[r1.nY];rfl,q1⟩)
def tB(t:TE):TT:=λZ H Q=>t Z H λx H1=>∃c,x=.bl c/\Q c H1
theorem W6{op:CmpOp}{t:TE}(h:PC X op a b t)(h1:behindInMarks op b=false:=by first|exact nW _ J0 J0|rfl):PE X (.Compare a [op] [b] pos) t:=λao s Z H Q I hw=>wpAny_Compare1 (h ao s Z H Q I hw) h1
def Qn{op:CmpOp}{t:TE}(h:PC X op a b t)(h1:behindInMarks op b=false:=by first|exact nW _ J0 J0|rfl):PT X (.Compare a [op] [b] pos) (tB t):=by
 intro ao s Z H Q I hw;show wpAny_isTrue_Compare1 (aO (h ao s Z H _ I hw) λv s1 h1=>aO h1 λu s2 h2=>aO h2 λc s3 hx=>eF hx λx H1 I1 r1 q1=>?_) h1;let⟨d,rfl,q⟩:=q1;cases r1;show vC ⟨H1,I1,q⟩
def zma{e:Expr}{t:TE}(h:PE X e t)(he:∀whole,isTrue e X.env whole=(do let v <-whole;standAt e.pos;holding [v] (truthy v)):=by intro _;rfl):PT X e (tB t):=by
 intro ao s Z H Q I hw;show isTrue_plain (aO (h ao s Z H _ I hw) λv s1 hx=>eF hx λx H1 I1 r1 q1=>?_) (he _);let⟨d,rfl,q⟩:=q1;cases r1;show vC ⟨H1,I1,q⟩
variable {tA Mw:TT}{rest:List Expr}
def Qo(t u:TT):TT:=λZ H Q=>t Z H λc H1=>if c=true then u Z H1 Q else Q false H1
def tOr(t u:TT):TT:=λZ H Q=>t Z H λc H1=>if c=true then Q true H1 else u Z H1 Q
def Qp(t:TT):TT:=λZ H Q=>t Z H λc H1=>Q (!c) H1
def ziO(ha:PT X a tA):PW X (.BoolOp .And [a] pos) tA:=by
 intro wh ao s Z H Q I h;show isTrue_and (aO (ha ao s Z H Q I h) λc s1 e=>?_);cases c with
 |true=>show isTrue_and_nil e|false=>show e
def zmm(ha:PT X a tA):PW X (.BoolOp .Or [a] pos) tA:=by
 intro wh ao s Z H Q I h;show isTrue_or (aO (ha ao s Z H Q I h) λc s1 e=>?_);cases c with
 |false=>show isTrue_or_nil e|true=>show e
def zmi(ha:PT X a tA)(hb:PW X (.BoolOp .And (b::rest) pos) Mw):PW X (.BoolOp .And (a::b::rest) pos) (Qo tA Mw):=by
 intro wh ao s Z H Q I h;show isTrue_and (aO (ha ao s Z H _ I h) λc s1 hx=>vK hx λH1 I1 q1=>?_);cases c with
 |true=>show hb wh ao s1 Z H1 Q I1 q1|false=>show⟨H1,I1,q1⟩
def zoP(ha:PT X a tA)(hb:PW X (.BoolOp .Or (b::rest) pos) Mw):PW X (.BoolOp .Or (a::b::rest) pos) (tOr tA Mw):=by
 intro wh ao s Z H Q I h;show isTrue_or (aO (ha ao s Z H _ I h) λc s1 hx=>vK hx λH1 I1 q1=>?_);cases c with
 |true=>show⟨H1,I1,q1⟩|false=>show hb wh ao s1 Z H1 Q I1 q1
def zkN(ha:PT X a tA):PT X (.UnaryOp .Not a pos) (Qp tA):=by
 intro ao s Z H Q I h;show isTrue_not (ha ao s Z H (λc H1=>Q (!c) H1) I h)
def Hz(ta tb:TE):TE:=λZ H Q=>ta Z H λx H1=>∃c,x=.bl c/\if c=true then tb Z H1 Q else Q (.bl false) H1
def Qq(ta tb:TE):TE:=λZ H Q=>ta Z H λx H1=>∃c,x=.bl c/\if c=true then Q (.bl true) H1 else tb Z H1 Q
def HB(ta:TE):TE:=λZ H Q=>ta Z H λx H1=>∃c,x=.bl c/\Q (.bl (!c)) H1
theorem zll{op}{t:TE}(h:PE X a t):PE X (.BoolOp op [a] pos) t:=λao s Z H Q I hw=>BoolOp_one (h ao s Z H Q I hw)
def zmd(ha:PE X a ta)(hb:PE X (.BoolOp .And (b::rest) pos) tb):PE X (.BoolOp .And (a::b::rest) pos) (Hz ta tb):=by
 intro ao s Z H Q I h;show BoolOp_and (aO (ha ao s Z H _ I h) λv s1 hx=>eF hx λx H1 I1 r1 q1=>?_);let⟨c,rfl,q1⟩:=q1;cases r1;show vC ?_;cases c with
 |true=>show hb ao s1 Z H1 Q I1 q1|false=>show⟨.bl false,H1,I1,rfl,q1⟩
def znu(ha:PE X a ta)(hb:PE X (.BoolOp .Or (b::rest) pos) tb):PE X (.BoolOp .Or (a::b::rest) pos) (Qq ta tb):=by
 intro ao s Z H Q I h;show BoolOp_or (aO (ha ao s Z H _ I h) λv s1 hx=>eF hx λx H1 I1 r1 q1=>?_);let⟨c,rfl,q1⟩:=q1;cases r1;show vC ?_;cases c with
 |false=>show hb ao s1 Z H1 Q I1 q1|true=>show⟨.bl true,H1,I1,rfl,q1⟩
def zlq(ha:PE X a ta):PE X (.UnaryOp .Not a pos) (HB ta):=by
 intro ao s Z H Q I h;show UnaryOp_ (aO (ha ao s Z H _ I h) λv s1 hx=>eF hx λx H1 I1 r1 q1=>?_);let⟨c,rfl,q1⟩:=q1;cases r1;show not_of (vC ⟨.bl (!c),H1,I1,rfl,q1⟩)
def tIf(t:TT)(ta tb:TE):TE:=λZ H Q=>t Z H λc H1=>if c=true then ta Z H1 Q else tb Z H1 Q
def zhc{c:Expr}(hc:PT X c tA)(ha:PE X a ta)(hb:PE X b tb):PE X (.IfExp c a b pos) (tIf tA ta tb):=by
 intro ao s Z H Q I h;show wpAny_IfExp (aO (hc ao s Z H _ I h) λd s1 hx=>vK hx λH1 I1 q1=>?_);cases d with
 |true=>show ha ao s1 Z H1 Q I1 q1|false=>show hb ao s1 Z H1 Q I1 q1
end
def cP(K:W.Frag)(H:Hp)(a:Addr)(xs:List V):Prop:=
 Rd H a (.lst xs) \/
  ∃(o:Obj) (its:Array Value) (n:Nat),K.lookup a=some o/\o.cls=.type "list"/\o.dict=none/\o.data=.seq its n/\its.size<=sizeLine/\Vals xs its.toList
def gD(K:W.Frag)(H:Hp)(a:Addr)(xs:List V):Prop:=
 Rd H a (.tup xs) \/
  ∃(o:Obj) (its:Array Value) (n:Nat),K.lookup a=some o/\o.cls=.type "tuple"/\o.data=.seq its n/\its.size<=sizeLine/\Vals xs its.toList
def Qs:Value->Option V
 |.none=>some .non|.bool b=>some (.bl b)|.int i _=>some (.int i)|.str x _=>some (.str x)|.bytes b _=>some (.Az b)|.float b _=>some (.flt b)|.ref a=>some (.ref a)|.type n=>some (.ty n)|_=>none
def RelV.abs{x:V}{u:Value}(r:RelV x u):Qs u=some x:=by
 cases x with
 |non=>cases r;rfl|bl _=>cases r;rfl|int _=>let⟨t,rfl⟩:=r;rfl|str _=>let⟨t,rfl⟩:=r;rfl|Az _=>let⟨t,rfl⟩:=r;rfl|flt _=>let⟨t,rfl⟩:=r;rfl|ref _=>cases r;rfl|ty _=>cases r;rfl
theorem RelV.inj{x y:V}{u:Value}(r:RelV x u)(q:RelV y u):x=y:=cU (r.abs.symm.trans q.abs)
def Vals.inj{xs ys:List V}{us:List Value}(h:Vals xs us)(h':Vals ys us):xs=ys:=by
 induction h generalizing ys with
 |nil=>cases h';rfl|cons r _ ih=>
  cases h' with
  |cons r' t'=>rw[r.inj r',ih t']
section
variable {X:Cx}{ao:List (Addr×Obj)}{Z:St}{H:Hp}{s:Shared}{a:Addr}{xs ys:List V}
theorem cP.of{K:W.Frag}(h:H a=some (.lst xs)):cP K H a xs:=.inl (.inl h)
def Inv.list(I:Inv X ao Z H s)(h:cP X.K H a xs):∃its:List Value,Vals xs its/\PlainL s.heap a its.toArray/\xs.length<=sizeLine:=by
 rcases h with h|⟨o,its,n,hk,hc,hd,hs,hz,r⟩
 .obtain⟨z,its,n,r,e⟩:=h.ok I.hok;show⟨its,r,⟨_,n,e,rfl,rfl,rfl⟩,z⟩
 .refine⟨its.toList,r,⟨o,n,I.lR a o hk,hc,hd,by simpa using hs⟩,?_⟩;let e:=r.length;simp only[pH]at e
  lia
def Inv.tuple(I:Inv X ao Z H s)(h:gD X.K H a xs):∃its:List Value,Vals xs its/\IsTup s.heap a its.toArray/\xs.length<=sizeLine:=by
 rcases h with h|⟨o,its,n,hk,hc,hs,hz,r⟩
 .obtain⟨z,its,r,p⟩:=h.ok I.hok;show⟨its,r,p,z⟩
 .refine⟨its.toList,r,⟨o,I.lR a o hk,hc,n,by simpa using hs⟩,?_⟩;let e:=r.length;simp only[pH]at e
  lia
def Inv.nZ(I:Inv X ao Z H s)(h:cP X.K H a xs)(h':cP X.K H a ys):xs=ys:=by
 let⟨its,r,⟨o,n,e,_,_,d⟩,_⟩:=I.list h;let⟨its',r',⟨o',n',e',_,_,d'⟩,_⟩:=I.list h';rw[e]at e';cases e';rw[d]at d';injection d' with d1 _;let:its=its':=by simpa using lB Array.toList d1
 subst this;show r.inj r'
def Inv.lU(I:Inv X ao Z H s)(h:gD X.K H a xs)(h':gD X.K H a ys):xs=ys:=by
 let⟨its,r,⟨o,e,_,n,d⟩,_⟩:=I.tuple h;let⟨its',r',⟨o',e',_,n',d'⟩,_⟩:=I.tuple h';rw[e]at e';cases e';rw[d]at d';injection d' with d1 _;let:its=its':=by simpa using lB Array.toList d1
 subst this;show r.inj r'
end
section
variable {X:Cx}{st:Stmt}{rest:List Stmt}{t u:TS}{e:Expr}{te:TE}{pos:Pos}
def HD:TS:=λD Z H=>D.nx Z H
def Qt(t u:TS):TS:=λD Z H=>t {D with nx:=u D} Z H
theorem W7:pN X [] HD:=λ_ _ Z H _ I h=>wpAny_execs_nil ⟨Z,H,I,h⟩
def W8(h1:PS X st t)(h2:pN X rest u):pN X (st::rest) (Qt t u):=by
 intro ao s Z H D I h;show wpAny_execs_cons (aO (h1 ao s Z H {D with nx:=u D} I h) λf s1 q=>?_);cases f with
 |next=>
  let⟨Z',H',I',q⟩:=q;show h2 ao s1 Z' H' D I' q
 |ret v=>show q|brk=>show q|cont=>show q
def Inv.quiet{ao:List (Addr×Obj)}{Z:St}{H:Hp}{s:Shared}(I:Inv X ao Z H s):interactive X.env=false:=by simp[interactive,I.ok.kind]
def HF(te:TE):TS:=λD Z H=>te Z H λ_ H1=>D.nx Z H1
def zkB(he:PE X e te)(hs:swapsWith e none pos.line X.env=pure false:=by rfl):PS X (.Expr e pos) (HF te):=by
 intro ao s Z H D I h;show wpAny_Expr_any (aO (he ao s Z H _ I h) λv s1 hx=>eF hx λx H1 I1 r1 q1=>⟨Z,H1,I1,q1⟩) I.quiet hs
def Qu(te:TE):TS:=λD Z H=>te Z H D.rt
def zlZ(he:PE X e te):PS X (.Return (some e) pos) (Qu te):=by
 intro ao s Z H D I h;show wpAny_Return_some (aO (he ao s Z H _ I h) λv s1 hx=>eF hx λx H1 I1 r1 q1=>⟨x,Z,H1,I1,r1,q1⟩)
def Qv(c:TT)(t u:TS):TS:=λD Z H=>c Z H λb H1=>if b=true then t D Z H1 else u D Z H1
def zn1{c:Expr}{a b:List Stmt}{tc:TT}(hc:PT X c tc)(ha:pN X a t)(hb:pN X b u):PS X (.If c a b pos) (Qv tc t u):=by
 intro ao s Z H D I h;show wpAny_If (aO (hc ao s Z H _ I h) λd s1 hx=>vK hx λH1 I1 q1=>?_);cases d with
 |true=>show ha ao s1 Z H1 D I1 q1|false=>show hb ao s1 Z H1 D I1 q1
end
noncomputable abbrev TG:=V->St->Hp->(St->Hp->Prop)->Prop
noncomputable abbrev Bg:=List V->St->Hp->(St->Hp->Prop)->Prop
def PG(X:Cx)(target:Expr)(t:TG):Prop:=
 ∀(ao:List (Addr×Obj)) (s:Shared) (Z:St) (H:Hp) (v:V) (u:Value) (Q:St->Hp->Prop),Inv X ao Z H s->RelV v u->t v Z H Q->
  wpAny (model X.prog X.w) X.A (assign target X.env u) (λ_ s'=>∃Z' H',Inv X ao Z' H' s'/\Q Z' H') X.xe s
def Mx(X:Cx)(ts:List Expr)(t:Bg):Prop:=
 ∀(ao:List (Addr×Obj)) (s:Shared) (Z:St) (H:Hp) (vs:List V) (us:List Value) (Q:St->Hp->Prop),Inv X ao Z H s->Vals vs us->t vs Z H Q->
  wpAny (model X.prog X.w) X.A (assignInOrder ((assignEach ts X.env).map (·.2)) us) (λ_ s'=>∃Z' H',Inv X ao Z' H' s'/\Q Z' H') X.xe s
noncomputable abbrev Bh:=V->V->V->Hp->(Hp->Prop)->Prop
def HJ(X:Cx)(t:Bh):Prop:=
 ∀(ao:List (Addr×Obj)) (s:Shared) (Z:St) (H:Hp) (o i v:V) (ov iv u:Value) (Q:Hp->Prop),Inv X ao Z H s->RelV o ov->RelV i iv->RelV v u->t o i v H Q->
  wpAny (model X.prog X.w) X.A (setItem ov iv u) (λ_ s'=>∃H',Inv X ao Z H' s'/\Q H') X.xe s
noncomputable abbrev Mz:=V->V->Hp->VK->Prop
def W9(X:Cx)(op:Operator)(t:Mz):Prop:=
 ∀(ao:List (Addr×Obj)) (s:Shared) (Z:St) (H:Hp) (x y:V) (v u:Value) (Q:VK),Inv X ao Z H s->RelV x v->RelV y u->t x y H Q->
  wpAny (model X.prog X.w) X.A (inplaceOp op v u) (EP X ao Z Q) X.xe s
section
variable {X:Cx}{pos:Pos}
def dB(i:Nat):TG:=λv Z H Q=>Q (Z.set i (some v)) H
def MF{i:Nat}{x:Str}(hN:X.N.Nodup)(hi:X.N[i]?=some x)(hx:Loc X.env.scope x)(hf:X.fn x=true\/X.env.scope.names.lookup x=some .local:=by first|exact .inl rfl|exact .inr rfl|assumption):PG X (.Name x pos) (dB i):=by
 intro ao s Z H v u Q I r h;show wpAny_assign_Name (Hx I hN hi hx r (λs' I'=>⟨_,H,I',h⟩) hf)
def ud:Bg:=λvs Z H Q=>vs=[]/\Q Z H
def iw(t:TG)(u:Bg):Bg:=λvs Z H Q=>∃v r,vs=v::r/\t v Z H λZ' H'=>u r Z' H' Q
def zjg:Mx X [] ud:=by
 intro ao s Z H vs us Q I r h;let⟨e,h⟩:=h;subst e;cases r;show assignInOrder_nil ⟨Z,H,I,h⟩
def W_{e:Expr}{es:List Expr}{t:TG}{u:Bg}(h1:PG X e t)(h2:Mx X es u)
  (hs:(assignEach (e::es) X.env).map (·.2)=assign e X.env::(assignEach es X.env).map (·.2):=by rfl):Mx X (e::es) (iw t u):=by
 intro ao s Z H vs us Q I r h;let⟨v,vr,e1,h⟩:=h;subst e1;cases r with
 |cons r rr=>
  rw[hs];show assignInOrder_cons (aO (h1 ao s Z H _ _ _ I r h) λ_ s1 hz=>?_);let⟨Z1,H1,I1,q1⟩:=hz;show h2 ao s1 Z1 H1 _ _ Q I1 rr q1
def uf(K:W.Frag)(n:Nat)(t:Bg):TG:=λv Z H Q=>∃a xs,v=.ref a/\gD K H a xs/\xs.length=n/\t xs Z H Q
def zk2{es:List Expr}{k:Nat}{t:Bg}{n:Nat}(hc:X.aj=true)(h:Mx X es t)
  (hn:(assignEach es X.env).length=n:=by rfl) (Bj:(assignEach es X.env).findIdx? (·.1)=none:=by rfl):PG X (.Tuple es k pos) (uf X.K n t):=by
 intro ao s Z H v u Q I r hw;let⟨a,xs,e1,hq,hl,hw⟩:=hw;subst e1;cases r;let⟨its,rv,ht,hz⟩:=I.tuple hq;show assign_Tuple_tuple (I.ok.hd hc) ht (by simp[hn,<-hl,rv.length]) Bj λh' hx=>?_;let I1:Inv X ao Z H {s with heap:=h'}:=I.kept (t':=s.toks) λb o e=>hx b o (cR (bK e)) e;show h ao _ Z H xs _ Q I1 (by simpa using rv) hw
def Qw(to ti:TE)(t:Bh):TG:=λv Z H Q=>to Z H λo H1=>ti Z H1 λi H2=>t o i v H2 λH3=>Q Z H3
def zmB{o i:Expr}{to ti:TE}{t:Bh}(ho:PE X o to)(hi:PE X i ti)(hs:HJ X t)
  (ha:∀v,assign (.Subscript o i pos) X.env v=(do
   let ov <-holding [v] (eval o X.env)
   let iv <-holding [v,ov] (eval i X.env)
   standAt pos
   holding [v,ov,iv] (setItem ov iv v)
   release [v,ov,iv] []):=by intro _;rfl):PG X (.Subscript o i pos) (Qw to ti t):=by
 intro ao s Z H v u Q I r h;rw[ha];show aB (pB (aO (ho ao s Z H _ I h) λov s1 hx=>eF hx λx H1 I1 r1 q1=>?_));show aB (pB (aO (hi ao s1 Z H1 _ I1 q1) λiv s2 hx=>eF hx λy H2 I2 r2 q2=>?_));show aB (tW (aB (pB (aO (hs ao s2 Z H2 x y v ov iv u _ I2 r1 r2 r q2) λ_ s3 hx=>vK hx λH3 I3 q3=>?_))));show wpAny_release ⟨Z,H3,I3,q3⟩
def wU(te:TE)(g:TG):TS:=λD Z H=>te Z H λx H1=>g x Z H1 D.nx
def Xa{tg e:Expr}{te:TE}{g:TG}(he:PE X e te)(hg:PG X tg g)(hs:swapsWithSole [tg] e pos.line X.env=pure false:=by rfl)(hw:swappedStores [tg] e X.env=pure none:=by rfl)
  (h1:(assignEach [tg] X.env).map (·.2)=[assign tg X.env]:=by rfl):PS X (.Assign [tg] e pos) (wU te g):=by
 intro ao s Z H D I h;show wpAny_Assign_stores (aO (he ao s Z H _ I h) λv s1 hx=>eF hx λx H1 I1 r1 q1=>?_) hs hw;rw[h1];show aO (hg ao s1 Z H1 x v _ I1 r1 q1) λ_ s2 q=>q
def zlY{i:Nat}{x:Str}{e:Expr}{te:TE}{pos':Pos}(hN:X.N.Nodup)(hi:X.N[i]?=some x)(hx:Loc X.env.scope x)(he:PE X e te)(hs:swapsWith e (some (.Name x pos')) pos.line X.env=pure false:=by rfl)(hf:X.fn x=true\/X.env.scope.names.lookup x=some .local:=by first|exact .inl rfl|exact .inr rfl|assumption) :
  PS X (.Assign [.Name x pos'] e pos) (wU te (dB i)):=by
 intro ao s Z H D I h;show wpAny_Assign_Name (aO (he ao s Z H _ I h) λv s1 hz=>?_) hs;let⟨y,H1,I1,r1,q1⟩:=hz;show Hx I1 hN hi hx r1 (λs2 I2=>⟨_,H1,I2,q1⟩) hf
def Qx(i j:Nat)(ta:TA):TS:=λD Z H=>ta Z H λvs H1=>∃v w,vs=[v,w]/\D.nx ((Z.set i (some v)).set j (some w)) H1
def zkV{i j:Nat}{x y:Str}{a b:Expr}{ta:TA}{px py pt:Pos}{kt k2 ug}(hc:X.aj=true)(hN:X.N.Nodup)(hi:X.N[i]?=some x)(hj:X.N[j]?=some y)(wV:i≠j)
  (hx:X.env.scope.names.lookup x=some .local) (hy:X.env.scope.names.lookup y=some .local) (ha:PA X [a,b] ta)
  (hw:swappedStores [.Tuple [.Name x px,.Name y py] kt pt] (.Tuple [a,b] k2 ug) X.env=pure (some [x,y]))
  (hs:swapsWithSole [.Tuple [.Name x px,.Name y py] kt pt] (.Tuple [a,b] k2 ug) pos.line X.env=pure false:=by rfl) :
  PS X (.Assign [.Tuple [.Name x px,.Name y py] kt pt] (.Tuple [a,b] k2 ug) pos) (Qx i j ta):=by
 intro ao s Z H D I h;rw[exec_Assign_arm];show aB (tW ?_);rw[hs];show aB (aJ ?_);rw[if_neg J0];show aB (Tuple_ (aO (ha _ ao s Z H _ I h) λus s1 hz=>?_));let⟨vs,H1,I1,r1,q1⟩:=hz;let⟨v,w,e1,q1⟩:=q1;subst e1;obtain⟨u1,u2,rfl,rv,jT⟩ : ∃u1 u2,us=[u1,u2]/\RelV v u1/\RelV w u2:=by
  cases r1 with
  |cons p q=>
   cases q with
   |cons p' q'=>
    cases q';show⟨_,_,rfl,p,p'⟩
 show o_ ?_ (by change 2<=sizeLine;decide);let I2:Inv X ao Z H1 {s1 with heap:=s1.heap.push {cls:=.type "tuple",data:=.seq [u1,u2].toArray}}:=I1.kept (t':=s1.toks) λb o e=>bW _ e;rw[hw];show aB (aJ ?_);change wpAny (model X.prog X.w) X.A (do rule "assign.swapped-stores";let items <-unpackItems (.ref s1.heap.objs.size) 2 none;assignInOrder [λv=>bindName X.env y v,λv=>bindName X.env x v] items.reverse;pure Flow.next) _ _ _;show aB (yV (aB (unpackItems_tuple (items:=#[u1,u2]) (I.ok.hd hc) (IsTup.new s1.heap _) λh' hx'=>?_)));let I3:=I2.kept (h':=h') (t':=s1.toks) λb o e=>hx' b o (cR (bK e)) e;change wpAny _ _ (assignInOrder [λv=>bindName X.env y v,λv=>bindName X.env x v] [u2,u1] >>= λ_=>pure Flow.next) _ _ _;show aB (assignInOrder_cons (wpAny_bindName (Hx I3 hN hj (.inl hy) jT (λs2 I4=>?_) (.inr hy))));show assignInOrder_cons (wpAny_bindName (Hx I4 hN hi (.inl hx) rv (λs3 I5=>assignInOrder_nil (aJ ?_)) (.inr hx)));rw[List.set_comm _ _ (Ne.symm wV)]at I5;show⟨_,H1,I5,q1⟩
def HN(i:Nat)(te:TE)(ti:Mz):TS:=λD Z H=>∃x,Z[i]?=some (some x)/\te Z H λy H1=>ti x y H1 λz H2=>D.nx (Z.set i (some z)) H2
def zkR{i:Nat}{x:Str}{e:Expr}{te:TE}{op:Operator}{ti:Mz}{pos':Pos}(hN:X.N.Nodup)(hi:X.N[i]?=some x)(hx:Loc X.env.scope x)(he:PE X e te)(ho:W9 X op ti)(hf:X.fn x=true\/X.env.scope.names.lookup x=some .local:=by first|exact .inl rfl|exact .inr rfl|assumption) :
  PS X (.AugAssign (.Name x pos') op e pos) (HN i te ti):=by
 intro ao s Z H D I h;let⟨v,e1,h⟩:=h;let⟨m,hn,hl⟩:=I.loc;let vis:Ms X.env.scope x:=by rcases hx with k|k;show .inl k;show .inr (.inl k)
 let⟨u,r,l⟩:=hl i x v hi e1 vis;show wpAny_AugAssign_Name ?_;let go:wpAny (model X.prog X.w) X.A (eval e X.env) (λw s₂=>wpAny (model X.prog X.w) X.A (inplaceOp op u w) (λr s₃=>wpAny (model X.prog X.w) X.A (storeName X.env x r) (λ_=>SP X ao D .next) X.xe s₃) X.xe s₂) X.xe s:=by
  show aO (he ao s Z H _ I h) λw s1 hz=>?_;let⟨y,H1,I1,r1,q1⟩:=hz;show aO (ho ao s1 Z H1 v y u w _ I1 r r1 q1) λz s2 hz=>?_;let⟨zv,H2,I2,r2,q2⟩:=hz;show Hx I2 hN hi hx r2 (λs3 I3=>⟨_,H2,I3,q2⟩) hf
 rcases l with ⟨hk,hm⟩|⟨hk,c,hc,qM⟩
 .exact wpAny_loadName_local I.ok.kind hk hn hm go
 .rcases hk with hk|hk
  .exact wpAny_loadName_cell I.ok.kind hk hc qM go
  .rcases hx with k|k
   .let:X.env.scope.names.lookup x=some .free:=hk;rw[k]at this;cases this
   .let:X.env.scope.names.lookup x=some .free:=hk;rw[k]at this;cases this
def Xb(f:Int->Int->Int):Mz:=λx y H Q=>∃i j,x=.int i/\y=.int j/\Q (.int (f i j)) H
def zkF:W9 X .Add (Xb λi j=>i+j):=by
 intro ao s Z H x y v u Q I r1 r2 h;let⟨i,j,e1,e2,q⟩:=h;subst e1;subst e2;let⟨t,rfl⟩:=r1;let⟨t',rfl⟩:=r2;show iadd_int ⟨.int _,H,I.tok _,⟨_,rfl⟩,q⟩
end
section
variable {X:Cx}{pos:Pos}
def Bk(c:TT)(tb:TS):TS:=λD Z H=>∃W:Nat->St->Hp->Prop,(∃m,W m Z H)/\∀m Z H,W m Z H->
 c Z H λb H1=>if b=true then ∃N:St->Hp->Prop,(∀Z' H',N Z' H'->∃m',m'<m/\W m' Z' H')/\tb {D with nx:=N,ct:=N,bk:=D.nx} Z H1 else D.nx Z H1
def zg6{c:Expr}{body:List Stmt}{tc:TT}{tb:TS}(hp:PassesOwn (model X.prog X.w) X.A X.env X.xe)(hc:PT X c tc)(hb:pN X body tb):PS X (.While c body [] pos) (Bk tc tb):=by
 intro ao s Z H D I h;let⟨W,⟨m0,w0⟩,turn⟩:=h;show wpAny_While (codeAny_whileLoop (λn s'=>∃Z' H',Inv X ao Z' H' s'/\W n Z' H') ?_ m0 ⟨Z,H,I,w0⟩);rintro n s1 ⟨Z1,H1,I1,w1⟩;show Ak hp (aO (hc ao s1 Z1 H1 _ I1 (turn n Z1 H1 w1)) λb s2 hx=>vK hx λH2 I2 q2=>?_);cases b with
 |true=>
  let⟨N,hN,q2⟩:=q2;rw[if_pos rfl];show Ak hp (aO (hb ao s2 Z1 H2 _ I2 q2) λf s3 q3=>?_);cases f with
  |next=>
   let⟨Z3,H3,I3,n3⟩:=q3;let⟨m',hm,w3⟩:=hN Z3 H3 n3;show⟨m',hm,Z3,H3,I3,w3⟩
  |cont=>
   let⟨Z3,H3,I3,n3⟩:=q3;let⟨m',hm,w3⟩:=hN Z3 H3 n3;show⟨m',hm,Z3,H3,I3,w3⟩
  |brk=>show q3|ret v=>show q3
 |false=>
  rw[if_neg Gs];show wpAny_execs_nil ⟨Z1,H2,I2,q2⟩
end
structure It where
 go:Nat->Hp->Prop
 uh:Nat->Hp->V->Hp->Prop
 stop:Nat->Hp->Prop
def fj(X:Cx)(ao:List (Addr×Obj))(H:Hp)(b:Addr):Prop:=
 H b=none/\b≠X.env.locals/\b∉X.fs/\(b∈X.ex\/X.s₀.heap.objs.size<=b)/\(∀x c,X.env.cells.lookup x=some c->c≠b)/\∀p∈X.pn++ao,p.1≠b
def Inv.uo{X:Cx}{ao:List (Addr×Obj)}{Z:St}{H H':Hp}{s:Shared}{b:Addr}(I:Inv X ao Z H s)(hb:s.heap.objs.size<=b)(hn:H' b=none):fj X ao H' b:=by
 show⟨hn,pL (fD I.lt hb),I.wQ hb,.inr (jO I.sz hb),λx c e z=>?_,λp hp z=>?_⟩
 .obtain⟨v,q⟩:=I.cell x c e;show absurd (fD q.lt (by rw[z];show hb)) (pK _)
 .exact absurd (fD (bK (I.pin p hp).1) (by rw[z];show hb)) (pK _)
structure Turn(P:Program)(w:World)(K:W.Frag)(tg:Expr)(aW:It)(fp:List Addr)(it:Addr)(tn:Nat->Heap->Prop):Prop where
 mem:it∈fp
 obj:∀i h,tn i h->∀b∈fp,∃o,h.get? b=some o/\∀v,o.data≠.cell v
 keep:∀i h h',tn i h->(∀b∈fp,∀o,h.get? b=some o->h'.get? b=some o)->tn i h'
 item:∀(X:Cx),X.prog=P->X.w=w->X.K=K->X.aj=true->∀(i:Nat) (ao:List (Addr×Obj)) (s:Shared) (Z:St) (H:Hp) (E:Value->Shared->Prop),Inv X ao Z H s->(∀b∈fp,fj X ao H b)->tn i s.heap->aW.go i H->
  wpAny (model P w) X.A (pyNext (.ref it)) (λr s1=>∃u,r=some u /\
   wpAny (model P w) X.A (letOwnedTupleGo tg (.ref it) u) (λ_ s2=>∃x H',Inv X ao Z H' s2/\RelV x u/\aW.uh i H x H'/\tn (i+1) s2.heap/\∀b∈fp,H' b=none) E s1) E s
 done:∀(X:Cx),X.prog=P->X.w=w->X.K=K->X.aj=true->∀(i:Nat) (ao:List (Addr×Obj)) (s:Shared) (Z:St) (H:Hp) (E:Value->Shared->Prop),Inv X ao Z H s->(∀b∈fp,fj X ao H b)->tn i s.heap->aW.stop i H->
  wpAny (model P w) X.A (pyNext (.ref it)) (λr s1=>r=none/\Inv X ao Z H s1) E s
 self:∀(A:Around) (i:Nat) (s:Shared) (Q:Value->Shared->Prop) (E:Value->Shared->Prop),tn i s.heap->Q (.ref it) s->wpAny (model P w) A (pyIter (.ref it)) Q E s
noncomputable abbrev TI:=St->Hp->(It->Hp->Prop)->Prop
def PIE(X:Cx)(ao:List (Addr×Obj))(Z:St)(tg:Expr)(R:It->Hp->Prop)(itv:Value)(s2:Shared):Prop:=
 ∃(it:Addr) (fp:List Addr) (tn:Nat->Heap->Prop) (aW:It) (H':Hp),itv=.ref it/\Inv X ao Z H' s2/\Turn X.prog X.w X.K tg aW fp it tn/\tn 0 s2.heap/\(∀b∈fp,fj X ao H' b)/\R aW H'
def PI(X:Cx)(tg iter:Expr)(wi:TI):Prop:=
 ∀(ao:List (Addr×Obj)) (s:Shared) (Z:St) (H:Hp) (R:It->Hp->Prop),Inv X ao Z H s->wi Z H R->
  wpAny (model X.prog X.w) X.A (eval iter X.env) (λv s1=>wpAny (model X.prog X.w) X.A (pyIter v) (PIE X ao Z tg R) X.xe s1) X.xe s
def Qy{M:Model}{A:Around}{E:Value->Shared->Prop}{s:Shared}{tg:Expr}{it:Addr}{u:Value}{o:Obj}{n:String}{vs:Array Value}{Q:Unit->Shared->Prop}(ho:s.heap.get? it=some o)(hc:o.cls=.type n)(hd:o.data=.fields vs)
  (hn:["enumerate","zip","dict_itemiterator","dict_reverseitemiterator","odict_iterator","itertools.zip_longest","itertools.pairwise"].contains n=false) (hQ:Q () s):wpAny M A (letOwnedTupleGo tg (.ref it) u) Q E s:=by
 unfold letOwnedTupleGo;cases tg<;>first
  |exact aJ hQ
  | (cases u<;>first
    |exact aJ hQ
    | (show aB (wpAny_load ho ?_)
       rw[hc,hd];change wpAny M A (if (["enumerate","zip","dict_itemiterator","dict_reverseitemiterator","odict_iterator","itertools.zip_longest","itertools.pairwise"].contains n&&vs[0]?==some (rawInt _))=true then _ else _) Q E s;rw[if_neg (by intro h;rw[hn,Bool.false_and]at h;cases h)];show aJ hQ))
def MJ(K:W.Frag)(a:Addr):It:=
 ⟨λi H=>∃xs x,cP K H a xs/\xs[i]?=some x,λi H x H'=>H'=H/\∀xs,cP K H a xs->xs[i]?=some x,λi H=>∃xs,cP K H a xs/\xs.length<=i⟩
def Qz(K:W.Frag)(a:Addr):It:=
 ⟨λi H=>∃xs x,gD K H a xs/\xs[i]?=some x,λi H x H'=>H'=H/\∀xs,gD K H a xs->xs[i]?=some x,λi H=>∃xs,gD K H a xs/\xs.length<=i⟩
def HS(lo:Int)(n:Nat):It:=⟨λi _=>i<n,λi H x H'=>H'=H/\x=.int (lo+i),λi _=>n<=i⟩
def zgI{P:Program}{w:World}{K:W.Frag}{tg:Expr}(a it:Addr):Turn P w K tg (MJ K a) [it] it (λi h=>h.IsListIter it a i) where
 mem:=by simp
 obj:=λi h st b hb=>by
  let e:b=it:=by simpa using hb
  subst e;let⟨o,e,c,d⟩:=st;show⟨o,e,λv z=>by rw[d]at z;cases z⟩
 keep:=λi h h' st k=>st.at λo e=>k it RQ o e
 item:=by
  intro X hP hw hK hc i ao s Z H E I hf st hg;subst hP hw hK;let⟨xs,x,hq,hx⟩:=hg;let⟨its,rv,p,hz⟩:=I.list hq;let⟨u,hu,ru⟩:=rv.get hx;let⟨f0,f1,f2,f3,f4,f5⟩:=hf it RQ;show wpAny_pyNext_list_item st p.isList (x:=u) (by simpa using hu) λh' st' sb=>?_;let I1:Inv X ao Z H {s with heap:=h'}:=I.turned (t':=s.toks) (λb o hb e=>(sb.2 b hb).trans e) f0 f1 f3 f4 f5;let⟨o,e,c,d⟩:=id st';show⟨u,rfl,Qy (s:={s with heap:=h'}) e c d J0 ⟨x,H,I1,ru,⟨rfl,λys hy=>by rw[I.nZ hy hq];show hx⟩,st',λb hb=>(hf b hb).1⟩⟩
 done:=by
  intro X hP hw hK hc i ao s Z H E I hf st hg;subst hP hw hK;let⟨xs,hq,hx⟩:=hg;let⟨its,rv,p,hz⟩:=I.list hq;let⟨f0,f1,f2,f3,f4,f5⟩:=hf it RQ;let hl:=rv.length;show wpAny_pyNext_list_end (I.ok.hd hc) st p.isList (by simp;lia) λh' eb=>⟨rfl,I.turned (t':=s.toks) (λb o hb e=>eb b o hb e) f0 f1 f3 f4 f5⟩
 self:=λ_ _ _ _ _ st h=>wpAny_pyIter_listiter st h
def zeS{P:Program}{w:World}{K:W.Frag}{tg:Expr}(a it:Addr):Turn P w K tg (Qz K a) [it] it (λi h=>h.IsTupleIter it a i) where
 mem:=by simp
 obj:=λi h st b hb=>by
  let e:b=it:=by simpa using hb
  subst e;let⟨o,e,c,d⟩:=st;show⟨o,e,λv z=>by rw[d]at z;cases z⟩
 keep:=λi h h' st k=>st.at λo e=>k it RQ o e
 item:=by
  intro X hP hw hK hc i ao s Z H E I hf st hg;subst hP hw hK;let⟨xs,x,hq,hx⟩:=hg;let⟨its,rv,p,hz⟩:=I.tuple hq;let⟨u,hu,ru⟩:=rv.get hx;let⟨f0,f1,f2,f3,f4,f5⟩:=hf it RQ;show wpAny_pyNext_tuple_item st (show s.heap.IsTuple a its.toArray from p) (x:=u) (by simpa using hu) λh' st' sb=>?_;let I1:Inv X ao Z H {s with heap:=h'}:=I.turned (t':=s.toks) (λb o hb e=>(sb.2 b hb).trans e) f0 f1 f3 f4 f5;let⟨o,e,c,d⟩:=id st';show⟨u,rfl,Qy (s:={s with heap:=h'}) e c d J0 ⟨x,H,I1,ru,⟨rfl,λys hy=>by rw[I.lU hy hq];show hx⟩,st',λb hb=>(hf b hb).1⟩⟩
 done:=by
  intro X hP hw hK hc i ao s Z H E I hf st hg;subst hP hw hK;let⟨xs,hq,hx⟩:=hg;let⟨its,rv,p,hz⟩:=I.tuple hq;let⟨f0,f1,f2,f3,f4,f5⟩:=hf it RQ;let hl:=rv.length;show wpAny_pyNext_tuple_end (I.ok.hd hc) st (show s.heap.IsTuple a its.toArray from p) (by simp;lia) λh' eb=>⟨rfl,I.turned (t':=s.toks) (λb o hb e=>eb b o hb e) f0 f1 f3 f4 f5⟩
 self:=λ_ _ _ _ _ st h=>wpAny_pyIter_tupleiter st h
def zfh{P:Program}{w:World}{K:W.Frag}{tg:Expr}(it:Addr)(lo:Int)(n:Nat):Turn P w K tg (HS lo n) [it] it (λi h=>IsRangeIter h it (lo+(i:Nat)*1) ((n:Int)-(i:Nat)) 1) where
 mem:=by simp
 obj:=λi h st b hb=>by
  let e:b=it:=by simpa using hb
  subst e;show⟨_,st,λv z=>by
   let z':Data.fields _=Data.cell v:=z;cases z'⟩
 keep:=λi h h' st k=>k it RQ _ st
 item:=by
  intro X hP hw hK hc i ao s Z H E I hf st hg;subst hP hw hK;let⟨f0,f1,f2,f3,f4,f5⟩:=hf it RQ;let W:=Walks.range (prog:=X.prog) (w:=X.w) (I.ok.hd hc) it lo 1 n;show W.item i s _ _ hg st λv h' tk hv st' kk=>?_;let⟨t,rfl⟩:=hv;let I1:Inv X ao Z H {s with heap:=h',toks:=tk}:=I.turned (λb o hb e=>kk b o (by simpa using hb) e) f0 f1 f3 f4 f5;show⟨_,rfl,Qy (s:={s with heap:=h',toks:=tk}) (n:="range_iterator") st' rfl rfl J0 ⟨.int (lo+i),H,I1,⟨t,?_⟩,⟨rfl,rfl⟩,st',λb hb=>(hf b hb).1⟩⟩;rw[Av]
 done:=by
  intro X hP hw hK hc i ao s Z H E I hf st hg;subst hP hw hK;let⟨f0,f1,f2,f3,f4,f5⟩:=hf it RQ;show wpAny_pyNext_range_end (I.ok.hd hc) st (by let:n<=i:=hg;lia) λh' eb=>⟨rfl,I.turned (t':=s.toks) (λb o hb e=>eb b o hb e) f0 f1 f3 f4 f5⟩
 self:=λ_ _ _ _ _ st h=>wpAny_pyIter_rangeiter st h
section
variable {X:Cx}{tg:Expr}
def Xc{ao:List (Addr×Obj)}{Z:St}{H:Hp}{s:Shared}{R:It->Hp->Prop}{E:Value->Shared->Prop}{lo hi:Int}{t u v:Tok}{tk:Nat}(I:Inv X ao Z H s)(h1 : -(2^62)<=lo)(h2:lo<2^62)(h3 : -(2^62)<=hi)(h4:hi<2^62)
  (q:R (HS lo (hi-lo).toNat) H):wpAny (model X.prog X.w) X.A (pyIter (.ref s.heap.objs.size)) (PIE X ao Z tg R) E {s with heap:=s.heap.push {cls:=.type "range",data:=.fields #[.int lo t,.int hi u,.int 1 v]},toks:=tk}:=by
 show wpAny_pyIter_range (IsRange.new ..) (small_one h1 h2 h3 h4) ?_;let I1:Inv X ao Z H {s with heap:=s.heap.push {cls:=.type "range",data:=.fields #[.int lo t,.int hi u,.int 1 v]},toks:=tk}:=I.kept λb o e=>bW _ e;show⟨(s.heap.push {cls:=.type "range",data:=.fields #[.int lo t,.int hi u,.int 1 v]}).objs.size,[(s.heap.push {cls:=.type "range",data:=.fields #[.int lo t,.int hi u,.int 1 v]}).objs.size],_,_,H,rfl,
  I1.kept (t':=tk) λb o e=>bW _ e,zfh _ lo (hi-lo).toNat,?_,λb hb=>?_,q⟩
 .let e1:lo+((0:Nat):Int)*1=lo:=by simp
  let e2:(((hi-lo).toNat:Nat):Int)-((0:Nat):Int)=Builtin.Range.rangeSize lo hi 1:=by rw[rangeSize_one];split<;>lia
  change IsRangeIter _ _ (lo+((0:Nat):Int)*1) ((((hi-lo).toNat:Nat):Int)-((0:Nat):Int)) 1;rw[e1,e2];show dU _ rfl
 .let e:b=(s.heap.push {cls:=.type "range",data:=.fields #[.int lo t,.int hi u,.int 1 v]}).objs.size:=by simpa using hb
  subst e;show I1.uo (bU _) (I1.hok.fresh (bU _))
def HW(ta:TA):TI:=λZ H R=>ta Z H λvs H1=>∃j:Int,vs=[.int j]/\-(2^62)<=j/\j<2^62/\R (HS 0 j.toNat) H1
def HX(ta:TA):TI:=λZ H R=>ta Z H λvs H1=>∃i j:Int,vs=[.int i,.int j]/\(-(2^62)<=i/\i<2^62/\-(2^62)<=j/\j<2^62)/\R (HS i (j-i).toNat) H1
def zgg{a:Expr}{ta:TA}{p pos:Pos}(hg:Gl X "range")(hm:X.mg "range"=none)(ha:PA X [a] ta)(hs:starEach [a] X.env=[(false,eval a X.env)]:=by rfl):PI X tg (.Call (.Name "range" p) [a] [] pos) (HW ta):=by
 intro ao s Z H R I h;show Call_ (vM I hg hm boot_range (zZ (aO (ha pos ao s Z H _ I h) λus s1 hx=>eF hx λvs H1 I1 r1 q1=>?_) hs rfl));let⟨j,e,q1,q2,q⟩:=q1;subst e;cases r1 with
 |cons r rr=>
  cases rr;let⟨t,rfl⟩:=r;show call_range_1 (Xc I1 gV gV q1 q2 (by simpa using q))
def zft{a b:Expr}{ta:TA}{p pos:Pos}(hg:Gl X "range")(hm:X.mg "range"=none)(ha:PA X [a,b] ta)(hs:starEach [a,b] X.env=[(false,eval a X.env),(false,eval b X.env)]:=by rfl)(zm:starEach [b] X.env=[(false,eval b X.env)]:=by rfl) :
  PI X tg (.Call (.Name "range" p) [a,b] [] pos) (HX ta):=by
 intro ao s Z H R I h;show Call_ (vM I hg hm boot_range (zZ (aO (ha pos ao s Z H _ I h) λus s1 hx=>eF hx λvs H1 I1 r1 q1=>?_) (by rw[hs,zm]) (by rw[zm];rfl)));let⟨i,j,e,⟨q1,q2,q3,q4⟩,q⟩:=q1;subst e;cases r1 with
 |cons r rr=>
  cases rr with
  |cons r' rr=>
   cases rr;let⟨t,rfl⟩:=r;let⟨t',rfl⟩:=r';show call_range_2 (Xc I1 q1 q2 q3 q4 q)
def QB(wi:TI)(g:TG)(tb:TS):TS:=λD Z H=>wi Z H λaW H1=>∃W:Nat->Nat->St->Hp->Prop,(∃m,W 0 m Z H1)/\∀i m Z H,W i m Z H->
 (aW.stop i H/\D.nx Z H)\/(aW.go i H/\∃N:St->Hp->Prop,(∀Z' H',N Z' H'->∃m',m'<m/\W (i+1) m' Z' H')/\∀x H',aW.uh i H x H'->g x Z H' λZ2 H2=>tb {D with nx:=N,ct:=N,bk:=D.nx} Z2 H2)
def iU(fp:List Addr)(h:Heap):List (Addr×Obj):=fp.filterMap λb=>(h.get? b).map λo=>(b,o)
theorem zp{fp:List Addr}{h:Heap}{b:Addr}{o:Obj}(hb:b∈fp)(e:h.get? b=some o):(b,o)∈iU fp h:=Ad.mpr ⟨b,hb,by rw[e];rfl⟩
def zfr{fp:List Addr}{h:Heap}{p:Addr×Obj}(hp:p∈iU fp h):p.1∈fp/\h.get? p.1=some p.2:=by
 let⟨b,hb,e⟩:=Ad.mp hp;cases q:h.get? b with
 |none=>rw[q]at e;cases e|some o=>
  rw[q]at e;let e':(b,o)=p:=cU e;subst e';show⟨hb,q⟩
theorem Inv.pinned{ao:List (Addr×Obj)}{Z:St}{H:Hp}{s:Shared}{fp:List Addr}(I:Inv X ao Z H s)(hf:∀b∈fp,fj X ao H b)(ho:∀b∈fp,∃o,s.heap.get? b=some o/\∀v,o.data≠.cell v):Inv X (ao++iU fp s.heap) Z H s:=
 I.jG λp hp=>(jN.mp hp).elim (λz=>I.pin p (kJ _ z)) λz=>by
  let⟨hb,e⟩:=zfr z;let⟨f0,f1,f2,_⟩:=hf p.1 hb;let⟨o,e',d⟩:=ho p.1 hb;rw[e]at e';cases e';show⟨e,f0,f1,f2,d⟩
theorem Inv.bV{ao pl:List (Addr×Obj)}{Z:St}{H:Hp}{s:Shared}(I:Inv X (ao++pl) Z H s):Inv X ao Z H s:=I.jG λp hp=>I.pin p (kJ _ (Ac _ hp))
def zmQ{iter:Expr}{body:List Stmt}{wi:TI}{g:TG}{tb:TS}{pos:Pos}(hp:PassesOwn (model X.prog X.w) X.A X.env X.xe)(hc:X.aj=true)(hi:PI X tg iter wi)(hg:PG X tg g)(hb:pN X body tb)
  (hs:∀x,foldedSetIterable iter X.env x=pure x:=by intro _;rfl):PS X (.For tg iter body [] pos) (QB wi g tb):=by
 intro ao s Z H D I h;show wpAny_For (aO (hi ao s Z H _ I h) λv s1 h1=>aO h1 λitv s2 h2=>?_) hs;let⟨it,fp,tn,aW,H2,e,I2,T,st2,f2,W,⟨m0,w0⟩,turn⟩:=h2;subst e;let stat:∀{H':Hp},(∀b∈fp,H' b=none)->∀b∈fp,fj X ao H' b:=λhn b hb=>⟨hn b hb,(f2 b hb).2⟩;show codeAny_forLoop_any (λn s'=>∃i Z' H',Inv X ao Z' H' s'/\tn i s'.heap/\(∀b∈fp,H' b=none)/\W i n Z' H') ?_ m0 ⟨0,Z,H2,I2,st2,λb hb=>(f2 b hb).1,w0⟩;rintro n s3 ⟨i,Z3,H3,I3,st3,Xd,w3⟩;rcases turn i n Z3 H3 w3 with ⟨stop,qn⟩|⟨go,N,hN,step⟩
 .refine Ak hp (aO (T.done X rfl rfl rfl hc i ao s3 Z3 H3 X.xe I3 (stat Xd) st3 stop) λr s4 ⟨hr,I4⟩=>?_);subst hr;show wpAny_execs_nil ⟨Z3,H3,I4,qn⟩
 .refine Ak hp (aO (T.item X rfl rfl rfl hc i ao s3 Z3 H3 X.xe I3 (stat Xd) st3 go) λr s4 hx=>vK hx λu hr h4=>?_);subst hr;show Ak hp (aO h4 λ_ s5 hz=>?_);let⟨x,H5,I5,r5,y5,tK,vN⟩:=hz;let I5':=I5.pinned (stat vN) (T.obj _ _ tK);show Ak hp (aO (hg _ s5 Z3 H5 x u _ I5' r5 (step x H5 y5)) λ_ s6 hz=>?_);let⟨Z6,H6,I6,q6⟩:=hz;show Ak hp (aO (hb _ s6 Z6 H6 _ I6 q6) λf s7 q7=>?_);let again:∀{Z7:St} {H7:Hp},Inv X (ao++iU fp s5.heap) Z7 H7 s7->N Z7 H7->∃m,m<n/\∃i Z' H',Inv X ao Z' H' s7/\tn i s7.heap/\(∀b∈fp,H' b=none)/\W i m Z' H':=λ{Z7 H7} I7 n7=>by
   let⟨m',hm,w7⟩:=hN Z7 H7 n7;show⟨m',hm,i+1,Z7,H7,I7.bV,T.keep _ _ _ tK λb hb o e=>(I7.pin (b,o) (kJ _ (kJ _ (zp hb e)))).1,λb hb=>?_,w7⟩;let⟨o,e,d⟩:=T.obj _ _ tK b hb;show(I7.pin (b,o) (kJ _ (kJ _ (zp hb e)))).2.1
  cases f with
  |next=>let⟨Z7,H7,I7,n7⟩:=q7;show again I7 n7|cont=>let⟨Z7,H7,I7,n7⟩:=q7;show again I7 n7|brk=>let⟨Z7,H7,I7,q7⟩:=q7;show⟨Z7,H7,I7.bV,q7⟩|ret v=>let⟨x7,Z7,H7,I7,r7,q7⟩:=q7;show⟨x7,Z7,H7,I7.bV,r7,q7⟩
end
noncomputable abbrev R2:=V->V->Hp->VK->Prop
def eG(X:Cx)(f:Value->Value->Sem Value)(r:R2):Prop:=
 ∀(ao:List (Addr×Obj)) (s:Shared) (Z:St) (H:Hp) (x y:V) (v u:Value) (Q:VK),Inv X ao Z H s->RelV x v->RelV y u->r x y H Q->
  wpAny (model X.prog X.w) X.A (f v u) (EP X ao Z Q) X.xe s
def MK(X:Cx)(f:Value->Sem Value)(r:V->Hp->VK->Prop):Prop:=
 ∀(ao:List (Addr×Obj)) (s:Shared) (Z:St) (H:Hp) (x:V) (v:Value) (Q:VK),Inv X ao Z H s->RelV x v->r x H Q->
  wpAny (model X.prog X.w) X.A (f v) (EP X ao Z Q) X.xe s
def cT(X:Cx)(f:Value)(r:List V->Hp->VK->Prop):Prop:=
 ∀(ao:List (Addr×Obj)) (s:Shared) (Z:St) (H:Hp) (xs:List V) (us:List Value) (Q:VK),Inv X ao Z H s->Vals xs us->r xs H Q->
  wpAny (model X.prog X.w) X.A (call f us) (EP X ao Z Q) X.xe s
def QC(X:Cx)(r:V->Hp->(Bool->Hp->Prop)->Prop):Prop:=
 ∀(ao:List (Addr×Obj)) (s:Shared) (Z:St) (H:Hp) (x:V) (v:Value) (Q:Bool->Hp->Prop),Inv X ao Z H s->RelV x v->r x H Q->
  wpAny (model X.prog X.w) X.A (truthy v) (TP X ao Z Q) X.xe s
def MN(r:R2)(ta tb:TE):TE:=λZ H Q=>ta Z H λx H1=>tb Z H1 λy H2=>r x y H2 Q
def tUn(r:V->Hp->VK->Prop)(ta:TE):TE:=λZ H Q=>ta Z H λx H1=>r x H1 Q
def rI(C:Int->Int->Prop)(g:Int->Int->V):R2:=λx y H Q=>∃i j,x=.int i/\y=.int j/\C i j/\Q (g i j) H
def pO(g:Int->Int->V):R2:=λx y H Q=>∃i j,x=.int i/\y=.int j/\Q (g i j) H
def rU(g:Int->V):V->Hp->VK->Prop:=λx H Q=>∃i,x=.int i/\Q (g i) H
section
variable {X:Cx}{a b c:Expr}{ta tb tc:TE}{pos:Pos}
def Bl(ha:PE X a ta)(hb:PE X b tb){ao:List (Addr×Obj)}{s:Shared}{Z:St}{H:Hp}{R:V->V->Hp->Prop}(I:Inv X ao Z H s)
  (h:ta Z H λx H1=>tb Z H1 λy H2=>R x y H2) {Q:Value->Shared->Prop} {f:Value->Value->Sem Value}
  (hf:∀v u s2 x y H2,Inv X ao Z H2 s2->RelV x v->RelV y u->R x y H2->wpAny (model X.prog X.w) X.A (f v u) Q X.xe s2) :
  wpAny (model X.prog X.w) X.A (eval a X.env) (λv s₁=>wpAny (model X.prog X.w) X.A (eval b X.env) (λu s₂=>wpAny (model X.prog X.w) X.A (f v u) Q X.xe s₂) X.xe s₁) X.xe s:=by
 show aO (ha ao s Z H _ I h) λv s1 hx=>eF hx λx H1 I1 r1 q1=>?_;show aO (hb ao s1 Z H1 _ I1 q1) λu s2 hx=>eF hx λy H2 I2 r2 q2=>?_;show hf v u s2 x y H2 I2 r1 r2 q2
def zn0{op:Operator}{r:R2}(ho:eG X (binaryOp op) r)(ha:PE X a ta)(hb:PE X b tb):PE X (.BinOp a op b pos) (MN r ta tb):=by
 intro ao s Z H Q I h;show wpAny_BinOp (Bl ha hb I h λv u s2 x y H2 I2 rx ry q=>ho ao s2 Z H2 x y v u Q I2 rx ry q)
def Xe{op:UnaryOp}{r:V->Hp->VK->Prop}(ho:MK X (unaryOp op) r)(ha:PE X a ta):PE X (.UnaryOp op a pos) (tUn r ta):=by
 intro ao s Z H Q I h;show UnaryOp_ (aO (ha ao s Z H _ I h) λv s1 hx=>eF hx λx H1 I1 r1 q1=>ho ao s1 Z H1 x v Q I1 r1 q1)
def MP{f:Value->Value->Sem Value}{C:Int->Int->Prop}{g:Int->Int->Int}
  (rule:∀(i j:Int) (t u:Tok) (s:Shared) (Q:Value->Shared->Prop) (E:Value->Shared->Prop),C i j->Q (.int (g i j) s.toks) {s with toks:=s.toks+1}->wpAny (model X.prog X.w) X.A (f (.int i t) (.int j u)) Q E s) :
  eG X f (rI C λi j=>.int (g i j)):=by
 intro ao s Z H x y v u Q I rx ry h;let⟨i,j,rfl,rfl,hc,q⟩:=h;let⟨t,rfl⟩:=rx;let⟨t',rfl⟩:=ry;show rule i j t t' s _ _ hc ⟨.int (g i j),H,I.tok _,⟨_,rfl⟩,q⟩
def HY{f:Value->Value->Sem Value}{g:Int->Int->Int}
  (rule:∀(i j:Int) (t u:Tok) (s:Shared) (Q:Value->Shared->Prop) (E:Value->Shared->Prop),Q (.int (g i j) s.toks) {s with toks:=s.toks+1}->wpAny (model X.prog X.w) X.A (f (.int i t) (.int j u)) Q E s) :
  eG X f (pO λi j=>.int (g i j)):=by
 intro ao s Z H x y v u Q I rx ry h;let⟨i,j,rfl,rfl,q⟩:=h;let⟨t,rfl⟩:=rx;let⟨t',rfl⟩:=ry;show rule i j t t' s _ _ ⟨.int (g i j),H,I.tok _,⟨_,rfl⟩,q⟩
def wW{f:Value->Value->Sem Value}{g:Int->Int->Bool}
  (rule:∀(i j:Int) (t u:Tok) (s:Shared) (Q:Value->Shared->Prop) (E:Value->Shared->Prop),Q (.bool (g i j)) s->wpAny (model X.prog X.w) X.A (f (.int i t) (.int j u)) Q E s) :
  eG X f (pO λi j=>.bl (g i j)):=by
 intro ao s Z H x y v u Q I rx ry h;let⟨i,j,rfl,rfl,q⟩:=h;let⟨t,rfl⟩:=rx;let⟨t',rfl⟩:=ry;show rule i j t t' s _ _ ⟨.bl (g i j),H,I,rfl,q⟩
def wX(i j:Int):Prop:=0<j/\j<1073741824
def H_(i j:Int):Prop:=0<=j/\j<=1000000/\i.natAbs<2^64
def wY(i j:Int):Prop:=(-(2^64)<i/\i<2^64)\/(-(2^64)<j/\j<2^64)
def wY.ok{i j:Int}(h:wY i j):IntMulOk i j:=by
 rcases h with ⟨h1,h2⟩|⟨h1,h2⟩
 .exact .of_left (intBits_le_64 h1 h2)
 .exact .of_right (intBits_le_64 h1 h2)
theorem Bm:eG X (binaryOp .Add) (pO λi j=>.int (i+j)):=HY λ_ _ _ _ _ _ _ q=>add_int q
theorem znf:eG X (binaryOp .Sub) (pO λi j=>.int (i-j)):=HY λ_ _ _ _ _ _ _ q=>sub_int q
theorem zmf:eG X (binaryOp .Mult) (rI wY λi j=>.int (i*j)):=MP λ_ _ _ _ _ _ _ hc q=>mul_int q hc.ok
theorem zkh:eG X (binaryOp .FloorDiv) (rI wX λi j=>.int (i/j)):=MP λi j _ _ _ _ _ hc q=>by
 let h1:(0:Int)<j:=hc.1;let h2:j<1073741824:=hc.2;show floordiv_int gV (by rw[Int.fdiv_eq_ediv_of_nonneg i gV];show q) (.inl (PyProof.noPylong_small gV))
theorem zmc:eG X (binaryOp .Mod) (rI (λ_ j=>0<j) λi j=>.int (i%j)):=MP λi j _ _ _ _ _ hc q=>by
 let h1:(0:Int)<j:=hc;show mod_int' gV (by rw[Int.fmod_eq_emod_of_nonneg i gV];show q)
theorem zmL:eG X (binaryOp .Pow) (rI H_ λi j=>.int (i^j.toNat)):=MP λ_ _ _ _ _ _ _ hc q=>pow_int_small hc.1 hc.2.1 hc.2.2 q
def unI{f:Value->Sem Value}{g:Int->Int}
  (rule:∀(i:Int) (t:Tok) (s:Shared) (Q:Value->Shared->Prop) (E:Value->Shared->Prop),Q (.int (g i) s.toks) {s with toks:=s.toks+1}->wpAny (model X.prog X.w) X.A (f (.int i t)) Q E s) :
  MK X f (rU λi=>.int (g i)):=by
 intro ao s Z H x v Q I rx h;let⟨i,rfl,q⟩:=h;let⟨t,rfl⟩:=rx;show rule i t s _ _ ⟨.int (g i),H,I.tok _,⟨_,rfl⟩,q⟩
theorem Xf:MK X (unaryOp .USub) (rU λi=>.int (-i)):=unI λ_ _ _ _ _ q=>neg_int q
end
section
variable {X:Cx}{a b c:Expr}{ta tb tc:TE}{pos:Pos}
theorem Ia:eG X (compareOp .Lt) (pO λi j=>.bl (decide (i<j))):=wW λ_ _ _ _ _ _ _ q=>lt_int q
theorem znW:eG X (compareOp .LtE) (pO λi j=>.bl (decide (i<=j))):=wW λ_ _ _ _ _ _ _ q=>le_int q
theorem zos:eG X (compareOp .Gt) (pO λi j=>.bl (decide (j<i))):=wW λ_ _ _ _ _ _ _ q=>gt_int q
theorem zoE:eG X (compareOp .GtE) (pO λi j=>.bl (decide (j<=i))):=wW λ_ _ _ _ _ _ _ q=>ge_int q
def eG.or{f:Value->Value->Sem Value}{r r':R2}(h:eG X f r)(h':eG X f r'):eG X f (λx y H Q=>r x y H Q\/r' x y H Q):=by
 intro ao s Z H x y v u Q I rx ry q;rcases q with q|q
 .exact h ao s Z H x y v u Q I rx ry q
 .exact h' ao s Z H x y v u Q I rx ry q
def zj3{op:CmpOp}{r:R2}(ho:eG X (compareOp op) r)(ha:PE X a ta)(hb:PE X b tb)(hm:behindInMarks op b=false):PE X (.Compare a [op] [b] pos) (MN r ta tb):=by
 intro ao s Z H Q I h;show wpAny_Compare1 (Bl ha hb I h λv u s2 x y H2 I2 rx ry q=>ho ao s2 Z H2 x y v u Q I2 rx ry q) hm
def Ib(t:TE):TT:=λZ H Q=>t Z H λx H'=>∃k,x=.bl k/\Q k H'
def ziW{op:CmpOp}{r:R2}(ho:eG X (compareOp op) r)(ha:PE X a ta)(hb:PE X b tb)(hm:behindInMarks op b=false):PT X (.Compare a [op] [b] pos) (Ib (MN r ta tb)):=by
 intro ao s Z H Q I h;show wpAny_isTrue_Compare1 (aO (ha ao s Z H _ I h) λv s1 hx=>eF hx λx H1 I1 r1 q1=>aO (hb ao s1 Z H1 _ I1 q1) λu s2 hx=>eF hx λy H2 I2 r2 q2=>
  aO (ho ao s2 Z H2 x y v u _ I2 r1 r2 q2) λc s3 hx=>Qc hx λz H3 I3 r3 k e q3=>?_) hm
 subst e;cases r3;show vC ⟨H3,I3,q3⟩
def Bp(r r':R2)(ta tb tc:TE):TE:=λZ H Q=>ta Z H λx H1=>tb Z H1 λy H2=>r x y H2 λz H3=>∃k,z=.bl k /\
 (if k=true then tc Z H3 λw' H4=>r' y w' H4 Q else Q (.bl false) H3)
def zhK{op op':CmpOp}{r r':R2}(ho:eG X (compareOp op) r)(pC:eG X (compareOp op') r')(ha:PE X a ta)(hb:PE X b tb)(hc:PE X c tc)
  (hm:lastMarks [op,op'] [b,c]=false:=by with_unfolding_all rfl):PE X (.Compare a [op,op'] [b,c] pos) (Bp r r' ta tb tc):=by
 intro ao s Z H Q I h;show Compare_chain (aO (ha ao s Z H _ I h) λv s1 hx=>eF hx λx H1 I1 r1 q1=>chain_link (aO (hb ao s1 Z H1 _ I1 q1) λu s2 hx=>eF hx λy H2 I2 r2 q2=>
  aO (ho ao s2 Z H2 x y v u _ I2 r1 r2 q2) λd s3 hx=>Qc hx λz H3 I3 r3 k e q3=>?_)) hm
 subst e;cases r3;show vC ?_;cases k with
 |false=>show ite_ff ⟨.bl false,H3,I3,rfl,q3⟩|true=>show ite_tt (chain_last (aO (hc ao s3 Z H3 _ I3 q3) λw' s4 hx=>eF hx λz' H4 I4 r4 q4=>pC ao s4 Z H4 y z' u w' Q I4 r2 r4 q4))
def Bq(K:W.Frag)(x:V)(H:Hp)(k:Bool):Prop:=
 match x with
 |.non=>k=false|.bl b=>k=b|.int i=>k=(i != 0)|.str y=>y.length<=sizeLine/\k=((y.length:Int) != 0)|.Az y=>y.size<=sizeLine/\k=((y.size:Int) != 0)|.ref p=>(∃xs,cP K H p xs/\k = !xs.isEmpty)\/(∃xs,gD K H p xs/\k = !xs.isEmpty)\/∃kvs,H p=some (.dK kvs)/\k = !kvs.isEmpty|_=>False
def zeY{κ:Type}{kvs:List (κ×V)}{vs:List (κ×Value)}(r:KV kvs vs):(!vs.isEmpty) = !kvs.isEmpty:=by
 cases r<;>rfl
def Xg{xs:List V}{its:List Value}(r:Vals xs its):(!its.toArray.isEmpty) = !xs.isEmpty:=by
 cases r<;>simp
def iV:(sizeLine:Nat)<2^63:=by rw[vH];decide
def zkW:QC X (λx H Q=>∃k,Bq X.K x H k/\Q k H):=by
 intro ao s Z H x v Q I rx h;let⟨k,e,q⟩:=h;let hl:=iV;let hs:sizeLine=16777216:=vH;cases x with
 |non=>
  cases rx;let e':k=false:=e;subst e';show truthy_none ⟨H,I,q⟩
 |bl b=>
  cases rx;let e':k=b:=e;subst e';show vC ⟨H,I,q⟩
 |int i=>
  let⟨t,rfl⟩:=rx;let e':k=(i != 0):=e;subst e';show PySem.P.truthy_int ⟨H,I,q⟩
 |str y=>
  let⟨t,rfl⟩:=rx;obtain⟨hy,e'⟩ : y.length<=sizeLine/\k=((y.length:Int) != 0):=e;subst e';show PySem.P.truthy_str gV ⟨H,I.tok _,q⟩
 |Az y=>
  let⟨t,rfl⟩:=rx;obtain⟨hy,e'⟩ : y.size<=sizeLine/\k=((y.size:Int) != 0):=e;subst e';show PySem.W.truthy_bytes gV ⟨H,I.tok _,q⟩
 |ref p=>
  cases rx;let e':(∃xs,cP X.K H p xs/\k = !xs.isEmpty)\/(∃xs,gD X.K H p xs/\k = !xs.isEmpty)\/∃kvs,H p=some (.dK kvs)/\k = !kvs.isEmpty:=e;rcases e' with ⟨xs,hx,e'⟩|⟨xs,hx,e'⟩|⟨kvs,hx,e'⟩
  .subst e';let⟨its,r,pl,hz⟩:=I.list hx;let hlen:=r.length;show wpAny_truthy_list pl.isList (by simp only[eE];lia) ⟨H,I.tok _,by rw[Xg r];show q⟩
  .subst e';let⟨its,r,pl,hz⟩:=I.tuple hx;let hlen:=r.length;show truthy_tuple pl (by simp only[eE];lia) ⟨H,I.tok _,by rw[Xg r];show q⟩
  .subst e';obtain⟨hz,hS,vs,r,m⟩ : kvs.length<=sizeLine/\(p==sysModules)=false/\∃vs,KV kvs vs/\s.heap.DictOf (mJ X.prog X.w) p vs:=I.hok p _ hx;let hlen:kvs.length=vs.length:=Paired.length r;show wpAny_truthy_dict hS m gV ⟨H,I.tok _,by rw[zeY r];show q⟩
 |_=>show(show False from e).elim
def ze8:eG X (binaryOp .Add) (λx y H Q=>∃i j,x=.str i/\y=.str j/\i.length+j.length<=sizeLine/\Q (.str (i++j)) H):=by
 intro ao s Z H x y v u Q I rx ry h;let⟨i,j,rfl,rfl,hz,q⟩:=h;let⟨t,rfl⟩:=rx;let⟨t',rfl⟩:=ry;show add_str (λt' tk=>⟨.str (i++j),H,I.tok _,⟨_,rfl⟩,q⟩) hz
def vals1{x:V}{us:List Value}(r:Vals [x] us):∃u,us=[u]/\RelV x u:=by
 cases r with
 |cons r1 r2=>cases r2;show⟨_,rfl,r1⟩
def vals2{x y:V}{us:List Value}(r:Vals [x,y] us):∃u w',us=[u,w']/\RelV x u/\RelV y w':=by
 cases r with
 |cons r1 r2=>
  cases r2 with
  |cons r3 r4=>cases r4;show⟨_,_,rfl,r1,r3⟩
def zhZ:cT X (.builtin "abs") (λxs H Q=>∃i,xs=[.int i]/\Q (.int (if i<0 then -i else i)) H):=by
 intro ao s Z H xs us Q I r h;let⟨i,rfl,q⟩:=h;let⟨u,rfl,t,rfl⟩:=vals1 r;show call_abs_int λu tk=>⟨.int (if i<0 then -i else i),H,I.tok _,⟨_,rfl⟩,q⟩
def zgr(hc:X.aj=true):cT X (.builtin "max") (λxs H Q=>∃i j,xs=[.int i,.int j]/\Q (.int (if j>i then j else i)) H):=by
 intro ao s Z H xs us Q I r h;let⟨i,j,rfl,q⟩:=h;let⟨u,w',rfl,⟨t,rfl⟩,⟨t',rfl⟩⟩:=vals2 r;show max_two_ints (I.ok.hd hc) λh' tk k=>⟨_,H,I.kept k,?_,q⟩;by_cases hj:j>i
 .rw[if_pos hj,if_pos hj];show⟨_,rfl⟩
 .rw[if_neg hj,if_neg hj];show⟨_,rfl⟩
def zgF(hc:X.aj=true):cT X (.builtin "min") (λxs H Q=>∃i j,xs=[.int i,.int j]/\Q (.int (if j<i then j else i)) H):=by
 intro ao s Z H xs us Q I r h;let⟨i,j,rfl,q⟩:=h;let⟨u,w',rfl,⟨t,rfl⟩,⟨t',rfl⟩⟩:=vals2 r;show min_two_ints (I.ok.hd hc) λh' tk k=>⟨_,H,I.kept k,?_,q⟩;by_cases hj:j<i
 .rw[if_pos hj,if_pos hj];show⟨_,rfl⟩
 .rw[if_neg hj,if_neg hj];show⟨_,rfl⟩
def zgO:cT X (.type "int") (λxs H Q=>(∃i,xs=[.int i]/\Q (.int i) H)\/∃k,xs=[.bl k]/\Q (.int (if k then 1 else 0)) H):=by
 intro ao s Z H xs us Q I r h;rcases h with ⟨i,rfl,q⟩|⟨k,rfl,q⟩
 .obtain⟨u,rfl,t,rfl⟩:=vals1 r;show call_int_int ⟨.int i,H,I,⟨_,rfl⟩,q⟩
 .obtain⟨u,rfl,r1⟩:=vals1 r;cases r1;show call_int_bool ⟨.int (if k then 1 else 0),H,I.tok _,⟨_,rfl⟩,q⟩
def zdL:cT X (.builtin "divmod") (λxs H Q=>∃i j,xs=[.int i,.int j]/\wX i j/\∀p,H p=none->Q (.ref p) (upd H p (.tup [.int (i/j),.int (i%j)]))):=by
 intro ao s Z H xs us Q I r h;let⟨i,j,rfl,⟨h1,h2⟩,q⟩:=h;let⟨u,w',rfl,⟨t,rfl⟩,⟨t',rfl⟩⟩:=vals2 r;show divmod_int gV ?_ (.inl (PyProof.noPylong_small gV));rw[Int.fdiv_eq_ediv_of_nonneg i gV,Int.fmod_eq_emod_of_nonneg i gV];let hn:H s.heap.objs.size=none:=I.hok.fresh (bU _);show⟨.ref s.heap.objs.size,_,?_,rfl,q _ hn⟩;show I.laid (λb o e=>bW _ e) (bU _) ⟨by simp only[gw,Ej];rw[vH];decide,[.int (i/j) s.toks,.int (i%j) (s.toks+1)],.cons ⟨_,rfl⟩ (.cons ⟨_,rfl⟩ .nil),?_⟩;show⟨_,dU s.heap rfl,rfl,0,rfl⟩
end
structure pP(h:Heap)(x dx C:Addr)(mA:Str->Option Value):Prop where
 obj:h.get? x=some (PySem.W.instObj C dx)
 ns:h.Ns1 dx mA
 ne:dx≠x
def zfV{h:Heap}{dx:Addr}{mA:Str->Option Value}(n:h.Ns1 dx mA):∃od,h.get? dx=some od/\∀name,PySem.W.lookIn name od=some (mA name):=by
 let⟨o,es,ep,ho,hd,hk,_,hm⟩:=n;show⟨o,ho,λname=>?_⟩;let e:=hm name;unfold nsFind findBy at e;rw[<-Array.find?_toList]at e;unfold PySem.W.lookIn;rw[hd];dsimp only
 split
 .rename_i y q;rw[q]at e;show lB some e
 .rename_i q;rw[q]at e;let a:es.toList.any (·.refKey)=false:=by
   rw[List.any_eq_false];intro y hy;let⟨z,t,QD⟩:=hk y (Array.mem_toList_iff.mp hy);simp[DictEntry.refKey,QD]
  let a':¬es.toList.any (·.refKey)=true:=by rw[a];show Gs
  rw[if_neg a'];show lB some e
theorem pP.look{h:Heap}{x dx C:Addr}{mA:Str->Option Value}(I:pP h x dx C mA):∃od,PySem.W.InstAt h x (PySem.W.instObj C dx) C (some od)/\∀name,PySem.W.lookIn name od=some (mA name):=
 let ⟨od,ho,hl⟩:=zfV I.ns
 ⟨od,⟨I.obj,rfl,rfl,ho⟩,hl⟩
section
variable {prog:Program}{w:World}{A:Around}{E:Value->Shared->Prop}{s:Shared}{K:W.Frag}{x dx C f:Addr}{mA:Str->Option Value}{name:Str}{v:Value}
def zi6{expr:Bool}{Q:Value->Shared->Prop}(X:K.In s.heap)(I:pP s.heap x dx C mA)(hg:PySem.W.plainGet K C name=true)(hh:PySem.W.hasDictIn K C=true)
  (ha:PySem.W.findIn K (.ref C) name=some none) (hv:mA name=some v) (QF:PySem.W.handedIn v=true) (h:Q v {s with toks:=s.toks+1}) :
  wpAny (model prog w) A (getAttr (.ref x) name expr) Q E s:=by
 let⟨od,aW,hl⟩:=I.look;show PySem.W.get_value X aW (PL hg).1 (PySem.W.findObj_own hh ha rfl (by rw[hl,hv])) QF h
def zhV{pl:Sem Bool}{Q:Value×List Value->Shared->Prop}(X:K.In s.heap)(I:pP s.heap x dx C mA)(hg:PySem.W.plainGet K C name=true)
  (hf:PySem.W.findIn K (.ref C) name=some (some (.ref f))) (ht:PySem.W.isFn K (.ref f)=true) (hv:mA name=none) (h:Q (.ref f,[.ref x]) s) :
  wpAny (model prog w) A (getMethod (.ref x) name pl) Q E s:=by
 let⟨od,aW,hl⟩:=I.look;show PySem.W.method_fn X aW (PL hg).1 (PL hg).2 hf (nM.mp ht) (by change (PySem.W.lookIn name od).map (·.isSome)=some false;rw[hl,hv];rfl) h
def zjm{ns:List Str}{Q:Unit->Shared->Prop}(X:K.In s.heap)(I:pP s.heap x dx C mA)
  (hs:PySem.W.findIn K (.ref C) "__setattr__"=some (some (.builtin "object.__setattr__"))) (hp:PySem.W.plainOver K C=true) (ht:PySem.W.takerIn K C name=some none) (hh:PySem.W.hasDictIn K C=true)
  (hw:PySem.Within mA ns) (hsz:ns.length<=sizeLine)
  (h:∀h',pP h' x dx C (λy=>if y=name then some v else mA y)->Heap.SameBut dx s.heap h'->Q () {s with heap:=h',toks:=s.toks+2}) :
  wpAny (model prog w) A (setAttr (.ref x) name v) Q E s:=by
 let⟨od,aW,hl⟩:=I.look;show PySem.W.set_plain X aW hs (PySem.W.osa_open (s:={s with toks:=s.toks+1}) (r:=none) X aW hp ht λb=>?_);let⟨cd,hc,wR⟩:=PySem.W.any_some hh;let hx:s.heap.get? x=some ⟨.ref C,some dx,.plain,#[]⟩:=I.obj;show aB (aJ (aB (aB (wpAny_loadPart hx (aB (PySem.W.Looks.here (s:={s with toks:=s.toks+1}) (PySem.W.looks_clsIn X hc) ?_))))));rw[wR];show aJ (a:=some dx) (aB (aJ (aB ?_)));show wpAny_nsSet1 (s:={s with toks:=s.toks+1}) I.ns λh' M4 zm=>?_;let⟨oD,esD,epD,hoD,hdD,hcD⟩:=M4.count (PySem.Within.cons name v hw);show aB (wpAny_lookBehind hoD (by rw[hdD];show pastItsLine_dict (jO hcD (by rw[gw];lia))) ?_);show aJ (h _ ⟨(zm.2 _ (Ne.symm I.ne)).trans I.obj,M4,I.ne⟩ zm)
def zhX{R:Result->Shared->Prop}{vs:List Value}{kw:List (Str×Value)}(X:K.In s.heap)(hm:PySem.W.makesIn K C=true)
  (hi:PySem.W.findIn K (.ref C) "__init__"=some (some (.ref f))) (hf:PySem.W.typeIn K (.ref f)=some (.type "function"))
  (h:codeAny (model prog w) (A.under (.builtin "type.__call__" ⟨.ref C::vs,kw⟩)) (.call (.ref f) ⟨.ref (s.heap.objs.size+1)::vs,kw⟩) (PySem.W.InitBack (s.heap.objs.size+1) R)
   {s with heap:=(s.heap.push PySem.W.emptyDict).push (PySem.W.instObj C s.heap.objs.size)}) :
  codeAny (model prog w) A (.call (.ref C) ⟨vs,kw⟩) R s:=by
 let⟨hh,g,d,t,os⟩:=s;show PySem.W.make_core (PySem.W.makes_of X hm) (PySem.W.looks_findIn X hi) (λself=>PySem.W.bind_fn X self hf) (.inl rfl) h
end
def fu(f:Str)(v:V):List (Str×V)->List (Str×V)
 |[]=>[(f,v)]|(g,x)::r=>if g=f then (g,v)::r else (g,x)::fu f v r
theorem Xh(f g:Str)(v:V):∀fs:List (Str×V),(fu f v fs).lookup g=if g=f then some v else fs.lookup g
 |[]=>by
  change List.lookup g [(f,v)]=_;by_cases h:g=f
  .let hb:(g==f)=true:=nM.mpr h;simp only[List.lookup,hb,if_pos h]
  .let hb:(g==f)=false:=DW.mpr h;simp only[List.lookup,hb,if_neg h]
 |(k,x)::r=>by
  let ih:=Xh f g v r;rw[show fu f v ((k,x)::r)=(if k=f then (k,v)::r else (k,x)::fu f v r) from rfl];by_cases hk:k=f
  .rw[if_pos hk];by_cases h:g=k
   .let hb:(g==k)=true:=nM.mpr h;simp only[List.lookup,hb,if_pos (h.trans hk)]
   .let hb:(g==k)=false:=DW.mpr h;simp only[List.lookup,hb,if_neg (λe:g=f=>h (e.trans hk.symm))]
  .rw[if_neg hk];by_cases h:g=k
   .let hb:(g==k)=true:=nM.mpr h;simp only[List.lookup,hb,if_neg (λe:g=f=>hk (h.symm.trans e))]
   .let hb:(g==k)=false:=DW.mpr h;simp only[List.lookup,hb];show ih
theorem QG(f:Str)(v:V):∀fs:List (Str×V),f∈(fu f v fs).map (·.1)/\∀g,g∈fs.map (·.1)->g∈(fu f v fs).map (·.1)
 |[]=>⟨by simp[fu],λg h=>by simp at h⟩|(k,x)::r=>by
  let⟨i1,i2⟩:=QG f v r;rw[show fu f v ((k,x)::r)=(if k=f then (k,v)::r else (k,x)::fu f v r) from rfl];by_cases hk:k=f
  .rw[if_pos hk];subst hk;show⟨by simp,λg h=>by simpa using h⟩
  .rw[if_neg hk];show⟨?_,λg h=>?_⟩
   .rw[iH];show g_ _ i1
   .rw[iH]at h ⊢;rcases iG.mp h with e|e
    .exact iG.mpr (.inl e)
    .exact g_ _ (i2 g e)
theorem Xi(f:Str)(v:V):∀fs:List (Str×V),(fu f v fs).length<=fs.length+1
 |[]=>by simp[fu]|(k,x)::r=>by
  let ih:=Xi f v r;rw[show fu f v ((k,x)::r)=(if k=f then (k,v)::r else (k,x)::fu f v r) from rfl];by_cases hk:k=f
  .rw[if_pos hk,gw,gw];lia
  .rw[if_neg hk,gw,gw];lia
def Kaf{v:V}{o:Option Value}(r:rO (some v) o):∃u,o=some u/\RelV v u:=by
 cases o with
 |none=>show(show False from r).elim|some u=>show⟨u,rfl,r⟩
def Kae{o:Option Value}(r:rO none o):o=none:=by
 cases o with
 |none=>rfl|some u=>show(show False from r).elim
def zfn{v:V}{u:Value}(r:RelV v u):PySem.W.handedIn u=true:=by
 cases v with
 |non=>cases (show u=Value.none from r);rfl|bl b=>cases (show u=Value.bool b from r);rfl|int i=>let⟨t,e⟩:=(show ∃t,u=Value.int i t from r);cases e;rfl|str x=>let⟨t,e⟩:=(show ∃t,u=Value.str x t from r);cases e;rfl|Az b=>let⟨t,e⟩:=(show ∃t,u=Value.bytes b t from r);cases e;rfl|flt b=>let⟨t,e⟩:=(show ∃t,u=Value.float b t from r);cases e;rfl|ref a=>cases (show u=Value.ref a from r);rfl|ty n=>cases (show u=Value.type n from r);rfl
section
variable {P:Program}{w:World}{H H':Hp}{h h':Heap}{a C dx:Addr}{fs fs':List (Str×V)}
def QJ(hok:iI P w H h)(e:H a=some (.ins C dx fs)):∃mA,pP h a dx C mA/\(∀f,rO (fs.lookup f) (mA f))/\PySem.Within mA (fs.map (·.1))/\fs.length<=1000/\H dx=some (.own a):=by
 let⟨d,z,ne,ob,mA,n,r,q⟩:=(show bC P w H h a (.ins C dx fs) from hok a _ e);show⟨mA,⟨ob,n,ne⟩,r,q,z,d⟩
end
structure Cls(K:W.Frag)(C:Addr):Prop where
 pg:PySem.W.plainGet K C Str.empty=true
 hd:PySem.W.hasDictIn K C=true
 po:PySem.W.plainOver K C=true
 sa:PySem.W.findIn K (.ref C) "__setattr__"=some (some (.builtin "object.__setattr__"))
theorem Cls.get{K:W.Frag}{C:Addr}(c:Cls K C)(f:Str):PySem.W.plainGet K C f=true:=c.pg
def gQ(K:W.Frag)(C:Addr)(f:Str):Prop:=PySem.W.findIn K (.ref C) f=some none
def gQ.taker{K:W.Frag}{C:Addr}{f:Str}(n:gQ K C f):PySem.W.takerIn K C f=some none:=by
 unfold PySem.W.takerIn;rw[show PySem.W.findIn K (.ref C) f=some none from n];rfl
structure Meth(K:W.Frag)(C:Addr)(m:Str)(f:Addr):Prop where
 at_:PySem.W.findIn K (.ref C) m=some (some (.ref f))
 fn:PySem.W.isFn K (.ref f)=true
 kp:PySem.W.keepIn K (.ref f)=true
section
variable {X:Cx}{ao:List (Addr×Obj)}{Z:St}{H:Hp}{s:Shared}{a C dx:Addr}{fs:List (Str×V)}{f:Str}{v:V}{A:Around}{E:Value->Shared->Prop}
def ze9{b:Bool}{Q:Value->Shared->Prop}(I:Inv X ao Z H s)(e:H a=some (.ins C dx fs))(c:Cls X.K C)(n:gQ X.K C f)(l:fs.lookup f=some v)
  (h:∀u s',Inv X ao Z H s'->RelV v u->Q u s'):wpAny (model X.prog X.w) A (getAttr (.ref a) f b) Q E s:=by
 let⟨mA,O,r,_,_,_⟩:=QJ I.hok e;let⟨u,hu,ru⟩:=Kaf (v:=v) (o:=mA f) (by rw[<-l];show r f);show zi6 I.lR O (c.get f) c.hd n hu (zfn ru) (h u _ (I.tok _) ru)
def zeP{m:Str}{g:Addr}{pl:Sem Bool}{Q:Value×List Value->Shared->Prop}(I:Inv X ao Z H s)(e:H a=some (.ins C dx fs))(c:Cls X.K C)(k:Meth X.K C m g)(l:fs.lookup m=none)
  (h:Q (.ref g,[.ref a]) s):wpAny (model X.prog X.w) A (getMethod (.ref a) m pl) Q E s:=by
 let⟨mA,O,r,_,_,_⟩:=QJ I.hok e;let hn:mA m=none:=Kae (by rw[<-l];show r m);show zhV I.lR O (c.get m) k.at_ k.fn hn h
def ze7{y:V}{u:Value}{Q:Unit->Shared->Prop}(I:Inv X ao Z H s)(e:H a=some (.ins C dx fs))(c:Cls X.K C)(n:gQ X.K C f)(hl:fs.length<1000)(ry:RelV y u)
  (h:∀s',Inv X ao Z (upd H a (.ins C dx (fu f y fs))) s'->Q () s'):wpAny (model X.prog X.w) A (setAttr (.ref a) f u) Q E s:=by
 let⟨mA,O,r,wi,_,ho⟩:=QJ I.hok e;let hz:(fs.map (·.1)).length<=sizeLine:=by rw[cO,vH];lia
 show zjm I.lR O c.sa c.po n.taker c.hd wi hz λh' O' sb=>h _ ?_;let hd:∃o,h'.get? dx=some o:=let ⟨o,_,_,e',_⟩:=O'.ns;⟨o,e'⟩;show I.write (x:=a) (e:=dx) (by rw[e];show True.intro) (.inr ho) (λb q hb z=>(sb.2 b hb).trans z) hd ?_;show⟨by rw[bN O.ne];show ho,?_,O.ne,O'.obj,_,O'.ns,λg=>?_,λg hg=>?_⟩
 .let:=Xi f y fs;lia
 .show rO ((fu f y fs).lookup g) (if g=f then some u else mA g);rw[Xh];by_cases q:g=f
  .rw[if_pos q,if_pos q];show ry
  .rw[if_neg q,if_neg q];show r g
 .by_cases q:g=f
  .rw[q];show(QG f y fs).1
  .refine(QG f y fs).2 g (wi g λz=>hg ?_);change (if g=f then some u else mA g)=none;rw[if_neg q];show z
def Inv.made(I:Inv X ao Z H s):Inv X ao Z (upd (upd H s.heap.objs.size (.own (s.heap.objs.size+1))) (s.heap.objs.size+1) (.ins C s.heap.objs.size []))
  {s with heap:=(s.heap.push PySem.W.emptyDict).push (PySem.W.instObj C s.heap.objs.size)}:=by
 let e1:(s.heap.push PySem.W.emptyDict).get? s.heap.objs.size=some PySem.W.emptyDict:=dU s.heap rfl;let e2:((s.heap.push PySem.W.emptyDict).push (PySem.W.instObj C s.heap.objs.size)).get? (s.heap.objs.size+1)=some (PySem.W.instObj C s.heap.objs.size):=by
  let:=dU (s.heap.push PySem.W.emptyDict) (o:=PySem.W.instObj C s.heap.objs.size) rfl
  rwa [vD]at this
 let e3:(s.heap.push PySem.W.emptyDict).Ns s.heap.objs.size (λ_=>none):=⟨PySem.W.emptyDict,#[],_,e1,rfl,(λe he=>absurd he RQ),λ_=>rfl⟩;let I1:=I.laid (a:=s.heap.objs.size) (o:=.own (s.heap.objs.size+1)) (h':=s.heap.push PySem.W.emptyDict) (t':=s.toks) (λb u q=>bW _ q) (bU _) ⟨_,e1⟩;show I1.laid (a:=s.heap.objs.size+1) (o:=.ins C s.heap.objs.size []) (t':=s.toks) (λb u q=>bW _ q) (Nat.le_of_eq (vD _ _)) ?_;let ne:s.heap.objs.size≠s.heap.objs.size+1:=cR (Gy _);show⟨by rw[bN ne,h_],rM _,ne,e2,λ_=>none,(Heap.Ns1.of_empty e3).at λo q=>bW _ q,λ_=>True.intro,λy hy=>absurd rfl hy⟩
theorem zi8{prog:Program}{w:World}{env:Env}{e:Expr}{f:Str}{pos:Pos}{s:Shared}{Q:Value->Shared->Prop}(hb:attributeBase e f env (eval e env)=eval e env)
  (h:wpAny (model prog w) A (eval e env) (λo s₁=>wpAny (model prog w) A (getAttr o f true) Q E s₁) E s):wpAny (model prog w) A (eval (.Attribute e f pos) env) Q E s:=
 Attribute_any_ h (by rw[arm_eval_Attribute,hb])
end
def QK(K:W.Frag)(ta:TE)(f:Str):TE:=λZ H Q=>ta Z H λx H1=>∃a C dx fs v,x=.ref a/\H1 a=some (.ins C dx fs)/\Cls K C/\gQ K C f/\fs.lookup f=some v/\Q v H1
def QL(K:W.Frag)(ta tv:TE)(f:Str):TS:=λD Z H=>tv Z H λy H1=>ta Z H1 λx H2=>∃a C dx fs,x=.ref a/\H2 a=some (.ins C dx fs)/\Cls K C/\gQ K C f/\fs.length<1000 /\
 D.nx Z (upd H2 a (.ins C dx (fu f y fs)))
section
variable {X:Cx}{o e value:Expr}{f:Str}{pos pos' tpos:Pos}{ta tv:TE}
def znn(he:PE X e ta)(hb:attributeBase e f X.env (eval e X.env)=eval e X.env):PE X (.Attribute e f pos) (QK X.K ta f):=by
 intro ao s Z H Q I h;show zi8 hb (aO (he ao s Z H _ I h) λu s1 hz=>?_);let⟨x,H1,I1,rx,a,C,dx,fs,v,ex,ea,c,n,l,q⟩:=hz;subst ex;obtain rfl:u=Value.ref a:=rx;show ze9 I1 ea c n l λu' s2 I2 ru=>⟨v,H1,I2,ru,q⟩
def zl2(ha:PE X o ta)(hv:PE X value tv)(hs:swapsWith value (some (.Attribute o f pos')) pos.line X.env=pure false):PS X (.Assign [.Attribute o f pos'] value pos) (QL X.K ta tv f):=by
 intro ao s Z H D I h;show plainObj_wpAny_Assign_Attribute (aO (hv ao s Z H _ I h) λu s1 hx=>eF hx λy H1 I1 ry q=>aO (ha ao s1 Z H1 _ I1 q) λov s2 hz=>?_) hs;let⟨x,H2,I2,rx,a,C,dx,fs,ex,ea,c,n,l,q2⟩:=hz;subst ex;obtain rfl:ov=Value.ref a:=rx;show ze7 I2 ea c n l ry λs3 I3=>⟨Z,_,I3,q2⟩
end
structure aX(k:Nat)(A:Around):Prop where
 dp:A.depth+3*k+5<recursionLimit
 un:A.units+16*k+200<cLine
 gd:A.guards=some []
theorem aX.deeper{k:Nat}{A:Around}(r:aX (k+1) A)(env:Env):aX k (A.deeper env):=
 ⟨by let:=r.dp;change A.depth+1+3*k+5<_;lia,by let:=r.un;change A.units+3+16*k+200<_;lia,r.gd⟩
def zeO{A:Around}{C:Addr}{us:List Value}{kw:List (Str×Value)}:(A.under (.builtin "type.__call__" ⟨.ref C::us,kw⟩)).depth=A.depth+1:=by
 first|rfl|simp[Around.under,Code.weight,Code.isCreation,Code.isGuard,Code.isCaller,Code.frames,Code.isFrame,guardIds]
def zeM{A:Around}{C:Addr}{us:List Value}{kw:List (Str×Value)}:(A.under (.builtin "type.__call__" ⟨.ref C::us,kw⟩)).units=A.units+1:=by
 first|rfl|simp[Around.under,Code.cUnits,Code.frames,Code.isFrame]
def aX.depth{k:Nat}{A:Around}(r:aX k A):A.depth<recursionLimit:=by let:=r.dp;lia
def Ie:TA:=λ_ H Q=>Q [] H
def zu(ta:TE)(tr:TA):TA:=λZ H Q=>ta Z H λx H1=>tr Z H1 λxs H2=>Q (x::xs) H2
section
variable {X:Cx}{e:Expr}{es:List Expr}{te:TE}{t:TA}{pos:Pos}
theorem wZ:PA X [] Ie:=λ_ _ _ _ H Q I h=>Calls.spliced_nil ⟨[],H,I,.nil,h⟩
def rP(ha:PE X e te)(hr:PA X es t)(hs:starEach (e::es) X.env=(false,eval e X.env)::starEach es X.env:=by rfl):PA X (e::es) (zu te t):=by
 intro pos ao s Z H Q I h;rw[hs];change wpAny _ _ (spliced ((false,eval e X.env)::backTo pos (starEach es X.env))) _ _ s;show Calls.spliced_cons (aO (ha ao s Z H _ I h) λu s1 hx=>eF hx λx H1 I1 r1 q1=>?_);show aO (hr pos ao s1 Z H1 _ I1 q1) λus s2 hx=>eF hx λxs H2 I2 r2 q2=>⟨x::xs,H2,I2,.cons r1 r2,q2⟩
def QM(t:TA):TE:=λZ H Q=>t Z H λxs H1=>xs.length<=sizeLine/\∀p,H1 p=none->Q (.ref p) (upd H1 p (.tup xs))
def QS(t:TA):TE:=λZ H Q=>t Z H λxs H1=>xs.length<=sizeLine/\∀p,H1 p=none->Q (.ref p) (upd H1 p (.lst xs))
def zlo{x1}(h:PA X es t):PE X (.Tuple es x1 pos) (QM t):=by
 intro ao s Z H Q I hq;show wpAny_Tuple_spliced (aO (h pos ao s Z H _ I hq) λus s1 ⟨xs,H1,I1,r,z,q⟩=>⟨by rw[<-r.length];show z,?_⟩);let hf:H1 s1.heap.objs.size=none:=I1.hok.fresh (bU _);show⟨.ref s1.heap.objs.size,upd H1 s1.heap.objs.size (.tup xs),I1.laid (t':=s1.toks) (λb u e=>bW _ e) (bU _) ?_,rfl,q _ hf⟩;show⟨z,us,r,⟨_,dU _ rfl,rfl,_,rfl⟩⟩
def znc(h:PA X es t):PE X (.List es pos) (QS t):=by
 intro ao s Z H Q I hq;show wpAny_List_spliced (aO (h pos ao s Z H _ I hq) λus s1 ⟨xs,H1,I1,r,z,q⟩=>⟨by rw[<-r.length];show z,?_⟩);let hf:H1 s1.heap.objs.size=none:=I1.hok.fresh (bU _);show⟨.ref s1.heap.objs.size,upd H1 s1.heap.objs.size (.lst xs),I1.laid (t':=s1.toks) (λb u e=>bW _ e) (bU _) ?_,rfl,q _ hf⟩;show⟨z,us,0,r,dU _ rfl⟩
end
noncomputable abbrev Sp:=List V->Hp->VK->XK->Prop
noncomputable abbrev rQ:=List Env->Hp->Shared->XK->Value->Shared->Prop
structure pQ(P:Program)(w:World)(K:W.Frag)(mg:Str->Option Value)(base:Heap)(A:Around)(outer:List Env)(s:Shared)(H:Hp):Prop where
 frames:A.frames=some outer
 mod:Mod K mg base
 bs:∀b o,base.get? b=some o->s.heap.get? b=some o/\H b=none
 wN:base.objs.size<=s.heap.objs.size
 jz:s.heap.FunFrames base outer
 zc:(∀b∈frs outer,H b=none)/\Ba K H
 hok:iI P w H s.heap
 bare:AllBare s.gens
def CE(outer:List Env)(P:Program)(w:World)(H:Hp)(s:Shared)(Q:VK)(u:Value)(s':Shared):Prop:=
 ∃v H',s'.os=s.os/\AllBare s'.gens/\Un (frs outer) [] H H' s.heap s'.heap/\iI P w H' s'.heap/\RelV v u/\Q v H'
def CR(CX:rQ)(outer:List Env)(P:Program)(w:World)(H:Hp)(s:Shared)(Q:VK)(E:XK)(r:Result)(s':Shared):Prop:=
 match r with
 |.ok (.ret u)=>CE outer P w H s Q u s'|.ok _=>False|.error e=>CX outer H s E e s'
structure bZ(P:Program)(w:World)(K:W.Frag)(mg:Str->Option Value)(base:Heap)(CX:rQ)(cm:Bool)(k:Nat)(f:Addr)(fd:FuncData)(ps:List Str)(sp:Sp):Prop where
 len:∀vs H Q E,sp vs H Q E->vs.length=ps.length
 run:∀(A:Around) (outer:List Env) (s:Shared) (H:Hp) (args:Args) (us:List Value) (vs:List V) (Q:VK) (E:XK),(cm=true->A.handled=none)->aX k A->pQ P w K mg base A outer s H->BindsTo s fd args (ps.zip us)->Vals vs us->sp vs H Q E->
  codeAny (model P w) A (.call (.ref f) args) (CR CX outer P w H s Q E) s
theorem bZ.imp{P:Program}{w:World}{K:W.Frag}{mg:Str->Option Value}{base:Heap}{CX:rQ}{cm:Bool}{k:Nat}{f:Addr}{fd:FuncData}{ps:List Str}{sp Xj:Sp}(F:bZ P w K mg base CX cm k f fd ps sp)
  (h:∀vs H Q E,Xj vs H Q E->sp vs H Q E):bZ P w K mg base CX cm k f fd ps Xj:=
 ⟨λvs H Q E q=>F.len vs H Q E (h _ _ _ _ q),λA outer s H args us vs Q E iW hr he hb hv hs=>F.run A outer s H args us vs Q E iW hr he hb hv (h _ _ _ _ hs)⟩
theorem pQ.make{P:Program}{w:World}{K:W.Frag}{mg:Str->Option Value}{base:Heap}{A:Around}{outer:List Env}{s:Shared}{H:Hp}(e:pQ P w K mg base A outer s H)(C:Addr)(us:List Value)(kw:List (Str×Value)) :
  pQ P w K mg base (A.under (.builtin "type.__call__" ⟨.ref C::us,kw⟩)) outer s H:=⟨by first|exact e.frames|(simpa [Around.under,Code.envs,Code.isFrame,pushEnvs] using e.frames),e.mod,e.bs,e.wN,e.jz,e.zc,e.hok,e.bare⟩
section
variable {X:Cx}{ao:List (Addr×Obj)}{Z:St}{H:Hp}{s s':Shared}
theorem Inv.env0(I:Inv X ao Z H s):pQ X.prog X.w X.K X.mg X.base X.A X.stack s H:=
 ⟨I.ok.frames,I.ok.mod,I.bs,jO I.ok.wN I.sz,I.stack,⟨I.mL,I.Bb⟩,I.hok,I.bare⟩
def Inv.after{Q:VK}{u:Value}(I:Inv X ao Z H s)(h:CE X.stack X.prog X.w H s Q u s'):EP X ao Z Q u s':=by
 let⟨v,H',os,bare,un,hok,r,q⟩:=h;let⟨hh,g,d,t,os'⟩:=s';obtain rfl:os'=s.os:=os;show⟨v,H',I.call (h':=hh) (g':=g) (d':=d) (t':=t) (ch:=[]) un hok bare (λb z=>absurd z RQ),r,q⟩
end
def Ig(C:Addr)(m:Str)(sp:Sp)(n6:List V)(E:XK)(ta:TE)(t:TA):TE:=λZ H Q=>ta Z H λx H1=>∃a dx fs,x=.ref a/\H1 a=some (.ins C dx fs)/\fs.lookup m=none /\
 t Z H1 λvs H2=>sp (x::(vs++n6)) H2 Q E
def Ih(C:Addr)(sp:Sp)(n6:List V)(E:XK)(t:TA):TE:=λZ H Q=>t Z H λvs H1=>∀x dx,H1 x=none->H1 dx=none->dx≠x->
 sp (.ref x::(vs++n6)) (upd (upd H1 dx (.own x)) x (.ins C dx [])) (λv H2=>v=.non/\Q (.ref x) H2) E
def Binds(K:W.Frag)(fd:FuncData)(ps:List Str)(ds:List Value):Prop:=
 ∀(s:Shared) (us:List Value),K.In s.heap->(us++ds).length=ps.length->BindsTo s fd ⟨us,[]⟩ (ps.zip (us++ds))
theorem Binds.all{K:W.Frag}{fd:FuncData}{ps:List Str}(h:∀us:List Value,us.length=ps.length->bindArgs fd ⟨us,[]⟩=pure (ps.zip us)):Binds K fd ps []:=λs us _ hl=>by
 rw[yQ]at hl ⊢;show .of_eq (h us hl)
def Passes(CX:rQ)(X:Cx)(E:XK):Prop:=∀(ao:List (Addr×Obj)) (Z:St) (H:Hp) (s:Shared) (e:Value) (s':Shared),Inv X ao Z H s->CX X.stack H s E e s'->X.xe e s'
section
variable {X:Cx}{CX:rQ}{cm:Bool}{k:Nat}{f C:Addr}{fd:FuncData}{ps:List Str}{sp:Sp}{n6:List V}{ds:List Value}{E:XK}{x m:Str}{p pos apos:Pos}{e o:Expr}{es:List Expr}{ta:TE}{t:TA}
def zly{ao:List (Addr×Obj)}{Z:St}{H:Hp}{s:Shared}{Q:VK}{us:List Value}{vs:List V}(F:bZ X.prog X.w X.K X.mg X.base CX cm k f fd ps sp)(iW:cm=true->X.aj=true)(hr:aX k X.A)(hb:Binds X.K fd ps ds)(hd:Vals n6 ds)(hx:Passes CX X E)
  (I:Inv X ao Z H s) (r:Vals vs us) (h:sp (vs++n6) H Q E):wpAny (model X.prog X.w) X.A (call (.ref f) us) (EP X ao Z Q) X.xe s:=by
 let r2:Vals (vs++n6) (us++ds):=r.append hd;let hl:(us++ds).length=ps.length:=by rw[<-r2.length];show F.len _ _ _ _ h
 show Ep (yS (F.run X.A X.stack s H ⟨us,[]⟩ (us++ds) (vs++n6) Q E (λz=>I.ok.hd (iW z)) hr I.env0 (hb s us I.lR hl) r2 h) λr s' hq=>?_);cases r with
 |error e=>show hx ao Z H s e s' I hq|ok fl=>
  cases fl with
  |ret u=>show I.after hq|next=>show False.elim hq|brk=>show False.elim hq|cont=>show False.elim hq
def zjj{pl:Sem Bool}(he:PE X o ta)(c:Cls X.K C)(hm:Meth X.K C m f)(F:bZ X.prog X.w X.K X.mg X.base CX cm k f fd ps sp)(iW:cm=true->X.aj=true)(hr:aX k X.A)(hb:Binds X.K fd ps ds)(hd:Vals n6 ds)(hx:Passes CX X E)(ha:PA X (e::es) t)
  (Bj:starEach (e::es) X.env=(false,eval e X.env)::starEach es X.env:=by rfl) (cQ:(backTo pos (starEach es X.env)).any (·.1)=false:=by rfl)
  (ht:eval (.Call (.Attribute o m apos) (e::es) [] pos) X.env=(do
   let ov <-eval o X.env
   standAt apos.atName
   let (f,first) <-holding [ov] (getMethod ov m pl)
   callWith pos f first (backTo pos (starEach (e::es) X.env)) (backToKw pos (keywordEach [] X.env))):=by rfl) :
  PE X (.Call (.Attribute o m apos) (e::es) [] pos) (Ig C m sp n6 E ta t):=by
 intro ao s Z H Q I h;show PySem.W.methodCall_KW (pl:=pl) (aO (he ao s Z H _ I h) λu s1 hz=>?_) ht;let⟨x,H1,I1,rx,a,dx,fs,ex,ea,l,q⟩:=hz;subst ex;obtain rfl:u=Value.ref a:=rx;show zeP I1 ea c hm l ?_;show PN (first:=[.ref a]) (h₀:=X.base) I.ok.mod.wI hm.kp (aO (ha pos ao s1 Z H1 _ I1 q) λus s2 ⟨vs,H2,I2,r,q2⟩=>⟨I2.lR,?_⟩) Bj cQ;show zly (us:=.ref a::us) (vs:=.ref a::vs) F iW hr hb hd hx I2 (.cons rfl r) q2
structure Mk(K:W.Frag)(C f:Addr):Prop where
 makes:PySem.W.makesIn K C=true
 init:PySem.W.findIn K (.ref C) "__init__"=some (some (.ref f))
 fn:PySem.W.isFn K (.ref f)=true
 kp:PySem.W.keepIn K (.ref C)=true
def zhg{ao:List (Addr×Obj)}{Z:St}{H:Hp}{s:Shared}{Q:VK}{us:List Value}{vs:List V}(M:Mk X.K C f)(F:bZ X.prog X.w X.K X.mg X.base CX cm k f fd ps sp)(iW:cm=true->X.aj=true)(hr:∀us,aX k (X.A.under (.builtin "type.__call__" ⟨.ref C::us,[]⟩)))(hb:Binds X.K fd ps ds)(hd:Vals n6 ds)
  (hx:Passes CX X E) (I:Inv X ao Z H s) (r:Vals vs us)
  (h:∀x dx,H x=none->H dx=none->dx≠x->sp (.ref x::(vs++n6)) (upd (upd H dx (.own x)) x (.ins C dx [])) (λv H2=>v=.non/\Q (.ref x) H2) E) :
  wpAny (model X.prog X.w) X.A (call (.ref C) us) (EP X ao Z Q) X.xe s:=by
 let hq:=h (s.heap.objs.size+1) s.heap.objs.size (I.hok.fresh (wG _)) (I.hok.fresh (bU _)) (cR (Gy _));let I2:=Inv.made (C:=C) I;let r2:Vals (V.ref (s.heap.objs.size+1)::(vs++n6)) (Value.ref (s.heap.objs.size+1)::(us++ds)):=.cons rfl (r.append hd);let hl:(Value.ref (s.heap.objs.size+1)::us++ds).length=ps.length:=by
  let e:=r2.length;rw[F.len _ _ _ _ hq]at e;show e.symm
 show Ep (zhX (f:=f) I.lR M.makes M.init (nM.mp M.fn) (yS (F.run _ X.stack _ _ ⟨Value.ref (s.heap.objs.size+1)::us,[]⟩ (Value.ref (s.heap.objs.size+1)::(us++ds)) _ _ E (λz=>I.ok.hd (iW z)) (hr us)
  (I2.env0.make C us []) (hb _ (Value.ref (s.heap.objs.size+1)::us) I2.lR hl) r2 hq) λr s' Ii=>?_))
 cases r with
 |error e=>show hx ao Z _ _ e s' I2 Ii|ok fl=>
  cases fl with
  |ret u=>
   let⟨v,H',I3,rv,ev,q3⟩:=I2.after Ii;subst ev;show⟨rv,⟨V.ref (s.heap.objs.size+1),H',I3,rfl,q3⟩⟩
  |next=>show False.elim Ii|brk=>show False.elim Ii|cont=>show False.elim Ii
def zj5(M:Mk X.K C f)(F:bZ X.prog X.w X.K X.mg X.base CX cm k f fd ps sp)(iW:cm=true->X.aj=true)(hr:∀us,aX k (X.A.under (.builtin "type.__call__" ⟨.ref C::us,[]⟩)))(hg:Gl X x)(hm:X.mg x=some (.ref C))(hb:Binds X.K fd ps ds)(hd:Vals n6 ds)(hx:Passes CX X E)
  (ha:PA X (e::es) t) (rR:(x==("__debug__" : Str))=false:=by decide) (he:starEach (e::es) X.env=(false,eval e X.env)::starEach es X.env:=by rfl) (cQ:(backTo pos (starEach es X.env)).any (·.1)=false:=by rfl) :
  PE X (.Call (.Name x p) (e::es) [] pos) (Ih C sp n6 E t):=by
 intro ao s Z H Q I h;show Ae (Ql I hg hm ?_ rR);show PN (h₀:=X.base) I.ok.mod.wI M.kp (aO (ha pos ao s Z H _ I h) λus s1 ⟨vs,H1,I1,r,q⟩=>⟨I1.lR,?_⟩) he cQ;show zhg M F iW hr hb hd hx I1 r q
end
structure bR(N P:List Str)(sc:Scope):Prop where
 kind:sc.kind=.function
 co:sc.isCoroutine=false
 gen:sc.isGenerator=false
 nd:N.Nodup
 pre:N.take P.length=P
 par:∀x∈P,sc.names.lookup x=some .local\/sc.names.lookup x=some .cell
 Br:∀y∈sc.names,y.2≠.free
theorem Xk{kindOf:Str->Option NameKind}{x:Str}:∀{binds:List (Str×Value)} {m:Str->Option Value},(∀v,(x,v)∉binds)->bindL kindOf binds m x=m x
 |[],_,_=>rfl|(n,v)::r,m,h=>by
  unfold bindL;rw[Xk λw hw=>h w (g_ _ hw)]
  split
  .let:x≠n:=by rintro rfl;show h v kO
   simp[this]
  .rfl
theorem Xl{kindOf:Str->Option NameKind}{x:Str}:∀{binds:List (Str×Value)} {m:Str->Option Value},(∀v,(x,v)∉binds)->bindC kindOf binds m x=m x
 |[],_,_=>rfl|(n,v)::r,m,h=>by
  unfold bindC;rw[Xl λw hw=>h w (g_ _ hw)]
  split
  .rfl
  .let:x≠n:=by rintro rfl;show h v kO
   simp[this]
theorem Xm{kindOf:Str->Option NameKind}{x:Str}{v:Value}:∀{P:List Str} {vs:List Value} {i:Nat} {m:Str->Option Value},P.Nodup->P[i]?=some x->vs[i]?=some v->kindOf x=some .local->
  bindL kindOf (P.zip vs) m x=some v
 |[],_,_,_,_,h,_,_=>by simp at h|_::_,[],_,_,_,_,h,_=>by simp at h|p::P,w::vs,0,m,nd,h1,h2,hk=>by
  simp at h1 h2;subst h1;subst h2;change bindL kindOf ((p,w)::P.zip vs) m p=_;unfold bindL;rw[Xk λv hv=>(wF.mp nd).1 (List.of_mem_zip hv).1,if_pos hk];simp
 |p::P,w::vs,i+1,m,nd,h1,h2,hk=>by
  change bindL kindOf ((p,w)::P.zip vs) m x=_;unfold bindL;show Xm (i:=i) (wF.mp nd).2 (by simpa using h1) (by simpa using h2) hk
theorem Xn{kindOf:Str->Option NameKind}{x:Str}{v:Value}:∀{P:List Str} {vs:List Value} {i:Nat} {m:Str->Option Value},P.Nodup->P[i]?=some x->vs[i]?=some v->kindOf x≠some .local->
  bindC kindOf (P.zip vs) m x=some v
 |[],_,_,_,_,h,_,_=>by simp at h|_::_,[],_,_,_,_,h,_=>by simp at h|p::P,w::vs,0,m,nd,h1,h2,hk=>by
  simp at h1 h2;subst h1;subst h2;change bindC kindOf ((p,w)::P.zip vs) m p=_;unfold bindC;rw[Xl λv hv=>(wF.mp nd).1 (List.of_mem_zip hv).1,if_neg hk];simp
 |p::P,w::vs,i+1,m,nd,h1,h2,hk=>by
  change bindC kindOf ((p,w)::P.zip vs) m x=_;unfold bindC;show Xn (i:=i) (wF.mp nd).2 (by simpa using h1) (by simpa using h2) hk
def start(N:List Str)(vs:List V):St:=vs.map some++List.replicate (N.length-vs.length) none
def dh(CX:rQ)(P:Program)(w:World)(K:W.Frag)(mg:Str->Option Value)(base:Heap)(N:List Str)(qual:Str)(scope:Scope)(f:Addr)(cd:Value)(A:Around)(outer:List Env)(s:Shared)(H:Hp)(E:XK)(cm:Bool):Cx where
 prog:=P
 w:=w
 K:=K
 mg:=mg
 base:=base
 A:=A.deeper (envOfC qual scope s.heap.objs.size f cd)
 N:=N
 s₀:=s
 H₀:=H
 env:=envOfC qual scope s.heap.objs.size f cd
 outer:=outer
 stack:=envOfC qual scope s.heap.objs.size f cd::outer
 ex:=[]
 aj:=cm
 fn:=λ_=>true
 pn:=[]
 xe:=λe s'=>wpAny (model P w) (A.deeper (envOfC qual scope s.heap.objs.size f cd)) (leaving (envOfC qual scope s.heap.objs.size f cd) e) (λ_ s''=>CX outer H s E e s'') (λe' s''=>CX outer H s E e' s'') s'
def Xo{sc:Scope}{n:Nat}{x:Str}(h:sc.names.lookup x=some .cell):∃c,(cellsFrom n sc.names []).lookup x=some c:=by
 let q:=Lp sc.names n [] (.inl h);show Pg.mp q
def Xp{CX:rQ}{P:Program}{w:World}{K:W.Frag}{mg:Str->Option Value}{base:Heap}{N ps:List Str}{qual:Str}{scope:Scope}{f:Addr}{cd:Value}{A:Around}{outer:List Env}{s s1:Shared}{H:Hp}{E:XK}{us:List Value}{vs:List V}
  {cm:Bool} (S:bR N ps scope) (hd:cm=true->A.handled=none) (e0:pQ P w K mg base A outer s H) (hl:vs.length=ps.length) (r:Vals vs us)
  (x:InCallC s s.heap.objs.size (bindL (envOfC qual scope s.heap.objs.size f cd).kindOf (ps.zip us) λ_=>none) (cellsFrom (s.heap.objs.size+1) scope.names []) (bindC (envOfC qual scope s.heap.objs.size f cd).kindOf (ps.zip us) λ_=>none) s1) :
  Inv (dh CX P w K mg base N qual scope f cd A outer s H E cm) [] (start N vs) H s1:=by
 let cQ:ps.length<=N.length:=by let:=lB List.length S.pre;rw[tH]at this;lia
 let⟨h1,tk,rfl,hk⟩:=x.done;let Ij:∀b:Addr,b∉(dh CX P w K mg base N qual scope f cd A outer s H E cm).ex:=λb z=>absurd (show b∈([]:List Addr) from z) RQ;show⟨⟨e0.mod,S.kind,rfl,rfl,bU _,λy z c h1 h2=>?_,λy hy=>?_,λy c _ h=>?_,hd,Around.frames_deeper e0.frames,.inr ⟨rfl,rfl⟩,λb z=>absurd z (Ij b),e0.bs,e0.wN,λb _ _=>Ij b,λb z=>absurd z (Ij b),e0.jz,e0.zc⟩,
  rfl,e0.bare,Un.kept hk,⟨_,x.toInCall.ns,λi y v h1 h2 h3=>?_⟩,λy c h=>⟨_,x.cell y c h⟩,e0.hok.fresh (bU _),λy c h=>?_,λp hp=>absurd (show p∈([]:List (Addr×Obj)) from hp) RQ,e0.hok.kept hk,?_⟩
 .exact name_of_addr x.apart (DX h1) (DX h2)
 .let hy:scope.names.lookup y=some .cell\/scope.names.lookup y=some .free:=hy;rcases hy with hy|hy
  .exact Xo hy
  .exact absurd rfl (S.Br _ (DX hy))
 .exact rK (x.above y c (DX h))
 .let hi:i<vs.length:=by
   unfold start at h2;by_cases hi:i<vs.length
   .exact hi
   .rw[o8 (by simpa using hi)]at h2;rw[z_]at h2;split at h2<;>cases h2
  let ha:vs[i]?=some v:=by
   unfold start at h2;rw[nJ (by simpa using hi),gq]at h2;cases e:vs[i]? with
   |none=>rw[e]at h2;cases h2|some a=>rw[e]at h2;cases h2;rfl
  let⟨u,hu,rv⟩:=r.get ha;let hp:ps[i]?=some y:=by
   rw[<-S.pre,List.getElem?_take_of_lt gV];show h1
  let Xq:ps.Nodup:=by rw[<-S.pre];show S.nd.sublist (List.take_sublist _ _)
  show⟨u,rv,?_⟩;rcases S.par y (dZ hp) with k|k
  .exact .inl ⟨k,Xm Xq hp hu k⟩
  .obtain⟨c,e⟩:=Xo (n:=s.heap.objs.size+1) k;show .inr ⟨.inl k,c,e,?_⟩;let q:=x.cell y c e;rw[Xn Xq hp hu (by change scope.names.lookup y≠_;rw[k];decide)]at q;show q
 .exact e0.hok.fresh (rK (x.above y c (DX h)))
 .unfold start;change _=N.length;rw[dJ,cO,Gp]
  lia
def QT{CX:rQ}{cm:Bool}{P:Program}{w:World}{K:W.Frag}{mg:Str->Option Value}{base:Heap}{k:Nat}{f:Addr}{name qual:Str}{params:Arguments}{body:List Stmt}{scope:Scope}{dV kV doc pm cdv ct oc:Value}{an od:Option Addr}
  {osl:Array (Option Value)} {N ps:List Str} {sp:Sp} (lk:K.lookup f=some ⟨oc,od,.func (PySem.W.fnOf name qual params body scope dV kV doc pm an cdv ct),osl⟩) (iu:PySem.W.codeIn K cdv qual=true) (S:bR N ps scope)
  (len:∀vs H Q E,sp vs H Q E->vs.length=ps.length)
  (Ik:∀(A:Around) (outer:List Env) (s:Shared) (H:Hp) (vs:List V) (Q:VK) (E:XK),aX (k+1) A->sp vs H Q E->
   ∃t,pN (dh CX P w K mg base N qual scope f cdv A outer s H E cm) body t/\t {nx:=λ_ H'=>Q .non H',rt:=Q} (start N vs) H) :
  bZ P w K mg base CX cm (k+1) f (PySem.W.fnOf name qual params body scope dV kV doc pm an cdv ct) ps sp:=by
 show⟨len,λA outer s H args us vs Q E iW hr e0 hb r M5=>?_⟩;let hl:=len _ _ _ _ M5;let KX:K.In s.heap:=e0.mod.wI.keeps λb o e=>(e0.bs b o e).1;let lim:s.heap.NoLimit:=e0.mod.nolimit.keeps λb o e=>(e0.bs b o e).1;let uq:∀y∈ps.zip us,scope.names.lookup y.1=some .local\/(scope.names.lookup y.1=some .cell/\((cellsFrom (s.heap.objs.size+1) scope.names []).lookup y.1).isSome=true):=λ⟨n,v⟩ hy=>by
  rcases S.par n (List.of_mem_zip hy).1 with q|q
  .exact .inl q
  .exact .inr ⟨q,Lp _ _ _ (.inl q)⟩
 show codeAny_call_function hr.depth (KX _ _ lk) rfl S.co S.gen rfl (PySem.W.codeRec_of KX iu) (hb _ _ _ _ ?_);show wpAny_newFunctionEnv_cells S.kind uq λenv he s1 x=>?_;subst he;show⟨lim.keeps x.toInCall.keep,codeAny_func ?_⟩;let⟨t,ht,hq⟩:=Ik A outer s H vs Q E hr M5;let I:Inv (dh CX P w K mg base N qual scope f cdv A outer s H E cm) [] (start N vs) H s1:=Xp S iW e0 hl r x;show fK (ht [] s1 (start N vs) H _ I hq) (λfl s' hs=>?_) λe s' hs=>hs;let fin:∀{Z':St} {H':Hp} {v:V} {u:Value},Inv (dh CX P w K mg base N qual scope f cdv A outer s H E cm) [] Z' H' s'->RelV v u->Q v H'->CE outer P w H s Q u s':=
  λ{Z' H' v u} aW rv q=>⟨v,H',aW.os,aW.bare,aW.base,aW.hok,rv,q⟩
 cases fl with
 |ret u=>
  let⟨v,Z',H',aW,rv,q⟩:=hs;show fin aW rv q
 |next=>
  let⟨Z',H',aW,q⟩:=hs;show fin (v:=V.non) (u:=Value.none) aW rfl q
 |brk=>
  let⟨_,_,_,q⟩:=hs;show False.elim q
 |cont=>
  let⟨_,_,_,q⟩:=hs;show False.elim q
section
variable {X:Cx}{x:Str}{p pos:Pos}{e:Expr}{es:List Expr}{t:TA}{id T:String}{r:List V->Hp->VK->Prop}
def QV(r:List V->Hp->VK->Prop)(t:TA):TE:=λZ H Q=>t Z H λvs H1=>r vs H1 Q
def Xr(hc:cT X (.builtin id) r)(hg:Gl X x)(hm:X.mg x=none)(hv:bootBuiltins x=some (.builtin id))(ha:PA X (e::es) t)(hn:x≠"__name__":=by decide)(rR:(x==("__debug__" : Str))=false:=by decide)
  (he:starEach (e::es) X.env=(false,eval e X.env)::starEach es X.env:=by rfl) (cQ:(backTo pos (starEach es X.env)).any (·.1)=false:=by rfl):PE X (.Call (.Name x p) (e::es) [] pos) (QV r t):=by
 intro ao s Z H Q I h;show Ae (vM I hg hm hv ?_ hn rR);show PyProof.Rows.callWith_builtin1 (aO (ha pos ao s Z H _ I h) λus s1 hx=>eF hx λvs H1 I1 r1 q1=>hc ao s1 Z H1 vs us Q I1 r1 q1) he cQ
def zfo(hc:cT X (.type T) r)(hg:Gl X x)(hm:X.mg x=none)(hv:bootBuiltins x=some (.type T))(ha:PA X (e::es) t)(hn:x≠"__name__":=by decide)(rR:(x==("__debug__" : Str))=false:=by decide)
  (he:starEach (e::es) X.env=(false,eval e X.env)::starEach es X.env:=by rfl) (cQ:(backTo pos (starEach es X.env)).any (·.1)=false:=by rfl):PE X (.Call (.Name x p) (e::es) [] pos) (QV r t):=by
 intro ao s Z H Q I h;show Ae (vM I hg hm hv ?_ hn rR);show zZ (aO (ha pos ao s Z H _ I h) λus s1 hx=>eF hx λvs H1 I1 r1 q1=>hc ao s1 Z H1 vs us Q I1 r1 q1) he cQ
end
end L2
namespace HT
open PySem PyProof.Rows
def lexLt:List Int->List Int->Bool
 |[],[]=>false|[],_::_=>true|_::_,[]=>false|x::xs,y::ys=>if x=y then lexLt xs ys else decide (x<y)
theorem jU(x y:Int)(xs ys:List Int):lexLt (x::xs) (y::ys)=if x=y then lexLt xs ys else decide (x<y):=rfl
theorem zcm:lexLt [] []=false:=rfl
theorem zb3(y:Int)(ys:List Int):lexLt [] (y::ys)=true:=rfl
theorem zb4(x:Int)(xs:List Int):lexLt (x::xs) []=false:=rfl
theorem zgZ(A:Around)(s:Shared)(a:Int)(t:Tok)(c:Int)(u:Tok):∃e,SeqAt.EqAt A s (.int a t) (.int c u) e/\(e=true↔a=c):=
 ⟨(a==c),SeqAt.EqAt.int_int a t c u,by simp⟩
theorem zhb(A:Around)(s:Shared)(a:Int)(t:Tok)(c:Int)(u:Tok)(prog:Program)(w:World)(E:Value->Shared->Prop)(Q:Value->Shared->Prop)(h:Q (.bool (decide (a<c))) s) :
  wpAny (model prog w) A (richCompare .Lt (.int a t) (.int c u)) Q E s:=
 (PyProof.Rows.lt_int h:wpAny (model prog w) A (compareOp .Lt (.int a t) (.int c u)) Q E s)
section
open PySem.SeqAt
open PySem.AutoSeq1 (wpAny_loadPart')
open PySem.MeetsSeq PySem.MeetsSeq2 PySem.MeetsSeq3
theorem zct(l b:Addr)(items items2:Array Value)(n n2:Nat)(dd dd2:Option Addr)(sl sl2:Array (Option Value))(ns ms:List Int)(hi:IntsAre items.toList ns)(hj:IntsAre items2.toList ms) :
  Meets (Builtin.«tuple.__lt__» ⟨[.ref l,.ref b],[]⟩)
   (λ_ R s=>s.heap.get? l=some {cls:=.type "tuple",dict:=dd,data:=.seq items n,slots:=sl}/\s.heap.get? b=some {cls:=.type "tuple",dict:=dd2,data:=.seq items2 n2,slots:=sl2} /\
    R (.ok (.ret (.bool (lexLt ns ms)))) s):=
 .of_wp λprog w A R s h=>by
  let⟨hp,g,d,tk,os⟩:=s;let⟨hl,hb,h⟩:=h;let f2:=AutoSeq1.sub_tuple_tuple;let z1:items.size=ns.length:=by rw[<-hi.length];simp
  let z2:items2.size=ms.length:=by rw[<-hj.length];simp
  wp_walk using wpAny_loadPart' hl,wpAny_loadPart' hb,wpAny_forIn_list _ (λrest b s'=>b.1=none/\s'=⟨hp,g,d,tk,os⟩/\∃(vs ws:List Value) (ns' Ey:List Int),rest=vs.zip ws /\
   IntsAre vs ns'/\IntsAre ws Ey/\ns'.length+items2.size=Ey.length+items.size/\R (.ok (.ret (.bool (lexLt ns' Ey)))) ⟨hp,g,d,tk,os⟩) _
  case turn=>
   rintro⟨y,x⟩ rest b s' ⟨hb',rfl,vs,ws,ns',Ey,hz,QW,M6,hlen,hR⟩;cases QW with
   |nil=>rw[List.zip_nil_left]at hz;cases hz|cons a t QX=>
    cases M6 with
    |nil=>rw[List.zip_nil_right]at hz;cases hz|cons c u QZ=>
     rw[Gu]at hz;injection hz with hyx Il;injection hyx with hy hx;subst hy hx;rw[jU]at hR;simp only[gw]at hlen;let⟨e,he,ur⟩:=zgZ A.in1 ⟨hp,g,d,tk,os⟩ a t c u;show aB (he prog w _ _ ?_);cases e with
     |true=>
      rw[if_pos (ur.mp rfl)]at hR
      wp_walk
      show⟨rfl,rfl,_,_,_,_,Il,QX,QZ,by lia,hR⟩
     |false=>
      rw[if_neg (λq=>absurd (ur.mpr q) Gs)]at hR;let hri:=zhb A.in1 ⟨hp,g,d,tk,os⟩ a t c u prog w
      wp_walk using hri
      show⟨_,rfl,by simpa using hR⟩
  case fin=>
   rintro⟨b1,b2⟩ s' ⟨hb',rfl,vs,ws,ns',Ey,hz,QW,M6,hlen,hR⟩;simp only at hb';subst hb';let hv:lexLt ns' Ey=decide (items.size<items2.size):=by
    cases QW with
    |nil=>
     cases M6 with
     |nil=>
      simp only[Ej]at hlen;rw[zcm];show(jw gV).symm
     |cons c u hw=>
      simp only[Ej,gw]at hlen;rw[zb3];show(fH gV).symm
    |cons a t hv=>
     cases M6 with
     |nil=>
      simp only[Ej,gw]at hlen;rw[zb4];show(jw gV).symm
     |cons c u hw=>
      rw[Gu]at hz;cases hz
   rw[hv]at hR
   wp_walk
   show⟨_,rfl,by simpa [Builtin.Tuple.tupleCompareSizes] using hR⟩
  case h=>
   show⟨rfl,rfl,items.toList,items2.toList,ns,ms,rfl,hi,hj,by lia,h⟩
end
section
variable {prog:Program}{w:World}{A:Around}{E:Value->Shared->Prop}{s:Shared}
def jV{l b:Addr}{items items2:Array Value}{ns ms:List Int}{Q:Value->Shared->Prop}(hl:IsTup s.heap l items)(hb:IsTup s.heap b items2)(hi:IntsAre items.toList ns)(hj:IntsAre items2.toList ms)
  (hu:A.units<cLine) (h:Q (.bool (lexLt ns ms)) s):wpAny (model prog w) A (compareOp .Lt (.ref l) (.ref b)) Q E s:=by
 let⟨⟨cls,dd,data,sl⟩,ho,hc,n,hd⟩:=id hl;let⟨⟨cls2,dd2,data2,sl2⟩,pR,nG,n2,hd2⟩:=id hb;simp only at hc hd nG hd2;subst hc hd nG hd2;show richCompare_meets_room (op:=.Lt) ⟨_,ho,rfl⟩ ⟨_,pR,rfl⟩ PySem.F.slot_tuple_lt PySem.F.entry_tuple_lt (PySem.F.args_tuple_lt_2 _ _) (zct l b items items2 n n2 dd dd2 sl sl2 ns ms hi hj)
  ⟨ho,pR,show Value.bool (lexLt ns ms)≠Value.notImplemented/\Q (.bool (lexLt ns ms)) s from ⟨(λx=>nomatch x),h⟩⟩ hu
def w6{t b:Addr}{vs ws:List Value}{Q:Value->Shared->Prop}(ht:IsTup s.heap t vs.toArray)(hb:IsTup s.heap b ws.toArray)(hv:vs≠[])
  (h1:ws=[]->Q (.ref t) s) (h2:ws≠[]->Q (.ref s.heap.objs.size) {s with heap:=s.heap.push {cls:=.type "tuple",data:=.seq (vs++ws).toArray}})
  (hsz:vs.length+ws.length<=sizeLine):wpAny (model prog w) A (binaryOp .Add (.ref t) (.ref b)) Q E s:=by
 let⟨⟨cls,dd,data,sl⟩,ho,hc,n,hd⟩:=id ht;let⟨⟨cls2,dd2,data2,sl2⟩,pR,nG,n2,hd2⟩:=id hb;simp only at hc hd nG hd2;subst hc hd nG hd2;let e:vs.toArray++ws.toArray=(vs++ws).toArray:=by simp
 by_cases hw:ws=[]
 .exact concat_meets ⟨_,ho,rfl⟩ ⟨_,pR,rfl⟩ noFill_tuple_add seq_tuple_add Pq Pn (Pj _ _)
   (tuple_addW1 t b vs.toArray ws.toArray n n2 dd dd2 sl sl2 (by simpa using hv) (by simp[hw])) ⟨ho,pR,h1 hw⟩
 .refine concat_meets ⟨_,ho,rfl⟩ ⟨_,pR,rfl⟩ noFill_tuple_add seq_tuple_add Pq Pn (Pj _ _)
   (tuple_addW2 t b vs.toArray ws.toArray n n2 dd dd2 sl sl2 (by simpa using hv) (by simpa using hw) (by rw[eE,eE];show hsz)) ⟨ho,pR,?_⟩
  rw[e];show h2 hw
def bT(n d:Nat):Option Int->Nat
 |none=>d|some v=>if v<0 then (v+(n:Int)).toNat else min v.toNat n
theorem jW(n d:Nat):bT n d none=d:=rfl
def mO(n d k:Nat):bT n d (some (k:Int))=min k n:=by
 change (if (k:Int)<0 then ((k:Int)+(n:Int)).toNat else min (k:Int).toNat n)=min k n;rw[if_neg gV,pq]
def zlD(n d:Nat)(hd:d<=n)(o:Option Int):bT n d o<=n:=by
 cases o with
 |none=>show hd|some v=>
  change (if v<0 then (v+(n:Int)).toNat else min v.toNat n)<=n;by_cases hv:v<0
  .rw[if_pos hv];lia
  .rw[if_neg hv];show Nat.min_le_right _ _
def Xu(v:Int)(n d:Nat):(if v<0 then max (v+(n:Int)) 0 else min v (n:Int))=((bT n d (some v):Nat):Int):=by
 change (if v<0 then max (v+(n:Int)) 0 else min v (n:Int))=(((if v<0 then (v+(n:Int)).toNat else min v.toNat n):Nat):Int);by_cases hv:v<0
 .simp only[if_pos hv];lia
 .simp only[if_neg hv];lia
def zfa(lo hi:Option Int)(n:Nat):Builtin.Slice.sliceAdjust lo hi 1 (n:Int)=(((bT n 0 lo:Nat):Int),((bT n n hi:Nat):Int)):=by
 let h1:¬((1:Int)<0):=by lia
 unfold Builtin.Slice.sliceAdjust;simp only[h1,nO];show Prod.ext ?_ ?_
 .cases lo with
  |none=>rfl|some v=>show Xu v n 0
 .cases hi with
  |none=>rfl|some v=>show Xu v n n
def zfk(i j:Nat):Builtin.Slice.slicePlaces (i:Int) (j:Int) 1=j-i:=by
 unfold Builtin.Slice.slicePlaces;let h1:(1:Int)>0:=by lia
 simp only[h1,if_true,Int.ediv_one]
 split<;>lia
def Q0{v:Value}{o:Option Int}{Q:Option Int->Shared->Prop}(p:IsPart v o)(h:Q o s):wpAny (model prog w) A (Builtin.Slice.slicePartIndex v) Q E s:=by
 cases p with
 |none=>show slicePart_none h|int i t=>show slicePart_int h
def Xw{sl:Addr}{vl vu:Value}{lo hi:Option Int}{n:Nat}{Q:Int×Int×Nat->Shared->Prop}(hs:s.heap.IsSliceOf sl vl vu .none)(pl:IsPart vl lo)(pu:IsPart vu hi)
  (h:Q (((bT n 0 lo:Nat):Int),1,bT n n hi-bT n 0 lo) s):wpAny (model prog w) A (Builtin.Slice.sliceApplied (.ref sl) (pure (n:Int))) Q E s:=by
 let⟨os,rT,Bs,vO⟩:=id hs;unfold Builtin.Slice.sliceApplied Builtin.Slice.sliceFields;show aB (aB (kW rT vO (x:=vl) rfl (aB (kW rT vO (x:=vu) rfl (aB (kW rT vO (x:=.none) rfl (aJ ?_)))))));show aB (slicePart_none ?_);change wpAny _ _ (if ((1:Int)==0)=true then _ else _) _ _ s;rw[if_neg J0];show aB (Q0 pl (aB (Q0 pu (aB (aJ ?_)))));change wpAny _ _ (match Builtin.Slice.sliceAdjust lo hi 1 (n:Int) with|(lo,hi)=>pure (lo,(1:Int),Builtin.Slice.slicePlaces lo hi 1)) _ _ s;rw[zfa lo hi n];change wpAny _ _ (pure (((bT n 0 lo:Nat):Int),(1:Int),Builtin.Slice.slicePlaces ((bT n 0 lo:Nat):Int) ((bT n n hi:Nat):Int) 1)) _ _ s;rw[zfk];show aJ h
def zhk(xs:Array Value)(i k:Nat):((List.range k).filterMap λ(m:Nat)=>xs[((i:Int)+(m:Int)*1).toNat]?).toArray=((xs.toList.drop i).take k).toArray:=by
 let e:(λ(m:Nat)=>xs[((i:Int)+(m:Int)*1).toNat]?)=λm=>xs[i+m]?:=by
  funext m
  let:((i:Int)+(m:Int)*1).toNat=i+m:=by lia
  rw[this]
 rw[e];let:=pick_run xs i k;rw[List.filterMap_map]at this;let e2:((λx=>xs[x]?)∘λx=>i+x)=λm=>xs[i+m]?:=rfl;rw[e2]at this;rw[this]
def iy{t sl:Addr}{items:Array Value}{vl vu:Value}{lo hi:Option Int}{Q:Value->Shared->Prop}(ht:IsTup s.heap t items)(hs:s.heap.IsSliceOf sl vl vu .none)(pl:IsPart vl lo)(pu:IsPart vu hi)
  (hw:¬(bT items.size 0 lo=0/\bT items.size items.size hi=items.size))
  (h:Q (.ref s.heap.objs.size) {s with heap:=s.heap.push {cls:=.type "tuple",data:=.seq ((items.toList.drop (bT items.size 0 lo)).take (bT items.size items.size hi-bT items.size 0 lo)).toArray}})
  (hsz:items.size<=sizeLine):wpAny (model prog w) A (getItem (.ref t) (.ref sl)) Q E s:=by
 let iz:sizeOk (.seq ((items.toList.drop (bT items.size 0 lo)).take (bT items.size items.size hi-bT items.size 0 lo)).toArray):=by
  change ((items.toList.drop (bT items.size 0 lo)).take (bT items.size items.size hi-bT items.size 0 lo)).toArray.size<=sizeLine;rw[eE,tH,Gz,pH]
  lia
 let hj:bT items.size items.size hi<=items.size:=zlD _ _ (bU _) hi;let⟨os,rT,Bs,vO⟩:=id hs;let Im:s.TypeIs (.ref sl) "slice":=⟨os,rT,Bs⟩;unfold getItem
 try with_reducible show pB ?_
 first|refine aB (aJ ?_)|skip
 show aB (wpAny_sequenceKey ht.typeIs J0 ?_);show aB (yI (name:=Str.ofString "__getitem__") ht.typeIs wB
  (wD wB ht.typeIs entry_tuple_getitem ?_ (args_tuple_getitem _ _)))
 change wpAny _ _ (Builtin.Tuple.tupleItemsOf (.ref t) >>= _) _ _ s;show aB (tupleItemsOf_ ht ?_);show aB (GQ Im ?_);rw[if_pos J0];show aB (Xw hs pl pu ?_);let kY:¬((((bT items.size 0 lo:Nat):Int)==0&&(1:Int)==1&&(bT items.size items.size hi-bT items.size 0 lo)==items.size)=true):=by
  intro q;rw[gA,gA]at q;let q1:((bT items.size 0 lo:Nat):Int)=0:=eq_of_beq q.1.1;let q2:bT items.size items.size hi-bT items.size 0 lo=items.size:=eq_of_beq q.2;show hw ⟨by lia,by lia⟩
 change wpAny _ _ (if (((bT items.size 0 lo:Nat):Int)==0&&(1:Int)==1&&(bT items.size items.size hi-bT items.size 0 lo)==items.size)=true then _ else _) _ _ s;rw[if_neg kY,zhk]
 first
  |exact aB (m:=Builtin.Tuple.tupleExact _) (o_ (aJ ⟨_,rfl,aJ h⟩) iz)
  |exact aB (m:=Builtin.Tuple.tupleExact _) (o_ (aB (aJ (aJ ⟨_,rfl,aJ h⟩))) iz)
  |exact aB (aB (m:=Builtin.Tuple.tupleExact _) (o_ (aJ (aJ ⟨_,rfl,aJ h⟩)) iz))
  |exact aB (aB (m:=Builtin.Tuple.tupleExact _) (o_ (aJ ⟨_,rfl,aJ h⟩) iz))
end
end HT
namespace L2
open PySem PySem.Spec PyProof.Rows
noncomputable abbrev TO:=St->Hp->(Option Int->Hp->Prop)->Prop
def PO(X:Cx)(e:Option Expr)(t:TO):Prop:=
 ∀(ao:List (Addr×Obj)) (s:Shared) (Z:St) (H:Hp) (Q:Option Int->Hp->Prop),Inv X ao Z H s->t Z H Q->
  wpAny (model X.prog X.w) X.A (evalPart e X.env) (λu s'=>∃o H',Inv X ao Z H' s'/\IsPart u o/\Q o H') X.xe s
def xq:TO:=λ_ H Q=>Q none H
def Io(t:TE):TO:=λZ H Q=>t Z H λx H1=>∃i,x=.int i/\Q (some i) H1
def Xx{ns:List Int}:∀{us:List Value},Vals (ns.map V.int) us->IntsAre us ns:=by
 induction ns with
 |nil=>intro us r;rw[List.map_nil]at r;cases r;show .nil|cons n ns ih=>
  intro us r;rw[iH]at r;cases r with
  |cons r1 r2=>
   let⟨t,e⟩:=r1;subst e;show .cons n t (ih r2)
section
variable {X:Cx}{e:Expr}{te:TE}{lo hi:Option Expr}{tl th:TO}{pos p2:Pos}
def zjs:PO X none xq:=by
 intro ao s Z H Q I h;rw[evalPart_none];show aJ ⟨none,H,I,.none,h⟩
def zjL(h:PE X e te):PO X (some e) (Io te):=by
 intro ao s Z H Q I hw;rw[evalPart_some];show aO (h ao s Z H _ I hw) λu s1 hx=>eF hx λx H1 I1 r1 q1=>?_;let⟨i,rfl,q⟩:=q1;let⟨t,rfl⟩:=r1;show⟨some i,H1,I1,.int i t,q⟩
def xr(X:Cx)(r:V->Option Int->Option Int->Hp->VK->Prop):Prop:=
 ∀(ao:List (Addr×Obj)) (s:Shared) (Z:St) (H:Hp) (x:V) (v vl vu:Value) (lo hi:Option Int) (sl:Addr) (Q:VK),Inv X ao Z H s->RelV x v->s.heap.IsSliceOf sl vl vu .none->IsPart vl lo->IsPart vu hi->r x lo hi H Q->
  ∃T id,typeLookup (.type T) "__getitem__"=pure (some (.builtin id))/\s.TypeIs v T/\wpAny (model X.prog X.w) X.A (getItem v (.ref sl)) (EP X ao Z Q) X.xe s
def xr.or{r r':V->Option Int->Option Int->Hp->VK->Prop}(h:xr X r)(h':xr X r'):xr X (λx lo hi H Q=>r x lo hi H Q\/r' x lo hi H Q):=by
 intro ao s Z H x v vl vu lo hi sl Q I rx hs pl pu q;rcases q with q|q
 .exact h ao s Z H x v vl vu lo hi sl Q I rx hs pl pu q
 .exact h' ao s Z H x v vl vu lo hi sl Q I rx hs pl pu q
def tSl(r:V->Option Int->Option Int->Hp->VK->Prop)(te:TE)(tl th:TO):TE:=λZ H Q=>te Z H λx H1=>tl Z H1 λl H2=>th Z H2 λu H3=>r x l u H3 Q
def zho{r:V->Option Int->Option Int->Hp->VK->Prop}(hr:xr X r)(he:PE X e te)(hl:PO X lo tl)(hu:PO X hi th):PE X (.Subscript e (.Slice lo hi none p2) pos) (tSl r te tl th):=by
 intro ao s Z H Q I h;show Subscript_ (aO (he ao s Z H _ I h) λv s1 hx=>eF hx λx H1 I1 r1 q1=>?_);show wpAny_Slice (aO (hl ao s1 Z H1 _ I1 q1) λvl s2 hx=>eF hx λl H2 I2 pl q2=>aO (hu ao s2 Z H2 _ I2 q2) λvu s3 hx=>eF hx λu H3 I3 pu q3=>?_);rw[evalPart_none];show aJ ?_;let I4:Inv X ao Z H3 {s3 with heap:=s3.heap.push {cls:=.type "slice",data:=.fields #[vl,vu,.none]}}:=I3.kept (t':=s3.toks) λb ob q=>bW _ q;let⟨T,id,hT,ht,hg⟩:=hr ao {s3 with heap:=s3.heap.push {cls:=.type "slice",data:=.fields #[vl,vu,.none]}} Z H3 x v vl vu l u s3.heap.objs.size Q I4 r1 (Heap.IsSliceOf.new ..) pl pu q3;change wpAny (model X.prog X.w) X.A (subscriptTail e (.Slice lo hi none p2) v (.ref s3.heap.objs.size)) (EP X ao Z Q) X.xe {s3 with heap:=s3.heap.push {cls:=.type "slice",data:=.fields #[vl,vu,.none]}};show tail_any (ops:=[.ref s3.heap.objs.size,v]) ht hT hg (by with_unfolding_all rfl)
def mQ(xs:List V)(lo hi:Option Int):List V:=(xs.drop (HT.bT xs.length 0 lo)).take (HT.bT xs.length xs.length hi-HT.bT xs.length 0 lo)
def Xy(xs:List V)(lo hi:Option Int):(mQ xs lo hi).length<=xs.length:=by
 unfold mQ;rw[tH,Gz]
 lia
def Q5(K:W.Frag):V->Option Int->Option Int->Hp->VK->Prop:=λx lo hi H Q=>∃a xs,x=.ref a/\gD K H a xs /\
 ¬(HT.bT xs.length 0 lo=0/\HT.bT xs.length xs.length hi=xs.length)/\∀p,H p=none->Q (.ref p) (upd H p (.tup (mQ xs lo hi)))
def zlj:xr X (Q5 X.K):=by
 intro ao s Z H x v vl vu lo hi sl Q I rx hs pl pu h;let⟨a,xs,rfl,hx,hw,q⟩:=h;cases rx;let⟨its,r,ht,hz⟩:=I.tuple hx;let hlen:its.toArray.size=xs.length:=by rw[eE];show r.length.symm
 show⟨"tuple",_,wB.lookup,ht.typeIs,?_⟩;show HT.iy ht hs pl pu (by rw[hlen];show hw) ?_ (by rw[hlen];show hz);rw[hlen];show⟨.ref s.heap.objs.size,_,I.laid (t':=s.toks) (o:=.tup (mQ xs lo hi)) (λb ob q=>bW _ q) (bU _) ?_,rfl,q _ (I.hok.fresh (bU _))⟩;show⟨jO (Xy xs lo hi) hz,_,(r.drop (HT.bT xs.length 0 lo)).take (HT.bT xs.length xs.length hi-HT.bT xs.length 0 lo),IsTup.new _ _⟩
def Ip(K:W.Frag):R2:=λx y H Q=>∃a b ns ms,x=.ref a/\y=.ref b/\gD K H a (ns.map V.int)/\gD K H b (ms.map V.int)/\Q (.bl (HT.lexLt ns ms)) H
def zk4(hu:X.A.units<cLine):eG X (compareOp .Lt) (Ip X.K):=by
 intro ao s Z H x y v u Q I rx ry h;let⟨a,b,ns,ms,rfl,rfl,ha,hb,q⟩:=h;cases rx;cases ry;let⟨its,r1,p1,_⟩:=I.tuple ha;let⟨its2,r2,p2,_⟩:=I.tuple hb;let i1:IntsAre its.toArray.toList ns:=Xx r1;let i2:IntsAre its2.toArray.toList ms:=Xx r2;show HT.jV p1 p2 i1 i2 hu ⟨.bl (HT.lexLt ns ms),H,I,rfl,q⟩
def Vals.mR{xs:List V}{us:List Value}(r:Vals xs us):us=[]↔xs=[]:=by
 cases r with
 |nil=>simp|cons _ _=>simp
end
def pD(n:Nat)(i:Int):Option Nat:=if 0<=i then (if i<n then some i.toNat else none) else if -(n:Int)<=i then some (i+n).toNat else none
def n8{α:Type}(xs:List α)(i:Int):Option α:=(pD xs.length i).bind λj=>xs[j]?
def Xz{n:Nat}{i:Int}{j:Nat}(h:pD n i=some j):seqIndex? i n=some j/\j<n/\-(n:Int)<=i/\i<n:=by
 unfold pD at h;by_cases h0:0<=i
 .rw[if_pos h0]at h;by_cases h1:i<n
  .rw[if_pos h1]at h;let e:i.toNat=j:=cU h;show⟨by rw[seqIndex_of h0 h1,e],by lia,by lia,h1⟩
  .rw[if_neg h1]at h;cases h
 .rw[if_neg h0]at h;by_cases h1 : -(n:Int)<=i
  .rw[if_pos h1]at h;let e:(i+n).toNat=j:=cU h;show⟨by rw[seqIndex_neg gV h1,e],by lia,h1,by lia⟩
  .rw[if_neg h1]at h;cases h
def Q6{α:Type}{xs:List α}{i:Int}{v:α}(h:n8 xs i=some v):∃j,seqIndex? i xs.length=some j/\xs[j]?=some v/\j<xs.length/\-(xs.length:Int)<=i/\i<xs.length:=by
 unfold n8 at h;cases e:pD xs.length i with
 |none=>rw[e]at h;cases h|some j=>
  rw[e]at h;let⟨h1,h2,h3,h4⟩:=Xz e;show⟨j,h1,h,h2,h3,h4⟩
def qN(b:Expr):Prop:=∀o i,subscripted b false o i=operate [o,i] (getItem o i)
def xu(X:Cx)(r:R2):Prop:=
 ∀(value slice:Expr) (ao:List (Addr×Obj)) (s:Shared) (Z:St) (H:Hp) (x y:V) (v u:Value) (Q:VK),Inv X ao Z H s->RelV x v->RelV y u->r x y H Q->
  subscripted slice false v u=operate [v,u] (getItem v u)->wpAny (model X.prog X.w) X.A (subscriptTail value slice v u) (EP X ao Z Q) X.xe s
def XD(X:Cx)(id:String)(r:V->List V->Hp->VK->Prop):Prop:=
 ∀(ao:List (Addr×Obj)) (s:Shared) (Z:St) (H:Hp) (x:V) (xs:List V) (v:Value) (us:List Value) (Q:VK),Inv X ao Z H s->RelV x v->Vals xs us->r x xs H Q->
  wpAny (model X.prog X.w) X.A (call (.builtin id) (v::us)) (EP X ao Z Q) X.xe s
section
variable {X:Cx}{a b:Expr}{ta tb:TE}{pos:Pos}
def xu.or{r r':R2}(h:xu X r)(h':xu X r'):xu X (λx y H Q=>r x y H Q\/r' x y H Q):=by
 intro value slice ao s Z H x y v u Q I rx ry q hs;rcases q with q|q
 .exact h value slice ao s Z H x y v u Q I rx ry q hs
 .exact h' value slice ao s Z H x y v u Q I rx ry q hs
def znT{r:R2}(hr:xu X r)(ha:PE X a ta)(hb:PE X b tb)(hs:qN b):PE X (.Subscript a b pos) (MN r ta tb):=by
 intro ao s Z H Q I h;show Subscript_ (Bl ha hb I h λv u s2 x y H2 I2 rx ry q=>hr a b ao s2 Z H2 x y v u Q I2 rx ry q (hs _ _))
def Ir(K:W.Frag):R2:=λx y H Q=>∃p xs i v,x=.ref p/\y=.int i/\cP K H p xs/\n8 xs i=some v/\Q v H
def Iu(K:W.Frag):R2:=λx y H Q=>∃p xs i v,x=.ref p/\y=.int i/\gD K H p xs/\n8 xs i=some v/\Q v H
def Iv:R2:=λx y H Q=>∃z i c,x=.str z/\y=.int i/\z.length<=sizeLine/\n8 z.cps.toList i=some c/\Q (.str ⟨#[c]⟩) H
def xG:xu X (Ir X.K):=by
 intro value slice ao s Z H x y v u Q I rx ry h hs;let⟨p,xs,i,z,rfl,rfl,hq,he,q⟩:=h;cases rx;let⟨t,rfl⟩:=ry;let⟨its,r,pl,hz⟩:=I.list hq;let⟨j,h1,h2,h3,h4,h5⟩:=Q6 he;let⟨w,ew,jT⟩:=r.get h2;let hl:=r.length;let hn:=iV;let fin:EP X ao Z Q w s:=⟨z,H,I,jT,q⟩;by_cases h0:0<=i
 .let hj:i.toNat=j:=by
   rw[seqIndex_of h0 h5]at h1;show cU h1
  show item_listR pl.isList h0 gV (by rw[hj];simpa using ew) fin hs
 .let hj:(i+(its.toArray.size:Int)).toNat=j:=by
   rw[seqIndex_neg gV h4]at h1;rw[eE,<-hl];show cU h1
  show subscriptTail_builtinR (x:=w) pl.isList.typeIs slot_list_getitem.lookup
   (wpAny_getItem_list_neg (Q:=λr s'=>r=w/\EP X ao Z Q r s') pl.isList gV (by rw[eE]<;>lia) gV (by rw[hj];simpa using ew) ⟨rfl,fin⟩) hs
def Bt:xu X (Iu X.K):=by
 intro value slice ao s Z H x y v u Q I rx ry h hs;let⟨p,xs,i,z,rfl,rfl,hq,he,q⟩:=h;cases rx;let⟨t,rfl⟩:=ry;let⟨its,r,pl,hz⟩:=I.tuple hq;let⟨j,h1,h2,h3,h4,h5⟩:=Q6 he;let⟨w,ew,jT⟩:=r.get h2;let hl:=r.length;let hn:=iV;let fin:EP X ao Z Q w s:=⟨z,H,I,jT,q⟩;show subscriptTail_builtinR (x:=w) pl.typeIs slot_tuple_getitem.lookup
  (getItem_tuple (j:=j) (Q:=λr s'=>r=w/\EP X ao Z Q r s') pl gV gV (by rw[eE,<-hl];show h1) (by simpa using ew) ⟨rfl,fin⟩) hs
def zms:xu X Iv:=by
 intro value slice ao s Z H x y v u Q I rx ry h hs;let⟨z,i,c,rfl,rfl,hz,he,q⟩:=h;let⟨t,rfl⟩:=rx;let⟨t',rfl⟩:=ry;let⟨j,h1,h2,h3,h4,h5⟩:=Q6 he;let hl:z.cps.toList.length=z.length:=by simp[Str.length]
 rw[hl]at h1 h4 h5;let hn:=iV;show tail_any (typeIs_str s z t) slot_str_getitem.lookup (getItem_str (c:=c) (by
  let e1:decide (i < -(2^63:Int))=false:=jw gV;let e2:decide (i>=2^63)=false:=jw gV;rw[e1,e2,Bool.or_false]) (by rw[h1];simpa using h2) ⟨.str ⟨#[c]⟩,H,I.tok _,⟨_,rfl⟩,q⟩) hs
def Q7(K:W.Frag):R2:=λx y H Q=>Ir K x y H Q\/Iu K x y H Q\/Iv x y H Q
theorem zm4:xu X (Q7 X.K):=xG.or (Bt.or zms)
def zeT(its:List Value)(n j:Nat)(u:Value):Obj.mapSeq (·.setIfInBounds j u) {cls:=.type "list",data:=.seq its.toArray n}={cls:=.type "list",data:=.seq (its.set j u).toArray n}:=by
 simp[Obj.mapSeq]
def Inv.lst{ao:List (Addr×Obj)}{Z:St}{H:Hp}{s:Shared}{p:Addr}{xs:List V}(I:Inv X ao Z H s)(h:H p=some (.lst xs)) :
  ∃(its:List Value) (n:Nat),Vals xs its/\s.heap.get? p=some {cls:=.type "list",data:=.seq its.toArray n}/\xs.length<=sizeLine:=by
 let⟨z,its,n,r,e⟩:=I.hok p _ h;show⟨its,n,r,e,z⟩
def Inv.Bu{ao:List (Addr×Obj)}{Z:St}{H:Hp}{s:Shared}{p:Addr}{xs ys:List V}{its its':List Value}{n n':Nat}{f:Obj->Obj}(I:Inv X ao Z H s)(h:H p=some (.lst xs))
  (ho:s.heap.get? p=some {cls:=.type "list",data:=.seq its.toArray n}) (hf:f {cls:=.type "list",data:=.seq its.toArray n}={cls:=.type "list",data:=.seq its'.toArray n'}) (r:Vals ys its') (hz:ys.length<=sizeLine) (t:Nat) :
  Inv X ao Z (upd H p (.lst ys)) {s with heap:=s.heap.update p f,toks:=t}:=by
 let e:(s.heap.update p f).get? p=some {cls:=.type "list",data:=.seq its'.toArray n'}:=by
  rw[Aa f ho (by rw[hf]<;>rfl),hf]
 show I.write (x:=p) (e:=p) (by rw[h];trivial) (.inl rfl) (λb u hb q=>(wC _ _ (Ne.symm hb)).trans q) ⟨_,e⟩ ?_;show⟨hz,its',n',r,e⟩
def Iw:V->V->V->Hp->(Hp->Prop)->Prop:=λo i v H Q=>∃p xs k j,o=.ref p/\i=.int k/\H p=some (.lst xs)/\pD xs.length k=some j/\Q (upd H p (.lst (xs.set j v)))
def zhx:HJ X Iw:=by
 intro ao s Z H o i v ov iv u Q I ro ri rv h;let⟨p,xs,k,j,rfl,rfl,hp,hj,q⟩:=h;cases ro;let⟨t,rfl⟩:=ri;let⟨its,n,r,ho,hz⟩:=I.lst hp;let⟨h1,h2,h3,h4⟩:=Xz hj;let hl:=r.length;let hn:=iV;let I':Inv X ao Z (upd H p (.lst (xs.set j v))) {s with heap:=s.heap.update p (Obj.mapSeq (·.setIfInBounds j u))}:=
  I.Bu hp ho (zeT its n j u) (r.set rv j) (by rw[pJ];show hz) s.toks
 by_cases h0:0<=k
 .let hk:k.toNat=j:=by
   rw[seqIndex_of h0 h4]at h1;show cU h1
  show PySem.W.ki_setAt ho h0 gV (by rw[eE,<-hl];show h4) (by rw[hk];show⟨_,I',q⟩)
 .let hk:(k+(its.toArray.size:Int)).toNat=j:=by
   rw[seqIndex_neg gV h3]at h1;rw[eE,<-hl];show cU h1
  show PySem.W.ki_setBack ho gV (by rw[eE,<-hl];show h3) gV (by rw[hk];show⟨_,I',q⟩)
def zcW(lo hi:Option Int)(n:Nat):(sliceBounds lo hi none n).1=((HT.bT n 0 lo:Nat):Int)/\(sliceBounds lo hi none n).2.1=((HT.bT n n hi:Nat):Int)/\(sliceBounds lo hi none n).2.2=1:=by
 show⟨?_,?_,rfl⟩
 .cases lo with
  |none=>simp[sliceBounds,HT.bT]|some i=>
   simp only[sliceBounds,HT.bT,Option.getD_none,show (1:Int)>0 by decide,if_true];by_cases h:i<0
   .simp only[h,if_true]<;>lia
   .simp only[h,nO]<;>lia
 .cases hi with
  |none=>simp[sliceBounds,HT.bT]|some i=>
   simp only[sliceBounds,HT.bT,Option.getD_none,show (1:Int)>0 by decide,if_true];by_cases h:i<0
   .simp only[h,if_true]<;>lia
   .simp only[h,nO]<;>lia
def zcq(its:List Value)(lo hi:Option Int):slicePick its.toArray lo hi none=((its.drop (HT.bT its.length 0 lo)).take (HT.bT its.length its.length hi-HT.bT its.length 0 lo)).toArray:=by
 let⟨h1,h2,h3⟩:=zcW lo hi its.toArray.size;unfold slicePick;rw[h1,h2,h3];simp only[sliceRange_one,pick_run,eE]<;>rfl
def Iz(K:W.Frag):V->Option Int->Option Int->Hp->VK->Prop:=λx lo hi H Q=>∃a xs,x=.ref a/\cP K H a xs/\∀p,H p=none->Q (.ref p) (upd H p (.lst (mQ xs lo hi)))
def xH:xr X (Iz X.K):=by
 intro ao s Z H x v vl vu lo hi sl Q I rx hs pl pu h;let⟨a,xs,rfl,hx,q⟩:=h;cases rx;let⟨its,r,ht,hz⟩:=I.list hx;let hlen:=r.length;show⟨"list",_,slot_list_getitem.lookup,ht.isList.typeIs,?_⟩;show wpAny_getItem_list_slice ht.isList hs pl pu .none RQ ?_ (by rw[eE]<;>lia);rw[zcq,<-hlen];show⟨.ref s.heap.objs.size,_,I.laid (t':=s.toks) (o:=.lst (mQ xs lo hi)) (λb ob q=>bW _ q) (bU _) ?_,rfl,q _ (I.hok.fresh (bU _))⟩;show⟨jO (Xy xs lo hi) hz,_,0,(r.drop (HT.bT xs.length 0 lo)).take (HT.bT xs.length xs.length hi-HT.bT xs.length 0 lo),dU _ rfl⟩
def zc0:cT X (.builtin "len") (λxs H Q=>∃p ys,xs=[.ref p]/\(cP X.K H p ys\/gD X.K H p ys)/\Q (.int ys.length) H):=by
 intro ao s Z H xs us Q I r h;let⟨p,ys,rfl,hq,q⟩:=h;let⟨u,rfl,rx⟩:=vals1 r;cases rx;let hn:=iV;rcases hq with hq|hq
 .obtain⟨its,r',pl,hz⟩:=I.list hq;let hlen:=r'.length;show Calls.call_len_list pl.isList (by simp only[eE]<;>lia) ⟨.int ys.length,H,I.tok _,⟨s.toks+1,by rw[eE,hlen]⟩,q⟩
 .obtain⟨its,r',pl,hz⟩:=I.tuple hq;let hlen:=r'.length;show len_tuple pl (by simp only[eE]<;>lia) ⟨.int ys.length,H,I.tok _,⟨s.toks+1,by rw[eE,hlen]⟩,q⟩
def zdh:cT X (.type "list") (λxs H Q=>∃p ys,xs=[.ref p]/\(cP X.K H p ys\/gD X.K H p ys)/\∀l,H l=none->Q (.ref l) (upd H l (.lst ys))):=by
 intro ao s Z H xs us Q I r h;let⟨p,ys,rfl,hq,q⟩:=h;let⟨u,rfl,rx⟩:=vals1 r;cases rx;let fin:∀(its:List Value),Vals ys its->ys.length<=sizeLine->∀(h':Heap) (c':Nat),(∀b o',s.heap.get? b=some o'->h'.get? b=some o')->
   h'.get? s.heap.objs.size=some {cls:=.type "list",dict:=none,data:=.seq its.toArray c',slots:=#[]}->EP X ao Z Q (.ref s.heap.objs.size) {s with heap:=h'}:=λits r' hz h' c' kp e=>
  ⟨.ref s.heap.objs.size,_,I.laid (t':=s.toks) kp (bU _) (show bC X.prog X.w _ h' _ (.lst ys) from ⟨hz,its,c',r',e⟩),rfl,q _ (I.hok.fresh (bU _))⟩
 rcases hq with hq|hq
 .obtain⟨its,r',pl,hz⟩:=I.list hq;let hlen:=r'.length;let⟨o,ho,hc,n,hd⟩:=pl.isList;show call_list_seq p (.inl rfl) ho hc hd (λh' c' kp e=>fin its r' hz h' c' kp e) (by simp only[eE]<;>lia)
 .obtain⟨its,r',pl,hz⟩:=I.tuple hq;let hlen:=r'.length;let⟨o,ho,hc,n,hd⟩:=pl;show call_list_seq p (.inr rfl) ho hc hd (λh' c' kp e=>fin its r' hz h' c' kp e) (by simp only[eE]<;>lia)
def zcs:cT X (.type "tuple") (λxs H Q=>∃p ys,xs=[.ref p]/\((cP X.K H p ys/\∀l,H l=none->Q (.ref l) (upd H l (.tup ys)))\/(gD X.K H p ys/\Q (.ref p) H))):=by
 intro ao s Z H xs us Q I r h;let⟨p,ys,rfl,h⟩:=h;let⟨u,rfl,rx⟩:=vals1 r;cases rx;rcases h with ⟨hq,q⟩|⟨hq,q⟩
 .obtain⟨its,r',pl,hz⟩:=I.list hq;let hlen:=r'.length;show call_tuple_list pl.isList (λh' kp=>?_) (by simp only[eE]<;>lia);let I1:Inv X ao Z H {s with heap:=h'}:=I.kept (t':=s.toks) kp;let I2:Inv X ao Z (upd H h'.objs.size (.tup ys)) {s with heap:=h'.push {cls:=.type "tuple",data:=.seq its.toArray}}:=
   I1.laid (t':=s.toks) (λb o e=>bW _ e) (bU _) (show bC X.prog X.w _ _ _ (.tup ys) from ⟨hz,its,r',IsTup.new _ _⟩)
  show⟨.ref h'.objs.size,_,I2,rfl,q _ (I1.hok.fresh (bU _))⟩
 .obtain⟨its,r',pl,hz⟩:=I.tuple hq;show call_tuple_same pl ⟨.ref p,H,I,rfl,q⟩
def Q8(K:W.Frag)(T:String)(x:V)(H:Hp):Prop:=match x with
 |.str _=>T="str"|.int _=>T="int"|.ref p=>(T="list"/\∃xs,cP K H p xs)\/(T="tuple"/\∃o,K.lookup p=some o/\o.cls=.type "tuple"/\o.dict=none) \/
   (T="dict"/\((∃kvs,H p=some (.dK kvs))\/∃kvs,H p=some (.dT kvs)))\/(T="set"/\∃S n,H p=some (.set S n))
 |_=>False
def XH{ao:List (Addr×Obj)}{Z:St}{H:Hp}{s:Shared}{T:String}{x:V}{v:Value}(I:Inv X ao Z H s)(r:RelV x v)(ty:Q8 X.K T x H) :
  s.TypeIs v T/\∀a,v=.ref a->∃ob,s.heap.get? a=some ob/\ob.dict=none:=by
 cases x with
 |str z=>
  let⟨t,rfl⟩:=r;cases (show T="str" from ty);show⟨typeIs_str s z t,λ_ e=>nomatch e⟩
 |int i=>
  let⟨t,rfl⟩:=r;cases (show T="int" from ty);show⟨typeIs_int s i t,λ_ e=>nomatch e⟩
 |ref p=>
  cases r;rcases ty with ⟨rfl,xs,hq⟩|⟨rfl,o,hk,hc,hd⟩|⟨rfl,hk⟩|⟨rfl,S,n,hk⟩
  .obtain⟨its,_,pl,_⟩:=I.list hq;show⟨pl.isList.typeIs,λa e=>?_⟩;cases e;let⟨o,n,e,c,hd,_⟩:=pl;show⟨o,e,hd⟩
  .refine⟨⟨o,I.lR p o hk,hc⟩,λa e=>?_⟩;cases e;show⟨o,I.lR _ o hk,hd⟩
  .let z:∃o,s.heap.get? p=some o/\o.ExactDict:=by
    rcases hk with ⟨kvs,hk⟩|⟨kvs,hk⟩
    .obtain⟨_,_,_,_,o,_,_,e,ex,_⟩:=I.hok p _ hk;show⟨o,e,ex⟩
    .obtain⟨_,_,_,_,o,_,_,e,ex,_⟩:=I.hok p _ hk;show⟨o,e,ex⟩
   let⟨o,e,ex⟩:=z;show⟨⟨o,e,ex.1⟩,λa e2=>?_⟩;cases e2;show⟨o,e,ex.2.1⟩
  .obtain⟨o,_,_,_,e,ex,_⟩:=I.hok p _ hk;show⟨⟨o,e,ex.1⟩,λa e2=>?_⟩;cases e2;show⟨o,e,ex.2.1⟩
 |_=>show False.elim ty
def Q9(K:W.Frag)(T:String)(r:V->List V->Hp->VK->Prop)(to:TE):TE:=λZ H Q=>to Z H λx H1=>Q8 K T x H1/\r x [] H1 Q
def tBM(K:W.Frag)(T:String)(r:V->List V->Hp->VK->Prop)(to:TE)(t:TA):TE:=λZ H Q=>to Z H λx H1=>Q8 K T x H1/\t Z H1 λxs H2=>r x xs H2 Q
variable {o e:Expr}{es:List Expr}{to:TE}{t:TA}{name:Str}{apos cpos:Pos}{T id:String}{r:V->List V->Hp->VK->Prop}
def zln(pa:PlainAttrs T)(slot:Slot T name id)(Q_:typeOf (.builtin id)=pure (.type "method_descriptor"))(hm:XD X id r)(ho:PE X o to)
  (fO:attributeBase o name X.env (eval o X.env)=eval o X.env:=by rfl) (fP:(apos.endLine==cpos.line)=true:=by rfl):PE X (.Call (.Attribute o name apos) [] [] cpos) (Q9 X.K T r to):=by
 intro ao s Z H Q I h;show wpAny_Call_method0_late fO fP (aO (ho ao s Z H _ I h) λv s1 hz=>?_);let⟨x,H1,I1,r1,ty,q1⟩:=hz;let⟨h1,h2⟩:=XH I1 r1 ty;show⟨T,id,pa,slot,Q_,h1,h2,Calls.callWith_builtin rfl (PySem.evalArgs_none (hm ao s1 Z H1 x [] v [] Q I1 r1 .nil q1))⟩
def zow(pa:PlainAttrs T)(slot:Slot T name id)(Q_:typeOf (.builtin id)=pure (.type "method_descriptor"))(hm:XD X id r)(ho:PE X o to)(ha:PA X (e::es) t)
  (fO:attributeBase o name X.env (eval o X.env)=eval o X.env:=by rfl)
  (Bv:((backTo cpos (starEach (e::es) X.env)).all (λx=>!x.1)&&(backToKw cpos (keywordEach [] X.env)).all (λx=>x.1.isSome)
  &&decide ((e::es).length+([]:List Keyword).length+(if ([]:List Keyword).isEmpty then 0 else 1)<30))=true:=by rfl)
  (fP:(apos.endLine==cpos.line)=true:=by rfl) (hs:starEach (e::es) X.env=(false,eval e X.env)::starEach es X.env:=by rfl) (pU:(backTo cpos (starEach es X.env)).any (·.1)=false:=by rfl) :
  PE X (.Call (.Attribute o name apos) (e::es) [] cpos) (tBM X.K T r to t):=by
 intro ao s Z H Q I h;show wpAny_Call_method_late fO Bv fP rfl (aO (ho ao s Z H _ I h) λv s1 hz=>?_);let⟨x,H1,I1,r1,ty,q1⟩:=hz;let⟨h1,h2⟩:=XH I1 r1 ty;show⟨T,id,pa,slot,Q_,h1,h2,?_⟩;let hA:=ha cpos ao s1 Z H1 _ I1 q1;rw[hs]at hA ⊢;show Calls.callWith_builtin (by change (false||(backTo cpos (starEach es X.env)).any (·.1))=false;rw[pU]<;>rfl) (Calls.evalArgs_plain ?_);show aO hA λus s2 hx=>eF hx λvs H2 I2 r2 q2=>hm ao s2 Z H2 x vs v us Q I2 r1 r2 q2
end
def XJ(X:Cx)(id:String)(r:V->List V->Hp->VK->Prop):Prop:=
 ∀(ao:List (Addr×Obj)) (s:Shared) (Z:St) (H:Hp) (x:V) (xs:List V) (v:Value) (us:List Value) (Q:VK),Inv X ao Z H s->RelV x v->Vals xs us->r x xs H Q->
  wpAny (model X.prog X.w) X.A (call (.builtin id) (v::us)) (EP X ao Z Q) X.xe s
def Vals.one{x:V}{us:List Value}(h:Vals [x] us):∃u,us=[u]/\RelV x u:=by
 cases h with
 |cons r t=>cases t;show⟨_,rfl,r⟩
def Vals.two{x y:V}{us:List Value}(h:Vals [x,y] us):∃u v,us=[u,v]/\RelV x u/\RelV y v:=by
 cases h with
 |cons r t=>
  let⟨v,rfl,q⟩:=Vals.one t;show⟨_,_,rfl,r,q⟩
theorem Vals.zero:∀{us:List Value},Vals [] us->us=[]
 |_,.nil=>rfl
def Vals.dropLast{xs:List V}{us:List Value}(h:Vals xs us):Vals xs.dropLast us.dropLast:=by
 induction h with
 |nil=>show .nil|cons r t ih=>
  cases t with
  |nil=>show .nil|cons q t'=>show .cons r ih
def zeU{α:Type}(l:List α):l.eraseIdx (l.length-1)=l.dropLast:=by
 induction l with
 |nil=>rfl|cons a r ih=>
  cases r with
  |nil=>rfl|cons b r=>
   let e:(a::b::r).length-1=((b::r).length-1)+1:=by
    let h1:(a::b::r).length=r.length+2:=rfl;let h2:(b::r).length=r.length+1:=rfl
    lia
   rw[e,List.eraseIdx_cons_succ,ih]
   all_goals rfl
section
variable {X:Cx}{ao:List (Addr×Obj)}{Z:St}{H:Hp}{s:Shared}{l b:Addr}{xs ys zs:List V}
def Inv.IK{its its':List Value}{n:Nat}{f:Array Value->Array Value}{t':Nat}(I:Inv X ao Z H s)(hH:H l=some (.lst xs))
  (e:s.heap.get? l=some {cls:=.type "list",data:=.seq its.toArray n}) (hf:f its.toArray=its'.toArray) (hv:Vals ys its') (hz:ys.length<=sizeLine) :
  Inv X ao Z (upd H l (.lst ys)) {s with heap:=s.heap.update l (Obj.mapSeq f),toks:=t'}:=by
 let q:=PySem.IsL.update e f;rw[hf]at q;show I.write (x:=l) (e:=l) (by rw[hH];show trivial) (.inl rfl) (λb' u hb hu=>(wC s.heap (Obj.mapSeq f) (Ne.symm hb)).trans hu) ⟨_,q⟩ ?_;show⟨hz,its',_,hv,q⟩
theorem Inv.Ra{its:List Value}{t':Nat}(I:Inv X ao Z H s)(hv:Vals ys its)(hz:ys.length<=sizeLine) :
  Inv X ao Z (upd H s.heap.objs.size (.lst ys)) {s with heap:=s.heap.push {cls:=.type "list",data:=.seq its.toArray},toks:=t'}:=
 I.laid (λ_ _ q=>bW _ q) (bU _) ⟨hz,its,0,hv,dU _ rfl⟩
theorem Inv.fresh(I:Inv X ao Z H s):H s.heap.objs.size=none:=I.hok.fresh (bU _)
def Inv.IV(I:Inv X ao Z H s)(hH:H l=some (.lst xs)):xs.length<=sizeLine/\∃(its:List Value) (n:Nat),Vals xs its/\xs.length=its.length/\s.heap.get? l=some {cls:=.type "list",data:=.seq its.toArray n}:=by
 let⟨z,its,n,r,e⟩:=I.hok l _ hH;show⟨z,its,n,r,r.length,e⟩
end
section
variable {X:Cx}
def xJ:V->List V->Hp->VK->Prop:=λx vs H Q=>∃l xs y,x=.ref l/\vs=[y]/\H l=some (.lst xs)/\xs.length<sizeLine/\Q .non (upd H l (.lst (xs++[y])))
def Rb:XJ X "list.append" xJ:=by
 intro ao s Z H x vs v us Q I rx rv h;let⟨l,xs,y,rfl,rfl,hH,hz,q⟩:=h;cases rx;let⟨u,rfl,ru⟩:=rv.one;let⟨z,its,n,r,hl,e⟩:=I.IV hH;show call_meets F.slot_list_append ⟨_,e,rfl⟩ F.entry_list_append (F.args_list_append_2 _ _) (PySem.list_append l its.toArray n u (by rw[eE];lia)) ⟨e,?_⟩;show⟨.non,_,I.IK (its':=its++[u]) hH e RQ (r.append (.cons ru .nil)) ?_,rfl,q⟩;rw[dJ,List.length_singleton]
 lia
def Rf:V->List V->Hp->VK->Prop:=λx vs H Q=>∃l xs y,x=.ref l/\vs=[]/\H l=some (.lst xs)/\xs[xs.length-1]?=some y/\Q y (upd H l (.lst xs.dropLast))
def zkQ:XJ X "list.pop" Rf:=by
 intro ao s Z H x vs v us Q I rx rv h;let⟨l,xs,y,rfl,rfl,hH,hy,q⟩:=h;cases rx;let hus:=rv.zero;subst hus;let⟨z,its,n,r,hl,e⟩:=I.IV hH;let⟨u,hu,ru⟩:=r.get hy;let hy':its.toArray[its.toArray.size-1]?=some u:=by
  change its.toArray[its.length-1]?=some u;rw[<-Array.getElem?_toList,<-hl];show hu
 show call_meets F.slot_list_pop ⟨_,e,rfl⟩ F.entry_list_pop (F.args_list_pop_1 _) (MeetsSeq.list_pop_last l its.toArray n u hy' (by rw[eE];lia)) ⟨e,?_⟩;show⟨y,_,I.IK (its':=its.dropLast) hH e ?_ r.dropLast ?_,ru,q⟩
 .show its.toArray.eraseIdxIfInBounds (its.toArray.size-1)=its.dropLast.toArray;rw[eE,List.eraseIdxIfInBounds_toArray,zeU]
 .rw[List.length_dropLast]
  lia
end
section
variable {prog:Program}{w:World}{A:Around}{E:Value->Shared->Prop}{s:Shared}
set_option maxRecDepth 100000 in
end
end L2
namespace XM
open PySem PySem.W PySem.Calls PyProof.Rows
def zb0{P:Params}{h:Heap}:∀(ns:List Int) (vs:List Value),WellAll P h vs (ns.map WData.int)->IntsAre vs ns:=by
 intro ns
 induction ns with
 |nil=>
  intro vs w;rw[List.map_nil]at w;cases w;show .nil
 |cons n ns ih=>
  intro vs w;rw[iH]at w;cases w with
  |cons a b=>
   cases a;show .cons _ _ (ih _ b)
def zfR{l:OpenLaw}{n:Nat}(hn:l.most=some n){P:Params}{h:Heap}{args:List WData}{vals:List Value}
  (hpre:l.row.toRowW.claim.pre args=true) (Rg:WellAll P h vals args) :
  ∃a vs ns,vals=[Value.ref a]/\args=[WData.list (ns.map WData.int)]/\h.get? a=some {cls:=.type "list",data:=.seq vs.toArray}/\IntsAre vs ns/\ns.length<=n:=by
 let Ez:WShape.hasAll [] args [.list .int]=true:=(pre_splitW hpre).1;let hc:l.pre.holds [] {args:=args}=true:=(pre_splitW hpre).2;let⟨d,r,rfl,h1,h2⟩:=hasAllW_cons Ez;obtain rfl:=hasAllW_nil h2;let⟨xs,rfl,h3⟩:=hasW_list h1;let⟨ns,rfl⟩:=items_int h3;let hlen:ns.length<=n:=by
  unfold OpenLaw.pre at hc;let h4:(WTm.not (.lt (.lit (.int (n:Int))) (.len (.arg 0)))).holds [] {args:=[.list (ns.map .int)]}=true:=by
   let h4:=(holds_andW hc).1;rw[hn]at h4;show h4
  let h5:=condW_of h4 (w_not (w_lt w_lit (w_len_list (w_arg rfl))));rw[cO]at h5;show LR λq=>?_;let q':(n:Int)<((ns.length:Nat):Int):=by lia
  first
   |(rw[fH q']at h5;show absurd h5 J0)
   |(simp at h5;lia)
 cases Rg with
 |cons w1 w2=>
  cases w2;cases w1 with
  |list ho pW=>show⟨_,_,ns,rfl,rfl,ho,zb0 ns _ pW,hlen⟩
theorem zgG(l:OpenLaw)(args:List WData):l.row.toRowW.claim.post args (.bool true) args=true:=
 postW_of (r:=l.row.toRowW) (X:=(true==true))
  (show WShape.has [] (.bool true) .bool=true by first|rfl|decide|simp[WShape.has,WShape.arms,WShape.armsAll])
  (show (WTm.eq .res (.lit (.bool true))).value [] {args:=args,res:=some (.bool true),after:=args}=some (.bool (true==true)) from w_eq_bool (w_res rfl) w_lit) rfl
def n_{l:OpenLaw}{n:Nat}{q:Program}{loose:List Str}{XP:(Str->Option Value)->Heap->Prop}{YP:World->Heap->Prop}{d:DefRec}
  (hn:l.most=some n) (Rh:d.params.defaults=[])
  (call:∀(w:World) (s₀ s₁:Shared) (mg mb:Str->Option Value) (fa:Addr) (o:Obj) (pm cd doc:Value) (a:Addr) (vs:List Value) (ns:List Int),
   Ground q loose [] XP w s₀ mg mb s₁.heap->YP w s₁.heap->
   s₁.heap.get? fa=some o->o.data=.func (docDef d.name d.params d.body d.scope pm cd doc)->s₁.heap.CodeRec cd d.name->mg d.name=some (.ref fa)->
   s₁.heap.get? a=some {cls:=.type "list",data:=.seq vs.toArray}->IntsAre vs ns->ns.length<=n->s₁.gens=#[]->
   codeAny (model l.prog w) callerA (.call (.ref fa) ⟨[.ref a],[]⟩) (λr s'=>r=.ok (.ret (.bool true))/\OldK s₁.heap s'.heap/\s'.os=s₁.os/\AllBare s'.gens) s₁) :
  WalkO q loose XP YP l.row.toRowW d [] (λf vs=>PySem.call f vs):=by
 intro w s₀ s₁ mg mb G Y fa o pm cd doc dV kV ho hd iu hD hmg hg args vals as hpre aad hrd Rg IW;obtain rfl:dV=.none:=Dflts.none hD Rh;obtain rfl:kV=.none:=Dflts.noKw hD;let⟨a,vs,ns,rfl,rfl,Bw,hints,hlen⟩:=zfR hn hpre Rg;show enter_call (yS (call w s₀ s₁ mg mb fa o pm cd doc a vs ns G Y ho (fd_plain hd) iu hmg Bw hints hlen hg) λr s' hq=>?_);let⟨rfl,h2,h3,h4⟩:=hq;show⟨.inl ⟨.bool true,.bool true,[],rfl,λ_=>rfl,.bool true,zgG l _,λ_=>⟨List.Pairwise.nil,λ_ hm=>(nomatch hm)⟩⟩,h2,h3,h4⟩
end XM
namespace L2
open PySem PySem.Spec PyProof.Rows
theorem XQ:∀{vs:List Value} {ns:List Int},IntsAre vs ns->Vals (ns.map V.int) vs
 |_,_,.nil=>.nil|_,_,.cons n t h=>.cons ⟨t,rfl⟩ (XQ h)
def Ri(h0:Heap)(H:Hp)(h:Heap)(e:Addr)(hd:Value):Prop:=
 hd=.none\/∃T oT ts,hd=.ref T/\h0.get? T=none/\H T=none/\T≠e/\h.get? T=some oT/\oT.data=.fields ts/\ts[3]?=some .none
structure Exc(h0:Heap)(H:Hp)(h:Heap)(e C:Addr)(dx:Option Addr):Prop where
 new:h0.get? e=none
 un:H e=none
 ob:∃oe vs hd,h.get? e=some oe/\oe.cls=.ref C/\oe.dict=dx/\oe.data=.fields vs/\vs[1]?=some hd/\Ri h0 H h e hd
structure Rj(h0:Heap)(H:Hp)(fr:List Addr)(h h':Heap)(ch:List Addr):Prop where
 rec_:∀b∈ch,h0.get? b=none/\H b=none/\∃o vs,h.get? b=some o/\o.data=.fields vs
 keep:∀b o,h.get? b=some o->b∉fr->b∉ch->h'.get? b=some o
 slot:∀b o,h.get? b=some o->b∈fr->∃sl,h'.get? b=some {o with slots:=sl}
 there:∀b o,h.get? b=some o->∃o',h'.get? b=some o'
def uw(head:Value)(L:Addr)(pl:List Value):Obj:=
 {cls:=.type "traceback",dict:=none,data:=.fields ([head,.ref L,.none,rawInt L,.none]++(if pl.isEmpty then List.replicate 6 Value.none else pl)).toArray}
def XR(o:Obj)(f:Array Value->Array Value):(o.mapFields f).dict=o.dict:=by
 let⟨c,d,dt,sl⟩:=o;cases dt<;>rfl
def X3(o:Obj)(f:Array Value->Array Value):(o.mapFields f).cls=o.cls:=by
 let⟨c,d,dt,sl⟩:=o;cases dt<;>rfl
section
variable {M:Model}{A:Around}{E:Value->Shared->Prop}{s:Shared}{base h0:Heap}{env:Env}{outer:List Env}{L e C:Addr}{dx:Option Addr}{H:Hp}{Q:Unit->Shared->Prop}
def X4(qO:A.frames=some (env::outer))(hl:s.heap.FunFrames base (env::outer))(hf:env.frame=some L)
  (he:s.heap.get? e=some oe) (hd:oe.data=.fields vs) (hsz:1<vs.size)
  (k:∀h' T oT ts,s.heap.objs.size<=T->(∀b o,s.heap.get? b=some o->b∉frs (env::outer)->b≠e->h'.get? b=some o)->(∀b o,s.heap.get? b=some o->b∈frs (env::outer)->∃sl,h'.get? b=some {o with slots:=sl})->
   h'.get? e=some (oe.mapFields (·.setIfInBounds 1 (.ref T)))->h'.get? T=some oT->oT.data=.fields ts->3<ts.size->ts[3]?=some (rawInt L)->Q () {s with heap:=h'}) :
  wpAny M A (do let a <-frameOf env;let pl <-entryPlaceOf L hn;let b <-EntryCells.newEntry head a .none (rawInt L) .none pl;setField (.ref e) 1 b) Q E s:=by
 let I8:e∉frs (env::outer):=λhm=>by
  let⟨_,o,ho,hx⟩:=hl.mem hm;rw[he]at ho;cases ho;show hx vs hd
 show aB (wpAny_frameOf_fun qO hl hf λh₁ sl₁=>?_);show aB (wpAny_entryPlaceOf λpl cQ=>?_);unfold EntryCells.newEntry newFields;show aB (o_ ?_ (cQ.sizeOk5 _ _ _ _ _));let e1:h₁.get? e=some oe:=(sl₁.2.1 e I8).trans he;let e2:(h₁.push (uw head L pl)).get? e=some oe:=bW _ e1;show GJ e2 hd hsz ?_;let ne:h₁.objs.size≠e:=pL (bK e1);let d3:=yN hd (·.setIfInBounds 1 (Value.ref h₁.objs.size));let kp:∀b o,h₁.get? b=some o->b≠e->((h₁.push (uw head L pl)).update e (Obj.mapFields (·.setIfInBounds 1 (Value.ref h₁.objs.size)))).get? b=some o:=λb o q n=>by
  rw[wC _ _ n.symm];show bW _ q
 show k _ h₁.objs.size (uw head L pl) _ (by rw[sl₁.1];show bU _) (λb o q n1 n2=>kp b o ((sl₁.2.1 b n1).trans q) n2) (λb o q m=>?_) (Aa _ e2 (Lq d3)) ?_ rfl ?_ ?_
 .obtain⟨sl,z⟩:=sl₁.2.2 b o q;show⟨sl,kp b _ z λy=>I8 (y▸m)⟩
 .rw[wC _ _ ne.symm];show dU _ rfl
 .simp only[eE,dJ,gw,Ej]<;>lia
 .first
   |(simp;done)
   |(rcases cQ with rfl|⟨_,_,_,_,_,_,_,rfl⟩<;>simp)
def zhl(qO:A.frames=some (env::outer))(hl:s.heap.FunFrames base (env::outer))(hf:env.frame=some L)(x:Exc h0 H s.heap e C dx)
  (k:∀h' T oT oe ts vs ch,Rj h0 H (frs (env::outer)) s.heap h' ch->s.heap.objs.size<=T->h'.get? e=some oe->oe.cls=.ref C->oe.dict=dx->oe.data=.fields vs->vs[1]?=some (.ref T)->h'.get? T=some oT->oT.data=.fields ts->
   3<ts.size->ts[3]?=some (rawInt L)->Q () {s with heap:=h'}):wpAny M A (noteFrame (.ref e) env) Q E s:=by
 let⟨oe,vs,hd,he,hc,M7,vP,h1,tb⟩:=x.ob;let hsz:1<vs.size:=(Array.getElem?_eq_some_iff.mp h1).1;let I8:∀b o ws,s.heap.get? b=some o->o.data=.fields ws->b∉frs (env::outer):=λb o ws q d hm=>by
  let⟨_,o',ho,hx⟩:=hl.mem hm;rw[q]at ho;cases ho;show hx ws d
 unfold noteFrame;simp only[hf];show aB (kW he vP h1 ?_);rcases tb with rfl|⟨T,oT,ts,rfl,nT,uT,neT,gT,dT,h3⟩
 .rw[if_neg J0];show X4 qO hl hf he vP hsz λh' T oT ts lt kp sl ge gT dT z3 z4=>?_;show k h' T oT _ ts _ [e] ⟨λb hb=>?_,λb o q n1 n2=>kp b o q n1 λz=>n2 (by rw[z];show .head _),sl,λb o q=>?_⟩ lt ge ((X3 _ _).trans hc) ((XR _ _).trans M7) (yN vP _) (by simp[hsz]) gT dT z3 z4
  .obtain rfl:b=e:=by simpa using hb
   show⟨x.new,x.un,oe,vs,he,vP⟩
  .by_cases z:b=e
   .subst z;show⟨_,ge⟩
   .by_cases m:b∈frs (env::outer)
    .obtain⟨w,q'⟩:=sl b o q m;show⟨_,q'⟩
    .exact⟨o,kp b o q m z⟩
 .rw[if_pos (show (Value.ref T != Value.none)=true from by simp)];show aB (kW gT dT h3 ?_);rw[if_neg (show ¬((Value.none==rawInt L)=true) from by simp[rawInt])];let z3:3<ts.size:=(Array.getElem?_eq_some_iff.mp h3).1;show aB (GJ gT dT z3 ?_);let oth:∀b,b≠T->(s.heap.update T (Obj.mapFields (·.setIfInBounds 3 Value.none))).get? b=s.heap.get? b:=λb n=>wC _ _ n.symm;let hl':(s.heap.update T (Obj.mapFields (·.setIfInBounds 3 Value.none))).FunFrames base (env::outer):=hl.of_keeps λb o q nd=>⟨o,(oth b λz=>by subst z;rw[gT]at q;cases q;show nd ts dT).trans q,rfl⟩;let sT:(s.heap.update T (Obj.mapFields (·.setIfInBounds 3 Value.none))).get? T=some (oT.mapFields (·.setIfInBounds 3 Value.none)):=Aa _ gT (Lq (yN dT _));show X4 qO hl' hf ((oth e neT.symm).trans he) vP hsz λh' T' oT' ts' lt kp sl ge gT' dT' z3' z4'=>?_;let lt':s.heap.objs.size<=T':=by
   let:=lt;simp only[Heap.size_after_update]at this;show this
  show k h' T' oT' _ ts' _ [e,T] ⟨λb hb=>?_,λb o q n1 n2=>kp b o ((oth b λz=>n2 (by simp[z])).trans q) n1 λz=>n2 (by simp[z]),λb o q m=>?_,λb o q=>?_⟩ lt' ge ((X3 _ _).trans hc) ((XR _ _).trans M7) (yN vP _) (by simp[hsz]) gT' dT' z3' z4'
  .let hb':b=e\/b=T:=by simpa using hb
   rcases hb' with rfl|rfl
   .exact⟨x.new,x.un,oe,vs,he,vP⟩
   .exact⟨nT,uT,oT,ts,gT,dT⟩
  .exact sl b o ((oth b λz=>by subst z;show I8 b o ts q (by rw[gT]at q;cases q;show dT) m).trans q) m
  .by_cases z:b=e
   .subst z;show⟨_,ge⟩
   .by_cases y:b=T
    .subst y;show⟨_,kp b _ sT (I8 b oT ts gT dT) z⟩
    .by_cases m:b∈frs (env::outer)
     .obtain⟨w,q'⟩:=sl b o ((oth b y).trans q) m;show⟨_,q'⟩
     .exact⟨o,kp b o ((oth b y).trans q) m z⟩
def zhf(he:s.heap.get? e=some oe)(hd:oe.data=.fields vs)(h1:vs[1]?=some (.ref T))(gT:s.heap.get? T=some oT)(dT:oT.data=.fields ts)(z3:3<ts.size)
  (k:∀h',(∀b o,b≠T->s.heap.get? b=some o->h'.get? b=some o)->h'.get? T=some (oT.mapFields (·.setIfInBounds 3 Value.none))->Q () {s with heap:=h'}):wpAny M A (setFlight (.ref e) none) Q E s:=by
 unfold setFlight;show aB (kW he hd h1 ?_);rw[if_pos (show (Value.ref T != Value.none)=true from by simp)];show GJ gT dT z3 (k _ (λb o n q=>(wC _ _ n.symm).trans q) (Aa _ gT (Lq (yN dT _))))
def zfS(qO:A.frames=some (env::outer))(hl:s.heap.FunFrames base (env::outer))(hf:env.frame=some L)(x:Exc h0 H s.heap e C dx)
  (qL:∀b,s.heap.objs.size<=b->H b=none) (h0s:∀b o,h0.get? b=some o->∃o',s.heap.get? b=some o')
  (k:∀h' ch,Rj h0 H (frs (env::outer)) s.heap h' ch->Exc h0 H h' e C dx->Q () {s with heap:=h'}) :
  wpAny M A (noteFrame (.ref e) env) (λ_ s₁=>wpAny M A (setFlight (.ref e) none) Q E s₁) E s:=by
 let ele:∃o,s.heap.get? e=some o:=let ⟨oe,_,_,he,_⟩:=x.ob;⟨oe,he⟩;show zhl qO hl hf x λh' T oT oe ts vs ch t lt ge hc M7 vP h1 gT dT z3 z4=>?_;let neT:T≠e:=λz=>by
  let⟨o,q⟩:=ele;show absurd (fD (bK q) (z▸lt)) (pK _)
 show zhf (s:={s with heap:=h'}) ge vP h1 gT dT z3 λh2 kp gT2=>?_;let nT:∀b o,s.heap.get? b=some o->b≠T:=λb o q z=>absurd (fD (bK q) (z▸lt)) (pK _);show k h2 ch ⟨t.rec_,λb o q n1 n2=>kp b o (nT b o q) (t.keep b o q n1 n2),λb o q m=>?_,λb o q=>?_⟩ ⟨x.new,x.un,oe,vs,.ref T,kp e oe neT.symm ge,hc,M7,vP,h1,.inr ⟨T,_,_,rfl,?_,qL T lt,neT,gT2,yN dT _,by simp[z3]⟩⟩
 .obtain⟨sl,q'⟩:=t.slot b o q m;show⟨sl,kp b _ (nT b o q) q'⟩
 .obtain⟨o',q'⟩:=t.there b o q;show⟨o',kp b o' (nT b o q) q'⟩
 .cases z:h0.get? T with
  |none=>rfl|some o=>
   let⟨o',q⟩:=h0s T o z;show absurd rfl (nT T o' q)
end
noncomputable abbrev XS:=St->Value->Option Addr->Hp->Prop
def Sub(h0 h:Heap):Prop:=∀b o,h0.get? b=some o->∃o',h.get? b=some o'
def Sub.none{h0 h:Heap}(x:Sub h0 h){b:Addr}(e:h.get? b=none):h0.get? b=none:=by
 cases q:h0.get? b with
 |none=>rfl|some o=>
  let⟨o',z⟩:=x b o q;rw[e]at z;cases z
def Exc.older{h0 h1:Heap}{H:Hp}{h:Heap}{e C:Addr}{dx:Option Addr}(x:Exc h1 H h e C dx)(y:Sub h0 h1):Exc h0 H h e C dx:=by
 let⟨oe,vs,hd,a,b,c,d,f,tb⟩:=x.ob;show⟨y.none x.new,x.un,oe,vs,hd,a,b,c,d,f,?_⟩;rcases tb with z|⟨T,oT,ts,z1,z2,z3⟩
 .exact .inl z
 .exact .inr ⟨T,oT,ts,z1,y.none z2,z3⟩
section
variable {X:Cx}{ao:List (Addr×Obj)}{Z:St}{H:Hp}{s:Shared}{h0 h':Heap}{ch fr:List Addr}
theorem iI.tbd{P:Program}{w:World}{h:Heap}(x:iI P w H h)(t:Rj h0 H fr h h' ch)(hf:∀b∈fr,H b=none):iI P w H h':=λa o e=>by
 let st:∀b u,(b=a\/H b=some (.own a))->h.get? b=some u->h'.get? b=some u:=λb u z q=>by
  let nb:H b≠none:=by
   rcases z with z|z
   .rw[z,e];simp
   .rw[z];simp
  show t.keep b u q (λm=>nb (hf b m)) λm=>nb (t.rec_ b m).2.1
 show(x a o e).stay st (λ_ z=>z) λ_ _ z=>z
end
def Raises(X:Cx)(EX:XS):Prop:=
 ∀(ao:List (Addr×Obj)) (Z:St) (H:Hp) (s:Shared) (h0:Heap) (e C:Addr) (dx:Option Addr),Inv X ao Z H s->(∀b o,X.s₀.heap.get? b=some o->b∉X.ex->∃o',h0.get? b=some o')->
  (∀p∈X.pn++ao,∃o,h0.get? p.1=some o)->Sub h0 s.heap->Exc h0 H s.heap e C dx->EX Z (.ref C) dx H->X.xe (.ref e) s
def eN(P:Program)(w:World):rQ:=λouter H s E e s'=>
 ∃(a C:Addr) (dx:Option Addr) (H':Hp),e=.ref a/\s'.os=s.os/\AllBare s'.gens/\Un (frs outer) [] H H' s.heap s'.heap/\iI P w H' s'.heap/\Exc s.heap H' s'.heap a C dx/\E (.ref C) dx H'
def zfe{P:Program}{w:World}{K:W.Frag}{mg:Str->Option Value}{base:Heap}{N:List Str}{qual:Str}{scope:Scope}{f:Addr}{cd:Value}{A:Around}{outer:List Env}{s:Shared}{H:Hp}{E:XK}{cm:Bool} :
  Raises (dh (eN P w) P w K mg base N qual scope f cd A outer s H E cm) (λ_ C dx H'=>E C dx H'):=by
 intro ao Z H1 s1 h0 e C dx I hs hp h01 x ex;let I0:Inv (dh (eN P w) P w K mg base N qual scope f cd A outer s H E cm) [] Z H1 s1:=I.jG λp z=>absurd z RQ;change wpAny (model P w) (A.deeper (envOfC qual scope s.heap.objs.size f cd)) (leaving (envOfC qual scope s.heap.objs.size f cd) (.ref e)) _ _ s1;unfold leaving;let hsub:Sub s.heap h0:=λb o q=>hs b o q (by change b∉([]:List Addr);simp);show aB (zfS (base:=base) (outer:=outer) (L:=s.heap.objs.size) I0.ok.frames I0.stack rfl x (λb z=>I0.hok.fresh z) h01 λh' ch t x'=>?_);let fin:∀b o,s.heap.get? b=some o->b∉ch:=λb o q m=>by
  let z:=hsub.none (t.rec_ b m).1;rw[q]at z;cases z
 let nL:∀b o,s.heap.get? b=some o->b∉frs outer->b∉frs (envOfC qual scope s.heap.objs.size f cd::outer):=λb o q n m=>by
  let m':b∈s.heap.objs.size::frs outer:=m;rcases iG.mp m' with z|z
  .exact absurd (bK q) (by rw[z];show pK _)
  .exact n z
 show⟨e,C,dx,H1,rfl,I0.os,I0.bare,⟨λb o q n hb _=>?_,λb o q n hb _=>?_,λb o q n _=>I0.base.free b o q n (by change b∉([]:List Addr);simp),λb o q _=>?_,I0.base.tups,I0.base.iR,I0.base.jy⟩,I0.hok.tbd t I0.mL,x'.older hsub,ex⟩
 .exact t.keep b o (I0.base.keep b o q n hb (by change b∉([]:List Addr);simp)) (nL b o q hb) (fin b o q)
 .obtain⟨sl,q1⟩:=I0.base.slot b o q n hb (by change b∉([]:List Addr);simp);let⟨sl',q2⟩:=t.slot b _ q1 (show b∈s.heap.objs.size::frs outer from g_ _ hb);show⟨sl',q2⟩
 .obtain⟨o',q1⟩:=I0.base.there b o q (by change b∉([]:List Addr);simp);show t.there b o' q1
section
variable {X:Cx}{cm:Bool}{k:Nat}{f C:Addr}{fd:FuncData}{ps:List Str}{sp:Sp}{EX:XS}{x m:Str}{p pos apos:Pos}{e o:Expr}{es:List Expr}{ta:TE}{t:TA}
def Raises.pass(R:Raises X EX)(I:Inv X ao Z H s)(h:eN X.prog X.w X.stack H s (EX Z) v s'):X.xe v s':=by
 let⟨a,C,dx,H',rfl,os,bare,un,hok,x,q⟩:=h;let aq:Sub s.heap s'.heap:=λb o z=>un.there b o z RQ;show R ao Z H' s' s.heap a C dx (I.call' os un hok bare λb z=>absurd z RQ) (λb o z n=>I.base.there b o z n) (λp hp=>?_) aq x q;show⟨p.2,(I.pin p hp).1⟩
def BJ(sp:Sp)(EX:XS)(t:TA):TE:=λZ H Q=>t Z H λvs H1=>sp vs H1 Q (EX Z)
def zkt(F:bZ X.prog X.w X.K X.mg X.base (eN X.prog X.w) cm k f fd ps sp)(iW:cm=true->X.aj=true)(hr:aX k X.A)(hb:Binds X.K fd ps [])(R:Raises X EX)
  (I:Inv X ao Z H s) (r:Vals vs us) (h:sp vs H Q (EX Z)):wpAny (model X.prog X.w) X.A (call (.ref f) us) (EP X ao Z Q) X.xe s:=by
 let hl:us.length=ps.length:=by rw[<-r.length];show F.len _ _ _ _ h
 let hb':=hb s us I.lR (by rw[yQ];show hl);rw[yQ]at hb';show Ep (yS (F.run X.A X.stack s H ⟨us,[]⟩ us vs Q (EX Z) (λz=>I.ok.hd (iW z)) hr I.env0 hb' r h) λr s' hq=>?_);cases r with
 |error v=>show R.pass I hq|ok fl=>
  cases fl with
  |ret u=>show I.after hq|next=>show False.elim hq|brk=>show False.elim hq|cont=>show False.elim hq
def zhY(F:bZ X.prog X.w X.K X.mg X.base (eN X.prog X.w) cm k f fd ps sp)(iW:cm=true->X.aj=true)(hr:aX k X.A)(hg:Gl X x)(hm:X.mg x=some (.ref f))(hk:PySem.W.keepIn X.K (.ref f)=true)(hb:Binds X.K fd ps [])(R:Raises X EX)
  (ha:PA X (e::es) t) (rR:(x==("__debug__" : Str))=false:=by decide) (he:starEach (e::es) X.env=(false,eval e X.env)::starEach es X.env:=by rfl) (cQ:(backTo pos (starEach es X.env)).any (·.1)=false:=by rfl) :
  PE X (.Call (.Name x p) (e::es) [] pos) (BJ sp EX t):=by
 intro ao s Z H Q I h;show Ae (Ql I hg hm ?_ rR);show PN (h₀:=X.base) I.ok.mod.wI hk (aO (ha pos ao s Z H _ I h) λus s1 ⟨vs,H1,I1,r,q⟩=>⟨I1.lR,zkt F iW hr hb R I1 r q⟩) he cQ
end
def xK(a C:Addr)(dx:Option Addr):HO:=.ext λh=>∃oe vs,h.get? a=some oe/\oe.cls=.ref C/\oe.dict=dx/\oe.data=.fields vs
section
variable {X:Cx}{ao:List (Addr×Obj)}{Z:St}{H:Hp}{s:Shared}{e:Addr}{o:HO}
def Inv.track(I:Inv X ao Z H s)(hn:X.s₀.heap.get? e=none)(un:H e=none)(hp:∀p∈X.pn++ao,p.1≠e)(hL:e≠X.env.locals)(hc:∀x c,X.env.cells.lookup x=some c->c≠e)
  (new:bC X.prog X.w (upd H e o) s.heap e o):Inv X ao Z (upd H e o) s:=by
 let ne:∀b u,H b=some u->b≠e:=λb u q z=>by rw[z,un]at q;cases q
 let n0:∀b u,X.s₀.heap.get? b=some u->b≠e:=λb u q z=>by rw[z,hn]at q;cases q
 show⟨I.ok,I.os,I.bare,⟨I.base.keep,I.base.slot,λb u q n hx=>?_,I.base.there,λb xs q=>?_,λb u v q=>?_,λb ps q=>?_⟩,I.loc,I.cell,?_,λx c q=>?_,λp q=>?_,λb u q=>?_,I.len⟩
 .rw[bN (n0 b u q)];show I.base.free b u q n hx
 .let z:=I.base.tups b xs q;rw[bN (ne b _ z)];show z
 .let z:=I.base.iR b u v q;rw[bN (ne b _ z)];show z
 .obtain⟨m,z,g⟩:=I.base.jy b ps q;show⟨m,by rw[bN (ne b _ z)];show z,g.mono λb o u q=>by rw[bN (ne b _ q)];show q⟩
 .rw[bN hL.symm];show I.free
 .rw[bN (hc x c q)];show I.fL x c q
 .obtain⟨a1,a2,a3⟩:=I.pin p q;show⟨a1,by rw[bN (hp p q)];show a2,a3⟩
 .by_cases z:b=e
  .subst z;rw[h_]at q;cases q;show new
  .rw[bN z]at q;show(I.hok b u q).stay (λ_ _ _ r=>r) (λc r=>by rw[bN (ne c _ r)];show r) λc xs r=>by rw[bN (ne c _ r)];show r
def Cx.seen(X:Cx)(A:Around)(aj:Bool)(pn:List (Addr×Obj))(E:Value->Shared->Prop):Cx:={X with A:=A,aj:=aj,pn:=pn,xe:=E}
theorem Inv.seen(I:Inv X ao Z H s)(hA:A.frames=X.A.frames)(hc:c=true->A.handled=none)(hp:∀p∈pn++ps,p∈X.pn++ao):Inv (X.seen A c pn E) ps Z H s:=
 ⟨⟨I.ok.mod,I.ok.kind,I.ok.glob,I.ok.blt,I.ok.above,I.ok.inj,I.ok.has,I.ok.cab,hc,hA.trans I.ok.frames,I.ok.stk,I.ok.WT,I.ok.bs,I.ok.wN,I.ok.uc,I.ok.wO,I.ok.jz,I.ok.zc⟩,I.os,I.bare,I.base,I.loc,I.cell,I.free,I.fL,λp z=>I.pin p (hp p z),I.hok,I.len⟩
theorem Inv.BK(I:Inv (X.seen A c pn E) ps Z H s)(hA:X.A.frames=A.frames)(hc:X.aj=true->X.A.handled=none)(hp:∀p∈X.pn++ao,p∈pn++ps):Inv X ao Z H s:=
 ⟨⟨I.ok.mod,I.ok.kind,I.ok.glob,I.ok.blt,I.ok.above,I.ok.inj,I.ok.has,I.ok.cab,hc,hA.trans I.ok.frames,I.ok.stk,I.ok.WT,I.ok.bs,I.ok.wN,I.ok.uc,I.ok.wO,I.ok.jz,I.ok.zc⟩,I.os,I.bare,I.base,I.loc,I.cell,I.free,I.fL,λp z=>I.pin p (hp p z),I.hok,I.len⟩
end
end L2
namespace L2
open PySem PySem.Spec PyProof.Rows PySem.W Builtin.ObjectAttr
section
variable {prog:Program}{w:World}{A:Around}{E:Value->Shared->Prop}{s:Shared}{K:Frag}{x C:Addr}{ox:Obj}{od:Option Obj}{name:Str}{tk:Tok}
def ziZ(XI:K.In s.heap)(I:InstAt s.heap x ox C od)(hf:findObj K C od name=some r)
  (h:match r with|.value v=>Q (.done (.ret v)) s|.bind g a=>wpAny (model prog w) A (call g [a,.ref x,.ref C]) (λv s'=>Q (.done (.ret v)) s') E s|.missing=>False) :
  wpAny (model prog w) A (Builtin.«object.__getattribute__» ⟨[.ref x,.str name tk],[]⟩) Q E s:=by
 let⟨hh,g,d,t,os⟩:=s;let L0:=I.type (M:=model prog w);let L1:=looks_find (M:=model prog w) XI I hf;unfold Builtin.«object.__getattribute__»;show aB (Em (a:=(Value.ref x,[Value.str name tk])) (by rfl) ?_);show aB (Em (a:=name) (by rfl) ?_);show aB (L0.at (aB (L1.at ?_)));cases r with
 |value v=>show aJ h|bind g a=>
  change wpAny _ _ (holding [a] (call g [a,.ref x,.ref C]) >>= ret) _ _ _;show aB (pB (fK h (λv s' z=>aJ z) λ_ _ z=>z))
 |missing=>show h.elim
def zgn(XI:K.In s.heap)(I:InstAt s.heap x ox C od)(hb:mroIn K C (.type "BaseException")=some true)(hf:findObj K C od name=some r)
  (h:match r with|.value v=>R (.ok (.ret v)) s|.bind g a=>wpAny (model prog w) A.in1 (call g [a,.ref x,.ref C]) (λv s'=>R (.ok (.ret v)) s') (λe s'=>R (.error e) s') s|.missing=>False) :
  codeAny (model prog w) A (.call (.builtin "BaseException.__getattribute__") ⟨[.ref x,.str name tk],[]⟩) R s:=by
 let hk:builtinKind "BaseException.__getattribute__"=some .slot:=by decide +kernel
 let BL:splitId "BaseException.__getattribute__"=some ("BaseException","__getattribute__"):=by decide +kernel
 let ha:=F.args_bexc_ga (.ref x) (.str name tk);show codeAny_call_builtin F.attr_ValueError.ga.plain F.entry_bexc_ga ?_;let fin:wpAny (model prog w) A.in1 (Builtin.«object.__getattribute__» ⟨[.ref x,.str name tk],[]⟩) (λfin s'=>match fin with|.done f=>R (.ok f) s'|.again c'=>c'.quiet=true/\codeAny (model prog w) A c' R s') (λe s'=>R (.error e) s') s:=by
  show ziZ XI I hf ?_;cases r with
  |value v=>show h|bind g a=>show h|missing=>show h.elim
 let chk:∀Q:Unit->Shared->Prop,Q () s->wpAny (model prog w) A.in1 (checkBuiltinCall "BaseException.__getattribute__" ⟨[.ref x,.str name tk],[]⟩) Q (λe s'=>R (.error e) s') s:=λQ hq=>by
  let⟨hh,g,d,t,os⟩:=s;let L0:=I.type (M:=model prog w);let L1:=looks_mroIn (M:=model prog w) XI hb;let LI:Looks (model prog w) hh (isInstance (.ref x) (.type "BaseException")) true:=L0.andThen L1;simp only[checkBuiltinCall,hk,BL];show aB ?_
  repeat (first|with_reducible show hq|with_reducible show LI.at ?_|wp_step)
 show chk _ fin
def bexc_get?(XI:K.In s.heap)(I:InstAt s.heap x ox C od)(hb:mroIn K C (.type "BaseException")=some true)(hga:findIn K (.ref C) "__getattribute__"=some (some (.builtin "BaseException.__getattribute__")))
  (hgn:findIn K (.ref C) "__getattr__"=some none) (hf:findObj K C od name=some r)
  (h:match r with|.value v=>wpAny (model prog w) A (handedOut v) (λu s'=>Q (some u) s') (λ_ _=>False) {s with toks:=s.toks+1}|.bind g a=>wpAny (model prog w) A.in1 (call g [a,.ref x,.ref C]) (λv s'=>wpAny (model prog w) A (handedOut v) (λu s''=>Q (some u) s'') (λ_ _=>False) s') (λ_ _=>False) {s with toks:=s.toks+1}|.missing=>False) :
  wpAny (model prog w) A (getAttr? (.ref x) name) Q E s:=by
 let⟨hh,g,d,t,os⟩:=s;let L0:=I.type (M:=model prog w);let L1:=looks_findIn (M:=model prog w) XI hga;let L2:=looks_findIn (M:=model prog w) XI hgn;let M8:(Value.builtin "BaseException.__getattribute__"==Value.builtin "object.__getattribute__")=false:=by decide +kernel
 unfold getAttr? getAttrBy? getAttrBy;show aB (wpAny_mkText (aB (El (pB (aB (L0.at (aB (L1.at ?_))))))));change wpAny _ _ (if (onTheHeap (.ref C)&&(Value.builtin "BaseException.__getattribute__"==Value.builtin "object.__getattribute__"))=true then _ else getAttrByItsOwn _ _ _ _ _ _) _ _ _;rw[M8,Bool.and_false,if_neg J0];unfold getAttrByItsOwn hookBefore callGetattribute boundAndCalled;show aB (L2.at ?_);show aB (El (pB (aB (Em (F.attr_ValueError.ga.bind (.ref x)) ?_))));show Ep (zgn XI I hb hf ?_);cases r with
 |value v=>show fK h (λv s'' hv=>aJ hv) (λ_ _ z=>z.elim)|bind g a=>show fK h (λv s' hv=>fK hv (λu s'' z=>aJ z) λ_ _ z=>z.elim) (λ_ _ z=>z.elim)|missing=>show h.elim
end
structure XC(K:Frag)(C:Addr):Prop where
 ga:findIn K (.ref C) "__getattribute__"=some (some (.builtin "BaseException.__getattribute__"))
 gn:findIn K (.ref C) "__getattr__"=some none
 cl:findIn K (.ref C) "__class__"=some (some (.builtin "object.__class__"))
 mb:mroIn K C (.type "BaseException")=some true
 mo:mroIn K C (.type "object")=some true
 cd:(clsIn K C).isSome=true
 dg:specialIn K (.builtin "object.__class__") "__get__"=some (some (.builtin "getset_descriptor.__get__"))
 dt:takesIn K (.builtin "object.__class__")=some true
def zfJ{K:Frag}{C:Addr}{od:Option Obj}{name:Str}{a g:Value}(hc:(clsIn K C).isSome=true)(ha:findIn K (.ref C) name=some (some a))(hg:specialIn K a "__get__"=some (some g))(ht:takesIn K a=some true):findObj K C od name=some (.bind g a):=by
 let⟨cd,z⟩:=Pg.mp hc;simp only[findObj,z,ha,hg,ht,Option.bind_some]
theorem X5{K:Frag}{e C:Addr}(c:XC K C):KitX K (.ref e) (.ref C) (λh=>∃ox od,InstAt h e ox C od) where
 ty:=λ_ _ _ ⟨_,_,I⟩=>I.type
 it:=λ_ _ XI _=>by
  let q:=c.cd;unfold clsIn at q;split at q
  .rename_i c' d' cd' sl' lk;intro A' Q' E' s' k z;unfold isType loadHead;show aB (wpAny_loadPart (k _ _ (XI _ _ lk)) (aJ z))
  .cases q
 ne:=λh tp dd its n sl XI htp=>by
  show Bool.eq_false_iff.mpr λz=>?_;let ee:C=tp:=Value.ref.inj (nM.mp z);subst ee;let q:=c.cd;unfold clsIn at q;split at q
  .rename_i c' d' cd' sl' lk;let y:=(XI _ _ lk).symm.trans htp;cases y
  .cases q
 ca:=λ{prog w A E Q s} XI ⟨ox,od,I⟩ k=>by
  let hf:findObj K C od "__class__"=some (.bind (.builtin "getset_descriptor.__get__") (.builtin "object.__class__")):=zfJ c.cd c.cl c.dg c.dt;show bexc_get? XI I c.mb c.ga c.gn hf ?_;show Ep (class_get (s:={s with toks:=s.toks+1}) (ox:=ox) (od:=od) XI I c.mo (handed_on rfl k))
end L2
namespace L2
open PySem PySem.Spec PyProof.Rows
def zeR:∀(names:List (Str×NameKind)) (cs:List (Str×Addr)),(∀x∈names,x.2=.free->∃c,env.cells.lookup x.1=some c)->(∀x c,cs.lookup x=some c->env.cells.lookup x=some c)->
  ∃cl,(forIn names cs λx r=>(do
    if x.2==.free then
     let a <-cellOf env x.1
     pure (ForInStep.yield ((x.1,a)::r))
    else pure (ForInStep.yield r)):Sem (List (Str×Addr)))=pure cl/\(∀x c,cl.lookup x=some c->env.cells.lookup x=some c)/\(∀x c,cs.lookup x=some c->cl.lookup x=some c)/\∀x∈names,x.2=.free->∃c,cl.lookup x.1=some c:=by
 intro names
 induction names with
 |nil=>intro cs _ h;show⟨cs,rfl,h,λ_ _ q=>q,λx z=>nomatch z⟩
 |cons y r ih=>
  intro cs h1 h2;let⟨n,k⟩:=y;by_cases hk:k=.free
  .subst hk;let⟨c,hc⟩:=h1 (n,.free) kO rfl;let hc:env.cells.lookup n=some c:=hc;let h3:∀x d,((n,c)::cs).lookup x=some d->env.cells.lookup x=some d:=λx d q=>by
    rw[pI]at q;by_cases z:x=n
    .subst z;simp at q;subst q;show hc
    .let z':(x==n)=false:=by simpa using z
     rw[z']at q;show h2 x d q
   let⟨cl,e,a,b,d⟩:=ih ((n,c)::cs) (λx z=>h1 x (g_ _ z)) h3;let hco:cellOf env n=pure c:=by
    unfold cellOf;rw[hc]
   show⟨cl,?_,a,λx q z=>?_,λx z q=>?_⟩
   .rw[Ek];simp only[Ed,if_true,hco];show e
   .by_cases y:x=n
    .subst y;let z1:=h2 x q z;rw[hc]at z1;cases z1;show b x c RQ
    .let y':(x==n)=false:=by simpa using y
     show b x q (by rw[pI,y'];show z)
   .rcases iG.mp z with z|z
    .subst z;show⟨c,b n c RQ⟩
    .exact d x z q
  .let hb:(k==NameKind.free)=false:=by simpa using hk
   let⟨cl,e,a,b,d⟩:=ih cs (λx z=>h1 x (g_ _ z)) h2;show⟨cl,?_,a,b,λx z q=>?_⟩
   .rw[Ek];simp only[hb,rH,nO];show e
   .rcases iG.mp z with z|z
    .subst z;show absurd q hk
    .exact d x z q
def zfi(h:∀x∈scope.names,x.2=.free->∃c,env.cells.lookup x.1=some c):∃cl,closureFor scope env=pure cl/\(∀x c,cl.lookup x=some c->env.cells.lookup x=some c)/\∀x∈scope.names,x.2=.free->∃c,cl.lookup x.1=some c:=by
 let⟨cl,e,a,_,d⟩:=zeR scope.names [] h (λx c q=>by cases q);show⟨cl,?_,a,d⟩;unfold closureFor;let e':=e;simp only[pure_bind,bind_pure]at e' ⊢;show e'
theorem Rn{env:Env}{k:NameKind}:∀{names:List (Str×NameKind)} {x:Str},(names.map λ(n,k)=>if (k==NameKind.free&&env.scope.kind==.function&&env.kindOf n==some .cell) then (n,NameKind.cell) else (n,k)).lookup x=some k->
  names.lookup x=some k\/(k=.cell/\names.lookup x=some .free)
 |[],x,h=>by simp at h|(n,q)::r,x,h=>by
  rw[iH,pI]at h;rw[pI];let hd:∀c:Bool,(if c=true then (n,NameKind.cell) else (n,q)).1=n:=λc=>by cases c<;>rfl
  rw[hd]at h;by_cases z:x=n
  .subst z;simp only[Ed]at h ⊢;split at h
   .rename_i y;simp only[gA,nM]at y;cases h;show .inr ⟨rfl,by rw[y.1.1]⟩
   .cases h;show .inl rfl
  .let z':(x==n)=false:=by simpa using z
   simp only[z']at h ⊢;show Rn h
theorem Ro{env:Env}:∀{names:List (Str×NameKind)} {x:Str},names.lookup x=some .free->
  (names.map λ(n,k)=>if (k==NameKind.free&&env.scope.kind==.function&&env.kindOf n==some .cell) then (n,NameKind.cell) else (n,k)).lookup x=some .cell \/
  (names.map λ(n,k)=>if (k==NameKind.free&&env.scope.kind==.function&&env.kindOf n==some .cell) then (n,NameKind.cell) else (n,k)).lookup x=some .free
 |[],x,h=>by simp at h|(n,q)::r,x,h=>by
  rw[pI]at h;rw[iH,pI];let hd:∀c:Bool,(if c=true then (n,NameKind.cell) else (n,q)).1=n:=λc=>by cases c<;>rfl
  rw[hd];by_cases z:x=n
  .subst z;simp only[Ed]at h ⊢;cases h
   split
   .exact .inl rfl
   .exact .inr rfl
  .let z':(x==n)=false:=by simpa using z
   simp only[z']at h ⊢;show Ro h
structure oh(n:Nat)(h1:Heap)(names:List (Str×NameKind))(cl eO:List (Str×Addr)):Prop where
 d1:∀x c,eO.lookup x=some c->(cl.lookup x=some c/\(x,NameKind.cell)∉names)\/((x,NameKind.cell)∈names/\n<c/\h1.IsCell c none)
 d2:∀x y c,n<c->eO.lookup x=some c->eO.lookup y=some c->x=y
 d3:∀x,names.lookup x=some .cell->∃c,eO.lookup x=some c
 d4:∀x c,(x,NameKind.cell)∉names->cl.lookup x=some c->eO.lookup x=some c
def cc:(NameKind.cell==NameKind.cell)=true:=by decide
theorem I9:∀(names:List (Str×NameKind)) (h:Heap) (b:Addr) (o:Obj),h.get? b=some o->(pushCells h names).get? b=some o
 |[],h,b,o,e=>e|(x,k)::r,h,b,o,e=>by
  rw[pushCells]
  split
  .exact I9 r _ b o (bW _ e)
  .exact I9 r h b o e
theorem Rp:∀(names:List (Str×NameKind)) (h:Heap) (acc:List (Str×Addr)) (x:Str) (c:Addr),(cellsFrom h.objs.size names acc).lookup x=some c->
  (acc.lookup x=some c/\(x,NameKind.cell)∉names)\/((x,NameKind.cell)∈names/\h.objs.size<=c/\(pushCells h names).IsCell c none)
 |[],h,acc,x,c,e=>.inl ⟨e,by simp⟩|(y,k)::r,h,acc,x,c,e=>by
  rw[cellsFrom]at e;rw[pushCells];by_cases hk:k=.cell
  .subst hk;rw[if_pos cc]at e ⊢;let sz:(h.push {cls:=Value.type "cell",data:=Data.cell none}).objs.size=h.objs.size+1:=by unfold Heap.push;simp
   rw[<-sz]at e;rcases Rp r _ _ x c e with ⟨a,b⟩|⟨a,b,d⟩
   .rw[pI]at a;by_cases z:x=y
    .subst z;simp at a;subst a;show .inr ⟨kO,bU _,_,I9 r _ _ _ (dU _ rfl),rfl⟩
    .let z':(x==y)=false:=by simpa using z
     rw[z']at a;show .inl ⟨a,by simp[z,b]⟩
   .exact .inr ⟨g_ _ a,by lia,d⟩
  .let hb:(k==NameKind.cell)=false:=by simpa using hk
   rw[if_neg (by rw[hb];decide)]at e ⊢;rcases Rp r _ _ x c e with ⟨a,b⟩|⟨a,b,d⟩
   .exact .inl ⟨a,by simp[b];intro _ q;show hk q.symm⟩
   .exact .inr ⟨g_ _ a,b,d⟩
theorem Rq:∀(names:List (Str×NameKind)) (n:Nat) (acc:List (Str×Addr)) (x y:Str) (c:Addr),(∀u v,acc.lookup u=some c->acc.lookup v=some c->u=v)->(∀u a,acc.lookup u=some a->a<n\/a≠c)->(cellsFrom n names acc).lookup x=some c->(cellsFrom n names acc).lookup y=some c->x=y
 |[],n,acc,x,y,c,h,_,e1,e2=>h x y e1 e2|(z,k)::r,n,acc,x,y,c,h,hl,e1,e2=>by
  rw[cellsFrom]at e1 e2;by_cases hk:k=.cell
  .subst hk;rw[if_pos cc]at e1 e2;show Rq r (n+1) _ x y c (λu v a b=>?_) (λu a q=>?_) e1 e2
   .rw[pI]at a b;by_cases u1:u=z
    .by_cases v1:v=z
     .rw[u1,v1]
     .let v':(v==z)=false:=by simpa using v1
      subst u1;simp at a;rw[v']at b;subst a;let b:acc.lookup v=some n:=b;rcases hl v n b with q|q
      .exact absurd q (pK _)
      .exact absurd rfl q
    .let u':(u==z)=false:=by simpa using u1
     rw[u']at a;let a:acc.lookup u=some c:=a;by_cases v1:v=z
     .subst v1;simp at b;subst b;rcases hl u n a with q|q
      .exact absurd q (pK _)
      .exact absurd rfl q
     .let v':(v==z)=false:=by simpa using v1
      rw[v']at b;show h u v a b
   .rw[pI]at q;by_cases u1:u=z
    .subst u1;simp at q;subst q;show .inl (Gy _)
    .let u':(u==z)=false:=by simpa using u1
     rw[u']at q;show(hl u a q).imp (λq=>tG q) id
  .let hb:(k==NameKind.cell)=false:=by simpa using hk
   rw[if_neg (by rw[hb];decide)]at e1 e2;show Rq r n acc x y c h hl e1 e2
theorem Rr:∀(names:List (Str×NameKind)) (n:Nat) (acc:List (Str×Addr)) (x:Str) (c:Addr),(x,NameKind.cell)∉names->acc.lookup x=some c->(cellsFrom n names acc).lookup x=some c
 |[],n,acc,x,c,_,e=>e|(z,k)::r,n,acc,x,c,h,e=>by
  rw[cellsFrom];let hr:(x,NameKind.cell)∉r:=λq=>h (g_ _ q);by_cases hk:k=.cell
  .subst hk;rw[if_pos cc];show Rr r (n+1) _ x c hr ?_;let:x≠z:=λq=>h (by rw[q];show kO);let z':(x==z)=false:=by simpa using this
   rw[pI,z'];show e
  .let hb:(k==NameKind.cell)=false:=by simpa using hk
   rw[if_neg (by rw[hb];decide)];show Rr r n acc x c hr e
theorem Rt:∀(names:List (Str×NameKind)) (acc:List (Str×Addr)) (s:Shared) (Q:List (Str×Addr)->Shared->Prop),
  Q (cellsFrom s.heap.objs.size names acc) {s with heap:=pushCells s.heap names}->
  wpAny M A (forIn names acc λx (cells:List (Str×Addr))=>match x with
   |(name,kind)=>if (kind==NameKind.cell)=true then do
     let a <-alloc {cls:=Value.type "cell",data:=Data.cell none}
     pure (ForInStep.yield ((name,a)::cells))
    else pure (ForInStep.yield cells)) Q E s
 |[],acc,s,Q,h=>by
  rw[Mh];show aJ h
 |(z,k)::r,acc,s,Q,h=>by
  rw[Ek];rw[cellsFrom,pushCells]at h;by_cases hk:k=.cell
  .subst hk;rw[if_pos cc,if_pos cc]at h;show aB ?_;dsimp only;rw[if_pos cc];show aB (wpAny_alloc (aJ ?_));show Rt r _ _ Q ?_;let sz:(s.heap.push {cls:=Value.type "cell",data:=Data.cell none}).objs.size=s.heap.objs.size+1:=by unfold Heap.push;simp
   rw[sz];show h
  .let hb:(k==NameKind.cell)=false:=by simpa using hk
   rw[if_neg (by rw[hb];decide),if_neg (by rw[hb];decide)]at h;show aB ?_;dsimp only;rw[if_neg (by rw[hb];decide)];show aJ (Rt r _ _ Q h)
def X6(old:∀x c,cl.lookup x=some c->c<s.heap.objs.size)(inj:∀x y c,cl.lookup x=some c->cl.lookup y=some c->x=y)
  (h:∀h1 eO,h1.Ns s.heap.objs.size (λ_=>none)->(∀b o,s.heap.get? b=some o->h1.get? b=some o)->oh s.heap.objs.size h1 scope.names cl eO->Q {scope:=scope,locals:=s.heap.objs.size,globals:=globals,cells:=eO,qual:=qual,func:=none,code:=env.code,frame:=env.frame,builtins:=env.builtins} {s with heap:=h1}) :
  wpAny M A (newFunctionEnv scope globals cl [] qual none .none (some env)) Q E s:=by
 unfold newFunctionEnv;show aB (wpAny_alloc ?_);show aB ?_;show Rt scope.names cl _ _ ?_;dsimp only;rw[Mh];show aB (aJ (aJ ?_));let sz:(s.heap.push {cls:=Value.type (if (some env).isSome=true then "dict" else "frame"),data:=Data.dict #[]}).objs.size=s.heap.objs.size+1:=by unfold Heap.push;simp
 show h _ _ ?_ (λb o e=>I9 _ _ _ _ (bW _ e)) ⟨λx c e=>?_,λx y c hc e1 e2=>?_,λx e=>?_,λx c hx e=>Rr _ _ _ x c hx e⟩
 .refine⟨_,#[],_,I9 _ _ _ _ (dU _ rfl),rfl,?_,λ_=>rfl⟩;intro e he;simp at he
 .rcases Rp _ _ _ x c e with ⟨a,b⟩|⟨a,b,d⟩
  .exact .inl ⟨a,b⟩
  .rw[sz]at b;show .inr ⟨a,by lia,d⟩
 .exact Rq _ _ _ x y c (λu v a b=>inj u v c a b) (λu a q=>.inl (by rw[sz];show tG (old u a q))) e1 e2
 .let:=Lp scope.names (s.heap.push {cls:=Value.type (if (some env).isSome=true then "dict" else "frame"),data:=Data.dict #[]}).objs.size cl (.inl e);show Pg.mp this
def Cx.blk(X:Cx)(scope:Scope)(cl:List (Str×Addr))(N:List Str)(C:Addr)(s3:Shared)(H3:Hp)(fp:List Addr)(ao:List (Addr×Obj)):Cx where
 prog:=X.prog
 w:=X.w
 K:=X.K
 mg:=X.mg
 base:=X.base
 A:=X.A
 N:=N
 s₀:=s3
 H₀:=H3
 env:=compEnvC scope cl C X.env
 outer:=X.stack
 stack:=X.stack
 ex:=fp
 fn:=λx=>scope.names.lookup x==some .cell
 aj:=X.aj
 pn:=X.pn++ao
 xe:=λ_ _=>False
structure cG(sc scope:Scope):Prop where
 kind:scope.kind=.function
 X7:∀y∈scope.names,y.2=.cell->scope.names.lookup y.1=some .cell
 free:∀y∈scope.names,y.2=.free->sc.names.lookup y.1=some .cell\/sc.names.lookup y.1=some .free
 loc:∀y∈scope.names,y.2=.local->scope.names.lookup y.1=some .local
section
variable {X:Cx}{ao:List (Addr×Obj)}{Z:St}{H:Hp}{s:Shared}{scope:Scope}{cl:List (Str×Addr)}{N:List Str}{fp:List Addr}{ZY:St}
def X8{h1:Heap}{t:Nat}{eO:List (Str×Addr)}(I:Inv X ao Z H s)(B:cG X.env.scope scope)(c1:∀x c,cl.lookup x=some c->X.env.cells.lookup x=some c)(c2:∀x∈scope.names,x.2=.free->∃c,cl.lookup x.1=some c)
  (f:∀b∈fp,fj X ao H b) (fo:∀b∈fp,∃o,s.heap.get? b=some o) (hn:h1.Ns s.heap.objs.size (λ_=>none)) (kp:∀b o,s.heap.get? b=some o->h1.get? b=some o) (CN:oh s.heap.objs.size h1 scope.names cl eO)
  (hl:ZY.length=N.length) (hZ:∀(i:Nat) (x:Str) (v:V),N[i]?=some x->ZY[i]?=some (some v)->scope.names.lookup x=some .free/\∃j:Nat,X.N[j]?=some x/\Z[j]?=some (some v)) :
  Inv (X.blk scope eO N s.heap.objs.size s H fp ao) [] ZY H {s with heap:=h1,toks:=t}:=by
 let lt:∀b o,s.heap.get? b=some o->b≠s.heap.objs.size:=λb o q=>cR (bK q);let X_:∀b,b≠X.env.locals->b∉X.fs->b∉frs X.stack:=λb a c z=>(iG.mp (I.jR b z)).elim a c;let mem_of:∀x k,scope.names.lookup x=some k->(x,k)∈scope.names:=λx k q=>DX q;let old:∀x c,cl.lookup x=some c->c<s.heap.objs.size:=λx c q=>by
  let⟨v,o,q1,q2⟩:=I.cell x c (c1 x c q);show bK q1
 let Yb:∀x,scope.names.lookup x=some .free->(x,NameKind.cell)∉scope.names:=λx q z=>by
  let:=B.X7 _ z rfl;let this:scope.names.lookup x=some .cell:=this;rw[q]at this;cases this
 show⟨⟨I.ok.mod,B.kind,I.ok.glob,I.ok.blt,bU _,λx y c a b=>?_,λx hx=>?_,λx c z q=>?_,I.ok.hd,I.ok.frames,.inl rfl,λb hb=>?_,I.bs,jO I.ok.wN I.sz,λb o q hb=>?_,λb hb=>X_ b (f b hb).2.1 (f b hb).2.2.1,I.stack,⟨I.mL,I.Bb⟩⟩,
  rfl,I.bare,Un.kept kp,⟨_,hn,λi x v e1 e2 e3=>?_⟩,λx c q=>?_,I.hok.fresh (bU _),λx c q=>?_,λp hp=>?_,I.hok.kept kp,hl⟩
 .by_cases hc:s.heap.objs.size<c
  .exact CN.d2 x y c hc a b
  .rcases CN.d1 x c a with ⟨a1,_⟩|⟨_,a1,_⟩
   .rcases CN.d1 y c b with ⟨b1,_⟩|⟨_,b1,_⟩
    .exact I.ok.inj x y c (c1 x c a1) (c1 y c b1)
    .exact absurd b1 hc
   .exact absurd a1 hc
 .let hx:(relabel scope X.env).names.lookup x=some .cell\/(relabel scope X.env).names.lookup x=some .free:=hx;let fr:scope.names.lookup x=some .cell\/scope.names.lookup x=some .free:=by
   rcases hx with hx|hx
   .rcases Rn hx with z|⟨_,z⟩
    .exact .inl z
    .exact .inr z
   .rcases Rn hx with z|⟨z,_⟩
    .exact .inr z
    .cases z
  rcases fr with fr|fr
  .exact CN.d3 x fr
  .obtain⟨c,hc⟩:=c2 (x,.free) (mem_of x _ fr) rfl;show⟨c,CN.d4 x c (Yb x fr) hc⟩
 .rcases CN.d1 x c q with ⟨_,q1⟩|⟨_,q1,_⟩
  .let z:(scope.names.lookup x==some NameKind.cell)=true:=z;show absurd (mem_of x _ (by simpa using z)) q1
  .exact rK q1
 .obtain⟨o,q⟩:=fo b hb;show⟨lt b o q,λx c z=>?_⟩;rcases CN.d1 x c z with ⟨q1,_⟩|⟨_,q1,_⟩
  .exact(f b hb).2.2.2.2.1 x c (c1 x c q1)
  .exact λe=>absurd (bK q) (by rw[<-e];show Er.mpr (rK q1))
 .obtain⟨_,_,_,z,_⟩:=f b hb;rcases z with z|z
  .exact I.ok.uc b o q z
  .exact absurd (fD (bK q) (jO I.ok.wN z)) (pK _)
 .obtain⟨fr,j,hj,hv⟩:=hZ i x v e1 e2;let hk:=B.free (x,.free) (mem_of x _ fr) rfl;let⟨m,hm,hlk⟩:=I.loc;let⟨u,r,l⟩:=hlk j x v hj hv (hk.elim (λz=>.inr (.inl z)) λz=>.inr (.inr z));let⟨c',lD⟩:=c2 (x,.free) (mem_of x _ fr) rfl;let lD:cl.lookup x=some c':=lD;show⟨u,r,.inr ⟨Ro fr,c',CN.d4 x c' (Yb x fr) lD,?_⟩⟩;rcases l with ⟨k1,_⟩|⟨_,c,k2,oc,k3,k4⟩
  .let k1:X.env.scope.names.lookup x=some .local:=k1;rcases hk with hk|hk
   .let hk:X.env.scope.names.lookup x=some .cell:=hk;rw[k1]at hk;cases hk
   .let hk:X.env.scope.names.lookup x=some .free:=hk;rw[k1]at hk;cases hk
  .let e:=c1 x c' lD;rw[k2]at e;cases e;show⟨oc,kp _ oc k3,k4⟩
 .rcases CN.d1 x c q with ⟨q1,_⟩|⟨_,_,q1⟩
  .obtain⟨v,o,q1,q2⟩:=I.cell x c (c1 x c q1);show⟨v,o,kp c o q1,q2⟩
  .exact⟨none,q1⟩
 .rcases CN.d1 x c q with ⟨q1,_⟩|⟨_,q1,_⟩
  .exact I.fL x c (c1 x c q1)
  .exact I.hok.fresh (rK q1)
 .let hp:p∈X.pn++ao:=by
   let z:p∈(X.pn++ao)++[]:=hp;simpa using z
  let⟨a1,a2,a3,a4,a5⟩:=I.pin p hp;show⟨kp _ _ a1,a2,lt _ _ a1,X_ _ a3 a4,a5⟩
theorem Yc(I:Inv X ao Z H s)(f:∀b∈fp,fj X ao H b)(aW:Inv (X.blk scope cl N s.heap.objs.size s H fp ao) [] Z' H' s'):Inv X ao Z H' s':=
 I.call' (ch:=fp) aW.os aW.base aW.hok aW.bare λb hb=>by
  let⟨_,a2,_,a4,a5,a6⟩:=f b hb;show⟨a4.imp id λz=>DQ z,a2,a5,a6⟩
theorem Ru{Z':St}{H':Hp}{s':Shared}{h2:Heap}{C:Addr}(aW:Inv X ao Z H' s')(hC:X.s₀.heap.objs.size<=C)(n1:H' C=none)(n2:C≠X.env.locals)(n3:∀x c,X.env.cells.lookup x=some c->c≠C)(n4:∀p∈X.pn++ao,p.1≠C)
  (sb:Heap.SameBut C s'.heap h2):Inv X ao Z H' {s' with heap:=h2}:=
 aW.turned (t':=s'.toks) (λb o z q=>(sb.2 b z).trans q) n1 n2 (.inr hC) n3 n4
end
noncomputable abbrev jH(ifs:List Expr)(env:Env):Sem Bool:=forIn ifs true λc r=>if r=true then do let ok <-isTrue c env (eval c env);pure (ForInStep.yield ok) else pure (ForInStep.yield r)
def zgQ{prog:Program}{w:World}{A:Around}{R:Result->Shared->Prop}{s:Shared}{elt target iter:Expr}{ifs:List Expr}{scope:Scope}{pos:Pos}{it acc:Value}{env:Env}(V:Nat->Shared->Prop)
  (turn:∀n s,V n s->wpAny (model prog w) A (pyNext it) (λr s₁=>match r with
   |none=>R (.ok .next) s₁|some v=>wpAny (model prog w) A (letOwnedTupleGo target it v) (λ_ s₂=>wpAny (model prog w) A (assign target env v) (λ_ s₃=>
     wpAny (model prog w) A (jH ifs env) (λok s₄=>
      if ok=true then wpAny (model prog w) A (eval elt env) (λx s₅=>wpAny (model prog w) A (call (.builtin "list.append") [acc,x]) (λ_ s₆=>∃m,m<n/\V m s₆) (λ_ _=>False) s₅) (λ_ _=>False) s₄
      else ∃m,m<n/\V m s₄) (λ_ _=>False) s₃) (λ_ _=>False) s₂) (λ_ _=>False) s₁) (λ_ _=>False) s)
  (n:Nat) (h:V n s):codeAny (model prog w) A (.compLoop (.ListComp elt [⟨target,iter,ifs,0⟩] scope pos) 0 it acc env) R s:=by
 show codeAny_loop rfl V (λn s hV=>?_) n h;change wpAny _ A ((compTurn (.ListComp elt [⟨target,iter,ifs,0⟩] scope pos) 0 it acc env).onRaise (λx=>do noteFrame x env;theTreesLotGoes x)) _ _ s;show wpAny_noted ?_;rw[compTurn_list];show aB (tW (aB (fK (turn n s hV) (λr s₁ h₁=>?_) λ_ _ z=>z.elim)));cases r with
 |none=>show aJ h₁|some v=>
  show aB (fK h₁ (λ_ s₂ h₂=>?_) λ_ _ z=>z.elim);show aB (fK h₂ (λ_ s₃ h₃=>aB (fK h₃ (λok s₄ h₄=>?_) λ_ _ z=>z.elim)) λ_ _ z=>z.elim);cases ok with
  |true=>
   simp only[if_true]at h₄ ⊢;show aB (aB (fK h₄ (λx s₅ h₅=>aB (fK h₅ (λ_ s₆ h₆=>aJ (aJ ⟨rfl,h₆⟩)) λ_ _ z=>z.elim)) λ_ _ z=>z.elim))
  |false=>
   simp only[rH,nO]at h₄ ⊢;show aJ ⟨rfl,h₄⟩
def EY(X:Cx)(ifs:List Expr)(t:TT):Prop:=
 ∀(ao:List (Addr×Obj)) (s:Shared) (Z:St) (H:Hp) (Q:Bool->Hp->Prop),Inv X ao Z H s->t Z H Q->wpAny (model X.prog X.w) X.A (jH ifs X.env) (TP X ao Z Q) X.xe s
def Rw:TT:=λ_ H Q=>Q true H
theorem zkA:EY X [] Rw:=λ_ _ _ H _ I h=>wpAny_tests_nil ⟨H,I,h⟩
theorem zjG(h:PT X c t):EY X [c] t:=λao s Z H Q I hq=>wpAny_tests_one (h ao s Z H Q I hq)
def I_(ZY:St->St)(g:TG)(tt:TT)(te:TE)(aW:It)(Z:St)(H:Hp)(Q:VK):Prop:=∀D,H D=none->∃W:Nat->Nat->St->Hp->Prop,(∃m,W 0 m (ZY Z) (upd H D (.lst [])))/\∀i m Z' H',W i m Z' H'->
 (aW.stop i H'/\Q (.ref D) H')\/(aW.go i H'/\∃N:St->Hp->Prop,(∀Z2 H2,N Z2 H2->∃m',m'<m/\W (i+1) m' Z2 H2)/\∀x H2,aW.uh i H' x H2->g x Z' H2 λZ3 H3=>tt Z3 H3 λok H4=>
  if ok=true then te Z3 H4 λy H5=>∃ys,H5 D=some (.lst ys)/\ys.length<sizeLine/\N Z3 (upd H5 D (.lst (ys++[y]))) else N Z3 H4)
section
variable {X:Cx}{elt tg iter:Expr}{ifs:List Expr}{scope:Scope}{pos:Pos}{N:List Str}{ZY:St->St}{wi:TI}{g:TG}{tt:TT}{te:TE}
structure Parts(X:Cx)(elt tg:Expr)(ifs:List Expr)(scope:Scope)(N:List Str)(g:TG)(tt:TT)(te:TE):Prop where
 tgt:∀cl C s3 H3 fp ao,PG (X.blk scope cl N C s3 H3 fp ao) tg g
 Ja:∀cl C s3 H3 fp ao,EY (X.blk scope cl N C s3 H3 fp ao) ifs tt
 el:∀cl C s3 H3 fp ao,PE (X.blk scope cl N C s3 H3 fp ao) elt te
def Yd(hc:X.aj=true)(B:cG X.env.scope scope)(P:Parts X elt tg ifs scope N g tt te)(hl:∀Z,(ZY Z).length=N.length)
  (hZ:∀(Z:St) (i:Nat) (x:Str) (v:V),N[i]?=some x->(ZY Z)[i]?=some (some v)->scope.names.lookup x=some .free/\∃j:Nat,X.N[j]?=some x/\Z[j]?=some (some v))
  {ao:List (Addr×Obj)} {s:Shared} {Z:St} {H:Hp} {Q:VK} {it:Addr} {fp:List Addr} {tn:Nat->Heap->Prop} {aW:It} (I:Inv X ao Z H s) (T:Turn X.prog X.w X.K tg aW fp it tn) (st:tn 0 s.heap) (f:∀b∈fp,fj X ao H b) (h:I_ ZY g tt te aW Z H Q)
  {cl:List (Str×Addr)} (c1:∀x c,cl.lookup x=some c->X.env.cells.lookup x=some c) (c2:∀x∈scope.names,x.2=.free->∃c,cl.lookup x.1=some c) {R:Value->Addr->Result->Shared->Prop} {E:Value->Shared->Prop}
  (k:∀D C s' H',Inv X ao Z H' s'->X.s₀.heap.objs.size<=C->H' C=none->C≠X.env.locals->(∀x c,X.env.cells.lookup x=some c->c≠C)->(∀p∈X.pn++ao,p.1≠C)->(∃m,s'.heap.Ns C m)->Q (.ref D) H'->R (.ref D) C (.ok .next) s') :
  wpAny (model X.prog X.w) X.A (newList []) (λacc s₃=>wpAny (model X.prog X.w) X.A (newFunctionEnv scope X.env.globals cl [] X.env.qual none .none (some X.env)) (λcenv s₄=>
   codeAny (model X.prog X.w) X.A (.compStart (.ListComp elt [⟨tg,iter,ifs,0⟩] scope pos) 0 (.ref it) acc {cenv with scope:=relabel scope X.env}) (R acc cenv.locals) s₄) E s₃) E s:=by
 show o_ ?_;let hD:H s.heap.objs.size=none:=I.hok.fresh (bU _);let I3:Inv X ao Z (upd H s.heap.objs.size (.lst [])) {s with heap:=s.heap.push {cls:=.type "list",dict:=none,data:=.seq ([]:List Value).toArray}}:=
  I.laid (t':=s.toks) (λb u q=>bW _ q) (bU _) ⟨rM _,[],0,.nil,dU _ rfl⟩
 let f3:∀b∈fp,fj X ao (upd H s.heap.objs.size (.lst [])) b:=λb hb=>by
  let⟨a1,a2⟩:=f b hb;let⟨o,q,_⟩:=T.obj 0 _ st b hb;show⟨by rw[bN (cR (bK q))];show a1,a2⟩
 let st3:tn 0 (s.heap.push {cls:=.type "list",dict:=none,data:=.seq ([]:List Value).toArray}):=T.keep _ _ _ st λb hb o q=>bW _ q;let⟨W,⟨m0,w0⟩,turn⟩:=h s.heap.objs.size hD;generalize Rx:({s with heap:=s.heap.push {cls:=.type "list",dict:=none,data:=.seq ([]:List Value).toArray}}:Shared)=s3 at *;let pX:tn 0 s3.heap:=by rw[<-Rx];show st3
 generalize hH3:upd H s.heap.objs.size (.lst [])=H3 at *;show X6 (λx c q=>by let⟨v,o,q1,_⟩:=I3.cell x c (c1 x c q);show bK q1) (λx y c a b=>I3.ok.inj x y c (c1 x c a) (c1 y c b)) λh1 eO hn kp CN=>?_;let BP:Inv (X.blk scope eO N s3.heap.objs.size s3 H3 fp ao) [] (ZY Z) H3 {s3 with heap:=h1}:=
  X8 (t:=s3.toks) I3 B c1 c2 f3 (λb hb=>let ⟨o,q,_⟩:=T.obj 0 _ pX b hb;⟨o,q⟩) hn kp CN (hl Z) (hZ Z)
 let Jc:tn 0 h1:=T.keep _ _ _ pX λb hb o q=>kp b o q;let fY:∀{H':Hp},(∀b∈fp,H' b=none)->∀b∈fp,fj (X.blk scope eO N s3.heap.objs.size s3 H3 fp ao) [] H' b:=λ{H'} z b hb=>by
  let⟨a1,a2,a3,a4,a5,a6⟩:=f3 b hb;let⟨o,q,_⟩:=T.obj 0 _ pX b hb;show⟨z b hb,cR (bK q),λy=>(iG.mp (I3.jR b y)).elim a2 a3,.inl hb,λx c y=>?_,λp hp=>a6 p ?_⟩
  .rcases CN.d1 x c y with ⟨q1,_⟩|⟨_,q1,_⟩
   .exact a5 x c (c1 x c q1)
   .exact λe=>absurd (bK q) (by rw[<-e];show Er.mpr (rK q1))
  let y:p∈(X.pn++ao)++[]:=hp;simpa using y
 let loop:codeAny (model X.prog X.w) X.A (.compLoop (.ListComp elt [⟨tg,iter,ifs,0⟩] scope pos) 0 (.ref it) (.ref s.heap.objs.size) (compEnvC scope eO s3.heap.objs.size X.env)) (R (.ref s.heap.objs.size) s3.heap.objs.size) {s3 with heap:=h1}:=by
  show zgQ (λn s'=>∃i Z' H',Inv (X.blk scope eO N s3.heap.objs.size s3 H3 fp ao) [] Z' H' s'/\tn i s'.heap/\(∀b∈fp,H' b=none)/\W i n Z' H') ?_ m0 ⟨0,ZY Z,H3,BP,Jc,λb hb=>(f3 b hb).1,w0⟩;rintro n s5 ⟨i,Z5,H5,jA,tK,vN,w5⟩;rcases turn i n Z5 H5 w5 with ⟨stop,q⟩|⟨go,Nx,hN,step⟩
  .refine aO (T.done (X.blk scope eO N s3.heap.objs.size s3 H3 fp ao) rfl rfl rfl hc i [] s5 Z5 H5 _ jA (fY vN) tK stop) λr s6 ⟨hr,mU⟩=>?_;subst hr;let JX:=Yc I3 f3 mU;show k s.heap.objs.size s3.heap.objs.size s6 H5 JX I3.sz mU.free (pL I3.lt) (λx c y z=>?_) (λp hp z=>?_) ?_ q
   .obtain⟨v,qc⟩:=I3.cell x c y;show absurd qc.lt (by rw[z];show pK _)
   .exact absurd (bK (I3.pin p hp).1) (by rw[z];show pK _)
   .obtain⟨m,hm,_⟩:=mU.loc;show⟨m,hm⟩
  .refine aO (T.item (X.blk scope eO N s3.heap.objs.size s3 H3 fp ao) rfl rfl rfl hc i [] s5 Z5 H5 _ jA (fY vN) tK go) λr s6 hx=>vK hx λu hr h6=>?_;subst hr;show aO h6 λ_ s7 hz=>?_;let⟨x,H7,ux,r7,y7,uy,Jd⟩:=hz;let ou:=ux.pinned (fY Jd) (T.obj _ _ uy);show aO (P.tgt eO s3.heap.objs.size s3 H3 fp ao _ s7 Z5 H7 x u _ ou r7 (step x H7 y7)) λ_ s8 hz=>?_;let⟨Z8,H8,uz,q8⟩:=hz;show aO (P.Ja eO s3.heap.objs.size s3 H3 fp ao _ s8 Z8 H8 _ uz q8) λok s9 hx=>vK hx λH9 uD q9=>?_;let again:∀{H':Hp} {s':Shared},Inv (X.blk scope eO N s3.heap.objs.size s3 H3 fp ao) ([]++iU fp s7.heap) Z8 H' s'->Nx Z8 H'->∃m,m<n/\∃i Z' H',Inv (X.blk scope eO N s3.heap.objs.size s3 H3 fp ao) [] Z' H' s'/\tn i s'.heap/\(∀b∈fp,H' b=none)/\W i m Z' H':=λ{H' s'} fQ n'=>by
    let⟨m',hm,w'⟩:=hN Z8 H' n';show⟨m',hm,i+1,Z8,H',fQ.bV,T.keep _ _ _ uy λb hb o e=>(fQ.pin (b,o) (kJ _ (kJ _ (zp hb e)))).1,λb hb=>?_,w'⟩;let⟨o,e,d⟩:=T.obj _ _ uy b hb;show(fQ.pin (b,o) (kJ _ (kJ _ (zp hb e)))).2.1
   cases ok with
   |false=>
    rw[if_neg J0]at q9 ⊢;show again uD q9
   |true=>
    rw[if_pos rfl]at q9 ⊢;show aO (P.el eO s3.heap.objs.size s3 H3 fp ao _ s9 Z8 H9 _ uD q9) λv M9 hz=>?_;let⟨y,Ry,uE,r10,ys,BR,hz,RB⟩:=hz;show aO (Rb (X:=(X.blk scope eO N s3.heap.objs.size s3 H3 fp ao)) _ M9 Z8 Ry (.ref s.heap.objs.size) [y] (.ref s.heap.objs.size) [v] (λ_ H'=>Nx Z8 H') uE rfl (.cons r10 .nil) ⟨s.heap.objs.size,ys,y,rfl,rfl,BR,hz,RB⟩) λ_ Ye hx=>eF hx λ_ Yg oA _ RD=>again oA RD
 show codeAny_compStart_list loop (T.self _ 0 _ _ _ Jc loop)
end
def uF(wi:TI)(ZY:St->St)(g:TG)(tt:TT)(te:TE):TE:=λZ H Q=>wi Z H λaW H1=>I_ ZY g tt te aW Z H1 Q
section
variable {X:Cx}{elt tg iter:Expr}{ifs:List Expr}{scope:Scope}{pos spos py:Pos}{N:List Str}{ZY:St->St}{wi:TI}{g:TG}{tt:TT}{te:TE}{i:Nat}{y:Str}
theorem RG(I:Inv X ao Z H s)(B:cG X.env.scope scope):∃cl,closureFor scope X.env=pure cl/\(∀x c,cl.lookup x=some c->X.env.cells.lookup x=some c)/\∀x∈scope.names,x.2=.free->∃c,cl.lookup x.1=some c:=
 zfi λx hx hf=>I.ok.has x.1 (B.free x hx hf)
def zjV(hc:X.aj=true)(B:cG X.env.scope scope)(hi:PI X tg iter wi)(P:Parts X elt tg ifs scope N g tt te)(hl:∀Z,(ZY Z).length=N.length)
  (hZ:∀(Z:St) (i:Nat) (x:Str) (v:V),N[i]?=some x->(ZY Z)[i]?=some (some v)->scope.names.lookup x=some .free/\∃j:Nat,X.N[j]?=some x/\Z[j]?=some (some v))
  (hs:∀x,foldedSetIterable iter X.env x=pure x:=by intro _;rfl):PE X (.ListComp elt [⟨tg,iter,ifs,0⟩] scope pos) (uF wi ZY g tt te):=by
 intro ao s Z H Q I h;let⟨cl,pY,c1,c2⟩:=RG I B;rw[eval_ListComp];show Pk (use:=none) rfl hs pY B.kind B.loc (aO (hi ao s Z H _ I h) λxv s1 h1=>aO h1 λitv s2 h2=>?_);let⟨it,fp,tn,aW,H2,e,I2,T,st2,f2,hq⟩:=h2;subst e;show Yd hc B P hl hZ I2 T st2 f2 hq c1 c2 (R:=λacc C=>compPost (model X.prog X.w) X.A X.xe none (EP X ao Z Q) acc C) λD C s' H' fQ a b c d e ⟨m,hm⟩ q=>⟨m,hm,λh' sb=>⟨.ref D,H',Ru (Z':=Z) fQ a b c d e sb,rfl,q⟩⟩
def ze4(hc:X.aj=true)(hN:X.N.Nodup)(rW:X.N[i]?=some y)(hx:Loc X.env.scope y)(hf:X.fn y=true\/X.env.scope.names.lookup y=some .local)(B:cG X.env.scope scope)(hi:PI X tg iter wi)(P:Parts X elt tg ifs scope N g tt te)(hl:∀Z,(ZY Z).length=N.length)
  (hZ:∀(Z:St) (i:Nat) (x:Str) (v:V),N[i]?=some x->(ZY Z)[i]?=some (some v)->scope.names.lookup x=some .free/\∃j:Nat,X.N[j]?=some x/\Z[j]?=some (some v))
  (uG:swapsWith (.ListComp elt [⟨tg,iter,ifs,0⟩] scope pos) (some (.Name y py)) spos.line X.env=pure true) (hs:∀x,foldedSetIterable iter X.env x=pure x:=by intro _;rfl) :
  PS X (.Assign [.Name y py] (.ListComp elt [⟨tg,iter,ifs,0⟩] scope pos) spos) (wU (uF wi ZY g tt te) (dB i)):=by
 intro ao s Z H D I h;let⟨cl,pY,c1,c2⟩:=RG I B;rw[exec_Assign_Name_used _ _ _ _ uG];show aB (tW (aB ?_));change wpAny _ X.A (do let _ <-comprehension (.ListComp elt [⟨tg,iter,ifs,0⟩] scope pos) scope X.env _ (newList []) false (eval iter X.env) (some (assign (.Name y py) X.env))) _ _ s;show aB (Pk (use:=some (assign (.Name y py) X.env)) rfl hs pY B.kind B.loc (aO (hi ao s Z H _ I h) λxv s1 h1=>aO h1 λitv s2 h2=>?_));let⟨it,fp,tn,aW,H2,e,I2,T,st2,f2,hq⟩:=h2;subst e;show Yd hc B P hl hZ I2 T st2 f2 hq c1 c2 (R:=λacc C=>compPost (model X.prog X.w) X.A X.xe (some (assign (.Name y py) X.env)) _ acc C) λD' C s' H' fQ a b c d e ⟨m,hm⟩ q=>?_;change wpAny _ _ (assign (.Name y py) X.env (.ref D')) _ _ s';show wpAny_assign_Name (Qg (v:=.ref D') fQ hN rW hx rfl (λs5 jA ⟨ad,sb,RJ⟩=>?_) hf);let nC:C≠ad:=by
  rcases RJ with z|z
  .rw[z];show c
  .exact(d y ad z).symm
 let⟨ol,es,ep,e1,r1⟩:=hm;show⟨m,⟨ol,es,ep,(sb.2 C nC).trans e1,r1⟩,λh' RK=>aJ (aJ ⟨_,H',Ru (Z':=Z) jA a b c d e RK,q⟩)⟩
end
def zdw(elt target iter:Expr)(ifs:List Expr)(g₁:Comprehension)(scope:Scope)(pos:Pos)(it acc:Value)(env:Env) :
  compTurn (.ListComp elt [g₁,⟨target,iter,ifs,0⟩] scope pos) 1 it acc env=(do
   standAt iter.pos
   match <-pyNext it with
   |none=>pure (.done .next)|some v=>
    letOwnedTupleGo target it v
    assign target env v
    let mut ok:=true
    for c in ifs do
     if ok then ok <-isTrue c env (eval c env)
    if ok then
     (do let _ <-call (.builtin "list.append") [acc,<-eval elt env])
    again (.compLoop (.ListComp elt [g₁,⟨target,iter,ifs,0⟩] scope pos) 1 it acc env)):=by rfl
def zcI(elt target iter target₂ iter₂:Expr)(ifs ifs₂:List Expr)(scope:Scope)(pos:Pos)(it acc:Value)(env:Env) :
  compTurn (.ListComp elt [⟨target,iter,ifs,0⟩,⟨target₂,iter₂,ifs₂,0⟩] scope pos) 0 it acc env=(do
   standAt iter.pos
   match <-pyNext it with
   |none=>pure (.done .next)|some v=>
    letOwnedTupleGo target it v
    assign target env v
    let mut ok:=true
    for c in ifs do
     if ok then ok <-isTrue c env (eval c env)
    if ok then
     let x <-eval iter₂ env
     standAt iter₂.pos
     let x <-foldedSetIterable iter₂ env x
     let _ <-runOwn (.compStart (.ListComp elt [⟨target,iter,ifs,0⟩,⟨target₂,iter₂,ifs₂,0⟩] scope pos) 1 (<-holding [x] (pyIter x)) acc env) env
     again (.compLoop (.ListComp elt [⟨target,iter,ifs,0⟩,⟨target₂,iter₂,ifs₂,0⟩] scope pos) 0 it acc env)
    else
     again (.compLoop (.ListComp elt [⟨target,iter,ifs,0⟩,⟨target₂,iter₂,ifs₂,0⟩] scope pos) 0 it acc env)):=by rfl
def zky(V:Nat->Shared->Prop)
  (turn:∀n s,V n s->wpAny (model prog w) A (pyNext it) (λr s₁=>match r with
   |none=>R (.ok .next) s₁|some v=>wpAny (model prog w) A (letOwnedTupleGo target it v) (λ_ s₂=>wpAny (model prog w) A (assign target env v) (λ_ s₃=>
     wpAny (model prog w) A (jH ifs env) (λok s₄=>
      if ok=true then wpAny (model prog w) A (eval elt env) (λx s₅=>wpAny (model prog w) A (call (.builtin "list.append") [acc,x]) (λ_ s₆=>∃m,m<n/\V m s₆) (λ_ _=>False) s₅) (λ_ _=>False) s₄
      else ∃m,m<n/\V m s₄) (λ_ _=>False) s₃) (λ_ _=>False) s₂) (λ_ _=>False) s₁) (λ_ _=>False) s)
  (n:Nat) (h:V n s):codeAny (model prog w) A (.compLoop (.ListComp elt [g₁,⟨target,iter,ifs,0⟩] scope pos) 1 it acc env) R s:=by
 show codeAny_loop rfl V (λn s hV=>?_) n h;change wpAny _ A ((compTurn (.ListComp elt [g₁,⟨target,iter,ifs,0⟩] scope pos) 1 it acc env).onRaise (λx=>do noteFrame x env;theTreesLotGoes x)) _ _ s;show wpAny_noted ?_;rw[zdw];show aB (tW (aB (fK (turn n s hV) (λr s₁ h₁=>?_) λ_ _ z=>z.elim)));cases r with
 |none=>show aJ h₁|some v=>
  show aB (fK h₁ (λ_ s₂ h₂=>?_) λ_ _ z=>z.elim);show aB (fK h₂ (λ_ s₃ h₃=>aB (fK h₃ (λok s₄ h₄=>?_) λ_ _ z=>z.elim)) λ_ _ z=>z.elim);cases ok with
  |true=>
   simp only[if_true]at h₄ ⊢;show aB (aB (fK h₄ (λx s₅ h₅=>aB (fK h₅ (λ_ s₆ h₆=>aJ (aJ ⟨rfl,h₆⟩)) λ_ _ z=>z.elim)) λ_ _ z=>z.elim))
  |false=>
   simp only[rH,nO]at h₄ ⊢;show aJ ⟨rfl,h₄⟩
def zhz{prog:Program}{w:World}{A:Around}{R:Result->Shared->Prop}{s:Shared}{elt target iter target₂ iter₂:Expr}{ifs ifs₂:List Expr}{scope:Scope}{pos:Pos}{it acc:Value}{env:Env}(V:Nat->Shared->Prop)(hs:∀x,foldedSetIterable iter₂ env x=pure x)
  (turn:∀n s,V n s->wpAny (model prog w) A (pyNext it) (λr s₁=>match r with
   |none=>R (.ok .next) s₁|some v=>wpAny (model prog w) A (letOwnedTupleGo target it v) (λ_ s₂=>wpAny (model prog w) A (assign target env v) (λ_ s₃=>
     wpAny (model prog w) A (jH ifs env) (λok s₄=>
      if ok=true then wpAny (model prog w) A (eval iter₂ env) (λx s₅=>wpAny (model prog w) A (pyIter x) (λit₂ s₆=>codeAny (model prog w) A (.compStart (.ListComp elt [⟨target,iter,ifs,0⟩,⟨target₂,iter₂,ifs₂,0⟩] scope pos) 1 it₂ acc env) (λr s₇=>r=.ok .next/\∃m,m<n/\V m s₇) s₆) (λ_ _=>False) s₅) (λ_ _=>False) s₄
      else ∃m,m<n/\V m s₄) (λ_ _=>False) s₃) (λ_ _=>False) s₂) (λ_ _=>False) s₁) (λ_ _=>False) s)
  (n:Nat) (h:V n s):codeAny (model prog w) A (.compLoop (.ListComp elt [⟨target,iter,ifs,0⟩,⟨target₂,iter₂,ifs₂,0⟩] scope pos) 0 it acc env) R s:=by
 show codeAny_loop rfl V (λn s hV=>?_) n h;change wpAny _ A ((compTurn (.ListComp elt [⟨target,iter,ifs,0⟩,⟨target₂,iter₂,ifs₂,0⟩] scope pos) 0 it acc env).onRaise (λx=>do noteFrame x env;theTreesLotGoes x)) _ _ s;show wpAny_noted ?_;rw[zcI];show aB (tW (aB (fK (turn n s hV) (λr s₁ h₁=>?_) λ_ _ z=>z.elim)));cases r with
 |none=>show aJ h₁|some v=>
  show aB (fK h₁ (λ_ s₂ h₂=>?_) λ_ _ z=>z.elim);show aB (fK h₂ (λ_ s₃ h₃=>aB (fK h₃ (λok s₄ h₄=>?_) λ_ _ z=>z.elim)) λ_ _ z=>z.elim);cases ok with
  |true=>
   simp only[if_true]at h₄ ⊢;show aB (fK h₄ (λx s₅ h₅=>aB (tW (aB (Em (hs x) (aB (pB (fK h₅ (λit₂ s₆ h₆=>aB (wpAny_runOwn (yS h₆ λr s₇ h₇=>?_))) λ_ _ z=>z.elim))))))) λ_ _ z=>z.elim);let⟨rfl,h₇⟩:=h₇;show aJ ⟨rfl,h₇⟩
  |false=>
   simp only[rH,nO]at h₄ ⊢;show aJ ⟨rfl,h₄⟩
def zaO
  (h0:codeAny (model prog w) A (.compLoop (.ListComp elt [g₁,⟨target,iter,ifs,0⟩] scope pos) 1 it acc env) R s)
  (h:wpAny (model prog w) A (pyIter it) (λit' s'=>codeAny (model prog w) A (.compLoop (.ListComp elt [g₁,⟨target,iter,ifs,0⟩] scope pos) 1 it' acc env) R s') (λ_ _=>False) s) :
  codeAny (model prog w) A (.compStart (.ListComp elt [g₁,⟨target,iter,ifs,0⟩] scope pos) 1 it acc env) R s:=by
 show codeAny_of_tree ?_;change wpAny _ _ ((compStart (.ListComp elt [g₁,⟨target,iter,ifs,0⟩] scope pos) 1 it acc env).onRaise (λx=>do noteFrame x env;standAt theWindowsPlace)) _ _ s;show wpAny_notedAt ?_;unfold compStart;change wpAny _ _ (ask >>= _) _ _ s;show aB (wpAny_askSetting (wpAny_ite ?_))
 split
 .first
   |exact aB (aJ (aJ (And.intro rfl h0)))
   |exact aJ (And.intro rfl h0)
 .first
   |exact aB (yV (aB (tW (aB (fK h (λit' s' h'=>aJ (And.intro rfl h')) λ_ _ x=>x.elim)))))|(show aB (yV ?_);change wpAny _ _ (standAt iter.pos >>= _) _ _ s;show aB (tW (aB (fK h (λit' s' h'=>aJ (And.intro rfl h')) λ_ _ x=>x.elim))))
def RL(g:TG)(tt:TT)(te:TE)(D:Addr)(aW:It)(Z:St)(H:Hp)(Nx:St->Hp->Prop):Prop:=∃W:Nat->Nat->St->Hp->Prop,(∃m,W 0 m Z H)/\∀i m Z' H',W i m Z' H'->
 (aW.stop i H'/\Nx Z' H')\/(aW.go i H'/\∃N:St->Hp->Prop,(∀Z2 H2,N Z2 H2->∃m',m'<m/\W (i+1) m' Z2 H2)/\∀x H2,aW.uh i H' x H2->g x Z' H2 λZ3 H3=>tt Z3 H3 λok H4=>
  if ok=true then te Z3 H4 λy H5=>∃ys,H5 D=some (.lst ys)/\ys.length<sizeLine/\N Z3 (upd H5 D (.lst (ys++[y]))) else N Z3 H4)
def zkC{Y:Cx}{elt tg iter:Expr}{ifs:List Expr}{g₁:Comprehension}{scope:Scope}{pos:Pos}{g:TG}{tt:TT}{te:TE}(hc:Y.aj=true)(M_:Y.xe=λ_ _=>False)(tgt:PG Y tg g)(Ja:EY Y ifs tt)(el:PE Y elt te)
  {ao:List (Addr×Obj)} {s:Shared} {Z:St} {H:Hp} {D it:Addr} {fp:List Addr} {tn:Nat->Heap->Prop} {aW:It} {Nx:St->Hp->Prop} (I:Inv Y ao Z H s) (T:Turn Y.prog Y.w Y.K tg aW fp it tn) (st:tn 0 s.heap) (f:∀b∈fp,fj Y ao H b) (h:RL g tt te D aW Z H Nx)
  {R:Result->Shared->Prop} (k:∀s' Z' H',Inv Y ao Z' H' s'->Nx Z' H'->R (.ok .next) s') :
  codeAny (model Y.prog Y.w) Y.A (.compStart (.ListComp elt [g₁,⟨tg,iter,ifs,0⟩] scope pos) 1 (.ref it) (.ref D) Y.env) R s:=by
 let⟨W,⟨m0,w0⟩,turn⟩:=h;let fY:∀{H':Hp},(∀b∈fp,H' b=none)->∀b∈fp,fj Y ao H' b:=λ{H'} z b hb=>⟨z b hb,(f b hb).2⟩;let loop:codeAny (model Y.prog Y.w) Y.A (.compLoop (.ListComp elt [g₁,⟨tg,iter,ifs,0⟩] scope pos) 1 (.ref it) (.ref D) Y.env) R s:=by
  show zky (λn s'=>∃i Z' H',Inv Y ao Z' H' s'/\tn i s'.heap/\(∀b∈fp,H' b=none)/\W i n Z' H') ?_ m0 ⟨0,Z,H,I,st,λb hb=>(f b hb).1,w0⟩;rintro n s5 ⟨i,Z5,H5,jA,tK,vN,w5⟩;rcases turn i n Z5 H5 w5 with ⟨stop,q⟩|⟨go,Nn,hN,step⟩
  .refine aO (T.done Y rfl rfl rfl hc i ao s5 Z5 H5 _ jA (fY vN) tK stop) λr s6 ⟨hr,mU⟩=>?_;subst hr;show k s6 Z5 H5 mU q
  .refine aO (T.item Y rfl rfl rfl hc i ao s5 Z5 H5 _ jA (fY vN) tK go) λr s6 ⟨u,hr,h6⟩=>?_;subst hr;show aO h6 λ_ s7 hz=>?_;let⟨x,H7,ux,r7,y7,uy,Jd⟩:=hz;let ou:=ux.pinned (fY Jd) (T.obj _ _ uy);let a1:=tgt _ s7 Z5 H7 x u _ ou r7 (step x H7 y7);rw[M_]at a1;show aO a1 λ_ s8 hz=>?_;let⟨Z8,H8,uz,q8⟩:=hz;let a2:=Ja _ s8 Z8 H8 _ uz q8;rw[M_]at a2;show aO a2 λok s9 ⟨H9,uD,q9⟩=>?_;let again:∀{H':Hp} {s':Shared},Inv Y (ao++iU fp s7.heap) Z8 H' s'->Nn Z8 H'->∃m,m<n/\∃i Z' H',Inv Y ao Z' H' s'/\tn i s'.heap/\(∀b∈fp,H' b=none)/\W i m Z' H':=λ{H' s'} fQ n'=>by
    let⟨m',hm,w'⟩:=hN Z8 H' n';show⟨m',hm,i+1,Z8,H',fQ.bV,T.keep _ _ _ uy λb hb o e=>(fQ.pin (b,o) (kJ _ (kJ _ (zp hb e)))).1,λb hb=>?_,w'⟩;let⟨o,e,d⟩:=T.obj _ _ uy b hb;show(fQ.pin (b,o) (kJ _ (kJ _ (zp hb e)))).2.1
   cases ok with
   |false=>
    rw[if_neg J0]at q9 ⊢;show again uD q9
   |true=>
    rw[if_pos rfl]at q9 ⊢;let a3:=el _ s9 Z8 H9 _ uD q9;rw[M_]at a3;show aO a3 λv M9 hz=>?_;let⟨y,Ry,uE,r10,ys,BR,hz,RB⟩:=hz;let a4:=Rb (X:=Y) _ M9 Z8 Ry (.ref D) [y] (.ref D) [v] (λ_ H'=>Nn Z8 H') uE rfl (.cons r10 .nil) ⟨D,ys,y,rfl,rfl,BR,hz,RB⟩;rw[M_]at a4;show aO a4 λ_ Ye ⟨_,Yg,oA,_,RD⟩=>again oA RD
 show zaO loop (T.self _ 0 _ _ _ st loop)
def zx(ZY:St->St)(g₁:TG)(wi₂:TI)(g:TG)(tt:TT)(te:TE)(aW:It)(Z:St)(H:Hp)(Q:VK):Prop:=∀D,H D=none->∃W:Nat->Nat->St->Hp->Prop,(∃m,W 0 m (ZY Z) (upd H D (.lst [])))/\∀i m Z' H',W i m Z' H'->
 (aW.stop i H'/\Q (.ref D) H')\/(aW.go i H'/\∃N:St->Hp->Prop,(∀Z2 H2,N Z2 H2->∃m',m'<m/\W (i+1) m' Z2 H2)/\∀x H2,aW.uh i H' x H2->g₁ x Z' H2 λZ3 H3=>wi₂ Z3 H3 λaW₂ H5=>RL g tt te D aW₂ Z3 H5 N)
section
variable {X:Cx}{elt tg iter tg₂ iter₂:Expr}{ifs₂:List Expr}{scope:Scope}{pos spos py:Pos}{N:List Str}{ZY:St->St}{wi wi₂:TI}{g g₁:TG}{tt:TT}{te:TE}{i:Nat}{y:Str}
structure pZ(X:Cx)(elt tg tg₂ iter₂:Expr)(ifs₂:List Expr)(scope:Scope)(N:List Str)(g₁:TG)(wi₂:TI)(g:TG)(tt:TT)(te:TE):Prop where
 tgt₁:∀cl C s3 H3 fp ao,PG (X.blk scope cl N C s3 H3 fp ao) tg g₁
 it:∀cl C s3 H3 fp ao,PI (X.blk scope cl N C s3 H3 fp ao) tg₂ iter₂ wi₂
 tgt:∀cl C s3 H3 fp ao,PG (X.blk scope cl N C s3 H3 fp ao) tg₂ g
 Ja:∀cl C s3 H3 fp ao,EY (X.blk scope cl N C s3 H3 fp ao) ifs₂ tt
 el:∀cl C s3 H3 fp ao,PE (X.blk scope cl N C s3 H3 fp ao) elt te
def ze6(hc:X.aj=true)(B:cG X.env.scope scope)(P:pZ X elt tg tg₂ iter₂ ifs₂ scope N g₁ wi₂ g tt te)(hs₂:∀env x,foldedSetIterable iter₂ env x=pure x)(hl:∀Z,(ZY Z).length=N.length)
  (hZ:∀(Z:St) (i:Nat) (x:Str) (v:V),N[i]?=some x->(ZY Z)[i]?=some (some v)->scope.names.lookup x=some .free/\∃j:Nat,X.N[j]?=some x/\Z[j]?=some (some v))
  {ao:List (Addr×Obj)} {s:Shared} {Z:St} {H:Hp} {Q:VK} {it:Addr} {fp:List Addr} {tn:Nat->Heap->Prop} {aW:It} (I:Inv X ao Z H s) (T:Turn X.prog X.w X.K tg aW fp it tn) (st:tn 0 s.heap) (f:∀b∈fp,fj X ao H b) (h:zx ZY g₁ wi₂ g tt te aW Z H Q)
  {cl:List (Str×Addr)} (c1:∀x c,cl.lookup x=some c->X.env.cells.lookup x=some c) (c2:∀x∈scope.names,x.2=.free->∃c,cl.lookup x.1=some c) {R:Value->Addr->Result->Shared->Prop} {E:Value->Shared->Prop}
  (k:∀D C s' H',Inv X ao Z H' s'->X.s₀.heap.objs.size<=C->H' C=none->C≠X.env.locals->(∀x c,X.env.cells.lookup x=some c->c≠C)->(∀p∈X.pn++ao,p.1≠C)->(∃m,s'.heap.Ns C m)->Q (.ref D) H'->R (.ref D) C (.ok .next) s') :
  wpAny (model X.prog X.w) X.A (newList []) (λacc s₃=>wpAny (model X.prog X.w) X.A (newFunctionEnv scope X.env.globals cl [] X.env.qual none .none (some X.env)) (λcenv s₄=>
   codeAny (model X.prog X.w) X.A (.compStart (.ListComp elt [⟨tg,iter,[],0⟩,⟨tg₂,iter₂,ifs₂,0⟩] scope pos) 0 (.ref it) acc {cenv with scope:=relabel scope X.env}) (R acc cenv.locals) s₄) E s₃) E s:=by
 show o_ ?_;let hD:H s.heap.objs.size=none:=I.hok.fresh (bU _);let I3:Inv X ao Z (upd H s.heap.objs.size (.lst [])) {s with heap:=s.heap.push {cls:=.type "list",dict:=none,data:=.seq ([]:List Value).toArray}}:=
  I.laid (t':=s.toks) (λb u q=>bW _ q) (bU _) ⟨rM _,[],0,.nil,dU _ rfl⟩
 let f3:∀b∈fp,fj X ao (upd H s.heap.objs.size (.lst [])) b:=λb hb=>by
  let⟨a1,a2⟩:=f b hb;let⟨o,q,_⟩:=T.obj 0 _ st b hb;show⟨by rw[bN (cR (bK q))];show a1,a2⟩
 let st3:tn 0 (s.heap.push {cls:=.type "list",dict:=none,data:=.seq ([]:List Value).toArray}):=T.keep _ _ _ st λb hb o q=>bW _ q;let⟨W,⟨m0,w0⟩,turn⟩:=h s.heap.objs.size hD;generalize Rx:({s with heap:=s.heap.push {cls:=.type "list",dict:=none,data:=.seq ([]:List Value).toArray}}:Shared)=s3 at *;let pX:tn 0 s3.heap:=by rw[<-Rx];show st3
 generalize hH3:upd H s.heap.objs.size (.lst [])=H3 at *;show X6 (λx c q=>by let⟨v,o,q1,_⟩:=I3.cell x c (c1 x c q);show bK q1) (λx y c a b=>I3.ok.inj x y c (c1 x c a) (c1 y c b)) λh1 eO hn kp CN=>?_;let BP:Inv (X.blk scope eO N s3.heap.objs.size s3 H3 fp ao) [] (ZY Z) H3 {s3 with heap:=h1}:=
  X8 (t:=s3.toks) I3 B c1 c2 f3 (λb hb=>let ⟨o,q,_⟩:=T.obj 0 _ pX b hb;⟨o,q⟩) hn kp CN (hl Z) (hZ Z)
 let Jc:tn 0 h1:=T.keep _ _ _ pX λb hb o q=>kp b o q;let fY:∀{H':Hp},(∀b∈fp,H' b=none)->∀b∈fp,fj (X.blk scope eO N s3.heap.objs.size s3 H3 fp ao) [] H' b:=λ{H'} z b hb=>by
  let⟨a1,a2,a3,a4,a5,a6⟩:=f3 b hb;let⟨o,q,_⟩:=T.obj 0 _ pX b hb;show⟨z b hb,cR (bK q),λy=>(iG.mp (I3.jR b y)).elim a2 a3,.inl hb,λx c y=>?_,λp hp=>a6 p ?_⟩
  .rcases CN.d1 x c y with ⟨q1,_⟩|⟨_,q1,_⟩
   .exact a5 x c (c1 x c q1)
   .exact λe=>absurd (bK q) (by rw[<-e];show Er.mpr (rK q1))
  let y:p∈(X.pn++ao)++[]:=hp;simpa using y
 let loop:codeAny (model X.prog X.w) X.A (.compLoop (.ListComp elt [⟨tg,iter,[],0⟩,⟨tg₂,iter₂,ifs₂,0⟩] scope pos) 0 (.ref it) (.ref s.heap.objs.size) (compEnvC scope eO s3.heap.objs.size X.env)) (R (.ref s.heap.objs.size) s3.heap.objs.size) {s3 with heap:=h1}:=by
  show zhz (λn s'=>∃i Z' H',Inv (X.blk scope eO N s3.heap.objs.size s3 H3 fp ao) [] Z' H' s'/\tn i s'.heap/\(∀b∈fp,H' b=none)/\W i n Z' H') (hs₂ _) ?_ m0 ⟨0,ZY Z,H3,BP,Jc,λb hb=>(f3 b hb).1,w0⟩;rintro n s5 ⟨i,Z5,H5,jA,tK,vN,w5⟩;rcases turn i n Z5 H5 w5 with ⟨stop,q⟩|⟨go,Nx,hN,step⟩
  .refine aO (T.done (X.blk scope eO N s3.heap.objs.size s3 H3 fp ao) rfl rfl rfl hc i [] s5 Z5 H5 _ jA (fY vN) tK stop) λr s6 ⟨hr,mU⟩=>?_;subst hr;let JX:=Yc I3 f3 mU;show k s.heap.objs.size s3.heap.objs.size s6 H5 JX I3.sz mU.free (pL I3.lt) (λx c y z=>?_) (λp hp z=>?_) ?_ q
   .obtain⟨v,qc⟩:=I3.cell x c y;show absurd qc.lt (by rw[z];show pK _)
   .exact absurd (bK (I3.pin p hp).1) (by rw[z];show pK _)
   .obtain⟨m,hm,_⟩:=mU.loc;show⟨m,hm⟩
  .refine aO (T.item (X.blk scope eO N s3.heap.objs.size s3 H3 fp ao) rfl rfl rfl hc i [] s5 Z5 H5 _ jA (fY vN) tK go) λr s6 ⟨u,hr,h6⟩=>?_;subst hr;show aO h6 λ_ s7 hz=>?_;let⟨x,H7,ux,r7,y7,uy,Jd⟩:=hz;let ou:=ux.pinned (fY Jd) (T.obj _ _ uy);show aO (P.tgt₁ eO s3.heap.objs.size s3 H3 fp ao _ s7 Z5 H7 x u _ ou r7 (step x H7 y7)) λ_ s8 hz=>?_;let⟨Z8,H8,uz,q8⟩:=hz;show aO (wpAny_tests_nil (env:=compEnvC scope eO s3.heap.objs.size X.env) (Q:=λok s'=>ok=true/\s'=s8) ⟨rfl,rfl⟩) λok s9 ⟨e9,e9'⟩=>?_;subst e9 e9';rw[if_pos rfl];show aO (P.it eO s3.heap.objs.size s3 H3 fp ao _ s9 Z8 H8 _ uz q8) λxv M9 h10=>aO h10 λitv Ye h11=>?_;let⟨it₂,fp₂,tn₂,aW₂,Yg,RM,oA,T₂,st₂,f₂,hq⟩:=h11;subst RM;show zkC (Y:=X.blk scope eO N s3.heap.objs.size s3 H3 fp ao) hc rfl (P.tgt eO s3.heap.objs.size s3 H3 fp ao) (P.Ja eO s3.heap.objs.size s3 H3 fp ao) (P.el eO s3.heap.objs.size s3 H3 fp ao) oA T₂ st₂ f₂ hq λs' Z' H' fQ n'=>⟨rfl,?_⟩;let⟨m',hm,w'⟩:=hN Z' H' n';show⟨m',hm,i+1,Z',H',fQ.bV,T.keep _ _ _ uy λb hb o e=>(fQ.pin (b,o) (kJ _ (kJ _ (zp hb e)))).1,λb hb=>?_,w'⟩;let⟨o,e,d⟩:=T.obj _ _ uy b hb;show(fQ.pin (b,o) (kJ _ (kJ _ (zp hb e)))).2.1
 show codeAny_compStart_list loop (T.self _ 0 _ _ _ Jc loop)
def uH(wi:TI)(ZY:St->St)(g₁:TG)(wi₂:TI)(g:TG)(tt:TT)(te:TE):TE:=λZ H Q=>wi Z H λaW H1=>zx ZY g₁ wi₂ g tt te aW Z H1 Q
def zdt(hc:X.aj=true)(hN:X.N.Nodup)(rW:X.N[i]?=some y)(hx:Loc X.env.scope y)(hf:X.fn y=true\/X.env.scope.names.lookup y=some .local)(B:cG X.env.scope scope)(hi:PI X tg iter wi)(P:pZ X elt tg tg₂ iter₂ ifs₂ scope N g₁ wi₂ g tt te)(hs₂:∀env x,foldedSetIterable iter₂ env x=pure x)(hl:∀Z,(ZY Z).length=N.length)
  (hZ:∀(Z:St) (i:Nat) (x:Str) (v:V),N[i]?=some x->(ZY Z)[i]?=some (some v)->scope.names.lookup x=some .free/\∃j:Nat,X.N[j]?=some x/\Z[j]?=some (some v))
  (uG:swapsWith (.ListComp elt [⟨tg,iter,[],0⟩,⟨tg₂,iter₂,ifs₂,0⟩] scope pos) (some (.Name y py)) spos.line X.env=pure true) (hs:∀x,foldedSetIterable iter X.env x=pure x:=by intro _;rfl) :
  PS X (.Assign [.Name y py] (.ListComp elt [⟨tg,iter,[],0⟩,⟨tg₂,iter₂,ifs₂,0⟩] scope pos) spos) (wU (uH wi ZY g₁ wi₂ g tt te) (dB i)):=by
 intro ao s Z H D I h;let⟨cl,pY,c1,c2⟩:=RG I B;rw[exec_Assign_Name_used _ _ _ _ uG];show aB (tW (aB ?_));change wpAny _ X.A (do let _ <-comprehension (.ListComp elt [⟨tg,iter,[],0⟩,⟨tg₂,iter₂,ifs₂,0⟩] scope pos) scope X.env _ (newList []) false (eval iter X.env) (some (assign (.Name y py) X.env))) _ _ s;show aB (Pk (use:=some (assign (.Name y py) X.env)) rfl hs pY B.kind B.loc (aO (hi ao s Z H _ I h) λxv s1 h1=>aO h1 λitv s2 h2=>?_));let⟨it,fp,tn,aW,H2,e,I2,T,st2,f2,hq⟩:=h2;subst e;show ze6 hc B P hs₂ hl hZ I2 T st2 f2 hq c1 c2 (R:=λacc C=>compPost (model X.prog X.w) X.A X.xe (some (assign (.Name y py) X.env)) _ acc C) λD' C s' H' fQ a b c d e ⟨m,hm⟩ q=>?_;change wpAny _ _ (assign (.Name y py) X.env (.ref D')) _ _ s';show wpAny_assign_Name (Qg (v:=.ref D') fQ hN rW hx rfl (λs5 jA ⟨ad,sb,RJ⟩=>?_) hf);let nC:C≠ad:=by
  rcases RJ with z|z
  .rw[z];show c
  .exact(d y ad z).symm
 let⟨ol,es,ep,e1,r1⟩:=hm;show⟨m,⟨ol,es,ep,(sb.2 C nC).trans e1,r1⟩,λh' RK=>aJ (aJ ⟨_,H',Ru (Z':=Z) jA a b c d e RK,q⟩)⟩
end
end L2
namespace L2
open PySem PySem.Spec PyProof.Rows PySem.W
def bf{α:Type}(lt:Nat->Nat->Option Bool):KasT α->Option α
 |.ret a=>some a|.ask i j k=>match lt i j with
  |some b=>bf lt (k b)|none=>none
theorem RN{α:Type}{lt:Nat->Nat->Option Bool}{cmp:Nat->Nat->(Bool->Shared->Prop)->Shared->Prop}{Q:α->Shared->Prop}{s:Shared}(hc:∀i j b C,lt i j=some b->C b s->cmp i j C s){a:α}(q:Q a s):∀{t:KasT α},bf lt t=some a->t.kasWp cmp Q s
 |.ret a',h=>by
  unfold bf at h;cases h;show q
 |.ask i j k,h=>by
  unfold bf at h;cases e:lt i j with
  |none=>rw[e]at h;cases h|some b=>
   rw[e]at h;show hc i j b _ e (RN hc q h)
def dj(vs:List Value)(p:Array Nat):Array Value:=if vs.length<2 then vs.toArray else List.toArray (p.toList.map λi=>vs.getD i Value.none)
section
variable {prog:Program}{w:World}{A:Around}{E:Value->Shared->Prop}{s:Shared}{κ:SortKind}{lt:Nat->Nat->Option Bool}{p:Array Nat}
def zcu{a:Addr}{vs:List Value}{n:Nat}{P:PySem.Fin->Shared->Prop}(ho:s.heap.get? a=some (seqObj "list" vs.toArray n))(nH:vs.length<64)
  (hk:2<=vs.length->∀(s':Shared) (Q:SortKind->Shared->Prop),(∀b o,b≠a->s.heap.get? b=some o->s'.heap.get? b=some o)->Q κ s'->wpAny (model prog w) A (keyKind' vs.toArray) Q E s')
  (cj:2<=vs.length->∀(s':Shared) i j b C,(∀b o,b≠a->s.heap.get? b=some o->s'.heap.get? b=some o)->lt i j=some b->C b s'->kas_ask prog w A κ vs i j C s') (hr:2<=vs.length->bf lt (kas_sort vs.length)=some p) (xM:2<=vs.length->p.size=vs.length)
  (h:P (.done (.ret .none)) {s with heap:=sortedHeap s.heap a vs (dj vs p)}) :
  wpAny (model prog w) A (Builtin.«list.sort» ⟨[.ref a],[]⟩) P E s:=by
 rw[list_sort_plain];let ha:a<s.heap.objs.size:=bK ho;show aB (listItems_at ho rfl ?_);show aB (Ao ho rfl ?_ (by rw[eE,vH];lia) (rM _));obtain⟨e1,BW⟩ : ∃e1,(s.heap.update a (Obj.mapSeq λ_=>#[])).get? a=some (seqObj "list" #[] e1):=⟨_,get?_update_seq ho (λ_=>#[])⟩;show aB (seqEpoch_at BW rfl ?_);show aB (wpAny_newTuple ?_ (by change vs.length<=_;rw[vH];lia));show aB (GK ?_ (rM _));show pB ?_;let keep:∀b o,b≠a->s.heap.get? b=some o->(((s.heap.update a (Obj.mapSeq λ_=>(#[]:Array Value))).push (seqObj "tuple" vs.toArray 0)).push (seqObj "list" #[] 0)).get? b=some o:=λb o nb e=>
  bW _ (bW _ ((yK _ _ _ _ nb).trans e))
 let Nb:(((s.heap.update a (Obj.mapSeq λ_=>(#[]:Array Value))).push (seqObj "tuple" vs.toArray 0)).push (seqObj "list" #[] 0)).get? a=some (seqObj "list" #[] e1):=by
  rw[D_ _ _ _ (by rw[size_push',GC];show cR (tG ha)),D_ _ _ _ (by rw[GC];show cR ha)];show BW
 change wpAny (model prog w) A _ P E {s with heap:=((s.heap.update a (Obj.mapSeq λ_=>#[])).push (seqObj "tuple" vs.toArray 0)).push (seqObj "list" #[] 0)};dsimp only;let hsz:vs.toArray.size=vs.length:=by simp
 by_cases h2:vs.toArray.size<2
 .rw[if_pos h2,if_pos h2];show aB (aJ ?_);rw[StateT.run_pure];show aB (aJ ?_);dsimp only;show aB (seqEpoch_at Nb rfl ?_);show aB (Ao Nb rfl ?_ (rM _) (by rw[Array.size_map];change (pairsOf vs).size<=_;rw[pairsOf_size,vH];lia));simp only[P0,rH,nO];let e:((vs.toArray.zip vs.toArray).map (·.2))=dj vs p:=by
   unfold dj;rw[if_pos (by rw[hsz]at h2;show h2)];apply Array.toList_inj.mp;simp[List.map_snd_zip]
  show aJ ?_;let h':=h;rw[<-e]at h';show h'
 .rw[if_neg h2,if_neg h2];let lV:2<=vs.length:=by lia
  show aB (hk lV _ _ keep ?_);show aB (fK (kat_run (κ:=κ) (ks:=vs) (vs:=vs) (G:=λp' s'=>p'=p/\s'={s with heap:=((s.heap.update a (Obj.mapSeq λ_=>#[])).push (seqObj "tuple" vs.toArray 0)).push (seqObj "list" #[] 0)})
   (Q:=λst' s'=>arrOf st'=p.map (kas_item (vs.toArray.zip vs.toArray))/\failedOf st'=none/\s'={s with heap:=((s.heap.update a (Obj.mapSeq λ_=>#[])).push (seqObj "tuple" vs.toArray 0)).push (seqObj "list" #[] 0)})
   rfl lV nH (λp' st' s' a1 a2 a3 a4=>⟨by rw[a2,a4.1],a3,a4.2⟩) (RN (λi j b C hl hC=>cj lV _ i j b C keep hl hC) ⟨rfl,rfl⟩ (hr lV))) ?_ λ_ _ e=>e)
  rintro⟨⟨⟩,st'⟩ s' ⟨E_,hf,rfl⟩;dsimp only;let hout:=kat_snds (ks:=vs) (vs:=vs) rfl E_;let e:List.toArray (p.toList.map λi=>vs.getD i Value.none)=dj vs p:=by
   unfold dj;rw[if_neg gV]
  rw[hout,e];let Yh:(dj vs p).size=vs.length:=by rw[<-e,eE,cO,pH,xM lV]
  show aB (seqEpoch_at Nb rfl ?_);show aB (Ao Nb rfl ?_ (rM _) (by rw[Yh,vH];lia));rw[hf];simp only[P0,rH,nO];show aJ h
def RP(hl:s.heap.IsList l vs.toArray)(nH:vs.length<64)
  (hk:2<=vs.length->∀(s':Shared) (Q:SortKind->Shared->Prop) E,(∀b o,s.heap.get? b=some o->s'.heap.get? b=some o)->Q κ s'->wpAny (model prog w) A.in1.in1 (keyKind' vs.toArray) Q E s')
  (cj:2<=vs.length->∀(s':Shared) i j b C,(∀b o,s.heap.get? b=some o->s'.heap.get? b=some o)->lt i j=some b->C b s'->kas_ask prog w A.in1.in1 κ vs i j C s') (hr:2<=vs.length->bf lt (kas_sort vs.length)=some p) (xM:2<=vs.length->p.size=vs.length)
  (h:Q (.ref (s.heap.objs.size+1)) {s with heap:=sortedAll s.heap vs (dj vs p)}) :
  wpAny (model prog w) A (call (.builtin "sorted") [.ref l]) Q E s:=by
 show Calls.call_function_entry kind_sorted plain_sorted entry_sorted (args_sorted1 _) ?_;unfold Builtin.«sorted»;show aB (m:=checkCount "sorted" 1 1 _) (aJ ?_);show aB (collect_list hl ?_ (by rw[vH];lia));show aB (GK ?_ (by rw[vH];lia));let hsz:((s.heap.push (seqObj "list" #[] 0)).update s.heap.objs.size (Obj.mapSeq (·++vs.toArray))).objs.size=s.heap.objs.size+1:=by
  rw[GC,size_push']
 let Bf:(((s.heap.push (seqObj "list" #[] 0)).update s.heap.objs.size (Obj.mapSeq (·++vs.toArray))).push (seqObj "list" vs.toArray 0)).get? (s.heap.objs.size+1)=some (seqObj "list" vs.toArray 0):=by
  rw[<-hsz];show dU _ rfl
 let keep:∀b o,s.heap.get? b=some o->(((s.heap.push (seqObj "list" #[] 0)).update s.heap.objs.size (Obj.mapSeq (·++vs.toArray))).push (seqObj "list" vs.toArray 0)).get? b=some o:=λb o q=>by
  let cj:b<s.heap.objs.size:=bK q;rw[D_ _ _ _ (by rw[hsz];show cR (tG cj)),yK _ _ _ _ (cR cj),D_ _ _ _ (cR cj)];show q
 change wpAny _ _ _ _ _ {s with heap:=((s.heap.push (seqObj "list" #[] 0)).update s.heap.objs.size (Obj.mapSeq (·++vs.toArray))).push (seqObj "list" vs.toArray 0)};rw[hsz];let nn:∀b o,s.heap.get? b=some o->b≠s.heap.objs.size+1:=λb o e=>cR (tG (bK e));show aB (pB (wD slot_list_sort ⟨_,Bf,rfl⟩ entry_list_sort (zcu (κ:=κ) (lt:=lt) (p:=p) Bf nH (λh2 s' Q' k q=>hk h2 s' Q' _ (λb o e=>k b o (nn b o e) (keep b o e)) q) (λh2 s' i j b C k e q=>cj h2 s' i j b C (λb o e=>k b o (nn b o e) (keep b o e)) e q) hr xM ⟨_,rfl,?_⟩) (args_list_sort _)));show aJ ⟨_,rfl,h⟩
end
def lE:List V->List V->Option Bool
 |[],ys=>some (decide (0<ys.length))|_::_,[]=>some false|.int x::xs,.int y::ys=>if x=y then lE xs ys else some (decide (x<y))|_::_,_::_=>none
def zmM{prog:Program}{w:World}{A:Around}{s:Shared}{fin:Bool}{C:Bool->Shared->Prop}{b:Bool}:∀{us ws:List V} {its jts:List Value} {i:Nat},Vals us its->Vals ws jts->lE us ws=some b->fin=decide (us.length<ws.length)->C b s->KatLex prog w A true fin C (its.zip jts) i s:=by
 intro us ws its jts i r1
 induction r1 generalizing ws jts i with
 |nil=>
  intro _ h hf hc;rw[List.zip_nil_left];unfold lE at h;cases h;rw[hf];show kat_nil hc
 |@cons x u us its rx ri ih=>
  intro r2 h hf hc;cases r2 with
  |nil=>
   rw[List.zip_nil_right];unfold lE at h;cases h;rw[hf];show kat_nil (by simpa using hc)
  |@cons y v ws jts ry rj=>
   rw[Gu];cases x with
   |int a=>
    cases y with
    |int c=>
     let⟨t,rfl⟩:=rx;let⟨t',rfl⟩:=ry;unfold lE at h;show kat_cons (wpAny_eqBool_int ?_);by_cases e:a=c
     .rw[if_pos e]at h;subst e;rw[Ed];show kat_yes (ih rj h (by rw[hf];simp) hc)
     .rw[if_neg e]at h;cases h;rw[show (a==c)=false by simpa using e];show kat_no ?_;by_cases hi:i=0
      .subst hi;show oneLt_int hc
      .rw[show (true&&i==0)=false by simpa using hi];show kat_one _ _ (wpAny_lt_int hc)
    |_=>cases h
   |_=>cases y<;>cases h
def uI(K:W.Frag)(H:Hp)(ys:List V)(lt:Nat->Nat->Option Bool):Prop:=
 ((∀v∈ys,∃i,v=V.int i)/\∀i j b,lt i j=some b->∃x y,ys[i]?=some (.int x)/\ys[j]?=some (.int y)/\b=decide (x<y)) \/
 ((∀v∈ys,∃a i r,v=.ref a/\gD K H a (.int i::r))/\∀i j b,lt i j=some b->∃a c us ws,ys[i]?=some (.ref a)/\ys[j]?=some (.ref c)/\gD K H a us/\gD K H c ws/\lE us ws=some b)
def fB(ys:List V)(p:Array Nat):List V:=if ys.length<2 then ys else p.toList.map λi=>ys.getD i .non
theorem Yi(r:Vals ys its):∀l:List Nat,Vals (l.map λi=>ys.getD i .non) (l.map λi=>its.getD i Value.none)
 |[]=>.nil|i::l=>by
  show .cons ?_ (Yi r l);cases e:ys[i]? with
  |some y=>
   let⟨u,e1,e2⟩:=r.get e;change RelV (ys.getD i .non) (its.getD i Value.none);rw[lq,lq,e,e1];show e2
  |none=>
   let e1:its[i]?=none:=by rw[qD]at e ⊢;rw[<-r.length];show e
   change RelV (ys.getD i .non) (its.getD i Value.none);rw[lq,lq,e,e1];rfl
def Yj{ys:List V}{its:List Value}(r:Vals ys its)(p:Array Nat):Vals (fB ys p) (dj its p).toList:=by
 unfold fB dj;rw[r.length];by_cases h:its.length<2
 .rw[if_pos h,if_pos h];show r
 .rw[if_neg h,if_neg h];show Yi r p.toList
def zhn{ys:List V}{its:List Value}(r:Vals ys its):∀u∈its,∃v∈ys,RelV v u:=by
 induction r with
 |nil=>intro u hu;cases hu|cons h t ih=>
  intro u hu;rcases iG.mp hu with rfl|hu
  .exact⟨_,kO,h⟩
  .obtain⟨v,a,b⟩:=ih u hu;show⟨v,g_ _ a,b⟩
section
variable {X:Cx}
theorem Yk{prog:Program}{w:World}{A:Around}{E:Value->Shared->Prop}{s:Shared}{its:List Value}{Q:SortKind->Shared->Prop}(h2:2<=its.length)(hi:∀u∈its,∃i t,u=Value.int i t)(q:Q oneType' s):wpAny (model prog w) A (keyKind' its.toArray) Q E s:=
 kas_kind (T:=.type "int") h2 (λv hv=>by let⟨i,t,rfl⟩:=hi v hv;show .of_pure rfl) J0 J0 q
def zj6{K:W.Frag}{ao:List (Addr×Obj)}{s:Shared}{Z:St}{H:Hp}(I:Inv X ao Z H s){h':Heap}(k:∀b o,s.heap.get? b=some o->h'.get? b=some o):∀{ys:List V} {its:List Value},Vals ys its->(∀v∈ys,∃a i r,v=.ref a/\gD X.K H a (.int i::r))->∃fs:List Value,fs.length=its.length/\(∀f∈fs,∃i t,f=Value.int i t)/\KatTups h' its fs:=by
 intro ys its r0
 induction r0 with
 |nil=>show λ_=>⟨[],rfl,(λf hf=>by cases hf),trivial⟩|@cons v u ys its r rs ih=>
  intro h;let⟨a,i,r',rfl,hq⟩:=h _ kO;let⟨fs,l,hf,kt⟩:=ih λv hv=>h v (g_ _ hv);let⟨its',rv,⟨o,ho,hc,n,hd⟩,_⟩:=I.tuple hq;cases (show u=Value.ref a from r);cases rv with
  |cons ri rr=>
   let⟨t,rfl⟩:=ri;show⟨Value.int i t::fs,by simp[l],λf hf'=>?_,KatTups.cons (k _ _ ho) hc hd RQ kt⟩;rcases iG.mp hf' with rfl|z
   .exact⟨i,t,rfl⟩
   .exact hf f z
theorem zf7{prog:Program}{w:World}{A:Around}{E:Value->Shared->Prop}{s:Shared}{its fs:List Value}{Q:SortKind->Shared->Prop}(h2:2<=its.length)(hl:fs.length=its.length)(hi:∀u∈fs,∃i t,u=Value.int i t)(kt:KatTups s.heap its fs)(q:Q (tuples' true) s):wpAny (model prog w) A (keyKind' its.toArray) Q E s:=
 kat_kind (T:=.type "int") kt gV (λv hv=>by let⟨i,t,rfl⟩:=hi v hv;show .of_pure rfl) J0 q
def Fb{its:List Value}{i:Nat}{u:Value}(h:its[i]?=some u):its.getD i Value.none=u:=by rw[lq,h];rfl
def zdB:cT X (.builtin "sorted") (λxs H Q=>∃l ys lt p,xs=[.ref l]/\cP X.K H l ys/\ys.length<64/\(2<=ys.length->uI X.K H ys lt/\bf lt (kas_sort ys.length)=some p/\p.size=ys.length)/\∀r,H r=none->Q (.ref r) (upd H r (.lst (fB ys p)))):=by
 intro ao s Z H xs us Q I r h;let⟨l,ys,lt,p,rfl,hq,nH,hs,q⟩:=h;let⟨u,rfl,rx⟩:=vals1 r;cases rx;let⟨its,rv,pl,hz⟩:=I.list hq;let hlen:=rv.length;let fin:EP X ao Z Q (.ref (s.heap.objs.size+1)) {s with heap:=sortedAll s.heap its (dj its p)}:=by
  let⟨e,he⟩:=sortedAll_at s.heap its (dj its p);let hn:H (s.heap.objs.size+1)=none:=I.hok.fresh (wG _);show⟨.ref (s.heap.objs.size+1),_,I.laid (t':=s.toks) (λb u q=>sortedAll_old q) (wG _) (show bC X.prog X.w _ _ _ (.lst (fB ys p)) from ⟨?_,(dj its p).toList,e,Yj rv p,by rw[PJ];show he⟩),rfl,q _ hn⟩;unfold fB;by_cases h2:ys.length<2
  .rw[if_pos h2];show hz
  .rw[if_neg h2,cO,pH,(hs gV).2.2];show hz
 by_cases h2:2<=ys.length
 .obtain⟨hS,hr,hp⟩:=hs h2;rcases hS with ⟨hI,cj⟩|⟨hT,cj⟩
  .refine RP (κ:=oneType') (lt:=lt) (p:=p) pl.isList gV (λlV s' Q' E' k q'=>Yk lV (λu hu=>?_) q') (λ_ s' i j b C k e hC=>?_) (λ_=>by rw[<-hlen];show hr) (λ_=>by lia) fin
   .obtain⟨v,hv,rr⟩:=zhn rv u hu;let⟨i,rfl⟩:=hI v hv;let⟨t,rfl⟩:=rr;show⟨i,t,rfl⟩
   .obtain⟨x,y,e1,e2,rfl⟩:=cj i j b e;let⟨u1,f1,g1⟩:=rv.get e1;let⟨u2,f2,g2⟩:=rv.get e2;let⟨t1,rfl⟩:=g1;let⟨t2,rfl⟩:=g2;change wpAny _ _ (keyLt' oneType' (its.getD i Value.none) (its.getD j Value.none)) C _ s';rw[Fb f1,Fb f2];show kat_lt_int hC
  .refine RP (κ:=tuples' true) (lt:=lt) (p:=p) pl.isList gV (λlV s' Q' E' k q'=>?_) (λ_ s' i j b C k e hC=>?_) (λ_=>by rw[<-hlen];show hr) (λ_=>by lia) fin
   .obtain⟨fs,l1,hf,kt⟩:=zj6 (K:=X.K) I k rv hT;show zf7 lV l1 hf kt q'
   .obtain⟨a,c,us,ws,e1,e2,q1,q2,e3⟩:=cj i j b e;let⟨u1,f1,g1⟩:=rv.get e1;let⟨u2,f2,g2⟩:=rv.get e2;cases (show u1=Value.ref a from g1);cases (show u2=Value.ref c from g2);let⟨i1,r1,⟨o1,BW,hc1,n1,Nf⟩,_⟩:=I.tuple q1;let⟨i2,r2,⟨o2,pR,nG,n2,hd2⟩,_⟩:=I.tuple q2;change wpAny _ _ (keyLt' (tuples' true) (its.getD i Value.none) (its.getD j Value.none)) C _ s';rw[Fb f1,Fb f2];show kat_lt (k _ _ BW) Nf (k _ _ pR) hd2 (zmM r1 r2 e3 ?_ hC);rw[r1.length,r2.length];simp
 .exact RP (κ:=oneType') (lt:=lt) (p:=p) pl.isList gV (λlV=>absurd lV gV) (λlV=>absurd lV gV) (λlV=>absurd lV gV) (λlV=>absurd lV gV) fin
end
end L2
namespace L2
open PySem PySem.Spec PyProof.Rows PySem.W PySem.Calls
theorem Yl{α:Type}:∀{l:List (Str×α)} {f:Str} {u:α},(l.map (·.1)).Nodup->(f,u)∈l->l.lookup f=some u
 |(g,v)::r,f,u,hn,hm=>by
  rw[iH,wF]at hn;rw[pI];rcases iG.mp hm with e|hm
  .cases e;simp
  .let:f≠g:=λz=>hn.1 (by rw[<-z];show lu.mpr ⟨(f,u),hm,rfl⟩);rw[show (f==g)=false by simpa using this];show Yl hn.2 hm
def zka{α:Type}{fs:List Str}{us:List α}{i:Nat}{f:Str}{u:α}(h1:fs[i]?=some f)(h2:us[i]?=some u):(f,u)∈fs.zip us:=by
 show dZ (i:=i) ?_;show(List.getElem?_zip_eq_some (z:=(f,u))).mpr ⟨h1,h2⟩
structure XF(K:Frag)(C:Addr)(f:Str):Prop where
 ga:findIn K (.ref C) "__getattribute__"=some (some (.builtin "BaseException.__getattribute__"))
 gn:findIn K (.ref C) "__getattr__"=some none
 mb:mroIn K C (.type "BaseException")=some true
 no:findIn K (.ref C) f=some none
 hd:hasDictIn K C=true
end L2
namespace L2
open PySem PySem.Spec PyProof.Rows
section
variable {X:Cx}{ao:List (Addr×Obj)}{Z:St}{H:Hp}{s:Shared}{h':Heap}
def Inv.lW{t':Nat}{ch:List Addr}{a:Addr}{o:HO}(I:Inv X ao Z H s)(k:∀b u,b∉ch->s.heap.get? b=some u->h'.get? b=some u)(hf:∀b∈ch,fj X ao H b)(ha:s.heap.objs.size<=a)(new:bC X.prog X.w (upd H a o) h' a o) :
  Inv X ao Z (upd H a o) {s with heap:=h',toks:=t'}:=by
 let zj:∀b u,H b=some u->b∉ch:=λb u e z=>by rw[(hf b z).1]at e;cases e
 let hn:H a=none:=I.hok.fresh ha;let na:∀b u,H b=some u->b≠a:=λb u e z=>by rw[z,hn]at e;cases e
 let la:∀b u,s.heap.get? b=some u->b≠a:=λb u e=>cR (fD (bK e) ha);show I.step (g':=s.gens) (d':=s.drawn) (ch:=ch) (λb hb=>?_) (λb o _ _ hc e _=>k b o hc e) (λb o _ _ hc e _=>⟨o.slots,k b o hc e⟩) (λb o' _ e n=>by rw[bN (la b o' e)];show n)
  (λb o hc e=>⟨o,k b o hc e⟩) (λb xs e=>by rw[bN (na b _ e)];show e) (λb o u e=>by rw[bN (na b _ e)];show e) (λb ps e=>⟨#[],by rw[bN (na b _ e),e];simp,.nil⟩) (λm hm=>?_) (λb u e=>?_) I.bare
 .obtain⟨f0,f1,f2,f3,f4,f5⟩:=hf b hb;show⟨f3.imp id λz=>DQ z,f1,f4,f5⟩
 .obtain⟨o,es,ep,ho,r⟩:=hm;show⟨o,es,ep,k _ o (λz=>(hf _ z).2.1 rfl) ho,r⟩
 .by_cases z:b=a
  .subst z;rw[h_]at e;cases e;show new
  .rw[bN z]at e;show(I.hok b u e).stay (λc v hc q=>k c v ?_ q) (λc q=>by rw[bN (na c _ q)];show q) λc _ q=>by rw[bN (na c _ q)];show q
   rcases hc with y|y
   .rw[y];show zj b u e
   .exact zj c _ y
def Inv.qP{t':Nat}{ch:List Addr}(I:Inv X ao Z H s)(k:∀b u,b∉ch->s.heap.get? b=some u->h'.get? b=some u)(hf:∀b∈ch,fj X ao H b):Inv X ao Z H {s with heap:=h',toks:=t'}:=by
 let zj:∀b u,H b=some u->b∉ch:=λb u e z=>by rw[(hf b z).1]at e;cases e
 show I.step (g':=s.gens) (d':=s.drawn) (ch:=ch) (λb hb=>?_) (λb o _ _ hc e _=>k b o hc e) (λb o _ _ hc e _=>⟨o.slots,k b o hc e⟩) (λ_ _ _ _ n=>n)
  (λb o hc e=>⟨o,k b o hc e⟩) (λ_ _ e=>e) (λ_ _ _ e=>e) (λb ps e=>⟨#[],by rw[e];simp,.nil⟩) (λm hm=>?_) (λb u e=>?_) I.bare
 .obtain⟨f0,f1,f2,f3,f4,f5⟩:=hf b hb;show⟨f3.imp id λz=>DQ z,f1,f4,f5⟩
 .obtain⟨o,es,ep,ho,r⟩:=hm;show⟨o,es,ep,k _ o (λz=>(hf _ z).2.1 rfl) ho,r⟩
 .refine(I.hok b u e).stay (λc v hc q=>k c v ?_ q) (λ_ q=>q) λ_ _ q=>q;rcases hc with y|y
  .rw[y];show zj b u e
  .exact zj c _ y
end
structure lX(prog:Program)(w:World)(it src:Addr)(st:Nat->Heap->Prop)(its:Array Value):Prop where
 item:∀(A:Around) (E:Value->Shared->Prop) (s:Shared) (i:Nat) (x:Value) (Q:Value->Shared->Prop),st i s.heap->its[i]?=some x->(∀h',st (i+1) h'->Heap.SameBut it s.heap h'->Q x {s with heap:=h'})->wpAny (model prog w) A (Builtin.SmallTypes.nextOf (.ref it)) Q E s
 fin:∀(A:Around) (E:Value->Shared->Prop) (s:Shared) (i:Nat) (Q:Value->Shared->Prop),A.handled=none->st i s.heap->its[i]?=none->(∀h' e,Heap.ExtBut it s.heap h'->(∃o,h'.get? e=some o/\o.cls=.type "StopIteration")->E (.ref e) {s with heap:=h'})->wpAny (model prog w) A (Builtin.SmallTypes.nextOf (.ref it)) Q E s
 keep:∀i h h',st i h->(∀b o,b=it\/b=src->h.get? b=some o->h'.get? b=some o)->st i h'
theorem lX.list(jJ:l≠it):lX prog w it l (λi h=>h.IsListIter it l i/\h.IsList l its) its where
 item:=λA E s i x Q ⟨h1,h2⟩ hx q=>wpAny_nextOf_list_item h1 h2 hx λh' a sb=>q h' ⟨a,h2.at λo e=>(sb.2 l jJ).trans e⟩ sb
 fin:=λA E s i Q hh ⟨h1,h2⟩ hx q=>wpAny_nextOf_list_end hh h1 h2 hx q
 keep:=λi h h' ⟨h1,h2⟩ k=>⟨h1.at λo e=>k it o (.inl rfl) e,h2.at λo e=>k l o (.inr rfl) e⟩
theorem Ym(l:Addr):¬((Value.ref l==Value.none)=true):=λz=>by cases (show false=true from z)
def IsTupleIter.at'{h h':Heap}{it l:Addr}{i:Nat}(x:h.IsTupleIter it l i)(k:∀o,h.get? it=some o->h'.get? it=some o):h'.IsTupleIter it l i:=by
 let⟨o,e,r⟩:=x;show⟨o,k o e,r⟩
def IsTuple.at'{h h':Heap}{l:Addr}{xs:Array Value}(x:h.IsTuple l xs)(k:∀o,h.get? l=some o->h'.get? l=some o):h'.IsTuple l xs:=by
 let⟨o,e,r⟩:=x;show⟨o,k o e,r⟩
section
variable {prog:Program}{w:World}{A:Around}{E:Value->Shared->Prop}{s:Shared}{it l:Addr}{i:Nat}{its:Array Value}
def ze1{x:Value}{Q:Value->Shared->Prop}(hi:s.heap.IsTupleIter it l i)(hl:s.heap.IsTuple l its)(hx:its[i]?=some x)(q:∀h',h'.IsTupleIter it l (i+1)->Heap.SameBut it s.heap h'->Q x {s with heap:=h'}) :
  wpAny (model prog w) A (Builtin.SmallTypes.nextOf (.ref it)) Q E s:=by
 let⟨oi,ei,ci,di⟩:=id hi;let⟨ol,el,_,nl,dl⟩:=hl;unfold Builtin.SmallTypes.nextOf;show aB (yI (name:=Str.ofString "__next__") hi.typeIs Lg (wD Lg hi.typeIs F.entry_tuple_iterator_next ?_ (F.args_tuple_iterator_next_1 _)));change wpAny _ A.in1 (field (.ref it) 0 >>= _) _ E s;show aB (kW ei di (x:=.ref l) rfl ?_);change wpAny _ A.in1 (if (Value.ref l==Value.none)=true then _ else _) _ E s;rw[if_neg (Ym l)];change wpAny _ A.in1 (field (.ref it) 1 >>= _) _ E s;show aB (kW ei di (x:=.int i 0) rfl ?_);change wpAny _ A.in1 (seqItems? (.ref l) >>= _) _ E s;show aB (rJ el dl ?_);simp only[pq,hx];show aB (GJ ei di RQ (aJ ⟨x,rfl,aJ (q _ ⟨_,Aa _ ei (Lq (yN di _)),(Obj.cls_mapFields ..).trans ci,?_⟩ (Heap.SameBut.update ..))⟩));rw[yN di];simp[rawInt]
def zf0{Q:Value->Shared->Prop}(hh:A.handled=none)(hi:s.heap.IsTupleIter it l i)(hl:s.heap.IsTuple l its)(hx:its[i]?=none)(q:∀h' e,Heap.ExtBut it s.heap h'->(∃o,h'.get? e=some o/\o.cls=.type "StopIteration")->E (.ref e) {s with heap:=h'}) :
  wpAny (model prog w) A (Builtin.SmallTypes.nextOf (.ref it)) Q E s:=by
 let⟨oi,ei,ci,di⟩:=id hi;let⟨ol,el,_,nl,dl⟩:=hl;unfold Builtin.SmallTypes.nextOf;show aB (yI (name:=Str.ofString "__next__") hi.typeIs Lg (wD Lg hi.typeIs F.entry_tuple_iterator_next ?_ (F.args_tuple_iterator_next_1 _)));change wpAny _ A.in1 (field (.ref it) 0 >>= _) _ E s;show aB (kW ei di (x:=.ref l) rfl ?_);change wpAny _ A.in1 (if (Value.ref l==Value.none)=true then _ else _) _ E s;rw[if_neg (Ym l)];change wpAny _ A.in1 (field (.ref it) 1 >>= _) _ E s;show aB (kW ei di (x:=.int i 0) rfl ?_);change wpAny _ A.in1 (seqItems? (.ref l) >>= _) _ E s;show aB (rJ el dl ?_);simp only[pq,hx];show aB (yV (aB (GJ ei di RQ ?_)));change wpAny _ A.in1 (newExc (.type "StopIteration") [] >>= _) _ E _;show aB ?_;simp only[newExc,newTuple];show aB (o_ (aB (m:=firstArgMember _ _) (Em (a:=Value.none) (by first|rfl|(simp only[firstArgMember];rfl)) (o_ ?_ (by size_fits)))) (by size_fits));simp only[raiseNew];show aB (wpAny_handled ?_);rw[show A.in1.handled=none from hh];show aB (aJ (wpAny_throw (q _ _ (((Heap.SameBut.update ..).extBut.push _).push _) ⟨_,dU _ rfl,rfl⟩)))
end
theorem lX.tuple{prog:Program}{w:World}{it l:Addr}{its:Array Value}(jJ:l≠it):lX prog w it l (λi h=>h.IsTupleIter it l i/\h.IsTuple l its) its where
 item:=λA E s i x Q ⟨h1,h2⟩ hx q=>ze1 h1 h2 hx λh' a sb=>q h' ⟨a,IsTuple.at' h2 λo e=>(sb.2 l jJ).trans e⟩ sb
 fin:=λA E s i Q hh ⟨h1,h2⟩ hx q=>zf0 hh h1 h2 hx q
 keep:=λi h h' ⟨h1,h2⟩ k=>⟨IsTupleIter.at' h1 λo e=>k it o (.inl rfl) e,IsTuple.at' h2 λo e=>k l o (.inr rfl) e⟩
structure mV(z TI TO i1 i2 l1 l2:Addr):Prop where
 zs:z≠TI/\z≠TO/\z≠i1/\z≠i2/\z≠l1/\z≠l2
 os:TO≠TI/\TO≠i1/\TO≠i2/\TO≠l1/\TO≠l2
 is:TI≠i1/\TI≠i2/\i1≠i2/\i1≠l1/\i1≠l2/\i2≠l1/\i2≠l2
section
variable {prog:Program}{w:World}{A:Around}{E:Value->Shared->Prop}{s:Shared}{z TI TO i1 i2 l1 l2:Addr}{st1 st2:Nat->Heap->Prop}{xs ys:Array Value}{k:Nat}{a b:Value}
def zhO(N1:lX prog w i1 l1 st1 xs)(N2:lX prog w i2 l2 st2 ys)(D:mV z TI TO i1 i2 l1 l2)(hz:IsZip s.heap z TI TO .none)(RT:IsPair s.heap TI (.ref i1) (.ref i2))(RV:IsPair s.heap TO a b)
  (h1:st1 k s.heap) (h2:st2 k s.heap) (hx:xs[k]?=some x) (hy:ys[k]?=some y)
  (q:∀h',IsZip h' z TI TO (rawInt s.heap.objs.size)->IsPair h' TO x y->st1 (k+1) h'->st2 (k+1) h'->IsPair h' s.heap.objs.size x y->h'.objs.size=s.heap.objs.size+1->(∀c o,c≠z->c≠TO->c≠i1->c≠i2->s.heap.get? c=some o->h'.get? c=some o)->Q (some (.ref s.heap.objs.size)) {s with heap:=h'}) :
  wpAny (model prog w) A (pyNext (.ref z)) Q E s:=by
 let⟨⟨z1,z2,z3,z4,z5,z6⟩,⟨t1,t2,t3,t4,t5⟩,⟨j1,j2,j3,j4,j5,j6,j7⟩⟩:=D;let hT:s.TypeIs (.ref z) "zip":=⟨_,hz,rfl⟩;unfold pyNext;show aB (El (yI (name:=Str.ofString "__next__") hT Ma (wD Ma hT F.entry_zip_next ?_ (F.args_zip_next_1 _))));change wpAny _ A.in1 (field (.ref z) 2 >>= _) _ _ s;show aB (kW hz rfl (x:=.bool false) rfl ?_);change wpAny _ A.in1 (field (.ref z) 3 >>= _) _ _ s;show aB (kW hz rfl (x:=.ref TI) rfl (aB (rJ RT rfl ?_)));change wpAny _ A.in1 (Builtin.SmallTypes.ownedTupleIsFree (.ref z) >>= _) _ _ s;show aB ?_;unfold Builtin.SmallTypes.ownedTupleIsFree;show aB (kW hz rfl (x:=.none) rfl (aJ ?_));simp only[if_true];show aB (yV (aB (kW hz rfl (x:=.ref TO) rfl (aB (DY hz RQ λha za sa=>aB ?_)))))
 replace za:IsZip ha z TI TO .ellipsis:=za
 simp only[List.zipIdx_cons,List.zipIdx_nil,Ek,Mh];show aB (aB (wpAny_onRaise ?_));change wpAny _ A.in1 (Builtin.SmallTypes.nextOf (.ref i1) >>= _) _ _ _;show aB (N1.item _ _ {s with heap:=ha} k x _ (N1.keep _ _ _ h1 λc o hc e=>sa.extBut c o (by rcases hc with rfl|rfl;show z3.symm;show z5.symm) e) hx λhb Yn sb=>aJ ?_);let tb:IsPair hb TO a b:=sb.extBut _ _ t2 (sa.extBut _ _ z2.symm RV);show aB (rJ tb rfl (aB (PK tb λhc tc sc=>aB (yU (aJ ?_)))))
 replace tc:IsPair hc TO x b:=tc
 show aB (aB (wpAny_onRaise ?_));change wpAny _ A.in1 (Builtin.SmallTypes.nextOf (.ref i2) >>= _) _ _ _;let k2:st2 k hc:=N2.keep _ _ _ h2 λc o lD e=>by
  rcases lD with rfl|rfl
  .exact sc.extBut _ _ t3.symm (sb.extBut _ _ j3.symm (sa.extBut _ _ z4.symm e))
  .exact sc.extBut _ _ t5.symm (sb.extBut _ _ j5.symm (sa.extBut _ _ z6.symm e))
 let k1:st1 (k+1) hc:=N1.keep _ _ _ Yn λc o lD e=>by
  rcases lD with rfl|rfl
  .exact sc.extBut _ _ t2.symm e
  .exact sc.extBut _ _ t4.symm e
 show aB (N2.item _ _ {s with heap:=hc} k y _ k2 hy λhd sd2 sd=>aJ ?_);let td:IsPair hd TO x b:=sd.extBut _ _ t3 tc;show aB (rJ td rfl (aB (PK td λhe te se=>aB (yU (aJ (aJ ?_))))))
 replace te:IsPair he TO x y:=te
 show aB (rJ te rfl (aB (wpAny_newTuple ?_)));let size:he.objs.size=s.heap.objs.size:=by rw[se.1,sd.1,sc.1,sb.1,sa.1]
 let ze:IsZip he z TI TO .ellipsis:=se.extBut _ _ z2 (sd.extBut _ _ z4 (sc.extBut _ _ z2 (sb.extBut _ _ z3 za)));let kept:∀c o,c≠z->c≠TO->c≠i1->c≠i2->s.heap.get? c=some o->he.get? c=some o:=λc o c1 c2 c3 c4 e=>se.extBut _ _ c2 (sd.extBut _ _ c4 (sc.extBut _ _ c2 (sb.extBut _ _ c3 (sa.extBut _ _ c1 e))));let e1:st1 (k+1) he:=N1.keep _ _ _ k1 λc o lD e=>by
  rcases lD with rfl|rfl
  .exact se.extBut _ _ t2.symm (sd.extBut _ _ j3 e)
  .exact se.extBut _ _ t4.symm (sd.extBut _ _ j6.symm e)
 let e2:st2 (k+1) he:=N2.keep _ _ _ sd2 λc o lD e=>by
  rcases lD with rfl|rfl
  .exact se.extBut _ _ t3.symm e
  .exact se.extBut _ _ t5.symm e
 change wpAny _ A.in1 (Builtin.SmallTypes.ownedTupleHandOut (.ref z) (.ref he.objs.size) >>= _) _ _ _;show aB ?_;unfold Builtin.SmallTypes.ownedTupleHandOut;let zf:IsZip (he.push {cls:=.type "tuple",data:=.seq #[x,y]}) z TI TO .ellipsis:=bW _ ze;show aB (DY zf RQ λhg zg sg=>DY zg RQ λhh zh sh=>aJ ⟨_,rfl,aJ ?_⟩)
 replace zh:IsZip hh z TI TO (rawInt he.objs.size):=zh
 let up:∀c o,c≠z->he.get? c=some o->hh.get? c=some o:=λc o c1 e=>sh.extBut _ _ c1 (sg.extBut _ _ c1 (bW _ e));let lz:z<he.objs.size:=bK ze;let tn:IsPair hh he.objs.size x y:=sh.extBut _ _ (pL lz) (sg.extBut _ _ (pL lz) (dU _ rfl));let sz:hh.objs.size=he.objs.size+1:=by rw[sh.1,sg.1,vD]
 rw[size]at zh tn sz;change Q (some (.ref he.objs.size)) _;rw[size];show q hh zh (up _ _ z2.symm te) (N1.keep _ _ _ e1 λc o lD e=>up c o (by rcases lD with rfl|rfl;show z3.symm;show z5.symm) e) (N2.keep _ _ _ e2 λc o lD e=>up c o (by rcases lD with rfl|rfl;show z4.symm;show z6.symm) e) tn sz λc o c1 c2 c3 c4 e=>up c o c1 (kept c o c1 c2 c3 c4 e)
def zkl(hn:A.handled=none)(N1:lX prog w i1 l1 st1 xs)(N2:lX prog w i2 l2 st2 ys)(D:mV z TI TO i1 i2 l1 l2)(hz:IsZip s.heap z TI TO .none)(RT:IsPair s.heap TI (.ref i1) (.ref i2))(RV:IsPair s.heap TO a b)
  (h1:st1 k s.heap) (h2:st2 k s.heap) (hx:xs[k]?=none\/ys[k]?=none) (q:∀h',(∀c o,c≠z->c≠TO->c≠i1->c≠i2->s.heap.get? c=some o->h'.get? c=some o)->Q none {s with heap:=h'}):wpAny (model prog w) A (pyNext (.ref z)) Q E s:=by
 let⟨⟨z1,z2,z3,z4,z5,z6⟩,⟨t1,t2,t3,t4,t5⟩,⟨j1,j2,j3,j4,j5,j6,j7⟩⟩:=D;let hT:s.TypeIs (.ref z) "zip":=⟨_,hz,rfl⟩;let stop:∀(h':Heap) (e:Addr),(∀c o,c≠z->c≠TO->c≠i1->c≠i2->s.heap.get? c=some o->h'.get? c=some o)->(∃o,h'.get? e=some o/\o.cls=.type "StopIteration")->
   wpAny (model prog w) A (do if <-isInstance (.ref e) (.type "StopIteration") then pure none else throw (.ref e):Sem (Option Value)) Q E {s with heap:=h'}:=λh' e kp ⟨o,ho,hc⟩=>
  aB (L_ (T:="StopIteration") (b:=true) ⟨o,ho,hc⟩ isSubtype_stop (aJ (q h' kp)))
 unfold pyNext;show aB (El (yI (name:=Str.ofString "__next__") hT Ma (wD Ma hT F.entry_zip_next ?_ (F.args_zip_next_1 _))));change wpAny _ A.in1 (field (.ref z) 2 >>= _) _ _ s;show aB (kW hz rfl (x:=.bool false) rfl ?_);change wpAny _ A.in1 (field (.ref z) 3 >>= _) _ _ s;show aB (kW hz rfl (x:=.ref TI) rfl (aB (rJ RT rfl ?_)));change wpAny _ A.in1 (Builtin.SmallTypes.ownedTupleIsFree (.ref z) >>= _) _ _ s;show aB ?_;unfold Builtin.SmallTypes.ownedTupleIsFree;show aB (kW hz rfl (x:=.none) rfl (aJ ?_));simp only[if_true];show aB (yV (aB (kW hz rfl (x:=.ref TO) rfl (aB (DY hz RQ λha za sa=>aB ?_)))))
 replace za:IsZip ha z TI TO .ellipsis:=za
 simp only[List.zipIdx_cons,List.zipIdx_nil,Ek,Mh];show aB (aB (wpAny_onRaise ?_));change wpAny _ A.in1 (Builtin.SmallTypes.nextOf (.ref i1) >>= _) _ _ _;let ka:st1 k ha:=N1.keep _ _ _ h1 λc o hc e=>sa.extBut c o (by rcases hc with rfl|rfl;show z3.symm;show z5.symm) e;cases ex:xs[k]? with
 |none=>
  show aB (N1.fin _ _ {s with heap:=ha} k _ hn ka ex λhb e sb se=>?_);let⟨oe,ho,hc⟩:=se;let zb:IsZip hb z TI TO .ellipsis:=sb _ _ z3 za;let ne:e≠z:=λy=>by subst y;rw[zb]at ho;cases ho;simp at hc
  show DY zb RQ λhd _ sd=>stop hd e (λc o c1 _ c3 _ y=>sd.extBut _ _ c1 (sb _ _ c3 (sa.extBut _ _ c1 y))) ⟨oe,sd.extBut _ _ ne ho,hc⟩
 |some x=>
  let ey:ys[k]?=none:=by
   rcases hx with y|y
   .rw[ex]at y;cases y
   .exact y
  show aB (N1.item _ _ {s with heap:=ha} k x _ ka ex λhb Yn sb=>aJ ?_);let tb:IsPair hb TO a b:=sb.extBut _ _ t2 (sa.extBut _ _ z2.symm RV);show aB (rJ tb rfl (aB (PK tb λhc tc sc=>aB (yU (aJ ?_)))));show aB (aB (wpAny_onRaise ?_));change wpAny _ A.in1 (Builtin.SmallTypes.nextOf (.ref i2) >>= _) _ _ _;let k2:st2 k hc:=N2.keep _ _ _ h2 λc o lD e=>by
   rcases lD with rfl|rfl
   .exact sc.extBut _ _ t3.symm (sb.extBut _ _ j3.symm (sa.extBut _ _ z4.symm e))
   .exact sc.extBut _ _ t5.symm (sb.extBut _ _ j5.symm (sa.extBut _ _ z6.symm e))
  show aB (N2.fin _ _ {s with heap:=hc} k _ hn k2 ey λhd e sd se=>?_);let⟨oe,ho,pY⟩:=se;let zd:IsZip hd z TI TO .ellipsis:=sd _ _ z4 (sc.extBut _ _ z2 (sb.extBut _ _ z3 za));let ne:e≠z:=λy=>by subst y;rw[zd]at ho;cases ho;simp at pY
  show DY zd RQ λhf _ sf=>stop hf e (λc o c1 c2 c3 c4 y=>sf.extBut _ _ c1 (sd _ _ c4 (sc.extBut _ _ c2 (sb.extBut _ _ c3 (sa.extBut _ _ c1 y))))) ⟨oe,sf.extBut _ _ ne ho,pY⟩
end
def Ck:Bool->Heap->Addr->Array Value->Prop
 |true,h,l,xs=>h.IsList l xs|false,h,l,xs=>h.IsTuple l xs
def Rk:Bool->Addr->Addr->Nat->Heap->Prop
 |true,it,l,i,h=>h.IsListIter it l i|false,it,l,i,h=>h.IsTupleIter it l i
def Sk:Bool->W.Frag->Hp->Addr->List V->Prop
 |true,K,H,l,xs=>cP K H l xs|false,K,H,l,xs=>gD K H l xs
def gC:Bool->Addr->Obj
 |true,l=>{cls:=.type "list_iterator",data:=.fields #[.ref l,.int 0 0]}|false,l=>{cls:=.type "tuple_iterator",data:=.fields #[.ref l,.int 0 0]}
def lX.of(kd:Bool)(jJ:l≠it):lX prog w it l (λi h=>Rk kd it l i h/\Ck kd h l its) its:=by
 cases kd
 .exact lX.tuple jJ
 .exact lX.list jJ
def Ck.keep(x:Ck kd h l xs)(k:∀o,h.get? l=some o->h'.get? l=some o):Ck kd h' l xs:=by
 cases kd
 .exact IsTuple.at' x k
 .exact Heap.IsList.at x k
def Rk.keep(x:Rk kd it l i h)(k:∀o,h.get? it=some o->h'.get? it=some o):Rk kd it l i h':=by
 cases kd
 .exact IsTupleIter.at' x k
 .exact Heap.IsListIter.at x k
def Rk.obj(x:Rk kd it l i h):∃o,h.get? it=some o/\∀v,o.data≠.cell v:=by
 cases kd
 .obtain⟨o,e,c,d⟩:=x;show⟨o,e,λv z=>by rw[d]at z;cases z⟩
 .obtain⟨o,e,c,d⟩:=x;show⟨o,e,λv z=>by rw[d]at z;cases z⟩
def Ck.lt(x:Ck kd h l xs):l<h.objs.size:=by
 cases kd
 .obtain⟨o,e,_⟩:=x;show bK e
 .obtain⟨o,e,_⟩:=x;show bK e
section
variable {prog:Program}{w:World}{A:Around}{E:Value->Shared->Prop}{s:Shared}
def Ng(c:Ck kd s.heap l xs)(q:Q (.ref s.heap.objs.size) {s with heap:=s.heap.push (gC kd l)}):wpAny (model prog w) A (pyIter (.ref l)) Q E s:=by
 cases kd
 .exact wpAny_pyIter_tuple c q
 .exact Ly c q
end
def zH(h:Heap)(k1 k2:Bool)(l1 l2:Addr):Heap:=((((h.push (gC k1 l1)).push (gC k2 l2)).push {cls:=.type "tuple",data:=.seq #[.ref h.objs.size,.ref (h.push (gC k1 l1)).objs.size]}).push {cls:=.type "tuple",data:=.seq #[.none,.none]}).push
 {cls:=.type "zip",data:=.fields #[.none,.bool false,.bool false,.ref ((h.push (gC k1 l1)).push (gC k2 l2)).objs.size,.ref (((h.push (gC k1 l1)).push (gC k2 l2)).push {cls:=.type "tuple",data:=.seq #[.ref h.objs.size,.ref (h.push (gC k1 l1)).objs.size]}).objs.size]}
theorem zht(k1 k2:Bool)(l1 l2:Addr)(xs ys:Array Value):Meets (Builtin.«zip.__new__» ⟨[.type "zip",.ref l1,.ref l2],[]⟩) (λ_ R s=>Ck k1 s.heap l1 xs/\Ck k2 s.heap l2 ys /\
   R (.ok (.ret (.ref ((((s.heap.push (gC k1 l1)).push (gC k2 l2)).push {cls:=.type "tuple",data:=.seq #[.ref s.heap.objs.size,.ref (s.heap.push (gC k1 l1)).objs.size]}).push {cls:=.type "tuple",data:=.seq #[.none,.none]}).objs.size))) {s with heap:=zH s.heap k1 k2 l1 l2}):=
 .of_wp λprog w A R s h=>by
  let⟨hp,g,d,tk,os⟩:=s;let⟨c1,c2,h⟩:=h;let hsub:=sub_zip;let C1:Ck k1 (Shared.heap ⟨hp,g,d,tk,os⟩) l1 xs:=c1;let C2:Ck k2 (Shared.heap ⟨hp.push (gC k1 l1),g,d,tk,os⟩) l2 ys:=c2.keep λo e=>bW _ e
  wp_walk using Ng C1,Ng C2
  show⟨_,rfl,h⟩
section
variable {prog:Program}{w:World}{A:Around}{E:Value->Shared->Prop}{s:Shared}
def ziM(c1:Ck k1 s.heap l1 xs)(c2:Ck k2 s.heap l2 ys)
  (h:∀h',IsZip h' (s.heap.objs.size+4) (s.heap.objs.size+2) (s.heap.objs.size+3) .none->IsPair h' (s.heap.objs.size+2) (.ref s.heap.objs.size) (.ref (s.heap.objs.size+1))->IsPair h' (s.heap.objs.size+3) .none .none->
   Rk k1 s.heap.objs.size l1 0 h'->Rk k2 (s.heap.objs.size+1) l2 0 h'->(∀c o,s.heap.get? c=some o->h'.get? c=some o)->Q (.ref (s.heap.objs.size+4)) {s with heap:=h'}) :
  wpAny (model prog w) A (call (.type "zip") [.ref l1,.ref l2]) Q E s:=by
 show callType_new F.called_zip J0 (F.typeCall_zip_2 _ _) (F.newCall_zip_2 _ _) (λobj=>F.args_object_init_3 obj _ _) F.entry_zip_new (zht k1 k2 l1 l2 xs ys) ⟨c1,c2,?_⟩;let n1:(s.heap.push (gC k1 l1)).objs.size=s.heap.objs.size+1:=vD ..;let n2:((s.heap.push (gC k1 l1)).push (gC k2 l2)).objs.size=s.heap.objs.size+2:=by rw[vD,n1]
 let fr:∀kd l,(gC kd l).isFreed=false:=λkd l=>by cases kd<;>rfl
 let rk:∀{h:Heap} {a:Addr} {kd:Bool} {l:Addr},h.get? a=some (gC kd l)->Rk kd a l 0 h:=λ{h a kd l} e=>by
  cases kd
  .exact⟨_,e,rfl,rfl⟩
  .exact⟨_,e,rfl,rfl⟩
 let o1:(s.heap.push (gC k1 l1)).get? s.heap.objs.size=some (gC k1 l1):=dU _ (fr _ _);let o2:((s.heap.push (gC k1 l1)).push (gC k2 l2)).get? (s.heap.objs.size+1)=some (gC k2 l2):=by
  let:=dU (s.heap.push (gC k1 l1)) (o:=gC k2 l2) (fr _ _);rw[n1]at this;show this
 generalize hA:(s.heap.push (gC k1 l1)).push (gC k2 l2)=Nh at *;let eH:zH s.heap k1 k2 l1 l2=((Nh.push {cls:=.type "tuple",data:=.seq #[.ref s.heap.objs.size,.ref (s.heap.objs.size+1)]}).push {cls:=.type "tuple",data:=.seq #[.none,.none]}).push {cls:=.type "zip",data:=.fields #[.none,.bool false,.bool false,.ref (s.heap.objs.size+2),.ref (s.heap.objs.size+3)]}:=by
  unfold zH;rw[hA,n1,n2,vD,n2]
 let n3:(Nh.push {cls:=.type "tuple",data:=.seq #[.ref s.heap.objs.size,.ref (s.heap.objs.size+1)]}).objs.size=s.heap.objs.size+3:=by rw[vD,n2]
 let n4:((Nh.push {cls:=.type "tuple",data:=.seq #[.ref s.heap.objs.size,.ref (s.heap.objs.size+1)]}).push {cls:=.type "tuple",data:=.seq #[.none,.none]}).objs.size=s.heap.objs.size+4:=by rw[vD,n3]
 rw[n1,n4];let g5:(zH s.heap k1 k2 l1 l2).get? (s.heap.objs.size+4)=some {cls:=.type "zip",data:=.fields #[.none,.bool false,.bool false,.ref (s.heap.objs.size+2),.ref (s.heap.objs.size+3)]}:=by
  rw[eH,<-n4];show dU _ rfl
 let g4:(zH s.heap k1 k2 l1 l2).get? (s.heap.objs.size+3)=some {cls:=.type "tuple",data:=.seq #[.none,.none]}:=by
  rw[eH,<-n3];show bW _ (dU _ rfl)
 let g3:(zH s.heap k1 k2 l1 l2).get? (s.heap.objs.size+2)=some {cls:=.type "tuple",data:=.seq #[.ref s.heap.objs.size,.ref (s.heap.objs.size+1)]}:=by
  rw[eH,<-n2];show bW _ (bW _ (dU _ rfl))
 let up:∀c o,Nh.get? c=some o->(zH s.heap k1 k2 l1 l2).get? c=some o:=λc o e=>by rw[eH];show bW _ (bW _ (bW _ e))
 show⟨⟨_,g5,rfl⟩,h _ g5 g3 g4 (rk (up _ _ ?_)) (rk (up _ _ o2)) λc o e=>up _ _ ?_⟩
 .rw[<-hA];show bW _ o1
 .rw[<-hA];show bW _ (bW _ e)
end
def RW(K:W.Frag)(k1 k2:Bool)(l1 l2:Addr):It:=
 ⟨λi H=>∃xs ys x y,Sk k1 K H l1 xs/\Sk k2 K H l2 ys/\xs[i]?=some x/\ys[i]?=some y,
  λi H v H'=>∃a x y,H a=none/\v=.ref a/\H'=upd H a (.tup [x,y])/\(∀xs,Sk k1 K H l1 xs->xs[i]?=some x)/\∀ys,Sk k2 K H l2 ys->ys[i]?=some y,
  λi H=>∃xs ys,Sk k1 K H l1 xs/\Sk k2 K H l2 ys/\(xs.length<=i\/ys.length<=i)⟩
section
variable {X:Cx}{ao:List (Addr×Obj)}{Z:St}{H:Hp}{s:Shared}{kd:Bool}{l:Addr}{xs ys:List V}
def Inv.row(I:Inv X ao Z H s)(h:Sk kd X.K H l xs):∃its:List Value,Vals xs its/\Ck kd s.heap l its.toArray:=by
 cases kd
 .obtain⟨its,rv,p,hz⟩:=I.tuple h;show⟨its,rv,p⟩
 .obtain⟨its,rv,p,hz⟩:=I.list h;show⟨its,rv,p.isList⟩
def Inv.mW(I:Inv X ao Z H s)(h:Sk kd X.K H l xs)(h':Sk kd X.K H l ys):xs=ys:=by
 cases kd
 .exact I.lU h h'
 .exact I.nZ h h'
end
def zhU{P:Program}{w:World}{K:W.Frag}{elts:List Expr}{kk:Nat}{pos:Pos}{k1 k2:Bool}{l1 l2 z TI TO i1 i2:Addr}(D:mV z TI TO i1 i2 l1 l2) :
  Turn P w K (.Tuple elts kk pos) (RW K k1 k2 l1 l2) [z,TI,TO,i1,i2] z (λi h=>IsZip h z TI TO .none/\IsPair h TI (.ref i1) (.ref i2)/\(∃a b,IsPair h TO a b)/\Rk k1 i1 l1 i h/\Rk k2 i2 l2 i h) where
 mem:=by simp
 obj:=λi h ⟨a1,a2,⟨p,q,a3⟩,a4,a5⟩ b hb=>by
  let:b=z\/b=TI\/b=TO\/b=i1\/b=i2:=by simpa using hb
  rcases this with rfl|rfl|rfl|rfl|rfl
  .exact⟨_,a1,λv y=>by cases y⟩
  .exact⟨_,a2,λv y=>by cases y⟩
  .exact⟨_,a3,λv y=>by cases y⟩
  .exact a4.obj
  .exact a5.obj
 keep:=λi h h' ⟨a1,a2,⟨p,q,a3⟩,a4,a5⟩ k=>⟨k z RQ _ a1,k TI RQ _ a2,⟨p,q,k TO RQ _ a3⟩,a4.keep λo e=>k i1 RQ o e,a5.keep λo e=>k i2 RQ o e⟩
 item:=by
  rintro X hP hw hK hc i ao s Z H E I hf ⟨a1,a2,⟨p,q,a3⟩,a4,a5⟩ hg;subst hP hw hK;let⟨xs,ys,x,y,Fd,hq2,hx,hy⟩:=hg;let⟨Yo,Ni,c1⟩:=I.row Fd;let⟨Je,Nj,c2⟩:=I.row hq2;let⟨u,hu,ru⟩:=Ni.get hx;let⟨v,hv,rv⟩:=Nj.get hy;let D':=D;let⟨⟨z1,z2,z3,z4,z5,z6⟩,⟨t1,t2,t3,t4,t5⟩,⟨j1,j2,j3,j4,j5,j6,j7⟩⟩:=D';show zhO (lX.of k1 j4.symm) (lX.of k2 j7.symm) D a1 a2 a3 ⟨a4,c1⟩ ⟨a5,c2⟩ (x:=u) (y:=v) (by simpa using hu) (by simpa using hv) λh1 b1 b2 b3 b4 b5 b6 kp=>?_;show⟨_,rfl,wpAny_letOwnedTupleGo_zip (s:={s with heap:=h1}) b1 λh2 e2 sb=>?_⟩;let RX:IsPair h2 s.heap.objs.size u v:=(sb.2 _ (pL (bK a1))).trans b5;let kk:∀b o,b∉[z,TI,TO,i1,i2]->s.heap.get? b=some o->h2.get? b=some o:=λb o hb e=>(sb.2 b λy=>hb (by simp[y])).trans (kp b o (λy=>hb (by simp[y])) (λy=>hb (by simp[y])) (λy=>hb (by simp[y])) (λy=>hb (by simp[y])) e);let I2:=I.lW (t':=s.toks) (a:=s.heap.objs.size) (o:=.tup [x,y]) kk (λb hb=>hf b hb) (bU _) (show bC X.prog X.w _ h2 _ (.tup [x,y]) from ⟨by change 2<=sizeLine;decide,[u,v],.cons ru (.cons rv .nil),⟨_,RX,rfl,_,rfl⟩⟩);let hn:H s.heap.objs.size=none:=I.hok.fresh (bU _);show⟨.ref s.heap.objs.size,_,I2,rfl,⟨_,x,y,hn,rfl,rfl,λzs hz=>by rw[I.mW hz Fd];show hx,λzs hz=>by rw[I.mW hz hq2];show hy⟩,⟨e2,(sb.2 _ z1.symm).trans (kp _ _ z1.symm t1.symm j1 j2 a2),⟨_,_,(sb.2 _ z2.symm).trans b2⟩,b3.1.keep λo e=>(sb.2 _ z3.symm).trans e,b4.1.keep λo e=>(sb.2 _ z4.symm).trans e⟩,λb hb=>?_⟩;let nb:b≠s.heap.objs.size:=by
   let:b=z\/b=TI\/b=TO\/b=i1\/b=i2:=by simpa using hb
   rcases this with rfl|rfl|rfl|rfl|rfl
   .exact cR (bK a1)
   .exact cR (bK a2)
   .exact cR (bK a3)
   .obtain⟨o,e,_⟩:=a4.obj;show cR (bK e)
   .obtain⟨o,e,_⟩:=a5.obj;show cR (bK e)
  rw[bN nb];show(hf b hb).1
 done:=by
  rintro X hP hw hK hc i ao s Z H E I hf ⟨a1,a2,⟨p,q,a3⟩,a4,a5⟩ hg;subst hP hw hK;let⟨xs,ys,Fd,hq2,hx⟩:=hg;let⟨Yo,Ni,c1⟩:=I.row Fd;let⟨Je,Nj,c2⟩:=I.row hq2;let n1:=Ni.length;let n2:=Nj.length;show zkl (I.ok.hd hc) (lX.of k1 D.is.2.2.2.1.symm) (lX.of k2 D.is.2.2.2.2.2.2.symm) D a1 a2 a3 ⟨a4,c1⟩ ⟨a5,c2⟩ ?_ λh' kp=>⟨rfl,I.qP (t':=s.toks) (ch:=[z,TI,TO,i1,i2]) (λb o hb e=>kp b o (λy=>hb (by simp[y])) (λy=>hb (by simp[y])) (λy=>hb (by simp[y])) (λy=>hb (by simp[y])) e) λb hb=>hf b hb⟩;rcases hx with y|y
  .exact .inl (by simp;lia)
  .exact .inr (by simp;lia)
 self:=λ_ _ _ _ _ ⟨a1,_⟩ h=>wpAny_pyIter_zip a1 h
section
variable {X:Cx}
def RZ(K:W.Frag)(ta:TA):TI:=λZ H R=>ta Z H λvs H1=>∃k1 k2 l1 l2 xs ys,vs=[.ref l1,.ref l2]/\Sk k1 K H1 l1 xs/\Sk k2 K H1 l2 ys/\R (RW K k1 k2 l1 l2) H1
def zhy:bootBuiltins "zip"=some (.type "zip"):=by decide +kernel
def zmh{a b:Expr}{ta:TA}{p pos tpos:Pos}{elts:List Expr}{kk:Nat}(hg:Gl X "zip")(hm:X.mg "zip"=none)(ha:PA X [a,b] ta)(hs:starEach [a,b] X.env=[(false,eval a X.env),(false,eval b X.env)]:=by rfl)(zm:starEach [b] X.env=[(false,eval b X.env)]:=by rfl) :
  PI X (.Tuple elts kk tpos) (.Call (.Name "zip" p) [a,b] [] pos) (RZ X.K ta):=by
 intro ao s Z H R I h;show Call_ (vM I hg hm zhy (zZ (aO (ha pos ao s Z H _ I h) λus s1 hz=>?_) (by rw[hs,zm]) (by rw[zm];rfl)));let⟨vs,H1,I1,r1,q1⟩:=hz;let⟨k1,k2,l1,l2,xs,ys,e,Fd,hq2,q⟩:=q1;subst e;cases r1 with
 |cons r rr=>
  cases rr with
  |cons r' rr=>
   cases rr;cases r;cases r';let⟨Yo,Ni,c1⟩:=I1.row Fd;let⟨Je,Nj,c2⟩:=I1.row hq2;let m1:=c1.lt;let m2:=c2.lt;show ziM c1 c2 λh' b1 b2 b3 b4 b5 kp=>?_;show wpAny_pyIter_zip b1 ?_;let ne:∀{u v:Nat},u<v->u≠v:=λh=>cR h;let D:mV (s1.heap.objs.size+4) (s1.heap.objs.size+2) (s1.heap.objs.size+3) s1.heap.objs.size (s1.heap.objs.size+1) l1 l2:=
    ⟨⟨(ne gV).symm,(ne gV).symm,(ne gV).symm,(ne gV).symm,(ne (fD m1 gV)).symm,(ne (fD m2 gV)).symm⟩,
     ⟨(ne gV).symm,(ne gV).symm,(ne gV).symm,(ne (fD m1 gV)).symm,(ne (fD m2 gV)).symm⟩,
     ⟨(ne gV).symm,(ne gV).symm,ne gV,(ne m1).symm,(ne m2).symm,(ne (fD m1 gV)).symm,(ne (fD m2 gV)).symm⟩⟩
   show⟨s1.heap.objs.size+4,[s1.heap.objs.size+4,s1.heap.objs.size+2,s1.heap.objs.size+3,s1.heap.objs.size,s1.heap.objs.size+1],_,_,H1,rfl,I1.kept (t':=s1.toks) kp,zhU D,⟨b1,b2,⟨_,_,b3⟩,b4,b5⟩,λb hb=>?_,q⟩;let:s1.heap.objs.size<=b:=by
    let:b=s1.heap.objs.size+4\/b=s1.heap.objs.size+2\/b=s1.heap.objs.size+3\/b=s1.heap.objs.size\/b=s1.heap.objs.size+1:=by simpa using hb
    rcases this with rfl|rfl|rfl|rfl|rfl<;>lia
   show I1.uo this (I1.hok.fresh this)
end
def Ite(K:W.Frag)(kd:Bool)(l:Addr):It:=
 ⟨λi H=>∃xs x,Sk kd K H l xs/\xs[i]?=some x,λi H v H'=>∃a x,H a=none/\v=.ref a/\H'=upd H a (.tup [.int i,x])/\∀xs,Sk kd K H l xs->xs[i]?=some x,λi H=>∃xs,Sk kd K H l xs/\xs.length<=i⟩
theorem BX{prog:Program}{w:World}{A:Around}(hh:A.handled=none)(kd:Bool){it l:Addr}(jJ:l≠it)(its:Array Value):Draws prog w A it [it,l] its.size (λi v=>its[i]?=some v) (λi h=>Rk kd it l i h/\Ck kd h l its) where
 live:=λ_ _ st=>let ⟨o,e,_⟩:=st.1.obj;⟨o,e⟩
 frame:=λ_ _ _ st k=>⟨st.1.keep λo e=>k it RQ o e,st.2.keep λo e=>k l RQ o e⟩
 item:=λi s Q E hi st q=>(lX.of kd jJ).item A E s i its[i] Q st (by simp[hi]) λh' a b=>q _ h' s.toks (by simp[hi]) a b
 done:=λs Q E st q=>(lX.of kd jJ).fin A E s its.size Q hh st RQ q
theorem zhN(kd:Bool)(l:Addr)(xs:Array Value):Meets (Builtin.«enumerate.__new__» ⟨[.type "enumerate",.ref l],[]⟩) (λ_ R s=>Ck kd s.heap l xs /\
   R (.ok (.ret (.ref (s.heap.push (gC kd l)).objs.size))) {s with heap:=(s.heap.push (gC kd l)).push {cls:=.type "enumerate",data:=.fields #[.none,.bool false,.ref s.heap.objs.size,rawInt 0,.none,.none]}}):=
 .of_wp λprog w A R s h=>by
  let⟨hp,g,d,tk,os⟩:=s;let⟨c1,h⟩:=h;let hsub:=sub_enumerate;let C1:Ck kd (Shared.heap ⟨hp,g,d,tk,os⟩) l xs:=c1;obtain⟨ol,el⟩ : ∃o,hp.get? l=some o:=by
   cases kd
   .obtain⟨o,e,_⟩:=c1;show⟨o,e⟩
   .obtain⟨o,e,_⟩:=c1;show⟨o,e⟩
  wp_walk using Lj el
  show wpAny_stack_any λst=>aJ ?_
  split
  .rename_i c _ _ _ _ _;cases (c==Value.type "enumerate")<;>(wp_walk using Lj el,Ng C1;show⟨_,rfl,h⟩)
  .wp_walk using Lj el,Ng C1
   show⟨_,rfl,h⟩
def zh6{prog:Program}{w:World}{A:Around}{E:Value->Shared->Prop}{s:Shared}{e it l:Addr}{its:Array Value}{st:Nat->Heap->Prop}{i:Nat}{old:Value}{Q:Option Value->Shared->Prop}(hh:A.handled=none)(N:lX prog w it l st its)(he:IsEnum s.heap e it i old)(Bj:st i s.heap)(hx:its[i]?=none)
  (q:∀h',Heap.ExtBut it s.heap h'->Q none {s with heap:=h'}):wpAny (model prog w) A (pyNext (.ref e)) Q E s:=by
 let ty:s.TypeIs (.ref e) "enumerate":=⟨_,he,rfl⟩;let body:∀{E':Value->Shared->Prop},(∀h' x,Heap.ExtBut it s.heap h'->(∃o,h'.get? x=some o/\o.cls=.type "StopIteration")->E' (.ref x) {s with heap:=h'})->wpAny (model prog w) A.in1 (Builtin.«enumerate.__next__» ⟨[.ref e],[]⟩) (λ_ _=>False) E' s:=λk=>by
  change wpAny _ A.in1 (field (.ref e) 2 >>= _) _ _ _;show aB (kW he rfl (x:=.ref it) rfl (aB (N.fin A.in1 _ s i _ hh Bj hx k)))
 unfold pyNext;show aB (El (yI (name:=Str.ofString "__next__") ty F.slot_enumerate_next (wD F.slot_enumerate_next ty F.entry_enumerate_next (fK (body λh' x a b=>?_) (λ_ _ z=>z.elim) λ_ _ z=>z) (F.args_enumerate_next_1 _))));let⟨o,a1,a2⟩:=b;show aB (L_ (T:="StopIteration") (b:=true) ⟨o,a1,a2⟩ isSubtype_stop (aJ (q h' a)))
def zfp{P:Program}{w:World}{K:W.Frag}{elts:List Expr}{kk:Nat}{pos:Pos}{kd:Bool}{l e it:Addr}(R0:e≠it)(Yp:l≠it)(hle:l≠e) :
  Turn P w K (.Tuple elts kk pos) (Ite K kd l) [e,it] e (λi h=>(∃old,IsEnum h e it i old)/\Rk kd it l i h) where
 mem:=by simp
 obj:=λi h ⟨⟨old,he⟩,st⟩ b hb=>by
  let:b=e\/b=it:=by simpa using hb
  rcases this with rfl|rfl
  .exact⟨_,he,λv z=>by cases z⟩
  .exact st.obj
 keep:=λi h h' ⟨⟨old,he⟩,st⟩ k=>⟨⟨old,k e RQ _ he⟩,st.keep λo e=>k it RQ o e⟩
 item:=by
  rintro X hP hw hK hc i ao s Z H E I hf ⟨⟨old,he⟩,st⟩ hg;subst hP hw hK;let⟨xs,x,hq,hx⟩:=hg;let⟨its,rv,p⟩:=I.row hq;let⟨u,hu,ru⟩:=rv.get hx;let cj:i<its.toArray.size:=by simpa using (dI.mp hu).1
  show wpAny_pyNext_enum_itemD (BX (A:=X.A.in1) (I.ok.hd hc) kd Yp its.toArray) he ⟨st,p⟩ cj R0 (by simp[R0,hle.symm]) λu' h1 tk hP ho R3 hT hsz hk=>?_;let eu:u'=u:=by
   let:its[i]?=some u':=by simpa using hP
   rw[hu]at this;cases this;rfl
  subst eu;show⟨_,rfl,wpAny_letOwnedTupleGo_enum (s:={s with heap:=h1,toks:=tk+1}) ho λh2 he2 sb=>?_⟩;let RX:h2.get? s.heap.objs.size=some {cls:=.type "tuple",data:=.seq #[.int i tk,u']}:=(sb.2 _ (pL (bK he))).trans hT;let kk:∀b o,b∉[e,it]->s.heap.get? b=some o->h2.get? b=some o:=λb o hb q=>(sb.2 b λz=>hb (by simp[z])).trans (hk b o (λz=>hb (by simp[z])) (λz=>hb (by simp[z])) q);let I2:=I.lW (t':=tk+1) (a:=s.heap.objs.size) (o:=.tup [.int i,x]) kk (λb hb=>hf b hb) (bU _) (show bC X.prog X.w _ h2 _ (.tup [.int i,x]) from ⟨by change 2<=sizeLine;decide,[.int i tk,u'],.cons ⟨_,rfl⟩ (.cons ru .nil),⟨_,RX,rfl,_,rfl⟩⟩);let hn:H s.heap.objs.size=none:=I.hok.fresh (bU _);show⟨.ref s.heap.objs.size,_,I2,rfl,⟨_,x,hn,rfl,rfl,λys hy=>by rw[I.mW hy hq];show hx⟩,⟨⟨_,by simpa using he2⟩,R3.1.keep λo q=>(sb.2 it R0.symm).trans q⟩,λb hb=>?_⟩;let nb:b≠s.heap.objs.size:=by
   let:b=e\/b=it:=by simpa using hb
   rcases this with rfl|rfl
   .exact cR (bK he)
   .obtain⟨o,q,_⟩:=st.obj;show cR (bK q)
  rw[bN nb];show(hf b hb).1
 done:=by
  rintro X hP hw hK hc i ao s Z H E I hf ⟨⟨old,he⟩,st⟩ hg;subst hP hw hK;let⟨xs,hq,hx⟩:=hg;let⟨its,rv,p⟩:=I.row hq;let hl:=rv.length;show zh6 (I.ok.hd hc) (lX.of kd Yp) he ⟨st,p⟩ (by simp;lia) λh' eb=>⟨rfl,I.qP (t':=s.toks) (ch:=[e,it]) (λb o hb q=>eb b o (λz=>hb (by simp[z])) q) λb hb=>hf b hb⟩
 self:=λ_ _ _ _ _ ⟨⟨old,he⟩,_⟩ h=>wpAny_pyIter_enum he h
section
variable {X:Cx}
def Jf(K:W.Frag)(ta:TA):TI:=λZ H R=>ta Z H λvs H1=>∃kd l xs,vs=[.ref l]/\Sk kd K H1 l xs/\R (Ite K kd l) H1
def zgk:bootBuiltins "enumerate"=some (.type "enumerate"):=by decide +kernel
def zjX{a:Expr}{ta:TA}{p pos tpos:Pos}{elts:List Expr}{kk:Nat}(hg:Gl X "enumerate")(hm:X.mg "enumerate"=none)(ha:PA X [a] ta)(hs:starEach [a] X.env=[(false,eval a X.env)]:=by rfl):PI X (.Tuple elts kk tpos) (.Call (.Name "enumerate" p) [a] [] pos) (Jf X.K ta):=by
 intro ao s Z H R I h;show Call_ (vM I hg hm zgk (zZ (aO (ha pos ao s Z H _ I h) λus s1 hz=>?_) hs rfl));let⟨vs,H1,I1,r1,q1⟩:=hz;let⟨kd,l,xs,e,hq,q⟩:=q1;subst e;cases r1 with
 |cons r rr=>
  cases rr;cases r;let⟨its,rv,p⟩:=I1.row hq;let hl:l<s1.heap.objs.size:=p.lt;show callType_new F.called_enumerate J0 (F.typeCall_enumerate_1 _) (F.newCall_enumerate_1 _) (λobj=>F.args_object_init_2 obj _) F.entry_enumerate_new (zhN kd l its.toArray) ⟨p,?_⟩;let n1:(s1.heap.push (gC kd l)).objs.size=s1.heap.objs.size+1:=vD ..;let he:IsEnum ((s1.heap.push (gC kd l)).push {cls:=.type "enumerate",data:=.fields #[.none,.bool false,.ref s1.heap.objs.size,rawInt 0,.none,.none]}) (s1.heap.objs.size+1) s1.heap.objs.size 0 .none:=by
   let:=dU (s1.heap.push (gC kd l)) (o:={cls:=.type "enumerate",data:=.fields #[.none,.bool false,.ref s1.heap.objs.size,rawInt 0,.none,.none]}) rfl;rw[n1]at this;show this
  change _/\_;rw[n1];show⟨⟨_,he,rfl⟩,wpAny_pyIter_enum (s:={s1 with heap:=(s1.heap.push (gC kd l)).push {cls:=.type "enumerate",data:=.fields #[.none,.bool false,.ref s1.heap.objs.size,rawInt 0,.none,.none]}}) he ?_⟩;let rk:Rk kd s1.heap.objs.size l 0 ((s1.heap.push (gC kd l)).push {cls:=.type "enumerate",data:=.fields #[.none,.bool false,.ref s1.heap.objs.size,rawInt 0,.none,.none]}):=by
   cases kd
   .exact⟨_,bW _ (dU _ rfl),rfl,rfl⟩
   .exact⟨_,bW _ (dU _ rfl),rfl,rfl⟩
  show⟨s1.heap.objs.size+1,[s1.heap.objs.size+1,s1.heap.objs.size],_,_,H1,rfl,I1.kept (t':=s1.toks) λb o x=>bW _ (bW _ x),zfp (kd:=kd) (l:=l) (Nat.succ_ne_self _) (cR hl) (cR (tG hl)),⟨⟨_,he⟩,rk⟩,λb hb=>?_,q⟩;let:s1.heap.objs.size<=b:=by
   let:b=s1.heap.objs.size+1\/b=s1.heap.objs.size:=by simpa using hb
   rcases this with rfl|rfl
   .exact wG _
   .exact bU _
  show I1.uo this (I1.hok.fresh this)
end
end L2
set_option genSizeOf false
set_option genInjectivity false
namespace Mi
open PySem
inductive D where
 |non|bl (b:Bool)|int (i:Int)|str (s:Str)|tup (xs:List D)|fl (xs:List D)|fd (ks vs:List D)|exc (c:Nat) (fs:List D)|ob (c:Nat) (fs:List D)|any
inductive Xv where
 |d (x:D)|l (n:Nat)
inductive Kx where
 |non|int (i:Int)|row (is:List Int)
deriving DecidableEq
inductive SO where
 |lst (xs:List D)
 |dct (kvs:List (List Kx×D))
noncomputable abbrev S:=List SO
inductive Rs (α:Type) where
 |ok (a:α)|er (c:Nat) (fs:List D)
noncomputable abbrev M(α:Type):=S->Option (Rs α×S)
def M.ret{α:Type}(a:α):M α:=λs=>some (.ok a,s)
def M.bd{α β:Type}(m:M α)(k:α->M β):M β:=λs=>match m s with
 |some (.ok a,s')=>k a s'|some (.er c f,s')=>some (.er c f,s')|none=>none
def M.qt{α:Type}(m:M α):M α:=λs=>match m s with
 |some (.ok a,s')=>some (.ok a,s')|_=>none
def M.no{α:Type}:M α:=λ_=>none
def M.opt{α:Type}:Option α->M α
 |some a=>M.ret a|none=>M.no
inductive Rz where
 |dat (d:D)|nw (xs:List D)
inductive Pr where
 |add|aq|mul|fdiv|mod|pow|neg
 |eq|ne|lt|le|gt|ge|inn|nin
 |tL|qQ
 |len|abs|max2|min2|Jg|Jh|rY|Fe|rZ|divmod|all|sum|list|tuple|sorted|qR|BZ|str1
 |ix|rev|Yq|Ji|mult|zy
 |count|index|repr
inductive Kd where
 |int|bool|str|tuple|list|dict|cls (c:Nat)|su
mutual
inductive E where
 |c (d:D)
 |v (i:Nat)
 |pr (fz:Bool) (p:Pr) (xs:Es)
 |zA (p q:Pr) (a b c:E)
 |ch3 (p q r:Pr) (a b c d:E)
 |and (a b:E)
 |or (a b:E)
 |not (a:E)
 |ite (c a b:E)
 |tup (xs:Es)
 |lst (fz:Bool) (xs:Es)
 |Jj (k:Str) (i:Int)
 |call (f:Nat) (xs:Es)
 |lF (a:E) (k:Kd)
 |sl (fz:Bool) (a:E) (lo hi:Eo)
 |meth (fz:Bool) (p:Pr) (k:Kd) (o:E) (xs:Es)
 |push (o a:E)
 |pop (o:E)
 |comp (fz:Bool) (elt:E) (tg:List Nat) (it:Wk) (fr:List Nat) (many:Nat) (cond:Eo)
 |oE (fz:Bool) (elt:E) (tg:List Nat) (it:Wk) (Yr:List Nat) (Je:Wk) (fr:List Nat) (many:Nat) (cond:Eo)
 |fld (o:E) (cs:List Nat) (i:Nat)
 |of (o:E) (c i:Nat)
 |mk (c f:Nat) (xs:Es)
 |cm (c f:Nat) (o:E) (xs:Es)
 |sy
 |B_ (b:Bool) (k d:E)
 |p7 (d k:E)
 |Fg (a:E)
 |qT (fz:Bool) (a:E) (b:E)
 |orv (a b:E)
 |ins (o i a:E)
 |no
inductive Wk where
 |seq (e:E)
 |rg (a b:E)
 |zip (a b:E)
 |enum (a:E)
 |rrg (a:E)
inductive Es where
 |nil
 |cons (a:E) (r:Es)
inductive Eo where
 |no
 |yes (a:E)
end
noncomputable abbrev Ea(a:E):Es:=.cons a .nil
noncomputable abbrev Eb(a b:E):Es:=.cons a (.cons b .nil)
noncomputable abbrev Ec(a b c:E):Es:=.cons a (.cons b (.cons c .nil))
noncomputable abbrev Ei(a b:E):E:=.pr true .ix (.cons a (.cons b .nil))
noncomputable abbrev Ci(i:Int):E:=.c (.int i)
def Es.len:Es->Nat
 |.nil=>0|.cons _ r=>r.len+1
inductive Tg where
 |nm (i:Nat)
 |tp (is:List Nat)
 |aq (o i:E)
mutual
inductive St where
 |pass
 |ex (e:E)
 |asg (t:Tg) (e:E)
 |par (i j:Nat) (a b:E)
 |aug (i:Nat) (e:E)
 |ret (e:E)
 |rise (c:Nat) (kp:Bool) (xs:Es)
 |iff (c:E) (t e:bL)
 |wh (c:E) (b:bL)
 |fr (t:Tg) (w:Wk) (b:bL)
 |R4 (b:bL) (d:Nat) (i:Nat) (h:bL)
 |dput (d k v:E)
 |no
inductive bL where
 |nil
 |cons (a:St) (r:bL)
end
def b_(eq:D->D->Option Bool):List D->List D->Option Bool
 |[],[]=>some true|[],_::_=>some false|_::_,[]=>some false|x::xs,y::ys=>match eq x y,b_ eq xs ys with
  |some a,some b=>some (a&&b)|_,_=>none
def kq:D->Option Nat
 |.non=>some 0|.bl _=>some 1|.int _=>some 1|.str _=>some 2|.tup _=>some 3|.fl _=>some 4|_=>none
def bQ:Nat->D->D->Option Bool
 |n+1,.tup xs,.tup ys=>b_ (bQ n) xs ys|n+1,.fl xs,.fl ys=>b_ (bQ n) xs ys|_,.non,.non=>some true|_,.bl a,.bl b=>some (a==b)|_,.int a,.int b=>some (a==b)|_,.str a,.str b=>some (a==b)|_,.bl a,.int b=>some ((if a then 1 else 0)==b)|_,.int a,.bl b=>some (a==(if b then 1 else 0))|_,a,b=>match kq a,kq b with
  |some i,some j=>if i=j then none else some false|_,_=>none
def cB:List D->Option (List Int)
 |[]=>some []|.int i::r=>(cB r).map (i::·)|_=>none
def ltI:List Int->List Int->Bool
 |_,[]=>false|[],_::_=>true|x::xs,y::ys=>if x=y then ltI xs ys else decide (x<y)
def eU:List D->Option (List Bool)
 |[]=>some []|.bl b::r=>(eU r).map (b::·)|_=>none
def cut{α:Type}(xs:List α)(lo hi:Option Int):List α:=(xs.drop (HT.bT xs.length 0 lo)).take (HT.bT xs.length xs.length hi-HT.bT xs.length 0 lo)
def mX:D->Option (List D)
 |.tup xs=>some xs|.fl xs=>some xs|_=>none
def cutD(x:D)(lo hi:Option Int):Option Rz:=match x with
 |.tup xs=>some (.dat (.tup (cut xs lo hi)))|.fl xs=>some (.nw (cut xs lo hi))|_=>none
def memD(d:D):List D->Option Bool
 |[]=>some false|x::r=>match bQ 50 x d,memD d r with
  |some a,some b=>some (a||b)|_,_=>none
def Jk(d:D):List D->Nat
 |[]=>0|x::r=>Jk d r+(if bQ 50 x d=some true then 1 else 0)
def Ca:Kd->D->Bool
 |.list,.fl _=>true|.str,.str _=>true|.dict,.fd _ _=>true|_,_=>false
def cV(f:Int->Int->Option D):List D->Option Rz
 |[.int i,.int j]=>(f i j).map .dat|_=>none
def qU(f:Int->D):List D->Option Rz
 |[.int i]=>some (.dat (f i))|_=>none
def sE(f:List D->Option Rz):List D->Option Rz
 |[a]=>(mX a).bind f|_=>none
def Cd:List D->Option Rz
 |[.int i,.int j]=>some (.dat (.int (i+j)))|[.tup xs,.tup ys]=>if xs.length+ys.length<=sizeLine then some (.dat (.tup (xs++ys))) else none|[.fl xs,.fl ys]=>if xs.length+ys.length<=sizeLine then some (.nw (xs++ys)) else none|[.str x,.str y]=>if x.length+y.length<=sizeLine then some (.dat (.str (x++y))) else none|_=>none
def Jl:List D->Option Rz
 |[.int i,.int j]=>some (.dat (.bl (decide (i<j))))|[.tup xs,.tup ys]=>match cB xs,cB ys with
  |some a,some b=>some (.dat (.bl (ltI a b)))|_,_=>none
 |_=>none
def xO(f:Bool->Bool):List D->Option Rz
 |[a,b]=>(bQ 50 a b).map λk=>.dat (.bl (f k))|_=>none
def vQ(f:Bool->Bool):List D->Option Rz
 |[a,b]=>((mX b).bind (memD a)).map λk=>.dat (.bl (f k))|_=>none
def D.uJ:D->Bool
 |.non=>true|_=>false
def Ce(f:Bool->Bool):List D->Option Rz
 |[a]=>some (.dat (.bl (f a.uJ)))|_=>none
def Jm:List D->Option Rz
 |[.int i]=>some (.dat (.int i))|[.bl k]=>some (.dat (.int (if k then 1 else 0)))|_=>none
def Cg:List D->Option Rz
 |[.fl xs]=>(eU xs).map λbs=>.dat (.bl (bs.all id))|_=>none
def mY:List D->Option (List Int)
 |[]=>some []|.int i::r=>(mY r).map (i::·)|_=>none
def best(bt:Int->Int->Bool)(i:Int)(is:List Int):Int:=is.foldl (λm j=>if bt j m then j else m) i
def Jo(bt:Int->Int->Bool):Option (List Int)->Option Rz
 |some (i::is)=>some (.dat (.int (best bt i is)))|_=>none
def zB(bt:Int->Int->Bool):List D->Option Rz
 |[a]=>(mX a).bind λxs=>Jo bt (mY xs)|_=>none
def okR(i j:Int):Bool:=decide (-(2^62)<=i/\i<2^62/\-(2^62)<=j/\j<2^62/\(j-i).toNat<=65536)
def Jp(i:Int)(n:Nat):List D:=(List.range n).map λk=>.int (i+(k:Nat))
def R5:List D->Option Rz
 |[.int j]=>if okR 0 j then some (.nw (Jp 0 (j-0).toNat)) else none|[.int i,.int j]=>if okR i j then some (.nw (Jp i (j-i).toNat)) else none|_=>none
def Cj:List D->Option Rz
 |[.int j]=>if okR 0 j then some (.dat (.tup (Jp 0 (j-0).toNat))) else none|_=>none
def p8:List D->Option Rz
 |[a]=>(mX a).map λxs=>.dat (.tup xs)|_=>none
def R6:List D->Option Rz
 |[a,.int i]=>((mX a).bind λxs=>L2.n8 xs i).map .dat|_=>none
def oF:List D->List D->Option Bool
 |[],ys=>some (decide (0<ys.length))|_::_,[]=>some false|.int x::xs,.int y::ys=>if x=y then oF xs ys else some (decide (x<y))|_::_,_::_=>none
def vR(xs:List D)(i j:Nat):Option Bool:=match xs[i]?,xs[j]? with
 |some (.int x),some (.int y)=>some (decide (x<y))|some (.tup us),some (.tup ws)=>oF us ws|_,_=>none
def fU(b:List Int):List (List Int)->List Int
 |[]=>b|x::r=>fU (if ltI x b=true then x else b) r
def jX:List D->Option (List (List Int))
 |[]=>some []|.tup xs::r=>match cB xs,jX r with
  |some a,some b=>some (a::b)|_,_=>none
 |_=>none
def oG:List D->Option Rz
 |[.fl xs]=>match jX xs with
  |some (x::r)=>some (.dat (.tup ((fU x r).map .int)))|_=>none
 |_=>none
def iY:D->Bool
 |.int _=>true|_=>false
def gR:D->Bool
 |.tup (.int _::_)=>true|_=>false
def jg(lt:Nat->Nat->Option Bool)(xs:List D):Option (List D):=if xs.length<2 then some xs else if xs.length<64 then (match L2.bf lt (PySem.W.kas_sort xs.length) with
  |some p=>if p.size=xs.length then some (p.toList.map λi=>xs.getD i .non) else none|none=>none) else none
def vU(xs:List D):Option (List D):=if xs.all iY||xs.all gR then jg (vR xs) xs else none
def mZ:List D->Option Rz
 |[.fl xs]=>(vU xs).map .nw|_=>none
def zE(ks:List Int)(i j:Nat):Option Bool:=match ks[i]?,ks[j]? with
 |some x,some y=>some (decide (x<y))|_,_=>none
def Cm:List D->Option Rz
 |[.tup xs]=>some (.dat (.tup xs.reverse))|_=>none
def Cp:List D->Option Rz
 |[.fl xs,d]=>(memD d xs).map λ_=>.dat (.int (Jk d xs:Nat))|_=>none
def Cq:List D->Option Rz
 |[.fl xs,.bl b]=>((eU xs).bind λbs=>bs.idxOf? b).map λ(i:Nat)=>.dat (.int i)|_=>none
def R7:List D->Option Rz
 |[.int i]=>if i.natAbs<2^62 then some (.dat (.str (Str.ofString (toString i)))) else none|_=>none
def R8(f:D->Option PyData):List D->Option (List PyData)
 |[]=>some []|x::r=>match f x,R8 f r with
  |some a,some b=>some (a::b)|_,_=>none
def pd:Nat->D->Option PyData
 |n+1,.tup xs=>(R8 (pd n) xs).map .tuple|n+1,.fl xs=>(R8 (pd n) xs).map .list|_,.non=>some .none|_,.bl b=>some (.bool b)|_,.int i=>some (.int i)|_,.str x=>some (.str x)|_,_=>none
def pdT:D->Option PyData
 |.fd [.str k] [.int i]=>some (.dict [(.str k,.int i)])|x=>pd 40 x
def shw(d:PyData):Option Rz:=if d.showable=true/\d.shown.length<=sizeLine then some (.dat (.str d.shown)) else none
def Jq:List D->Option Rz
 |[x]=>(pdT x).bind shw|_=>none
def zF:List (Int×Int):=[(0,1),(0,2),(0,3),(0,4),(0,5),(0,6),(0,7),(1,2),(1,3),(1,4),(1,5),(1,6),(1,7),(2,3),(2,4),(2,5),(2,6),(2,7),(3,4),(3,5),(3,6),(3,7),(4,5),(4,6),(4,7),(5,6),(5,7),(6,7)]
def ss(ts:List (Int×Int)):List (Int×Int):=zF.filter λt=>ts.contains t
def R9:D->Option (Int×Int)
 |.tup [.int a,.int b]=>if 0<=a/\a<b/\b<8 then some (a,b) else none|_=>none
def zG:List D->Option (List (Int×Int))
 |[]=>some []|x::r=>match R9 x,zG r with
  |some a,some b=>some (a::b)|_,_=>none
def pSs:List D->Option Rz
 |[.tup xs]=>(zG xs).map λts=>.nw ((ss ts).map λp=>.tup [.int p.1,.int p.2])|_=>none
def Jr(is:List Int):Bool:=decide (is.length<=1000)&&is.all λi=>decide (-1000000<=i/\i<=1000000)
def R_(is:List Int):Option Rz:=match Jr is with
 |true=>some (.dat (.int is.sum))|false=>none
def Sd:List D->Option Rz
 |[a]=>(mX a).bind λxs=>(mY xs).bind R_|_=>none
def m6:List Int->List Int
 |[]=>[]|x::r=>if r.contains x then m6 r else x::m6 r
def Js:List D->Option Rz
 |[.tup xs]=>(mY xs).map λis=>.dat (.int (m6 is).length)|_=>none
def rep{α:Type}(xs:List α)(n:Nat):List α:=(List.replicate n xs).flatten
def Jt:List D->Option Rz
 |[.fl xs,.int n]=>if 0<=n/\n<=1000/\xs.length<=1000 then some (.nw (rep xs n.toNat)) else none|_=>none
def Cr:List D->Option Rz
 |[.tup xs]=>if xs.all iY=true then (vU xs).map .nw else none|_=>none
def Ju:List D->Option Rz
 |[.tup xs,.int n]=>if 1<=n/\n<=1000/\1<=xs.length/\xs.length<=1000 then some (.dat (.tup (rep xs n.toNat))) else none|_=>none
def xP:D->Option Bool
 |.non=>some false|.bl b=>some b|.int i=>some (i != 0)|.tup xs=>some (!xs.isEmpty)|.fl xs=>some (!xs.isEmpty)|_=>none
def prim:Pr->List D->Option Rz
 |.add=>Cd|.aq=>cV λi j=>some (.int (i-j))|.mul=>cV λi j=>if (-(2^64)<i/\i<2^64)\/(-(2^64)<j/\j<2^64) then some (.int (i*j)) else none|.fdiv=>cV λi j=>if 0<j/\j<1073741824 then some (.int (i/j)) else none|.mod=>cV λi j=>if 0<j then some (.int (i%j)) else none|.pow=>cV λi j=>if 0<=j/\j<=1000000/\i.natAbs<2^64 then some (.int (i^j.toNat)) else none|.neg=>qU λi=>.int (-i)|.eq=>xO id|.ne=>xO not|.lt=>Jl|.le=>cV λi j=>some (.bl (decide (i<=j)))|.gt=>cV λi j=>some (.bl (decide (j<i)))|.ge=>cV λi j=>some (.bl (decide (j<=i)))|.inn=>vQ id|.nin=>vQ not|.tL=>Ce id|.qQ=>Ce not|.len=>sE λxs=>some (.dat (.int xs.length))|.abs=>qU λi=>.int (if i<0 then -i else i)|.max2=>cV λi j=>some (.int (if j>i then j else i))|.min2=>cV λi j=>some (.int (if j<i then j else i))|.rZ=>Jm|.divmod=>cV λi j=>if 0<j/\j<1073741824 then some (.tup [.int (i/j),.int (i%j)]) else none|.all=>Cg|.Yq=>R5|.Jg=>zB λa b=>decide (a>b)|.Jh=>zB λa b=>decide (a<b)|.rY=>oG|.Fe=>Cj|.list=>sE λxs=>some (.nw xs)|.tuple=>p8|.ix=>R6|.rev=>Cm|.sorted=>mZ|.qR=>pSs|.Ji=>Jt|.mult=>Ju|.zy=>Cr|.sum=>Sd|.BZ=>Js|.count=>Cp|.index=>Cq|.repr=>Jq|.str1=>R7
def lY(aq:Nat->Nat->Bool):D->Kd->Option Bool
 |.exc c _,.cls e=>some (aq c e)|.exc _ _,.su=>some true|.exc _ _,_=>none|.ob _ _,_=>none|.any,_=>none|_,.cls _=>none|_,.su=>none|.bl _,.bool=>some true|.bl _,.int=>some true|.bl _,_=>some false|.int _,.int=>some true|.int _,_=>some false|.non,_=>some false|.str _,.str=>some true|.str _,_=>some false|.tup _,.tuple=>some true|.tup _,_=>some false|.fl _,.list=>some true|.fl _,_=>some false|.fd _ _,.dict=>some true|.fd _ _,_=>some false
def rd(x:Xv):M D:=λs=>match x with
 |.d v=>some (.ok v,s)|.l n=>match s[n]? with
  |some (.lst xs)=>some (.ok (.fl xs),s)|_=>none
def gJ:List Xv->M (List D)
 |[]=>M.ret []|x::r=>M.bd (rd x) λd=>M.bd (gJ r) λds=>M.ret (d::ds)
def dat(x:Xv):M D:=match x with
 |.d v=>M.ret v|.l _=>M.no
def cC:List Xv->M (List D)
 |[]=>M.ret []|x::r=>M.bd (dat x) λd=>M.bd (cC r) λds=>M.ret (d::ds)
def bool(x:Xv):M Bool:=match x with
 |.d (.bl b)=>M.ret b|_=>M.no
def int(x:Xv):M Int:=match x with
 |.d (.int b)=>M.ret b|_=>M.no
def newL(fz:Bool)(xs:List D):M Xv:=match fz with
 |true=>M.ret (.d (.fl xs))|false=>λs=>some (.ok (.l s.length),s++[.lst xs])
def cg(fz:Bool)(o:Option Rz):M Xv:=match o with
 |some (.dat d)=>M.ret (.d d)|some (.nw xs)=>newL fz xs|none=>M.no
def cL(x:Xv):M (Nat×List D):=λs=>match x with
 |.l n=>match s[n]? with
  |some (.lst xs)=>some (.ok (n,xs),s)|_=>none
 |_=>none
def putL(n:Nat)(xs:List D):M Unit:=λs=>some (.ok (),s.set n (.lst xs))
def uK:D->Option Kx
 |.non=>some .non|.int i=>some (.int i)|.tup xs=>(cB xs).map .row|_=>none
def Cu:List D->Option (List Kx)
 |[]=>some []|x::r=>match uK x,Cu r with
  |some a,some b=>some (a::b)|_,_=>none
def kOf:D->Option (List Kx)
 |.tup xs=>Cu xs|_=>none
noncomputable abbrev iJ:=List (List Kx×D)
def bY(k:List Kx):iJ->Option D
 |[]=>none|p::r=>if p.1=k then some p.2 else bY k r
def jB(k:List Kx)(d:D)(r:iJ):iJ:=if (bY k r).isSome=true then r.map λp=>if p.1=k then (p.1,d) else p else r++[(k,d)]
def fV(x:Xv):M (Nat×iJ):=λs=>match x with
 |.l n=>match s[n]? with
  |some (.dct kvs)=>some (.ok (n,kvs),s)|_=>none
 |_=>none
def putD(n:Nat)(kvs:iJ):M Unit:=λs=>some (.ok (),s.set n (.dct kvs))
def key(x:Xv):M (List Kx):=match x with
 |.d v=>M.opt (kOf v)|.l _=>M.no
def enumFrom:Nat->List D->List D
 |_,[]=>[]|i,x::r=>.tup [.int i,x]::enumFrom (i+1) r
inductive Src where
 |fix (xs:List D)|live (n:Nat)|lZ (n:Nat)
def Src.at(c:Src)(i:Nat)(s:S):Option (Option D):=match c with
 |.fix xs=>some xs[i]?|.live n=>match s[n]? with
  |some (.lst xs)=>some xs[i]?|_=>none
 |.lZ n=>match s[n]? with
  |some (.lst xs)=>some (xs[i]?.map λx=>.tup [.int i,x])|_=>none
def oH(x:Xv):M (Src×Nat):=λs=>match x with
 |.d (.tup xs)=>some (.ok (.fix (enumFrom 0 xs),(enumFrom 0 xs).length),s)|.d (.fl xs)=>some (.ok (.fix (enumFrom 0 xs),(enumFrom 0 xs).length),s)|.l n=>match s[n]? with
  |some (.lst xs)=>some (.ok (.lZ n,xs.length),s)|_=>none
 |_=>none
def src(x:Xv):M (Src×Nat):=λs=>match x with
 |.d (.tup xs)=>some (.ok (.fix xs,xs.length),s)|.d (.fl xs)=>some (.ok (.fix xs,xs.length),s)|.l n=>match s[n]? with
  |some (.lst xs)=>some (.ok (.live n,xs.length),s)|_=>none
 |_=>none
def qb(x:Xv):M (List D):=match x with
 |.d (.tup xs)=>M.ret xs|.d (.fl xs)=>M.ret xs|_=>M.no
def jC(a b:Int):List D:=(List.range (b-a).toNat).map λ(i:Nat)=>.int (a+i)
def fW(a:Int):Bool:=decide (-(2^62)<a)&&decide (a<2^62)
def walk(c:Src)(f:D->List D->M (List D)):Nat->Nat->List D->M (List D)
 |0,_,_=>M.no|k+1,i,acc=>λs=>match c.at i s with
  |none=>none|some none=>some (.ok acc,s)|some (some x)=>M.bd (f x acc) (λacc'=>walk c f k (i+1) acc') s
def jY(f:D->M Xv):List D->Option (List Int)
 |[]=>some []|x::r=>match f x [] with
  |some (.ok (.d (.int k)),[])=>(jY f r).map (k::·)|_=>none
noncomputable abbrev Vs:=List (Option Xv)
noncomputable abbrev Fn:=Nat->List Xv->M Xv
def locs:List Xv->List Nat
 |[]=>[]|.d _::r=>locs r|.l n::r=>n::locs r
def dD:Nat->List Xv->List Xv
 |_,[]=>[]|k,.d v::r=>.d v::dD k r|k,.l _::r=>.l k::dD (k+1) r
def jD(s:S):List Nat->Option S
 |[]=>some []|n::r=>match s[n]?,jD s r with
  |some o,some q=>some (o::q)|_,_=>none
def cW(s:S):List Nat->S->S
 |n::r,o::q=>cW (s.set n o) r q|_,_=>s
def cH(F:List Xv->M Xv)(xs:List Xv):M Xv:=λs=>
 if (locs xs).Nodup then match jD s (locs xs) with
  |none=>none|some s0=>match F (dD 0 xs) s0 with
   |none=>none|some (.er c fs,s1)=>some (.er c fs,cW s (locs xs) s1)|some (.ok (.d v),s1)=>some (.ok (.d v),cW s (locs xs) s1)|some (.ok (.l n),s1)=>match (locs xs)[n]? with
    |some m=>some (.ok (.l m),cW s (locs xs) s1)|none=>match s1[n]? with
     |some o=>some (.ok (.l s.length),cW s (locs xs) s1++[o])|none=>none
 else none
def Sg(F:List Xv->M Xv)(c:Nat)(vs:List Xv):M Xv:=λs=>
 if locs vs=[] then match F (.d .any::vs) [] with
  |some (.ok (.d (.tup ds)),_)=>some (.ok (.d (.ob c ds)),s)|_=>none
 else none
def sG(c:Nat)(x:Xv):M (List D):=match x with
 |.d (.ob e fs)=>if e=c then M.ret fs else M.no|_=>M.no
def fX{α:Type}:List Nat->List α->List (Option α)->Option (List (Option α))
 |[],[],J=>some J|i::is,d::ds,J=>fX is ds (J.set i (some d))|_,_,_=>none
def jZ:D->Option (List D)
 |.tup xs=>some xs|_=>none
def dN(tg:List Nat)(x:D)(J:Vs):Option Vs:=match tg with
 |[i]=>some (J.set i (some (.d x)))|is=>(jZ x).bind λds=>fX is (ds.map .d) J
def blk(many:Nat)(fr:List Nat)(J:Vs):Vs:=List.replicate many none++fr.map λj=>J[j]?.join
section
variable (aq:Nat->Nat->Bool)(aj:Bool)(F:Fn)
mutual
noncomputable def ev:E->Vs->M Xv
 |.c d,_=>M.ret (.d d)|.v i,J=>M.opt (J[i]?.join)|.pr fz p xs,J=>M.bd (evs xs J) λvs=>M.bd (gJ vs) λds=>cg fz (prim p ds)|.zA p q a b c,J=>M.bd (ev a J) λx=>M.bd (ev b J) λy=>M.bd (gJ [x,y]) λds=>M.bd (cg true (prim p ds)) λt=>M.bd (bool t) λk=>
   if k=true then M.bd (ev c J) λz=>M.bd (gJ [y,z]) λds=>cg true (prim q ds) else M.ret (.d (.bl false))
 |.ch3 p q r a b c d,J=>M.bd (ev a J) λx=>M.bd (ev b J) λy=>M.bd (gJ [x,y]) λds=>M.bd (cg true (prim p ds)) λt=>M.bd (bool t) λk=>
   if k=true then M.bd (ev c J) λz=>M.bd (gJ [y,z]) λds=>M.bd (cg true (prim q ds)) λt=>M.bd (bool t) λk2=>
    if k2=true then M.bd (ev d J) λw=>M.bd (gJ [z,w]) λds=>cg true (prim r ds) else M.ret (.d (.bl false))
   else M.ret (.d (.bl false))
 |.and a b,J=>M.bd (ev a J) λx=>M.bd (bool x) λk=>if k=true then ev b J else M.ret (.d (.bl false))|.or a b,J=>M.bd (ev a J) λx=>M.bd (bool x) λk=>if k=true then M.ret (.d (.bl true)) else ev b J|.not a,J=>M.bd (ev a J) λx=>M.bd (bool x) λk=>M.ret (.d (.bl (!k)))|.ite c a b,J=>M.bd (ev c J) λx=>M.bd (bool x) λk=>if k=true then ev a J else ev b J|.tup xs,J=>M.bd (evs xs J) λvs=>M.bd (cC vs) λds=>M.ret (.d (.tup ds))|.lst fz xs,J=>M.bd (evs xs J) λvs=>M.bd (cC vs) λds=>newL fz ds|.Jj k i,_=>M.ret (.d (.fd [.str k] [.int i]))|.call f xs,J=>M.bd (evs xs J) λvs=>cH (F f) vs|.lF a k,J=>M.bd (ev a J) λx=>M.bd (rd x) λd=>M.bd (M.opt (lY aq d k)) λb=>M.ret (.d (.bl b))|.sl fz a lo hi,J=>M.bd (ev a J) λx=>M.bd (xQ lo J) λl=>M.bd (xQ hi J) λh=>M.bd (rd x) λd=>cg fz (cutD d l h)|.meth fz p k o xs,J=>M.bd (ev o J) λx=>M.bd (rd x) λd=>if Ca k d=true then M.bd (evs xs J) λys=>M.bd (gJ (x::ys)) λds=>cg fz (prim p ds) else M.no|.push o a,J=>M.bd (ev o J) λx=>M.bd (cL x) λ_=>M.bd (ev a J) λy=>M.bd (dat y) λd=>M.bd (cL x) λnx=>if nx.2.length<sizeLine then M.bd (putL nx.1 (nx.2++[d])) λ_=>M.ret (.d .non) else M.no|.pop o,J=>M.bd (ev o J) λx=>M.bd (cL x) λnx=>match nx.2.getLast? with
   |some d=>M.bd (putL nx.1 nx.2.dropLast) λ_=>M.ret (.d d)|none=>M.no
 |.comp fz elt tg it fr many cond,J=>if aj=true then M.bd (iZ it J) λcn=>
   M.bd (walk cn.1 (λd acc=>M.bd (M.opt (dN tg d (blk many fr J))) λJ'=>M.bd (M.qt (oJ cond J')) λok=>
    if ok=true then M.bd (M.qt (ev elt J')) λy=>M.bd (dat y) λe=>if acc.length<sizeLine then M.ret (acc++[e]) else M.no else M.ret acc) (cn.2+1) 0 []) λxs=>newL fz xs
  else M.no
 |.oE fz elt tg it Yr Je fr many cond,J=>if aj=true then M.bd (iZ it J) λcn=>
   M.bd (walk cn.1 (λd acc=>M.bd (M.opt (dN tg d (blk many fr J))) λJ'=>M.bd (M.qt (iZ Je J')) λqd=>
    walk qd.1 (λd2 acc=>M.bd (M.opt (dN Yr d2 J')) λYs=>M.bd (M.qt (oJ cond Ys)) λok=>
     if ok=true then M.bd (M.qt (ev elt Ys)) λy=>M.bd (dat y) λe=>if acc.length<sizeLine then M.ret (acc++[e]) else M.no else M.ret acc) (qd.2+1) 0 acc) (cn.2+1) 0 []) λxs=>newL fz xs
  else M.no
 |.fld o cs i,J=>M.bd (ev o J) λx=>match x with
   |.d (.exc c fs)=>if cs.contains c=true then M.opt (fs[i]?.map .d) else M.no|_=>M.no
 |.of o c i,J=>M.bd (ev o J) λx=>M.bd (sG c x) λfs=>M.opt (fs[i]?.map .d)|.mk c f xs,J=>M.bd (evs xs J) λvs=>Sg (F f) c vs|.cm c f o xs,J=>M.bd (ev o J) λx=>M.bd (sG c x) λ_=>M.bd (evs xs J) λvs=>M.qt (cH (F f) (x::vs))|.sy,_=>λs=>some (.ok (.l s.length),s++[.dct []])|.B_ b k d,J=>M.bd (ev k J) λx=>M.bd (ev d J) λy=>M.bd (key x) λkx=>M.bd (fV y) λnk=>M.ret (.d (.bl ((bY kx nk.2).isSome==b)))|.p7 d k,J=>M.bd (ev d J) λy=>M.bd (ev k J) λx=>M.bd (key x) λkx=>M.bd (fV y) λnk=>M.opt ((bY kx nk.2).map .d)|.Fg a,J=>M.bd (ev a J) λx=>M.bd (rd x) λd=>M.bd (M.opt (xP d)) λk=>M.ret (.d (.bl k))|.qT fz a b,J=>if aj=true then M.bd (ev a J) λx=>match x with
   |.d (.fl xs)=>M.bd (M.opt (jY (λd=>ev b [some (.d d)]) xs)) λks=>M.bd (M.opt (jg (zE ks) xs)) λys=>newL fz ys|_=>M.no else M.no
 |.orv a b,J=>M.bd (ev a J) λx=>M.bd (rd x) λd=>M.bd (M.opt (xP d)) λk=>if k=true then M.ret x else ev b J|.ins o i a,J=>M.bd (ev o J) λx=>M.bd (cL x) λ_=>M.bd (ev i J) λz=>M.bd (int z) λj=>M.bd (ev a J) λy=>M.bd (dat y) λd=>M.bd (cL x) λnx=>if 0<=j/\j<=nx.2.length/\nx.2.length<sizeLine then M.bd (putL nx.1 (nx.2.take j.toNat++d::nx.2.drop j.toNat)) λ_=>M.ret (.d .non) else M.no|.no,_=>M.no
noncomputable def iZ:Wk->Vs->M (Src×Nat)
 |.seq e,J=>M.bd (ev e J) src|.rg a b,J=>M.bd (ev a J) λx=>M.bd (ev b J) λy=>M.bd (int x) λi=>M.bd (int y) λj=>if fW i&&fW j then M.ret (.fix (jC i j),(jC i j).length) else M.no|.zip a b,J=>M.bd (ev a J) λx=>M.bd (ev b J) λy=>M.bd (qb x) λxs=>M.bd (qb y) λys=>M.ret (.fix (List.zipWith (λp q=>.tup [p,q]) xs ys),(List.zipWith (λ(p q:D)=>D.tup [p,q]) xs ys).length)|.enum a,J=>M.bd (ev a J) oH|.rrg a,J=>M.bd (ev a J) λx=>M.bd (int x) λi=>if fW i then M.ret (.fix (jC 0 i).reverse,(jC 0 i).length) else M.no
noncomputable def xQ:Eo->Vs->M (Option Int)
 |.no,_=>M.ret none|.yes a,J=>M.bd (ev a J) λx=>M.bd (int x) λi=>M.ret (some i)
noncomputable def oJ:Eo->Vs->M Bool
 |.no,_=>M.ret true|.yes a,J=>M.bd (ev a J) bool
noncomputable def evs:Es->Vs->M (List Xv)
 |.nil,_=>M.ret []|.cons a r,J=>M.bd (ev a J) λx=>M.bd (evs r J) λxs=>M.ret (x::xs)
end
end
inductive Out where
 |nx (J:Vs)|rt (x:Xv)|bk (J:Vs)|ct (J:Vs)|er (c:Nat) (fs:List D) (J:Vs)
noncomputable abbrev MS:=S->Option (Out×S)
def ofM{α:Type}(m:M α)(J:Vs)(k:α->MS):MS:=λs=>match m s with
 |some (.ok a,s')=>k a s'|some (.er c fs,s')=>some (.er c fs J,s')|none=>none
def cI(m:MS)(k:Vs->MS):MS:=λs=>match m s with
 |some (.nx J,s')=>k J s'|r=>r
section
variable (aq:Nat->Nat->Bool)
def store(aj:Bool)(F:Fn)(t:Tg)(x:Xv)(J:Vs):MS:=match t with
 |.nm i=>λs=>some (.nx (J.set i (some x)),s)|.tp is=>if aj=true then ofM (M.bd (dat x) λd=>M.opt ((jZ d).bind λds=>fX is (ds.map .d) J)) J (λJ' s=>some (.nx J',s)) else λ_=>none|.aq o i=>ofM (M.bd (dat x) λd=>M.bd (ev aq aj F o J) λy=>M.bd (ev aq aj F i J) λz=>M.bd (int z) λj=>M.bd (cL y) λnx=>
   match L2.pD nx.2.length j with
   |some q=>putL nx.1 (nx.2.set q d)|none=>M.no) J (λ_ s=>some (.nx J,s))
def gU(c:Vs->M Bool)(b:Vs->MS):Nat->Vs->MS
 |0,_=>λ_=>none|k+1,J=>ofM (c J) J λok=>if ok=true then λs=>match b J s with
   |some (.nx J',s')=>gU c b k J' s'|some (.ct J',s')=>gU c b k J' s'|some (.bk J',s')=>some (.nx J',s')|r=>r
  else λs=>some (.nx J,s)
def dH(c:Src)(b:D->Vs->MS):Nat->Nat->Vs->MS
 |0,_,_=>λ_=>none|k+1,i,J=>λs=>match c.at i s with
  |none=>none|some none=>some (.nx J,s)|some (some d)=>match b d J s with
   |some (.nx J',s')=>dH c b k (i+1) J' s'|some (.ct J',s')=>dH c b k (i+1) J' s'|some (.bk J',s')=>some (.nx J',s')|r=>r
def goes(i:Nat):Out->Out
 |.nx J=>.nx (J.set i none)|.bk J=>.bk (J.set i none)|.ct J=>.ct (J.set i none)|r=>r
def jh:Nat:=1000000000000
mutual
noncomputable def ex(aj:Bool)(F:Bool->Fn):St->Vs->MS
 |.pass,J=>λs=>some (.nx J,s)|.ex e,J=>ofM (ev aq aj (F aj) e J) J λ_ s=>some (.nx J,s)|.asg t e,J=>ofM (ev aq aj (F aj) e J) J λx=>store aq aj (F aj) t x J|.par i j a b,J=>if aj=true then ofM (M.bd (ev aq aj (F aj) a J) λx=>M.bd (ev aq aj (F aj) b J) λy=>M.ret (x,y)) J λxy s=>some (.nx ((J.set i (some xy.1)).set j (some xy.2)),s) else λ_=>none|.aug i e,J=>ofM (M.bd (M.opt (J[i]?.join)) λx=>M.bd (ev aq aj (F aj) e J) λy=>M.bd (int x) λp=>M.bd (int y) λq=>M.ret (p+q)) J λr s=>some (.nx (J.set i (some (.d (.int r)))),s)|.ret e,J=>ofM (ev aq aj (F aj) e J) J λx s=>some (.rt x,s)|.rise c kp xs,J=>if aj=true then ofM (M.bd (evs aq aj (F aj) xs J) cC) J λds s=>some (.er c (if kp=true then ds else []) J,s) else λ_=>none|.iff c t e,J=>ofM (M.bd (ev aq aj (F aj) c J) bool) J λb=>if b=true then exs aj F t J else exs aj F e J|.wh c b,J=>gU (λJ=>M.bd (ev aq aj (F aj) c J) bool) (λJ=>exs aj F b J) jh J|.fr t w b,J=>if aj=true then ofM (iZ aq aj (F aj) w J) J λcn=>dH cn.1 (λd J=>cI (store aq aj (F aj) t (.d d) J) λJ'=>exs aj F b J') (cn.2+1) 0 J else λ_=>none|.R4 b d i h,J=>if aj=true then λs=>match exs aj F b J s with
   |some (.er c fs J',s')=>if aq c d=true then (match exs false F h (J'.set i (some (.d (.exc c fs)))) s' with
    |some (r,s'')=>(match r with
     |.er _ _ _=>none|r=>some (goes i r,s''))
    |none=>none) else none
   |r=>r
  else λ_=>none
 |.dput d k v,J=>ofM (M.bd (ev aq aj (F aj) v J) λz=>M.bd (dat z) λw=>M.bd (ev aq aj (F aj) d J) λy=>M.bd (ev aq aj (F aj) k J) λx=>M.bd (key x) λkx=>M.bd (fV y) λnk=>if nk.2.length<sizeLine then putD nk.1 (jB kx w nk.2) else M.no) J (λ_ s=>some (.nx J,s))|.no,_=>λ_=>none
noncomputable def exs(aj:Bool)(F:Bool->Fn):bL->Vs->MS
 |.nil,J=>λs=>some (.nx J,s)|.cons a r,J=>cI (ex aj F a J) λJ'=>exs aj F r J'
end
structure Df where
 many:Nat
 gW:Nat
 body:bL
def call(T:Nat->Option Df):Nat->Bool->Fn
 |0,_,_,_=>M.no|k+1,aj,f,xs=>match T f with
  |none=>M.no|some d=>if xs.length=d.gW then λs=>match exs aq aj (λc=>call T k c) d.body (xs.map some++List.replicate (d.many-d.gW) none) s with
    |some (.nx _,s')=>some (.ok (.d .non),s')|some (.rt v,s')=>some (.ok v,s')|some (.er c fs _,s')=>some (.er c fs,s')|_=>none
   else M.no
end
end Mi
namespace Mi
open PySem L2
structure Ph where
 z:Addr->Prop
 l:List Addr
structure Cl where
 a:Nat->Addr
 f:Nat->List Str
 b:Nat->Addr
 g:Nat->List Str
section
variable (K:W.Frag)(cA:Cl)
def KT(a:Addr)(vs:List V):Prop:=gD K (λ_=>none) a vs
def KL(a:Addr)(vs:List V):Prop:=cP K (λ_=>none) a vs
def TupAt(U:Ph)(H:Hp)(a:Addr)(vs:List V):Prop:=(Rd H a (.tup vs)/\¬U.z a)\/KT K a vs
def LstAt(U:Ph)(H:Hp)(a:Addr)(vs:List V):Prop:=(Rd H a (.lst vs)/\¬U.z a)\/KL K a vs
def ExcAt(U:Ph)(H:Hp)(a:Addr)(c:Nat)(vs:List V):Prop:=¬U.z a/\((cA.f c=[]/\vs=[]/\H a=some (xK a (cA.a c) none))\/∃dx,H a=some (xK a (cA.a c) (some dx))/\¬U.z dx/\H dx=some (.xd ((cA.f c).zip vs))/\(cA.f c).length=vs.length)
def qe(U:Ph)(H:Hp)(a:Addr)(c:Nat)(vs:List V):Prop:=¬U.z a/\∃dx,H a=some (.ins (cA.b c) dx ((cA.g c).zip vs))/\(cA.g c).length=vs.length
mutual
inductive Rep (U:Ph) (H:Hp):D->V->Prop where
 |non:Rep U H .non .non
 |bl (b:Bool):Rep U H (.bl b) (.bl b)
 |int (i:Int):Rep U H (.int i) (.int i)
 |str (x:Str):Rep U H (.str x) (.str x)
 |tup {a:Addr} {xs:List D} {vs:List V} (h:TupAt K U H a vs) (r:aC U H xs vs):Rep U H (.tup xs) (.ref a)
 |fl {a:Addr} {xs:List D} {vs:List V} (h:LstAt K U H a vs) (r:aC U H xs vs):Rep U H (.fl xs) (.ref a)
 |fd {a:Addr} {k:Str} {i:Int} (h:H a=some (.dK [(.inr k,.int i)])) (n:¬U.z a):Rep U H (.fd [.str k] [.int i]) (.ref a)
 |exc {a:Addr} {c:Nat} {xs:List D} {vs:List V} (h:ExcAt cA U H a c vs) (r:aC U H xs vs):Rep U H (.exc c xs) (.ref a)
 |ob {a:Addr} {c:Nat} {xs:List D} {vs:List V} (h:qe cA U H a c vs) (r:aC U H xs vs):Rep U H (.ob c xs) (.ref a)
 |any (a:Addr):Rep U H .any (.ref a)
inductive aC (U:Ph) (H:Hp):List D->List V->Prop where
 |nil:aC U H [] []
 |cons {d:D} {v:V} {ds:List D} {vs:List V} (h:Rep U H d v) (r:aC U H ds vs):aC U H (d::ds) (v::vs)
end
inductive aN (U:Ph) (H:Hp):Xv->V->Prop where
 |d {x:D} {v:V} (h:Rep K cA U H x v):aN U H (.d x) v
 |l {n:Nat} {a:Addr} (h:U.l[n]?=some a):aN U H (.l n) (.ref a)
inductive aQ (U:Ph) (H:Hp):List Xv->List V->Prop where
 |nil:aQ U H [] []
 |cons {d:Xv} {v:V} {ds:List Xv} {vs:List V} (h:aN K cA U H d v) (r:aQ U H ds vs):aQ U H (d::ds) (v::vs)
def Sh:Kx->Int
 |.non=>reduceHash 0xFCA86420|.int i=>hashInt i|.row is=>reduceHash (Builtin.Tuple.tupleHashOf (is.map hashInt))
def qW(k:List Kx):Int:=reduceHash (Builtin.Tuple.tupleHashOf (k.map Sh))
def sH:Kx->D
 |.non=>.non|.int i=>.int i|.row is=>.tup (is.map .int)
def i_(k:List Kx):D:=.tup (k.map sH)
noncomputable abbrev m7:=List (List Kx×Addr×Value)
def uL(a:Addr)(xs:m7):HO:=.ext λh=>(a==sysModules)=false/\xs.length<=sizeLine/\∃o es ep,h.get? a=some o/\o.ExactDict/\o.data=.dict es ep/\es.toList=xs.map (λx=>⟨qW x.1,.ref x.2.1,x.2.2⟩)/\(xs.map (·.1)).Nodup
inductive ji (U:Ph) (H:Hp):iJ->m7->Prop where
 |nil:ji U H [] []
 |cons {k:List Kx} {d:D} {ka:Addr} {u:Value} {v:V} {r:iJ} {xs:m7} (hk:Rep K cA U H (i_ k) (.ref ka)) (hu:RelV v u) (hv:Rep K cA U H d v) (q:ji U H r xs):ji U H ((k,d)::r) ((k,ka,u)::xs)
def kZ(U:Ph)(H:Hp)(a:Addr):SO->Prop
 |.lst xs=>∃vs,H a=some (.lst vs)/\aC K cA U H xs vs|.dct kvs=>∃xs,H a=some (uL a xs)/\ji K cA U H kvs xs
structure aD(U:Ph)(H:Hp)(s:S):Prop where
 len:U.l.length=s.length
 obj:∀(n:Nat) o a,s[n]?=some o->U.l[n]?=some a->kZ K cA U H a o
 uniq:U.l.Nodup
 lz:∀a∈U.l,U.z a
 zt:∀a,U.z a->∃o,H a=some o
def NT:HO->Prop
 |.lQ _=>False|_=>True
structure Ext(U:Ph)(H:Hp)(U':Ph)(H':Hp):Prop where
 more:∃r,U'.l=U.l++r/\∀b∈r,H b=none
 qg:∀a,U.z a->U'.z a
 j8:∀a,U'.z a->U.z a\/H a=none
 frame:∀a o,H a=some o->NT o->a∉U.l->H' a=some o
 stay:∀a o,H a=some o->∃o',H' a=some o'
def aR(U:Ph)(H:Hp)(Z:L2.St)(J:Vs):Prop:=Z.length=J.length/\∀(i:Nat) (x:Xv),J[i]?=some (some x)->∃v,Z[i]?=some (some v)/\aN K cA U H x v
end
section
variable {K:W.Frag}{cA:Cl}{U U' j9:Ph}{H H' m8:Hp}{s:S}{Z:L2.St}{J:Vs}
theorem Ext.refl:Ext U H U H:=⟨⟨[],by simp,by simp⟩,λ_ h=>h,λ_ h=>.inl h,λ_ _ h _ _=>h,λ_ o h=>⟨o,h⟩⟩
def Ext.mj(x:Ext U H U' H'){a:Addr}(h:H' a=none):H a=none:=by
 cases e:H a with
 |none=>rfl|some o=>let⟨o',q⟩:=x.stay a o e;rw[h]at q;cases q
def Ext.trans(x:Ext U H U' H')(y:Ext U' H' j9 m8):Ext U H j9 m8:=by
 let⟨r,e,hr⟩:=x.more;let⟨r',e',vV⟩:=y.more;show⟨⟨r++r',by rw[e',e,Gx],λb hb=>?_⟩,λa h=>y.qg a (x.qg a h),λa h=>?_,λa o h t n=>y.frame a o (x.frame a o h t n) t ?_,λa o h=>?_⟩
 .rcases jN.mp hb with z|z
  .exact hr b z
  .exact x.mj (vV b z)
 .rcases y.j8 a h with z|z
  .exact x.j8 a z
  .exact .inr (x.mj z)
 .rw[e];intro z;rcases jN.mp z with z|z
  .exact n z
  .rw[hr a z]at h;cases h
 .obtain⟨o',q⟩:=x.stay a o h;show y.stay a o' q
def Ext.get(x:Ext U H U' H'){n:Nat}{a:Addr}(h:U.l[n]?=some a):U'.l[n]?=some a:=by
 let⟨r,e,_⟩:=x.more;rw[e,nJ (dI.mp h).1];show h
theorem Ext.out(x:Ext U H U' H')(hz:∀a∈U.l,U.z a){a:Addr}{o:HO}(h:H a=some o)(n:¬U.z a)(t:NT o:=by show trivial):H' a=some o/\¬U'.z a:=
 ⟨x.frame a o h t λz=>n (hz a z),λz=>by
  rcases x.j8 a z with y|y
  .exact n y
  .rw[h]at y;cases y⟩
def TupAt.mono(x:Ext U H U' H')(hz:∀a∈U.l,U.z a){a:Addr}{vs:List V}(h:TupAt K U H a vs):TupAt K U' H' a vs:=by
 rcases h with ⟨h|⟨o,h⟩,n⟩|h
 .obtain⟨p,q⟩:=x.out hz h n;show .inl ⟨.inl p,q⟩
 .obtain⟨p,q⟩:=x.out hz h n;show .inl ⟨.inr ⟨o,p⟩,q⟩
 .exact .inr h
def LstAt.mono(x:Ext U H U' H')(hz:∀a∈U.l,U.z a){a:Addr}{vs:List V}(h:LstAt K U H a vs):LstAt K U' H' a vs:=by
 rcases h with ⟨h|⟨o,h⟩,n⟩|h
 .obtain⟨p,q⟩:=x.out hz h n;show .inl ⟨.inl p,q⟩
 .obtain⟨p,q⟩:=x.out hz h n;show .inl ⟨.inr ⟨o,p⟩,q⟩
 .exact .inr h
def ExcAt.mono(x:Ext U H U' H')(hz:∀a∈U.l,U.z a){a:Addr}{c:Nat}{vs:List V}(h:ExcAt cA U H a c vs):ExcAt cA U' H' a c vs:=by
 obtain⟨n,⟨e1,e2,h⟩|⟨dx,h,n2,h2,h3⟩⟩:=h
 .obtain⟨p,q⟩:=x.out hz h n;show⟨q,.inl ⟨e1,e2,p⟩⟩
 .obtain⟨p,q⟩:=x.out hz h n;let⟨p2,q2⟩:=x.out hz h2 n2;show⟨q,.inr ⟨dx,p,q2,p2,h3⟩⟩
def qe.mono(x:Ext U H U' H')(hz:∀a∈U.l,U.z a){a:Addr}{c:Nat}{vs:List V}(h:qe cA U H a c vs):qe cA U' H' a c vs:=by
 let⟨n,dx,h,h3⟩:=h;let⟨p,q⟩:=x.out hz h n;show⟨q,dx,p,h3⟩
theorem Rep.mono(x:Ext U H U' H')(hz:∀a∈U.l,U.z a){d:D}{v:V}(h:Rep K cA U H d v):Rep K cA U' H' d v:=
 Rep.rec (motive_1:=λd v _=>Rep K cA U' H' d v) (motive_2:=λd v _=>aC K cA U' H' d v) .non .bl .int .str (λh _ i=>.tup (h.mono x hz) i) (λh _ i=>.fl (h.mono x hz) i) (λh n=>.fd (x.out hz h n).1 (x.out hz h n).2) (λh _ i=>.exc (h.mono x hz) i) (λh _ i=>.ob (h.mono x hz) i) .any .nil (λ_ _ i j=>.cons i j) h
theorem aC.mono(x:Ext U H U' H')(hz:∀a∈U.l,U.z a){d:List D}{v:List V}(h:aC K cA U H d v):aC K cA U' H' d v:=
 aC.rec (motive_1:=λd v _=>Rep K cA U' H' d v) (motive_2:=λd v _=>aC K cA U' H' d v) .non .bl .int .str (λh _ i=>.tup (h.mono x hz) i) (λh _ i=>.fl (h.mono x hz) i) (λh n=>.fd (x.out hz h n).1 (x.out hz h n).2) (λh _ i=>.exc (h.mono x hz) i) (λh _ i=>.ob (h.mono x hz) i) .any .nil (λ_ _ i j=>.cons i j) h
def aC.map(m:∀d v,Rep K cA U H d v->Rep K cA U' H' d v):∀{d:List D} {v:List V},aC K cA U H d v->aC K cA U' H' d v:=by
 intro d
 induction d with
 |nil=>intro v h;cases h;show .nil|cons a d ih=>intro v h;cases h with|cons h r=>show .cons (m _ _ h) (ih r)
def ji.map(m:∀d v,Rep K cA U H d v->Rep K cA U' H' d v){d:iJ}{v:m7}(h:ji K cA U H d v):ji K cA U' H' d v:=by
 induction h with
 |nil=>show .nil|cons a b c _ ih=>show .cons (m _ _ a) b (m _ _ c) ih
def kZ.map{a:Addr}{o:SO}(h:kZ K cA U H a o)(e:∀u,NT u->H a=some u->H' a=some u)(m:∀d v,Rep K cA U H d v->Rep K cA U' H' d v):kZ K cA U' H' a o:=by
 cases o with
 |lst xs=>let⟨vs,q,r⟩:=h;show⟨vs,e _ trivial q,r.map m⟩|dct xs=>let⟨vs,q,r⟩:=h;show⟨vs,e _ trivial q,r.map m⟩
def aN.mono(x:Ext U H U' H')(hz:∀a∈U.l,U.z a){d:Xv}{v:V}(h:aN K cA U H d v):aN K cA U' H' d v:=by
 cases h with
 |d h=>show .d (h.mono x hz)|l h=>show .l (x.get h)
def aQ.mono(x:Ext U H U' H')(hz:∀a∈U.l,U.z a){ds:List Xv}{vs:List V}(h:aQ K cA U H ds vs):aQ K cA U' H' ds vs:=by
 induction h with
 |nil=>show .nil|cons h _ ih=>show .cons (h.mono x hz) ih
theorem aR.mono(x:Ext U H U' H')(hz:∀a∈U.l,U.z a)(h:aR K cA U H Z J):aR K cA U' H' Z J:=⟨h.1,λi d e=>let ⟨v,a,b⟩:=h.2 i d e;⟨v,a,b.mono x hz⟩⟩
def aC.len{ds:List D}{vs:List V}(r:aC K cA U H ds vs):ds.length=vs.length:=by
 induction ds generalizing vs with
 |nil=>cases r;rfl|cons a d ih=>cases r with|cons _ r=>rw[gw,gw,ih r]
def aQ.len{ds:List Xv}{vs:List V}(r:aQ K cA U H ds vs):ds.length=vs.length:=by
 induction r with
 |nil=>rfl|cons _ _ ih=>rw[gw,gw,ih]
def aC.get{ds:List D}{vs:List V}{i:Nat}{d:D}(r:aC K cA U H ds vs)(e:ds[i]?=some d):∃v,vs[i]?=some v/\Rep K cA U H d v:=by
 induction ds generalizing vs i with
 |nil=>cases e|cons a ds ih=>
  cases r with
  |cons h r=>cases i with
   |zero=>cases e;show⟨_,rfl,h⟩|succ i=>let⟨w,p,q⟩:=ih r e;show⟨w,p,q⟩
def aQ.get{ds:List Xv}{vs:List V}{i:Nat}{d:Xv}(r:aQ K cA U H ds vs)(e:ds[i]?=some d):∃v,vs[i]?=some v/\aN K cA U H d v:=by
 induction r generalizing i with
 |nil=>cases e|cons h _ ih=>cases i with
  |zero=>cases e;show⟨_,rfl,h⟩|succ i=>let⟨w,p,q⟩:=ih e;show⟨w,p,q⟩
theorem aC.none:∀{ds:List D} {vs:List V} {i:Nat},aC K cA U H ds vs->ds[i]?=none->vs[i]?=none:=λ{ds vs i} r e=>by
 let:=r.len;let h2:ds.length<=i:=qD.mp e;show qD.mpr gV
def aC.app{ds es:List D}{vs us:List V}(h:aC K cA U H ds vs)(s:aC K cA U H es us):aC K cA U H (ds++es) (vs++us):=by
 induction ds generalizing vs with
 |nil=>cases h;show s|cons a d ih=>cases h with|cons h r=>show .cons h (ih r)
def aC.take{ds:List D}{vs:List V}(n:Nat)(r:aC K cA U H ds vs):aC K cA U H (ds.take n) (vs.take n):=by
 induction n generalizing ds vs with
 |zero=>show .nil|succ n ih=>cases r with
  |nil=>show .nil|cons h r=>show .cons h (ih r)
def aC.drop{ds:List D}{vs:List V}(n:Nat)(r:aC K cA U H ds vs):aC K cA U H (ds.drop n) (vs.drop n):=by
 induction n generalizing ds vs with
 |zero=>show r|succ n ih=>cases r with
  |nil=>show .nil|cons h r=>show ih r
def aC.set{d:D}{v:V}(h:Rep K cA U H d v){ds:List D}{vs:List V}(i:Nat)(r:aC K cA U H ds vs):aC K cA U H (ds.set i d) (vs.set i v):=by
 induction i generalizing ds vs with
 |zero=>cases r with
  |nil=>show .nil|cons _ r=>show .cons h r
 |succ i ih=>cases r with
  |nil=>show .nil|cons q r=>show .cons q (ih r)
def aC.rev{ds:List D}{vs:List V}(r:aC K cA U H ds vs):aC K cA U H ds.reverse vs.reverse:=by
 induction ds generalizing vs with
 |nil=>cases r;show .nil|cons a ds ih=>cases r with|cons h r=>rw[Lz,Lz];show(ih r).app (.cons h .nil)
def aC.cut{ds:List D}{vs:List V}{l h:Option Int}(r:aC K cA U H ds vs):aC K cA U H (Mi.cut ds l h) (mQ vs l h):=by
 unfold Mi.cut mQ;rw[<-r.len];show(r.drop _).take _
def bw(H H':Hp):Prop:=∀a o,H a=some o->H' a=some o
theorem bw.refl:bw H H:=λ_ _ h=>h
theorem bw.trans(x:bw H H')(y:bw H' m8):bw H m8:=λa o h=>y a o (x a o h)
theorem bw.new{p:Addr}{o:HO}(hp:H p=none):bw H (upd H p o):=λa u h=>by rw[bN (wM h hp)];show h
theorem bw.ext(g:bw H H'):Ext U H U H':=⟨⟨[],by simp,by simp⟩,λ_ h=>h,λ_ h=>.inl h,λa o h _ _=>g a o h,λa o h=>⟨o,g a o h⟩⟩
theorem kZ.grow{a:Addr}{o:SO}(g:bw H H')(hz:∀a∈U.l,U.z a)(h:kZ K cA U H a o):kZ K cA U H' a o:=h.map (λu _=>g _ u) λ_ _ r=>r.mono g.ext hz
theorem aD.grow(g:bw H H')(h:aD K cA U H s):aD K cA U H' s:=
 ⟨h.len,λn o a e1 e2=>(h.obj n o a e1 e2).grow g h.lz,h.uniq,h.lz,λa z=>let ⟨o,e⟩:=h.zt a z;⟨o,g _ _ e⟩⟩
theorem aD.nz(h:aD K cA U H s){p:Addr}(hp:H p=none):¬U.z p:=λz=>by let⟨o,e⟩:=h.zt p z;rw[hp]at e;cases e
def Ph.add(U:Ph)(p:Addr):Ph:=⟨λa=>U.z a\/a=p,U.l++[p]⟩
theorem Ext.add{p:Addr}{o:HO}(hp:H p=none):Ext U H (U.add p) (upd H p o):=
 ⟨⟨[p],rfl,by simpa using hp⟩,λ_ h=>.inl h,λa h=>h.imp id λe=>by rw[e];show hp,λa u h _ _=>bw.new hp a u h,λa u h=>⟨u,bw.new hp a u h⟩⟩
def aD.Jv{p:Addr}{so:SO}{ho:HO}(h:aD K cA U H s)(hp:H p=none)(hr:kZ K cA (U.add p) (upd H p ho) p so):aD K cA (U.add p) (upd H p ho) (s++[so]):=by
 let pn:p∉U.l:=λz=>h.nz hp (h.lz p z);show⟨by change (U.l++[p]).length=_;rw[dJ,dJ,h.len];rfl,λn o a e1 e2=>?_,?_,λa ha=>?_,λa ha=>?_⟩
 .let e2:(U.l++[p])[n]?=some a:=e2;by_cases hn:n<s.length
  .rw[nJ hn]at e1;rw[nJ (by rw[h.len];show hn)]at e2;show(h.obj n o a e1 e2).map (λu _=>bw.new hp _ u) λ_ _ r=>r.mono (Ext.add hp) h.lz
  .let hl:n=s.length:=by
    let z:=(dI.mp e1).1;rw[dJ]at z;simp at z
    lia
   subst hl;rw[o8 (bU _)]at e1;rw[o8 (by rw[h.len];show bU _)]at e2;simp at e1;simp[h.len]at e2;subst e1 e2;show hr
 .show (U.l++[p]).Nodup;rw[LC];show⟨h.uniq,by simp,λa ha b hb e=>?_⟩;simp at hb;subst hb e;show pn ha
 .let ha:a∈U.l++[p]:=ha;rcases jN.mp ha with z|z
  .exact .inl (h.lz a z)
  .simp at z;show .inr z
 .rcases ha with z|z
  .obtain⟨o,e⟩:=h.zt a z;show⟨o,bw.new hp _ _ e⟩
  .subst z;show⟨_,h_⟩
theorem aD.add{p:Addr}{xs:List D}{vs:List V}(h:aD K cA U H s)(hp:H p=none)(r:aC K cA U H xs vs):aD K cA (U.add p) (upd H p (.lst vs)) (s++[.lst xs]):=h.Jv hp ⟨vs,h_,r.mono (Ext.add hp) h.lz⟩
def Ext.write{n:Nat}{p:Addr}{o:HO}(hp:U.l[n]?=some p)(hv:∃u,H p=some u):Ext U H U (upd H p o):=by
 let hm:p∈U.l:=dZ hp;show⟨⟨[],by simp,by simp⟩,λ_ h=>h,λ_ h=>.inl h,λa u h _ n=>by
  let ne:a≠p:=λe=>n (by rw[e];show hm);rw[bN ne];show h,λa u h=>?_⟩
 by_cases e:a=p
 .subst e;show⟨o,h_⟩
 .exact⟨u,by rw[bN e];show h⟩
def aD.uM{n:Nat}{p:Addr}{so:SO}{ho:HO}(h:aD K cA U H s)(hl:n<s.length)(hp:U.l[n]?=some p)(hr:kZ K cA U (upd H p ho) p so):aD K cA U (upd H p ho) (s.set n so):=by
 let hv:=h.zt p (h.lz p (dZ hp));let x:Ext U H U (upd H p ho):=Ext.write hp hv;show⟨by rw[pJ];show h.len,λm o a e1 e2=>?_,h.uniq,h.lz,λa ha=>?_⟩
 .by_cases hm:n=m
  .subst hm;rw[yJ hl]at e1;cases e1;rw[hp]at e2;cases e2;show hr
  .rw[qF hm]at e1;let ne:a≠p:=λy=>by
    subst y;show hm ((P_ (dI.mp hp).1 h.uniq).mp (hp.trans e2.symm))
   show(h.obj m o a e1 e2).map (λ_ _ q=>by rw[bN ne];show q) λ_ _ r=>r.mono x h.lz
 .obtain⟨o,e⟩:=h.zt a ha;let⟨o',e'⟩:=x.stay a o e;show⟨o',e'⟩
theorem aD.write{n:Nat}{p:Addr}{xs ys:List D}{us:List V}(h:aD K cA U H s)(hn:s[n]?=some (.lst xs))(hp:U.l[n]?=some p)(r:aC K cA U H ys us):aD K cA U (upd H p (.lst us)) (s.set n (.lst ys)):=
 h.uM (dI.mp hn).1 hp ⟨us,h_,r.mono (Ext.write hp (h.zt p (h.lz p (dZ hp)))) h.lz⟩
def aR.set{i:Nat}{d:Xv}{v:V}(hL:aR K cA U H Z J)(r:aN K cA U H d v):aR K cA U H (Z.set i (some v)) (J.set i (some d)):=by
 show⟨by rw[pJ,pJ];show hL.1,λj e h=>?_⟩;by_cases wV:i=j
 .subst wV;by_cases hl:i<J.length
  .rw[yJ hl]at h;cases h;show⟨v,by rw[yJ (by rw[hL.1];show hl)],r⟩
  .rw[Py (by rw[pJ];lia)]at h;cases h
 .rw[qF wV]at h;let⟨u,a,b⟩:=hL.2 j e h;show⟨u,by rw[qF wV];show a,b⟩
def TupAt.jk{a:Addr}{vs:List V}(h:TupAt K U H a vs):gD K H a vs:=by
 rcases h with ⟨h,_⟩|(h|h)
 .exact .inl h
 .rcases h with h|⟨o,h⟩<;>cases h
 .exact .inr h
def LstAt.sI{a:Addr}{vs:List V}(h:LstAt K U H a vs):cP K H a vs:=by
 rcases h with ⟨h,_⟩|(h|h)
 .exact .inl h
 .rcases h with h|⟨o,h⟩<;>cases h
 .exact .inr h
theorem TupAt.new{p:Addr}{vs:List V}(hz:¬U.z p):TupAt K U (upd H p (.tup vs)) p vs:=.inl ⟨.inl h_,hz⟩
theorem LstAt.new{p:Addr}{vs:List V}(hz:¬U.z p):LstAt K U (upd H p (.lst vs)) p vs:=.inl ⟨.inl h_,hz⟩
end
end Mi
namespace Mi
open PySem PySem.Spec PyProof.Rows L2
def un{α β γ:Type}{A B C:α->β->γ->Prop}{R:Prop}(h:∃a b c,A a b c/\B a b c/\C a b c)(f:∀a b c,A a b c->B a b c->C a b c->R):R:=by
 let⟨a,b,c,x,y,z⟩:=h;show f a b c x y z
section
variable (K:W.Frag)(cA:Cl)
def Run{α:Type}(m:M α)(U:Ph)(H:Hp)(s:S)(P:α->S->Ph->Hp->Prop)(Ee:Nat->List D->S->Ph->Hp->Prop):Prop:=
 match m s with
 |some (.ok a,s')=>∀U' H',Ext U H U' H'->aD K cA U' H' s'->P a s' U' H'|some (.er c f,s')=>∀U' H',Ext U H U' H'->aD K cA U' H' s'->Ee c f s' U' H'|none=>False
def j_(U:Ph)(H:Hp)(c:Nat)(fs:List D)(dx:Option Addr):Prop:=
 (cA.f c=[]/\fs=[]/\dx=none)\/∃d vs,dx=some d/\¬U.z d/\H d=some (.xd ((cA.f c).zip vs))/\(cA.f c).length=vs.length/\aC K cA U H fs vs
def eX(EX:XS)(Z:L2.St):Nat->List D->S->Ph->Hp->Prop:=λc fs _ U' H'=>∀dx,j_ K cA U' H' c fs dx->EX Z (.ref (cA.a c)) dx H'
def tE(EX:XS)(m:Vs->M Xv):TE:=λZ H Q=>∃U J s,aR K cA U H Z J/\aD K cA U H s/\Run K cA (m J) U H s (λd _ U' H'=>∀v,aN K cA U' H' d v->Q v H') (eX K cA EX Z)
def Sq(EX:XS)(m:Vs->M (List Xv)):TA:=λZ H Q=>∃U J s,aR K cA U H Z J/\aD K cA U H s/\Run K cA (m J) U H s (λd _ U' H'=>∀v,aQ K cA U' H' d v->Q v H') (eX K cA EX Z)
def qX(EX:XS)(m:Vs->M Bool):TT:=λZ H Q=>∃U J s,aR K cA U H Z J/\aD K cA U H s/\Run K cA (m J) U H s (λd _ U' H'=>Q d H') (eX K cA EX Z)
def Rv(U:Ph)(H:Hp)(d:D)(v:V):Prop:=match d with
 |.fl xs=>∃a vs,v=.ref a/\cP K H a vs/\aC K cA U H xs vs|d=>Rep K cA U H d v
inductive xR (U:Ph) (H:Hp):List D->List V->Prop where
 |nil:xR U H [] []
 |cons {d:D} {v:V} {ds:List D} {vs:List V} (h:Rv K cA U H d v) (r:xR U H ds vs):xR U H (d::ds) (v::vs)
def bD(U:Ph)(H:Hp)(o:Option Rz)(Q:VK):Prop:=match o with
 |none=>False|some (.dat d)=>∀H' v,bw H H'->Rep K cA U H' d v->Q v H'|some (.nw xs)=>∀p vs,H p=none->aC K cA U H xs vs->Q (.ref p) (upd H p (.lst vs))
structure Zt(U:Ph)(H:Hp):Prop where
 lz:∀a∈U.l,U.z a
 zt:∀a,U.z a->∃o,H a=some o
def bA(p:Pr)(r:List V->Hp->VK->Prop):Prop:=∀(U:Ph) (H:Hp) (ds:List D) (vs:List V) (Q:VK),Zt U H->xR K cA U H ds vs->bD K cA U H (prim p ds) Q->r vs H Q
end
section
variable {K:W.Frag}{cA:Cl}{U U':Ph}{H H':Hp}{s:S}{Z:L2.St}{J:Vs}{EX:XS}
theorem aD.zs(h:aD K cA U H s):Zt U H:=⟨h.lz,h.zt⟩
theorem Zt.nz(h:Zt U H)(hp:H p=none):¬U.z p:=λz=>by let⟨o,e⟩:=h.zt p z;rw[hp]at e;cases e
def Rep.rv{d:D}{v:V}(h:Rep K cA U H d v):Rv K cA U H d v:=by
 cases h with
 |fl h r=>show⟨_,_,rfl,h.sI,r⟩|non=>show .non|bl b=>show .bl b|int b=>show .int b|str b=>show .str b|tup h r=>show .tup h r|fd h n=>show .fd h n|exc h r=>show .exc h r|ob h r=>show .ob h r|any v=>show .any v
def Run.bd{α β:Type}{m:M α}{k:α->M β}{P:β->S->Ph->Hp->Prop}{Ee:Nat->List D->S->Ph->Hp->Prop}(h:Run K cA (M.bd m k) U H s P Ee):Run K cA m U H s (λa s1 U1 H1=>Ext U H U1 H1/\aD K cA U1 H1 s1/\Run K cA (k a) U1 H1 s1 P Ee) Ee:=by
 unfold Run M.bd at *;cases e:m s with
 |none=>rw[e]at h;show h|some r=>
  let⟨r,s1⟩:=r;rw[e]at h;cases r with
  |er c f=>show h|ok a=>
   intro U1 H1 x1 r1;show⟨x1,r1,?_⟩;dsimp only at h ⊢;cases e2:k a s1 with
   |none=>rw[e2]at h;show h|some q=>
    let⟨q,s2⟩:=q;rw[e2]at h;cases q with
    |ok b=>show λU2 H2 x2 r2=>h U2 H2 (x1.trans x2) r2|er c f=>show λU2 H2 x2 r2=>h U2 H2 (x1.trans x2) r2
def Run.imp{α:Type}{m:M α}{P P':α->S->Ph->Hp->Prop}{Ee:Nat->List D->S->Ph->Hp->Prop}(h:Run K cA m U H s P Ee)(f:∀a s' U' H',P a s' U' H'->P' a s' U' H'):Run K cA m U H s P' Ee:=by
 unfold Run at *;split at h
 .exact λU' H' x r=>f _ _ _ _ (h U' H' x r)
 .exact h
 .exact h
def Run.ext(x:Ext U H U' H')(h:Run K cA m U H s P Ee):Run K cA m U' H' s P Ee:=by
 unfold Run at *;split at h
 .exact λU2 H2 y r=>h U2 H2 (x.trans y) r
 .exact λU2 H2 y r=>h U2 H2 (x.trans y) r
 .exact h.elim
theorem Run.bF{α:Type}{a:α}{P:α->S->Ph->Hp->Prop}{Ee:Nat->List D->S->Ph->Hp->Prop}(r:aD K cA U H s)(h:Run K cA (M.ret a) U H s P Ee):P a s U H:=h U H Ext.refl r
def Run.opt{α:Type}{o:Option α}{P:α->S->Ph->Hp->Prop}{Ee:Nat->List D->S->Ph->Hp->Prop}(r:aD K cA U H s)(h:Run K cA (M.opt o) U H s P Ee):∃a,o=some a/\P a s U H:=by
 cases o with
 |none=>show h.elim|some a=>show⟨a,rfl,h U H Ext.refl r⟩
def Run.m9(h:Run K cA (M.bd (M.opt o) k) U H s P Ee):∃a,o=some a/\Run K cA (k a) U H s P Ee:=by
 cases o with
 |none=>show h.elim|some a=>show⟨a,rfl,h⟩
def Jw{β:Type}{x:Xv}{v:V}{k:Bool->M β}{P:β->S->Ph->Hp->Prop}{Ee:Nat->List D->S->Ph->Hp->Prop}(r:aN K cA U H x v)(h:Run K cA (M.bd (bool x) k) U H s P Ee):∃b,x=.d (.bl b)/\v=.bl b/\Run K cA (k b) U H s P Ee:=by
 cases r with
 |l _=>show h.elim|d r=>cases r with
  |bl b=>show⟨b,rfl,rfl,h⟩|_=>show h.elim
def Cv(r:aN K cA U H x v)(h:Run K cA (M.bd (int x) k) U H s P Ee):∃b,x=.d (.int b)/\v=.int b/\Run K cA (k b) U H s P Ee:=by
 cases r with
 |l _=>show h.elim|d r=>cases r with
  |int b=>show⟨b,rfl,rfl,h⟩|_=>show h.elim
def Nk(r:aN K cA U H x v)(h:Run K cA (M.bd (dat x) k) U H s P Ee):∃d,x=.d d/\Rep K cA U H d v/\Run K cA (k d) U H s P Ee:=by
 cases r with
 |l _=>show h.elim|d r=>show⟨_,rfl,r,h⟩
def Ss:∀{xs:List Xv} {vs:List V} {k:List D->M β} {P:β->S->Ph->Hp->Prop} {Ee:Nat->List D->S->Ph->Hp->Prop},aQ K cA U H xs vs->Run K cA (M.bd (cC xs) k) U H s P Ee->∃ds,xs=ds.map .d/\aC K cA U H ds vs/\Run K cA (k ds) U H s P Ee:=by
 intro xs
 induction xs with
 |nil=>intro vs k P Ee r h;cases r;show⟨[],rfl,.nil,h⟩|cons x xs ih=>
  intro vs k P Ee r h;cases r with
  |cons a r=>
   cases a with
   |l _=>show h.elim|@d y v a=>
    let h2:Run K cA (M.bd (cC xs) λds=>k (y::ds)) U H s P Ee:=by
     unfold Run M.bd cC dat at h;unfold Run M.bd;simp only[M.bd,M.ret]at h;cases e:cC xs s with
     |none=>simp only[e]at h|some q=>
      let⟨q,s1⟩:=q;simp only[e]at h;cases q with
      |ok ds=>show h|er c f=>show h
    let⟨ds,e,rs,h3⟩:=ih r h2;show⟨y::ds,by rw[e];rfl,.cons a rs,h3⟩
def Nm(hS:aD K cA U H s)(r:aN K cA U H x v)(h:Run K cA (M.bd (rd x) k) U H s P Ee):∃d,Rv K cA U H d v/\Run K cA (k d) U H s P Ee:=by
 cases r with
 |d r=>show⟨_,r.rv,h⟩|@l n a hl=>
  unfold Run M.bd rd at h;dsimp only at h;cases e:s[n]? with
  |none=>rw[e]at h;show h.elim|some o=>
   rw[e]at h;cases o with
   |lst xs=>
    let⟨vs,q1,q2⟩:=hS.obj n _ _ e hl;show⟨.fl xs,⟨a,vs,rfl,cP.of q1,q2⟩,h⟩
   |_=>show h.elim
def gF{α β γ:Type}(m:M α)(f:α->M β)(g:β->M γ):M.bd (M.bd m f) g=M.bd m λx=>M.bd (f x) g:=by
 funext s
 unfold M.bd;cases m s with
 |none=>rfl|some r=>
  let⟨r,s1⟩:=r;cases r<;>rfl
def uN{β:Type}:∀{xs:List Xv} {vs:List V} {k:List D->M β} {P:β->S->Ph->Hp->Prop} {Ee:Nat->List D->S->Ph->Hp->Prop},aD K cA U H s->aQ K cA U H xs vs->Run K cA (M.bd (gJ xs) k) U H s P Ee->∃ds,xR K cA U H ds vs/\Run K cA (k ds) U H s P Ee:=by
 intro xs
 induction xs with
 |nil=>intro vs k P Ee hS r h;cases r;show⟨[],.nil,h⟩|cons x xs ih=>
  intro vs k P Ee hS r h;cases r with
  |cons a r=>
   let h2:Run K cA (M.bd (rd x) λd=>M.bd (gJ xs) λds=>k (d::ds)) U H s P Ee:=by
    let e:M.bd (gJ (x::xs)) k=M.bd (rd x) λd=>M.bd (gJ xs) λds=>k (d::ds):=by
     change M.bd (M.bd (rd x) λd=>M.bd (gJ xs) λds=>M.ret (d::ds)) k=_;rw[gF]
     congr 1
     funext d
     rw[gF];rfl
    rw[e]at h;show h
   let⟨d,rd,h3⟩:=Nm hS a h2;let⟨ds,rs,h4⟩:=ih hS r h3;show⟨d::ds,.cons rd rs,h4⟩
def tM{fz:Bool}{o:Option Rz}{Q:VK}{Ee:Nat->List D->S->Ph->Hp->Prop}(hS:aD K cA U H s)(h:Run K cA (cg fz o) U H s (λx _ U' H'=>∀v,aN K cA U' H' x v->Q v H') Ee):bD K cA U H o Q:=by
 cases o with
 |none=>show h.elim|some z=>
  cases z with
  |dat d=>show λH' v g r=>h U H' g.ext (hS.grow g) v (.d r)|nw xs=>
   intro p vs hp r;cases fz with
   |true=>show h U _ (bw.new hp).ext (hS.grow (bw.new hp)) _ (.d (.fl (LstAt.new (hS.nz hp)) (r.mono (bw.new hp).ext hS.lz)))|false=>show h (U.add p) _ (Ext.add hp) (hS.add hp r) _ (.l (by change (U.l++[p])[s.length]?=_;rw[<-hS.len];simp))
theorem Yt{fz:Bool}{xs:List D}{Q:VK}{Ee:Nat->List D->S->Ph->Hp->Prop}(hS:aD K cA U H s)(h:Run K cA (newL fz xs) U H s (λx _ U' H'=>∀v,aN K cA U' H' x v->Q v H') Ee):∀p vs,H p=none->aC K cA U H xs vs->Q (.ref p) (upd H p (.lst vs)):=
 tM (o:=some (.nw xs)) hS h
theorem aV{β:Type}{ma:Vs->M Xv}{k:Xv->M β}{P:β->S->Ph->Hp->Prop}(hL:aR K cA U H Z J)(hS:aD K cA U H s)(h:Run K cA (M.bd (ma J) k) U H s P (eX K cA EX Z)){Q:VK}
  (f:∀x H1 U1 d s1,Ext U H U1 H1->aR K cA U1 H1 Z J->aD K cA U1 H1 s1->aN K cA U1 H1 d x->Run K cA (k d) U1 H1 s1 P (eX K cA EX Z)->Q x H1):tE K cA EX ma Z H Q:=
 ⟨U,J,s,hL,hS,h.bd.imp λd s1 U1 H1 ⟨x1,r1,h1⟩ v rv=>f v H1 U1 d s1 x1 (hL.mono x1 hS.lz) r1 rv h1⟩
theorem qj{β:Type}{ma:Vs->M (List Xv)}{k:List Xv->M β}{P:β->S->Ph->Hp->Prop}(hL:aR K cA U H Z J)(hS:aD K cA U H s)(h:Run K cA (M.bd (ma J) k) U H s P (eX K cA EX Z)){Q:List V->Hp->Prop}
  (f:∀x H1 U1 d s1,Ext U H U1 H1->aR K cA U1 H1 Z J->aD K cA U1 H1 s1->aQ K cA U1 H1 d x->Run K cA (k d) U1 H1 s1 P (eX K cA EX Z)->Q x H1):Sq K cA EX ma Z H Q:=
 ⟨U,J,s,hL,hS,h.bd.imp λd s1 U1 H1 ⟨x1,r1,h1⟩ v rv=>f v H1 U1 d s1 x1 (hL.mono x1 hS.lz) r1 rv h1⟩
theorem xT(hL:aR K cA U H Z J)(hS:aD K cA U H s)(h:Run K cA (M.bd (ma J) k) U H s P (eX K cA EX Z))
  (f:∀b H1 U1 s1,Ext U H U1 H1->aR K cA U1 H1 Z J->aD K cA U1 H1 s1->Run K cA (k b) U1 H1 s1 P (eX K cA EX Z)->Q b H1):qX K cA EX ma Z H Q:=
 ⟨U,J,s,hL,hS,h.bd.imp λd s1 U1 H1 ⟨x1,r1,h1⟩=>f d H1 U1 s1 x1 (hL.mono x1 hS.lz) r1 h1⟩
end
section
variable (X:Cx)(cA:Cl)(aq:Nat->Nat->Bool)(aj:Bool)(F:Fn)(EX:XS)
def SE(e:Expr)(m:E):Prop:=PE X e (tE X.K cA EX (ev aq aj F m))
def SA(es:List Expr)(m:Es):Prop:=PA X es (Sq X.K cA EX (evs aq aj F m))
def ST(e:Expr)(m:E):Prop:=PT X e (qX X.K cA EX (λJ=>M.bd (ev aq aj F m J) bool))
def SW(e:Expr)(m:E):Prop:=PW X e (qX X.K cA EX (λJ=>M.bd (ev aq aj F m J) bool))
end
section
variable {X:Cx}{cA:Cl}{aq:Nat->Nat->Bool}{aj:Bool}{F:Fn}{EX:XS}{a b c d e:Expr}{A B C Dd E':E}{pos:Pos}{es:List Expr}{Xs:Es}{fz:Bool}{p:Pr}
theorem PE.weak{t t':TE}(h:PE X e t)(f:∀Z H Q,t' Z H Q->t Z H Q):PE X e t':=λao s Z H Q I q=>h ao s Z H Q I (f Z H Q q)
theorem PT.weak{t t':TT}(h:PT X e t)(f:∀Z H Q,t' Z H Q->t Z H Q):PT X e t':=λao s Z H Q I q=>h ao s Z H Q I (f Z H Q q)
theorem PW.weak{t t':TT}(h:PW X e t)(f:∀Z H Q,t' Z H Q->t Z H Q):PW X e t':=λwh ao s Z H Q I q=>h wh ao s Z H Q I (f Z H Q q)
theorem PA.weak{t t':TA}(h:PA X es t)(f:∀Z H Q,t' Z H Q->t Z H Q):PA X es t':=λp ao s Z H Q I q=>h p ao s Z H Q I (f Z H Q q)
theorem zkU{i j p}:SE X cA aq aj F EX (.Constant (.int i) j p) (.c (.int i)):=PE.weak W3 λZ H Q hh=>un hh λU J s hL hS h=>h.bF hS _ (.d (.int i))
theorem zor{i j p}:SE X cA aq aj F EX (.Constant (.bool i) j p) (.c (.bl i)):=PE.weak zof λZ H Q hh=>un hh λU J s hL hS h=>h.bF hS _ (.d (.bl i))
theorem zmr{j p}:SE X cA aq aj F EX (.Constant .none j p) (.c .non):=PE.weak zl3 λZ H Q hh=>un hh λU J s hL hS h=>h.bF hS _ (.d .non)
def Np{α:Type}{o:Option (Option α)}{x:α}(h:o.join=some x):o=some (some x):=by
 cases o with
 |none=>cases h|some y=>cases y with
  |none=>cases h|some z=>cases h;rfl
theorem zpC(i:Nat){x:Str}(hN:X.N[i]?=some x:=by rfl)(hv:Ms X.env.scope x:=by first|exact Or.inl rfl|exact Or.inr (Or.inl rfl)|exact Or.inr (Or.inr rfl))(hd:(x==("__debug__" : Str))=false:=by decide)
  (iu:(x==("__classdict__" : Str))=false:=by decide):SE X cA aq aj F EX (.Name x pos) (.v i):=PE.weak (W2 hN hv hd iu) λZ H Q hh=>un hh λU J s hL hS h=>by
 let⟨dd,e1,q⟩:=Run.opt hS h;let⟨v,q1,q2⟩:=hL.2 i dd (Np e1);show⟨v,q1,q v q2⟩
theorem zjn{x:Str}{i:Int}{t:Tok}(hg:Gl X x)(hm:X.mg x=some (.int i t))(hd:(x==("__debug__" : Str))=false:=by decide):SE X cA aq aj F EX (.Name x pos) (.c (.int i)):=PE.weak (zjS (v:=.int i) hg hm ⟨t,rfl⟩ hd) λZ H Q hh=>un hh λU J s hL hS h=>h.bF hS _ (.d (.int i))
theorem zlf:SA X cA aq aj F EX [] .nil:=PA.weak wZ λZ H Q hh=>un hh λU J s hL hS h=>h.bF hS _ .nil
theorem zi3(ha:SE X cA aq aj F EX a A)(hr:SA X cA aq aj F EX es Xs)(hs:starEach (a::es) X.env=(false,eval a X.env)::starEach es X.env:=by rfl):SA X cA aq aj F EX (a::es) (.cons A Xs):=PA.weak (rP ha hr hs) λZ H Q hh=>un hh λU J s hL hS h=>by
 show aV hL hS h λx H1 U1 d1 s1 x1 hL1 aG r1 h1=>qj hL1 aG h1 λys H2 U2 d2 s2 x2 hL2 aM r2 h2=>h2.bF aM _ (.cons (r1.mono x2 aG.lz) r2)
def Nq{U U1 U2:Ph}{H1 H2:Hp}{s1 s2:S}{d1 d2:Xv}{x y:V}{Q:VK}{Ee:Nat->List D->S->Ph->Hp->Prop}(x2:Ext U1 H1 U2 H2)(aG:aD X.K cA U1 H1 s1)(aM:aD X.K cA U2 H2 s2)(r1:aN X.K cA U1 H1 d1 x)(r2:aN X.K cA U2 H2 d2 y)
  (h:Run X.K cA (M.bd (gJ [d1,d2]) λds=>cg fz (prim p ds)) U2 H2 s2 (λx _ U' H'=>∀v,aN X.K cA U' H' x v->Q v H') Ee) {r:List V->Hp->VK->Prop} (hp:bA X.K cA p r):r [x,y] H2 Q:=by
 let⟨ds,rs,h2⟩:=uN aM (.cons (r1.mono x2 aG.lz) (.cons r2 .nil)) h;show hp U2 H2 ds _ Q aM.zs rs (tM aM h2)
def r2(r:R2):List V->Hp->VK->Prop:=λvs H Q=>∃x y,vs=[x,y]/\r x y H Q
def Fj{r:R2}{x y:V}{H:Hp}{Q:VK}(h:r2 r [x,y] H Q):r x y H Q:=by
 let⟨_,_,e,q⟩:=h;cases e;show q
theorem zmp{op:Operator}{r:R2}(ho:eG X (binaryOp op) r)(hp:bA X.K cA p (r2 r))(ha:SE X cA aq aj F EX a A)(hb:SE X cA aq aj F EX b B):SE X cA aq aj F EX (.BinOp a op b pos) (.pr fz p (.cons A (.cons B .nil))):=PE.weak (zn0 ho ha hb) λZ H Q hh=>un hh λU J s hL hS h=>by
 let h:Run X.K cA (M.bd (M.bd (ev aq aj F A J) λx=>M.bd (M.bd (ev aq aj F B J) λy=>M.bd (M.ret []) λz=>M.ret (y::z)) λys=>M.ret (x::ys)) λvs=>M.bd (gJ vs) λds=>cg fz (prim p ds)) U H s _ _:=h;simp only[gF]at h;show aV hL hS h λx H1 U1 d1 s1 x1 hL1 aG r1 h1=>aV hL1 aG h1 λy H2 U2 d2 s2 x2 hL2 aM r2' h2=>?_;show Fj (Nq (fz:=fz) (U:=U) x2 aG aM r1 r2' h2 hp)
theorem zlR{op:CmpOp}{r:R2}(ho:eG X (compareOp op) r)(hp:bA X.K cA p (r2 r))(ha:SE X cA aq aj F EX a A)(hb:SE X cA aq aj F EX b B)(hm:behindInMarks op b=false):SE X cA aq aj F EX (.Compare a [op] [b] pos) (.pr true p (.cons A (.cons B .nil))):=PE.weak (zj3 ho ha hb hm) λZ H Q hh=>un hh λU J s hL hS h=>by
 let h:Run X.K cA (M.bd (M.bd (ev aq aj F A J) λx=>M.bd (M.bd (ev aq aj F B J) λy=>M.bd (M.ret []) λz=>M.ret (y::z)) λys=>M.ret (x::ys)) λvs=>M.bd (gJ vs) λds=>cg true (prim p ds)) U H s _ _:=h;simp only[gF]at h;show aV hL hS h λx H1 U1 d1 s1 x1 hL1 aG r1 h1=>aV hL1 aG h1 λy H2 U2 d2 s2 x2 hL2 aM r2' h2=>?_;show Fj (Nq (fz:=true) (U:=U) x2 aG aM r1 r2' h2 hp)
def iT{A B:Prop}(h:A):if true=true then A else B:=by rw[if_pos rfl];show h
def iF{A B:Prop}(h:B):if false=true then A else B:=by rw[if_neg Gs];show h
theorem zkJ{op:CmpOp}{r:R2}(ho:eG X (compareOp op) r)(hp:bA X.K cA p (r2 r))(ha:SE X cA aq aj F EX a A)(hb:SE X cA aq aj F EX b B)(hm:behindInMarks op b=false):ST X cA aq aj F EX (.Compare a [op] [b] pos) (.pr true p (.cons A (.cons B .nil))):=PT.weak (ziW ho ha hb hm) λZ H Q hh=>un hh λU J s hL hS h=>by
 let h:Run X.K cA (M.bd (M.bd (M.bd (ev aq aj F A J) λx=>M.bd (M.bd (ev aq aj F B J) λy=>M.bd (M.ret []) λz=>M.ret (y::z)) λys=>M.ret (x::ys)) λvs=>M.bd (gJ vs) λds=>cg true (prim p ds)) bool) U H s _ _:=h;simp only[gF]at h;show aV hL hS h λx H1 U1 d1 s1 x1 hL1 aG r1 h1=>aV hL1 aG h1 λy H2 U2 d2 s2 x2 hL2 aM r2' h2=>?_;let⟨ds,rs,h3⟩:=uN aM (.cons (r1.mono x2 aG.lz) (.cons r2' .nil)) h2;show Fj (hp U2 H2 ds _ _ aM.zs rs (tM (Ee:=eX X.K cA EX Z) aM (h3.bd.imp λt s3 U3 H3 ⟨x3,gG,h4⟩ v rv=>?_)));cases rv with
 |l _=>show h4.elim|d rv=>cases rv with
  |bl k=>show⟨k,rfl,h4 U3 H3 Ext.refl gG⟩|_=>show h4.elim
theorem zlr{op op':CmpOp}{r r':R2}{q:Pr}(ho:eG X (compareOp op) r)(hp:bA X.K cA p (r2 r))(pC:eG X (compareOp op') r')(Sv:bA X.K cA q (r2 r'))(ha:SE X cA aq aj F EX a A)(hb:SE X cA aq aj F EX b B)(hc:SE X cA aq aj F EX c C)(hm:lastMarks [op,op'] [b,c]=false:=by with_unfolding_all rfl) :
  SE X cA aq aj F EX (.Compare a [op,op'] [b,c] pos) (.zA p q A B C):=PE.weak (zhK ho pC ha hb hc hm) λZ H Q hh=>un hh λU J s hL hS h=>by
 show aV hL hS h λx H1 U1 d1 s1 x1 hL1 aG r1 h1=>aV hL1 aG h1 λy H2 U2 d2 s2 x2 hL2 aM r2' h2=>?_;let⟨ds,rs,h3⟩:=uN aM (.cons (r1.mono x2 aG.lz) (.cons r2' .nil)) h2;show Fj (hp U2 H2 ds _ _ aM.zs rs (tM (Ee:=eX X.K cA EX Z) aM (h3.bd.imp λt s3 U3 H3 ⟨x3,gG,h4⟩ v rv=>?_)));let⟨k,_,e,h5⟩:=Jw rv h4;show⟨k,e,?_⟩;cases k with
 |false=>show iF (h5.bF gG _ (.d (.bl _)))|true=>
  let oM:=hL2.mono x3 aM.lz;show iT (aV oM gG h5 λz H4 U4 d4 s4 x4 hL4 qY r4 h6=>?_);show Fj (Nq (fz:=true) (U:=U) x4 gG qY (r2'.mono x3 aM.lz) r4 h6 Sv)
theorem zk0(ha:SE X cA aq aj F EX a A):SE X cA aq aj F EX (.UnaryOp .Not a pos) (.not A):=PE.weak (zlq ha) λZ H Q hh=>un hh λU J s hL hS h=>by
 show aV hL hS h λx H1 U1 d1 s1 x1 hL1 aG r1 h1=>?_;let⟨i,_,e,h3⟩:=Jw r1 h1;show⟨i,e,h3.bF aG _ (.d (.bl _))⟩
theorem zmw{op}(ha:SE X cA aq aj F EX a A):SE X cA aq aj F EX (.BoolOp op [a] pos) A:=zll ha
theorem zlw{rest:List Expr}(ha:SE X cA aq aj F EX a A)(hb:SE X cA aq aj F EX (.BoolOp .And (b::rest) pos) B):SE X cA aq aj F EX (.BoolOp .And (a::b::rest) pos) (.and A B):=PE.weak (zmd ha hb) λZ H Q hh=>un hh λU J s hL hS h=>by
 show aV hL hS h λx H1 U1 d1 s1 x1 hL1 aG r1 h1=>?_;let⟨i,_,e,h3⟩:=Jw r1 h1;show⟨i,e,?_⟩;cases i with
 |true=>show iT ⟨U1,J,s1,hL1,aG,h3⟩|false=>show iF (h3.bF aG _ (.d (.bl _)))
theorem znA{rest:List Expr}(ha:SE X cA aq aj F EX a A)(hb:SE X cA aq aj F EX (.BoolOp .Or (b::rest) pos) B):SE X cA aq aj F EX (.BoolOp .Or (a::b::rest) pos) (.or A B):=PE.weak (znu ha hb) λZ H Q hh=>un hh λU J s hL hS h=>by
 show aV hL hS h λx H1 U1 d1 s1 x1 hL1 aG r1 h1=>?_;let⟨i,_,e,h3⟩:=Jw r1 h1;show⟨i,e,?_⟩;cases i with
 |true=>show iT (h3.bF aG _ (.d (.bl _)))|false=>show iF ⟨U1,J,s1,hL1,aG,h3⟩
end
section
variable {X:Cx}{cA:Cl}{aq:Nat->Nat->Bool}{aj:Bool}{F:Fn}{EX:XS}{a b c d e o:Expr}{A B C Dd E' O:E}{pos pp p2 apos:Pos}{es:List Expr}{Xs:Es}{fz:Bool}{p:Pr}{x:Str}
theorem znj(ha:SE X cA aq aj F EX a A)(he:∀whole,isTrue a X.env whole=(do let v <-whole;standAt a.pos;holding [v] (truthy v)):=by intro _;rfl):ST X cA aq aj F EX a A:=PT.weak (zma ha he) λZ H Q hh=>un hh λU J s hL hS h=>by
 show aV hL hS h λx H1 U1 d1 s1 x1 hL1 aG r1 h1=>?_;let h1:Run X.K cA (M.bd (bool d1) M.ret) U1 H1 s1 (λd _ U' H'=>Q d H') (eX X.K cA EX Z):=by
  cases d1 with
  |l n=>show h1|d v=>cases v<;>show h1
 let⟨k,_,e,q⟩:=Jw r1 h1;show⟨k,e,q.bF aG⟩
def zhA{m:M Xv}{g:Bool->Bool}:M.bd (M.bd m λx=>M.bd (bool x) λk=>M.ret (Xv.d (.bl (g k)))) bool=M.bd (M.bd m bool) λk=>M.ret (g k):=by
 rw[gF,gF]
 congr 1
 funext x
 rw[gF];rfl
theorem zmO(ha:ST X cA aq aj F EX a A):ST X cA aq aj F EX (.UnaryOp .Not a pos) (.not A):=PT.weak (zkN ha) λZ H Q hh=>un hh λU J s hL hS h=>by
 let h:Run X.K cA (M.bd (M.bd (ev aq aj F A J) λx=>M.bd (bool x) λk=>M.ret (Xv.d (.bl (!k)))) bool) U H s _ _:=h;rw[zhA (g:=λk=>!k)]at h;show xT hL hS h λk H1 U1 s1 x1 hL1 aG h1=>h1.bF aG
theorem zjQ(ha:ST X cA aq aj F EX a A):SW X cA aq aj F EX (.BoolOp .And [a] pos) A:=ziO ha
theorem zle(ha:ST X cA aq aj F EX a A):SW X cA aq aj F EX (.BoolOp .Or [a] pos) A:=zmm ha
def Yu{m:M Xv}{k:Bool->M Xv}:M.bd (M.bd m λx=>M.bd (bool x) k) bool=M.bd (M.bd m bool) λb=>M.bd (k b) bool:=by
 rw[gF,gF]
 congr 1
 funext x
 rw[gF]
theorem zl8{rest:List Expr}(ha:ST X cA aq aj F EX a A)(hb:SW X cA aq aj F EX (.BoolOp .And (b::rest) pos) B):SW X cA aq aj F EX (.BoolOp .And (a::b::rest) pos) (.and A B):=PW.weak (zmi ha hb) λZ H Q hh=>un hh λU J s hL hS h=>by
 let h:Run X.K cA (M.bd (M.bd (ev aq aj F A J) λx=>M.bd (bool x) λk=>if k=true then ev aq aj F B J else M.ret (Xv.d (.bl false))) bool) U H s _ _:=h;rw[Yu]at h;show xT hL hS h λk H1 U1 s1 x1 hL1 aG h3=>?_;cases k with
 |true=>show iT ⟨U1,J,s1,hL1,aG,h3⟩|false=>show iF (Run.bF aG (a:=false) h3)
theorem zoA{rest:List Expr}(ha:ST X cA aq aj F EX a A)(hb:SW X cA aq aj F EX (.BoolOp .Or (b::rest) pos) B):SW X cA aq aj F EX (.BoolOp .Or (a::b::rest) pos) (.or A B):=PW.weak (zoP ha hb) λZ H Q hh=>un hh λU J s hL hS h=>by
 let h:Run X.K cA (M.bd (M.bd (ev aq aj F A J) λx=>M.bd (bool x) λk=>if k=true then M.ret (Xv.d (.bl true)) else ev aq aj F B J) bool) U H s _ _:=h;rw[Yu]at h;show xT hL hS h λk H1 U1 s1 x1 hL1 aG h3=>?_;cases k with
 |true=>show iT (Run.bF aG (a:=true) h3)|false=>show iF ⟨U1,J,s1,hL1,aG,h3⟩
theorem zpF(h:SW X cA aq aj F EX a A):ST X cA aq aj F EX a A:=Kac h
def ziG:(M.bd m λx=>M.bd (bool x) k)=M.bd (M.bd m bool) k:=by rw[gF]
theorem zlg(hc:ST X cA aq aj F EX c C)(ha:SE X cA aq aj F EX a A)(hb:SE X cA aq aj F EX b B):SE X cA aq aj F EX (.IfExp c a b pos) (.ite C A B):=PE.weak (zhc hc ha hb) λZ H Q hh=>un hh λU J s hL hS h=>by
 let h:Run X.K cA (M.bd (ev aq aj F C J) λx=>M.bd (bool x) λk=>if k=true then ev aq aj F A J else ev aq aj F B J) U H s _ _:=h;rw[ziG]at h;show xT hL hS h λk H1 U1 s1 x1 hL1 aG h3=>?_;cases k with
 |true=>show iT ⟨U1,J,s1,hL1,aG,h3⟩|false=>show iF ⟨U1,J,s1,hL1,aG,h3⟩
theorem Yv:∀(Xs:Es) (J:Vs) (s:S) (ds:List Xv) (s':S),evs aq aj F Xs J s=some (.ok ds,s')->ds.length=Es.len Xs
 |.nil,J,s,ds,s',h=>by cases h;rfl|.cons a r,J,s,ds,s',h=>by
  let h:M.bd (ev aq aj F a J) (λx=>M.bd (evs aq aj F r J) λxs=>M.ret (x::xs)) s=some (.ok ds,s'):=h;unfold M.bd at h;cases e1:ev aq aj F a J s with
  |none=>rw[e1]at h;cases h|some q=>
   let⟨q,s1⟩:=q;rw[e1]at h;cases q with
   |er c f=>cases h|ok d=>
    dsimp only at h;cases e2:evs aq aj F r J s1 with
    |none=>rw[e2]at h;cases h|some q=>
     let⟨q,s2⟩:=q;rw[e2]at h;cases q with
     |er c f=>cases h|ok ds'=>
      cases h;rw[gw,Yv r J s1 ds' _ e2];rfl
def Jx{β:Type}{K:W.Frag}{U:Ph}{H:Hp}{s:S}{Z:L2.St}{J:Vs}{k:List Xv->M β}{P:β->S->Ph->Hp->Prop}(hL:aR K cA U H Z J)(hS:aD K cA U H s)(h:Run K cA (M.bd (evs aq aj F Xs J) k) U H s P (eX K cA EX Z)){Q:List V->Hp->Prop}
  (f:∀x H1 U1 d s1,d.length=Es.len Xs->Ext U H U1 H1->aR K cA U1 H1 Z J->aD K cA U1 H1 s1->aQ K cA U1 H1 d x->Run K cA (k d) U1 H1 s1 P (eX K cA EX Z)->Q x H1):Sq K cA EX (evs aq aj F Xs) Z H Q:=by
 show⟨U,J,s,hL,hS,?_⟩;let h2:=h.bd;unfold Run at h2 ⊢;cases e:evs aq aj F Xs J s with
 |none=>rw[e]at h2;show h2|some r=>
  let⟨r,s1⟩:=r;rw[e]at h2;cases r with
  |er c f=>show h2|ok ds=>
   intro U1 H1 x1 r1 v rv;let⟨_,_,h3⟩:=h2 U1 H1 x1 r1;show f v H1 U1 ds s1 (Yv Xs J s ds s1 e) x1 (hL.mono x1 hS.lz) r1 rv h3
theorem zk8{k}(ha:SA X cA aq aj F EX es Xs)(hz:Es.len Xs<=sizeLine):SE X cA aq aj F EX (.Tuple es k pos) (.tup Xs):=PE.weak (zlo ha) λZ H Q hh=>un hh λU J s hL hS h=>by
 show Jx hL hS h λvs H1 U1 xs s1 hl x1 hL1 aG rv h1=>?_;let⟨ds,e,rs,h2⟩:=Ss rv h1;show⟨by rw[<-rv.len,hl];show hz,λp hp=>?_⟩;show h2 U1 (upd H1 p (.tup vs)) (bw.new hp).ext (aG.grow (bw.new hp)) _ (.d (.tup (TupAt.new (aG.nz hp)) (rs.mono (bw.new hp).ext aG.lz)))
theorem zlC(ha:SA X cA aq aj F EX es Xs)(hz:Es.len Xs<=sizeLine):SE X cA aq aj F EX (.List es pos) (.lst fz Xs):=PE.weak (znc ha) λZ H Q hh=>un hh λU J s hL hS h=>by
 show Jx hL hS h λvs H1 U1 xs s1 hl x1 hL1 aG rv h1=>?_;let⟨ds,e,rs,h2⟩:=Ss rv h1;show⟨by rw[<-rv.len,hl];show hz,λp hp=>Yt aG h2 p vs hp rs⟩
theorem zJ{id:String}{r:List V->Hp->VK->Prop}(hc:cT X (.builtin id) r)(hp:bA X.K cA p r)
  (hg:Gl X x) (hm:X.mg x=none) (hv:bootBuiltins x=some (.builtin id)) (ha:SA X cA aq aj F EX (e::es) Xs) (hn:x≠"__name__":=by decide) (rR:(x==("__debug__" : Str))=false:=by decide)
  (he:starEach (e::es) X.env=(false,eval e X.env)::starEach es X.env:=by rfl) (cQ:(backTo pos (starEach es X.env)).any (·.1)=false:=by rfl):SE X cA aq aj F EX (.Call (.Name x pp) (e::es) [] pos) (.pr fz p Xs):=PE.weak (Xr hc hg hm hv ha hn rR he cQ) λZ H Q hh=>un hh λU J s hL hS h=>
 qj hL hS h λvs H1 U1 ds s1 x1 hL1 aG r1 h1=>by
  let⟨ds,rs,h3⟩:=uN aG r1 h1;show hp U1 H1 ds _ _ aG.zs rs (tM aG h3)
theorem Sw{id:String}{r:List V->Hp->VK->Prop}(hc:cT X (.type id) r)(hp:bA X.K cA p r)
  (hg:Gl X x) (hm:X.mg x=none) (hv:bootBuiltins x=some (.type id)) (ha:SA X cA aq aj F EX (e::es) Xs) (hn:x≠"__name__":=by decide) (rR:(x==("__debug__" : Str))=false:=by decide)
  (he:starEach (e::es) X.env=(false,eval e X.env)::starEach es X.env:=by rfl) (cQ:(backTo pos (starEach es X.env)).any (·.1)=false:=by rfl):SE X cA aq aj F EX (.Call (.Name x pp) (e::es) [] pos) (.pr fz p Xs):=PE.weak (zfo hc hg hm hv ha hn rR he cQ) λZ H Q hh=>un hh λU J s hL hS h=>
 qj hL hS h λvs H1 U1 ds s1 x1 hL1 aG r1 h1=>by
  let⟨ds,rs,h3⟩:=uN aG r1 h1;show hp U1 H1 ds _ _ aG.zs rs (tM aG h3)
theorem zn9(hp:bA X.K cA p (r2 (Q7 X.K)))(ha:SE X cA aq aj F EX a A)(hb:SE X cA aq aj F EX b B)(hs:qN b:=by intro _ _;rfl):SE X cA aq aj F EX (.Subscript a b pos) (.pr true p (.cons A (.cons B .nil))):=PE.weak (znT zm4 ha hb hs) λZ H Q hh=>un hh λU J s hL hS h=>by
 let h:Run X.K cA (M.bd (M.bd (ev aq aj F A J) λx=>M.bd (M.bd (ev aq aj F B J) λy=>M.bd (M.ret []) λz=>M.ret (y::z)) λys=>M.ret (x::ys)) λvs=>M.bd (gJ vs) λds=>cg true (prim p ds)) U H s _ _:=h;simp only[gF]at h;show aV hL hS h λx H1 U1 d1 s1 x1 hL1 aG r1 h1=>aV hL1 aG h1 λy H2 U2 d2 s2 x2 hL2 aM r2' h2=>?_;show Fj (Nq (fz:=true) (U:=U) x2 aG aM r1 r2' h2 hp)
theorem znY(ho:MK X (unaryOp op) r)(hp:bA X.K cA p (λvs H Q=>∃x,vs=[x]/\r x H Q))(ha:SE X cA aq aj F EX a A):SE X cA aq aj F EX (.UnaryOp op a pos) (.pr true p (.cons A .nil)):=PE.weak (Xe ho ha) λZ H Q hh=>un hh λU J s hL hS h=>by
 let h:Run X.K cA (M.bd (M.bd (ev aq aj F A J) λx=>M.bd (M.ret []) λz=>M.ret (x::z)) λvs=>M.bd (gJ vs) λds=>cg true (prim p ds)) U H s _ _:=h;simp only[gF]at h;show aV hL hS h λx H1 U1 d1 s1 x1 hL1 aG r1 h1=>?_;let⟨ds,rs,h3⟩:=uN aG (.cons r1 .nil) h1;let⟨_,e,q⟩:=hp U1 H1 ds _ _ aG.zs rs (tM aG h3);cases e;show q
theorem zk1{j p'}(ha:SE X cA aq aj F EX a A):SE X cA aq aj F EX (.Compare a [.Is] [.Constant .none j p'] pos) (.pr true .tL (.cons A .nil)):=PE.weak (W6 (W4 ha)) λZ H Q hh=>un hh λU J s hL hS h=>by
 let h:Run X.K cA (M.bd (M.bd (ev aq aj F A J) λx=>M.bd (M.ret []) λz=>M.ret (x::z)) λvs=>M.bd (gJ vs) λds=>cg true (prim .tL ds)) U H s _ _:=h;simp only[gF]at h;show aV hL hS h λx H1 U1 d1 s1 x1 hL1 aG r1 h1=>?_;let⟨ds,rs,h3⟩:=uN aG (.cons r1 .nil) h1;cases rs with
 |cons r rs=>cases rs with
  |nil=>
   rename_i d;let h4:=tM aG h3;let q:=h4 H1 _ bw.refl (.bl _);cases d<;>first
    |(let⟨_,_,rfl,_,_⟩:=r;show q)
    |(cases (show Rep _ _ _ _ _ x from r)<;>show q)
theorem zkv{j p'}(ha:SE X cA aq aj F EX a A):SE X cA aq aj F EX (.Compare a [.IsNot] [.Constant .none j p'] pos) (.pr true .qQ (.cons A .nil)):=PE.weak (W6 (W5 ha)) λZ H Q hh=>un hh λU J s hL hS h=>by
 let h:Run X.K cA (M.bd (M.bd (ev aq aj F A J) λx=>M.bd (M.ret []) λz=>M.ret (x::z)) λvs=>M.bd (gJ vs) λds=>cg true (prim .qQ ds)) U H s _ _:=h;simp only[gF]at h;show aV hL hS h λx H1 U1 d1 s1 x1 hL1 aG r1 h1=>?_;let⟨ds,rs,h3⟩:=uN aG (.cons r1 .nil) h1;cases rs with
 |cons r rs=>cases rs with
  |nil=>
   rename_i d;let h4:=tM aG h3;let q:=h4 H1 _ bw.refl (.bl _);cases d<;>first
    |(let⟨_,_,rfl,_,_⟩:=r;show q)
    |(cases (show Rep _ _ _ _ _ x from r)<;>show q)
theorem Yw(q:Pr)(hq:prim q=Ce f)(hh:qX X.K cA EX (λJ=>M.bd (ev aq aj F (.pr true q (.cons A .nil)) J) bool) Z H Q):tE X.K cA EX (ev aq aj F A) Z H λx H1=>Q (f (decide (x=.non))) H1:=un hh λU J s hL hS h=>by
 let h:Run X.K cA (M.bd (M.bd (M.bd (ev aq aj F A J) λx=>M.bd (M.ret []) λz=>M.ret (x::z)) λvs=>M.bd (gJ vs) λds=>cg true (prim q ds)) bool) U H s _ _:=h;simp only[gF]at h;show aV hL hS h λx H1 U1 d1 s1 x1 hL1 aG r1 h1=>?_;let⟨ds,rs,h3⟩:=uN aG (.cons r1 .nil) h1;cases rs with
 |cons r rs=>cases rs with
  |nil=>
   rename_i d;rw[hq]at h3;let h4:Run X.K cA (M.bd (M.ret (Xv.d (.bl (f d.uJ)))) bool) U1 H1 s1 (λd _ U' H'=>Q d H') (eX X.K cA EX Z):=h3;let q:=h4 U1 H1 Ext.refl aG;cases d<;>first
    |(let⟨_,_,rfl,_,_⟩:=r;show q)
    |(cases (show Rep _ _ _ _ _ x from r)<;>show q)
theorem zmX{j p'}(ha:SE X cA aq aj F EX a A):ST X cA aq aj F EX (.Compare a [.Is] [.Constant .none j p'] pos) (.pr true .tL (.cons A .nil)):=PT.weak (Qn (W4 ha)) λZ H Q hh=>by
 let:=Yw .tL (f:=id) rfl hh;let⟨U,J,s,a,b,c⟩:=this;show⟨U,J,s,a,b,c.imp λd s' U' H' k v rv=>⟨_,rfl,k v rv⟩⟩
theorem zkz{j p'}(ha:SE X cA aq aj F EX a A):ST X cA aq aj F EX (.Compare a [.IsNot] [.Constant .none j p'] pos) (.pr true .qQ (.cons A .nil)):=PT.weak (Qn (W5 ha)) λZ H Q hh=>by
 let:=Yw .qQ (f:=not) rfl hh;let⟨U,J,s,a,b,c⟩:=this;show⟨U,J,s,a,b,c.imp λd s' U' H' k v rv=>⟨_,rfl,k v rv⟩⟩
def zgY{K:W.Frag}{U:Ph}{H:Hp}{s:S}{x:Xv}{v:V}{Q:Bool->Hp->Prop}{Ee:Nat->List D->S->Ph->Hp->Prop}(hS:aD K cA U H s)(r:aN K cA U H x v)(h:Run K cA (bool x) U H s (λd _ U' H'=>Q d H') Ee):∃k,v=.bl k/\Q k H:=by
 cases r with
 |l _=>show h.elim|d rv=>cases rv with
  |bl k=>show⟨k,rfl,h U H Ext.refl hS⟩|_=>show h.elim
end
mutual
inductive Is (h:Heap):D->Value->Prop where
 |non:Is h .non .none
 |bl (b:Bool):Is h (.bl b) (.bool b)
 |int (i:Int) (t:Tok):Is h (.int i) (.int i t)
 |str (x:Str) (t:Tok):Is h (.str x) (.str x t)
 |tup {a:Addr} {xs:List D} {its:List Value} (p:h.IsTuple a its.toArray) (r:iK h xs its):Is h (.tup xs) (.ref a)
 |fl {a:Addr} {xs:List D} {its:List Value} (p:h.IsList a its.toArray) (r:iK h xs its):Is h (.fl xs) (.ref a)
 |oth {d:D} {u:Value} (k:kq d=none):Is h d u
inductive iK (h:Heap):List D->List Value->Prop where
 |nil:iK h [] []
 |cons {d:D} {u:Value} {ds:List D} {us:List Value} (a:Is h d u) (r:iK h ds us):iK h (d::ds) (u::us)
end
section
variable {X:Cx}{cA:Cl}{ao:List (Addr×Obj)}{Z:L2.St}{H:Hp}{s:Shared}{U:Ph}{h:Heap}
theorem Sx(I:Inv X ao Z H s){ds:List D}{vs:List V}{us:List Value}(h:aC X.K cA U H ds vs)(r:Vals vs us):iK s.heap ds us:=
 aC.rec (motive_1:=λd v _=>∀{u:Value},RelV v u->Is s.heap d u) (motive_2:=λd v _=>∀{u:List Value},Vals v u->iK s.heap d u) (λr=>by cases r;show .non) (λb _ r=>by cases r;show .bl b) (λi _ r=>by let⟨t,rfl⟩:=r;show .int i t) (λi _ r=>by let⟨t,rfl⟩:=r;show .str i t)
 (λh _ ih _ r=>by
  cases r;let⟨its,rv,ht,_⟩:=I.tuple h.jk;show .tup ht (ih rv))
 (λh _ ih _ r=>by
  cases r;let⟨its,rv,ht,_⟩:=I.list h.sI;show .fl ht.isList (ih rv))
 (λ_ _ _ _=>.oth rfl) (λ_ _ _ _ _=>.oth rfl) (λ_ _ _ _ _=>.oth rfl) (λ_ _ _=>.oth rfl)
 (λr=>by cases r;show .nil)
 (λ_ _ i j _ r=>by
  cases r with
  |cons a b=>show .cons (i a) (j b)) h r
def sJ(I:Inv X ao Z H s){d:D}{v:V}{u:Value}(h:Rep X.K cA U H d v)(r:RelV v u):Is s.heap d u:=by
 cases h with
 |non=>cases r;show .non|bl b=>cases r;show .bl b|int i=>let⟨t,rfl⟩:=r;show .int i t|str i=>let⟨t,rfl⟩:=r;show .str i t|tup h q=>
  cases r;let⟨its,rv,ht,_⟩:=I.tuple h.jk;show .tup ht (Sx I q rv)
 |fl h q=>
  cases r;let⟨its,rv,ht,_⟩:=I.list h.sI;show .fl ht.isList (Sx I q rv)
 |fd _ _=>show .oth rfl|exc _ _=>show .oth rfl|ob _ _=>show .oth rfl|any _=>show .oth rfl
def zK(I:Inv X ao Z H s){d:D}{v:V}{u:Value}(q:Rv X.K cA U H d v)(r:RelV v u):Is s.heap d u:=by
 cases d with
 |fl xs=>
  let⟨a,vs,rfl,sq,rs⟩:=q;cases r;let⟨its,rv,ht,_⟩:=I.list sq;show .fl ht.isList (Sx I rs rv)
 |non=>show sJ I q r|bl b=>show sJ I q r|int b=>show sJ I q r|str b=>show sJ I q r|tup b=>show sJ I q r|fd b c=>show sJ I q r|exc b c=>show sJ I q r|ob b c=>show sJ I q r|any=>show sJ I q r
def iK.len{ds:List D}{us:List Value}(r:iK h ds us):ds.length=us.length:=by
 induction ds generalizing us with
 |nil=>cases r;rfl|cons a d ih=>cases r with|cons _ r=>rw[gw,gw,ih r]
theorem iK.get:∀{ds:List D} {us:List Value} {i:Nat} {d:D},iK h ds us->ds[i]?=some d->∃u,us[i]?=some u/\Is h d u
 |_,_,_,_,.nil,e=>by simp at e|_,_,0,_,.cons h _,e=>by simp at e;subst e;show⟨_,rfl,h⟩|_,_,i+1,d,.cons _ r,e=>by
  let⟨v,a,b⟩:=iK.get (i:=i) (d:=d) r (by simpa using e);show⟨v,by simpa using a,b⟩
def Yx{a:Addr}{is js:Array Value}(p:h.IsTuple a is)(q:h.IsTuple a js):is=js:=by
 let⟨o,e,c,n,d⟩:=p;let⟨o',e',c',n',d'⟩:=q;rw[e]at e';cases e';rw[d]at d';cases d';rfl
def Yy{a:Addr}{is js:Array Value}(p:h.IsList a is)(q:h.IsList a js):is=js:=by
 let⟨o,e,c,n,d⟩:=p;let⟨o',e',c',n',d'⟩:=q;rw[e]at e';cases e';rw[d]at d';cases d';rfl
def Fl{a:Addr}{is js:Array Value}(p:h.IsList a is)(q:h.IsTuple a js):False:=by
 let⟨o,e,c,n,d⟩:=p;let⟨o',e',c',n',d'⟩:=q;rw[e]at e';cases e';rw[c]at c';show absurd c' RQ
theorem Jy{eq:D->D->Option Bool}:∀{xs ys:List D} {b:Bool},b_ eq xs ys=some b->∃e:Nat->Bool,(∀(j:Nat) x y,xs[j]?=some x->ys[j]?=some y->eq x y=some (e j))/\b=((List.range (min xs.length ys.length)).all e&&xs.length==ys.length)
 |[],[],b,h=>by cases h;show⟨λ_=>true,λj x y q=>by simp at q,by simp⟩|[],y::ys,b,h=>by cases h;show⟨λ_=>true,λj x y q=>by simp at q,by simp⟩|x::xs,[],b,h=>by cases h;show⟨λ_=>true,λj x y q r=>by simp at r,by simp⟩|x::xs,y::ys,b,h=>by
  simp only[b_]at h;cases e1:eq x y with
  |none=>rw[e1]at h;cases h|some a=>
   cases e2:b_ eq xs ys with
   |none=>rw[e1,e2]at h;cases h|some c=>
    rw[e1,e2]at h;cases h;let⟨e,h1,h2⟩:=Jy e2;show⟨λj=>match j with|0=>a|j+1=>e j,λj p q r1 r2=>?_,?_⟩
    .cases j with
     |zero=>
      simp at r1 r2;subst r1 r2;show e1
     |succ j=>show h1 j p q (by simpa using r1) (by simpa using r2)
    .rw[h2];simp only[gw,Nat.succ_min_succ,Pu,Aq,GR,Function.comp_def];rw[Bool.and_assoc]
     congr 2
     simp
def tO{n:Nat}{d e:D}(k:kq d=none):bQ n d e=none:=by
 cases n<;>cases d<;>first|cases k;done|(cases e<;>rfl)
def g8{n:Nat}{d e:D}(k:kq e=none):bQ n d e=none:=by
 cases n<;>cases e<;>first|cases k;done|(cases d<;>rfl)
def Sy:∀(n:Nat) {d1 d2:D} {u:Value} {b:Bool},Is h d1 u->Is h d2 u->bQ n d1 d2=some b->b=true:=by
 intro n;let rows:∀(n:Nat),(∀{d1 d2:D} {u:Value} {b:Bool},Is h d1 u->Is h d2 u->bQ n d1 d2=some b->b=true)->∀{xs ys:List D} {is js:List Value} {b:Bool},iK h xs is->iK h ys js->is.toArray=js.toArray->b_ (bQ n) xs ys=some b->b=true:=by
  intro n ih xs ys is js b q1 q2 e hd;let e:is=js:=by simpa using e
  subst e;let⟨e,a1,a2⟩:=Jy (eq:=bQ n) hd;rw[a2];let hl:_=_:=q1.len.trans q2.len.symm;rw[gA];show⟨ju.mpr λj hj=>?_,by rw[hl];simp⟩;let hj:=pA.mp hj;obtain⟨x,hx⟩ : ∃x,_=some x:=⟨_,dz (fD hj (Nat.min_le_left _ _))⟩;obtain⟨y,hy⟩ : ∃y,_=some y:=⟨_,dz (fD hj (Nat.min_le_right _ _))⟩;let⟨v1,e1,p1⟩:=q1.get hx;let⟨v2,e2,p2⟩:=q2.get hy;rw[e1]at e2;cases e2;show ih p1 p2 (a1 j x y hx hy)
 induction n with
 |zero=>
  intro d1 d2 u b r1 r2 hd;cases r1 with
  |oth k=>rw[tO k]at hd;cases hd|non=>cases r2 with
   |oth k=>rw[g8 k]at hd;cases hd|non=>cases hd;rfl
  |bl x=>cases r2 with
   |oth k=>rw[g8 k]at hd;cases hd|bl y=>cases hd;simp
  |int x t=>cases r2 with
   |oth k=>rw[g8 k]at hd;cases hd|int y=>cases hd;simp
  |str x t=>cases r2 with
   |oth k=>rw[g8 k]at hd;cases hd|str y=>cases hd;simp
  |tup p q=>cases r2 with
   |oth k=>rw[g8 k]at hd;cases hd|tup p2 q2=>cases hd|fl p2 q2=>show(Fl p2 p).elim
  |fl p q=>cases r2 with
   |oth k=>rw[g8 k]at hd;cases hd|fl p2 q2=>cases hd|tup p2 q2=>show(Fl p p2).elim
 |succ n ih=>
  intro d1 d2 u b r1 r2 hd;cases r1 with
  |oth k=>rw[tO k]at hd;cases hd|non=>cases r2 with
   |oth k=>rw[g8 k]at hd;cases hd|non=>cases hd;rfl
  |bl x=>cases r2 with
   |oth k=>rw[g8 k]at hd;cases hd|bl y=>cases hd;simp
  |int x t=>cases r2 with
   |oth k=>rw[g8 k]at hd;cases hd|int y=>cases hd;simp
  |str x t=>cases r2 with
   |oth k=>rw[g8 k]at hd;cases hd|str y=>cases hd;simp
  |tup p q=>cases r2 with
   |oth k=>rw[g8 k]at hd;cases hd|tup p2 q2=>show rows n ih q q2 (Yx p p2) hd|fl p2 q2=>show(Fl p2 p).elim
  |fl p q=>cases r2 with
   |oth k=>rw[g8 k]at hd;cases hd|fl p2 q2=>show rows n ih q q2 (Yy p p2) hd|tup p2 q2=>show(Fl p p2).elim
def parts{n:Nat}{A:Around}{xs ys:List D}{is js:List Value}{b:Bool}(r1:iK s.heap xs is)(r2:iK s.heap ys js)(hd:b_ (bQ n) xs ys=some b)
  (ih:∀{d1 d2:D} {u1 u2:Value} {b:Bool},Is s.heap d1 u1->Is s.heap d2 u2->bQ n d1 d2=some b->SeqAt.EqAt A s u1 u2 b) :
  ∃e:Nat->Bool,(∀j (h1:j<is.toArray.size) (h2:j<js.toArray.size),SeqAt.EqAt A s is.toArray[j] js.toArray[j] (e j))/\b=((List.range (min is.toArray.size js.toArray.size)).all e&&is.toArray.size==js.toArray.size):=by
 let⟨e,a1,a2⟩:=Jy hd;let z1:=r1.len;let z2:=r2.len;show⟨e,λj h1 h2=>?_,by simp only[eE,<-z1,<-z2];show a2⟩;simp only[eE]at h1 h2;obtain⟨x,hx⟩ : ∃x,xs[j]?=some x:=⟨_,dz (by rw[z1];show h1)⟩;obtain⟨y,hy⟩ : ∃y,ys[j]?=some y:=⟨_,dz (by rw[z2];show h2)⟩;let⟨u,f1,g1⟩:=r1.get hx;let⟨u',f2,g2⟩:=r2.get hy;let k1:is.toArray[j]=u:=by
  let:=dI.mp f1;simpa using this.2
 let k2:js.toArray[j]=u':=by
  let:=dI.mp f2;simpa using this.2
 rw[k1,k2];show ih g1 g2 (a1 j x y hx hy)
def Yz{A:Around}{l m:Addr}{is js:Array Value}{e:Nat->Bool}{b:Bool}(p1:s.heap.IsList l is)(p2:s.heap.IsList m js)(hu:A.units<cLine)(he:∀j (h1:j<is.size) (h2:j<js.size),SeqAt.EqAt A.in1 s is[j] js[j] (e j))(hb:b=((List.range (min is.size js.size)).all e&&is.size==js.size)):SeqAt.RcAt A s (.ref l) (.ref m) b:=by
 by_cases hz:is.size=js.size
 .let:b=(List.range is.size).all e:=by rw[hb,hz];simp
  rw[this];show SeqAt.RcAt.lists p1 p2 hz hu he
 .let SJ:(is.size != js.size)=true:=by simpa using hz
  let:b=false:=by rw[hb];simp[hz]
  rw[this];show SeqAt.RcAt.lists_lengths p1 p2 SJ hu
def zgx{A:Around}{l m:Addr}{is js:Array Value}{e:Nat->Bool}{b:Bool}(p1:s.heap.IsList l is)(p2:s.heap.IsList m js)(hu:A.units<cLine)(he:∀j (h1:j<is.size) (h2:j<js.size),SeqAt.EqAt A.in1 s is[j] js[j] (e j))(hb:b=((List.range (min is.size js.size)).all e&&is.size==js.size)):SeqAt.RcNeAt A s (.ref l) (.ref m) (!b):=by
 by_cases hz:is.size=js.size
 .let:b=(List.range is.size).all e:=by rw[hb,hz];simp
  rw[this];show SeqAt.RcNeAt.lists p1 p2 hz hu he
 .let SJ:(is.size != js.size)=true:=by simpa using hz
  let:b=false:=by rw[hb];simp[hz]
  rw[this];show SeqAt.RcNeAt.lists_lengths p1 p2 SJ hu
open SeqAt in
def Cw:∀(n:Nat) {A:Around} {d1 d2:D} {u1 u2:Value} {b:Bool},A.units+n<cLine->Is s.heap d1 u1->Is s.heap d2 u2->bQ n d1 d2=some b->SeqAt.EqAt A s u1 u2 b:=by
 intro n
 induction n with
 |zero=>
  intro A d1 d2 u1 u2 b hu r1 r2 hd;let hu:A.units<cLine:=by lia
  cases r1 with
  |oth k=>rw[tO k]at hd;cases hd|non=>cases r2 with
   |oth k=>rw[g8 k]at hd;cases hd|non=>cases hd;show EqAt.same _|bl y=>cases hd;show EqAt.none_bool _|int y t=>cases hd;show EqAt.none_int _ _|str y t=>cases hd;show EqAt.none_str _ _|tup p q=>cases hd;show EqAt.none_tuple p hu|fl p q=>cases hd;show EqAt.none_list p hu
  |bl x=>cases r2 with
   |oth k=>rw[g8 k]at hd;cases hd|non=>cases hd;show EqAt.bool_none _|bl y=>cases hd;show EqAt.bool_bool _ _|int y t=>cases hd;show EqAt.bool_int _ _ _|str y t=>cases hd;show EqAt.bool_str _ _ _|tup p q=>cases hd;show EqAt.bool_tuple _ p hu|fl p q=>cases hd;show EqAt.bool_list _ p hu
  |int x t=>cases r2 with
   |oth k=>rw[g8 k]at hd;cases hd|non=>cases hd;show EqAt.int_none _ _|bl y=>cases hd;show EqAt.int_bool _ _ _|int y t=>cases hd;show EqAt.int_int _ _ _ _|str y t=>cases hd;show EqAt.int_str _ _ _ _|tup p q=>cases hd;show EqAt.int_tuple _ _ p hu|fl p q=>cases hd;show EqAt.int_list _ _ p hu
  |str x t=>cases r2 with
   |oth k=>rw[g8 k]at hd;cases hd|non=>cases hd;show EqAt.str_none _ _|bl y=>cases hd;show EqAt.str_bool _ _ _|int y t=>cases hd;show EqAt.str_int _ _ _ _|str y t=>cases hd;show EqAt.str_str _ _ _ _|tup p q=>cases hd;show EqAt.str_tuple _ _ p hu|fl p q=>cases hd;show EqAt.str_list _ _ p hu
  |tup p q=>cases r2 with
   |oth k=>rw[g8 k]at hd;cases hd|non=>cases hd;show EqAt.tuple_none p hu|bl y=>cases hd;show EqAt.tuple_bool _ p hu|int y t=>cases hd;show EqAt.tuple_int _ _ p hu|str y t=>cases hd;show EqAt.tuple_str _ _ p hu|tup p2 q2=>cases hd|fl p2 q2=>cases hd;show EqAt.tuple_list p p2 hu
  |fl p q=>cases r2 with
   |oth k=>rw[g8 k]at hd;cases hd|non=>cases hd;show EqAt.list_none p hu|bl y=>cases hd;show EqAt.list_bool _ p hu|int y t=>cases hd;show EqAt.list_int _ _ p hu|str y t=>cases hd;show EqAt.list_str _ _ p hu|tup p2 q2=>cases hd;show EqAt.list_tuple p p2 hu|fl p2 q2=>cases hd
 |succ n ih=>
  intro A d1 d2 u1 u2 b Jz r1 r2 hd;let hu:A.units<cLine:=by lia
  let dF:A.in1.units+n<cLine:=by change A.units+1+n<cLine;lia
  cases r1 with
  |oth k=>rw[tO k]at hd;cases hd|non=>cases r2 with
   |oth k=>rw[g8 k]at hd;cases hd|non=>cases hd;show EqAt.same _|bl y=>cases hd;show EqAt.none_bool _|int y t=>cases hd;show EqAt.none_int _ _|str y t=>cases hd;show EqAt.none_str _ _|tup p q=>cases hd;show EqAt.none_tuple p hu|fl p q=>cases hd;show EqAt.none_list p hu
  |bl x=>cases r2 with
   |oth k=>rw[g8 k]at hd;cases hd|non=>cases hd;show EqAt.bool_none _|bl y=>cases hd;show EqAt.bool_bool _ _|int y t=>cases hd;show EqAt.bool_int _ _ _|str y t=>cases hd;show EqAt.bool_str _ _ _|tup p q=>cases hd;show EqAt.bool_tuple _ p hu|fl p q=>cases hd;show EqAt.bool_list _ p hu
  |int x t=>cases r2 with
   |oth k=>rw[g8 k]at hd;cases hd|non=>cases hd;show EqAt.int_none _ _|bl y=>cases hd;show EqAt.int_bool _ _ _|int y t=>cases hd;show EqAt.int_int _ _ _ _|str y t=>cases hd;show EqAt.int_str _ _ _ _|tup p q=>cases hd;show EqAt.int_tuple _ _ p hu|fl p q=>cases hd;show EqAt.int_list _ _ p hu
  |str x t=>cases r2 with
   |oth k=>rw[g8 k]at hd;cases hd|non=>cases hd;show EqAt.str_none _ _|bl y=>cases hd;show EqAt.str_bool _ _ _|int y t=>cases hd;show EqAt.str_int _ _ _ _|str y t=>cases hd;show EqAt.str_str _ _ _ _|tup p q=>cases hd;show EqAt.str_tuple _ _ p hu|fl p q=>cases hd;show EqAt.str_list _ _ p hu
  |@tup a1 xs is p q=>cases r2 with
   |oth k=>rw[g8 k]at hd;cases hd|non=>cases hd;show EqAt.tuple_none p hu|bl y=>cases hd;show EqAt.tuple_bool _ p hu|int y t=>cases hd;show EqAt.tuple_int _ _ p hu|str y t=>cases hd;show EqAt.tuple_str _ _ p hu|@tup a2 ys js p2 q2=>
    by_cases ea:a1=a2
    .subst ea;let:=Sy (n+1) (.tup p q) (.tup p2 q2) hd;subst this;show EqAt.same _
    .obtain⟨e,he,hb⟩:=parts (A:=A.in1) q q2 hd λa b c=>ih dF a b c;rw[hb];show EqAt.of_refs ea (RcAt.tuples p p2 hu he)
   |fl p2 q2=>cases hd;show EqAt.tuple_list p p2 hu
  |@fl a1 xs is p q=>cases r2 with
   |oth k=>rw[g8 k]at hd;cases hd|non=>cases hd;show EqAt.list_none p hu|bl y=>cases hd;show EqAt.list_bool _ p hu|int y t=>cases hd;show EqAt.list_int _ _ p hu|str y t=>cases hd;show EqAt.list_str _ _ p hu|tup p2 q2=>cases hd;show EqAt.list_tuple p p2 hu|@fl a2 ys js p2 q2=>
    by_cases ea:a1=a2
    .subst ea;let:=Sy (n+1) (.fl p q) (.fl p2 q2) hd;subst this;show EqAt.same _
    .obtain⟨e,he,hb⟩:=parts (A:=A.in1) q q2 hd λa b c=>ih dF a b c;show EqAt.of_refs ea (Yz p p2 hu he hb)
end
section
variable {X:Cx}{cA:Cl}{ao:List (Addr×Obj)}{Z:L2.St}{H:Hp}{s:Shared}{U:Ph}{h:Heap}
open SeqAt in
def YB(Jz:A.units+(n+1)<cLine)(r1:Is s.heap d1 u1)(r2:Is s.heap d2 u2)(hd:bQ (n+1) d1 d2=some b):RcAt A s u1 u2 b/\RcNeAt A s u1 u2 (!b):=by
 let hu:A.units<cLine:=by lia
 let dF:A.in1.units+n<cLine:=by change A.units+1+n<cLine;lia
 cases r1 with
 |oth k=>rw[tO k]at hd;cases hd|non=>cases r2 with
  |oth k=>rw[g8 k]at hd;cases hd|non=>cases hd;show⟨RcAt.none_none,RcNeAt.none_none⟩|bl y=>cases hd;show⟨RcAt.none_bool _,RcNeAt.none_bool _⟩|int y t=>cases hd;show⟨RcAt.none_int _ _,RcNeAt.none_int _ _⟩|str y t=>cases hd;show⟨RcAt.none_str _ _,RcNeAt.none_str _ _⟩|tup p q=>cases hd;show⟨RcAt.none_tuple p hu,RcNeAt.none_tuple p hu⟩|fl p q=>cases hd;show⟨RcAt.none_list p hu,RcNeAt.none_list p hu⟩
 |bl x=>cases r2 with
  |oth k=>rw[g8 k]at hd;cases hd|non=>cases hd;show⟨RcAt.bool_none _,RcNeAt.bool_none _⟩|bl y=>cases hd;show⟨RcAt.bool_bool _ _,RcNeAt.bool_bool _ _⟩|int y t=>cases hd;show⟨RcAt.bool_int _ _ _,RcNeAt.bool_int _ _ _⟩|str y t=>cases hd;show⟨RcAt.bool_str _ _ _,RcNeAt.bool_str _ _ _⟩|tup p q=>cases hd;show⟨RcAt.bool_tuple _ p hu,RcNeAt.bool_tuple _ p hu⟩|fl p q=>cases hd;show⟨RcAt.bool_list _ p hu,RcNeAt.bool_list _ p hu⟩
 |int x t=>cases r2 with
  |oth k=>rw[g8 k]at hd;cases hd|non=>cases hd;show⟨RcAt.int_none _ _,RcNeAt.int_none _ _⟩|bl y=>cases hd;show⟨RcAt.int_bool _ _ _,RcNeAt.int_bool _ _ _⟩|int y t=>cases hd;show⟨RcAt.int_int _ _ _ _,RcNeAt.int_int _ _ _ _⟩|str y t=>cases hd;show⟨RcAt.int_str _ _ _ _,RcNeAt.int_str _ _ _ _⟩|tup p q=>cases hd;show⟨RcAt.int_tuple _ _ p hu,RcNeAt.int_tuple _ _ p hu⟩|fl p q=>cases hd;show⟨RcAt.int_list _ _ p hu,RcNeAt.int_list _ _ p hu⟩
 |str x t=>cases r2 with
  |oth k=>rw[g8 k]at hd;cases hd|non=>cases hd;show⟨RcAt.str_none _ _,RcNeAt.str_none _ _⟩|bl y=>cases hd;show⟨RcAt.str_bool _ _ _,RcNeAt.str_bool _ _ _⟩|int y t=>cases hd;show⟨RcAt.str_int _ _ _ _,RcNeAt.str_int _ _ _ _⟩|str y t=>cases hd;show⟨RcAt.str_str _ _ _ _,RcNeAt.str_str _ _ _ _⟩|tup p q=>cases hd;show⟨RcAt.str_tuple _ _ p hu,RcNeAt.str_tuple _ _ p hu⟩|fl p q=>cases hd;show⟨RcAt.str_list _ _ p hu,RcNeAt.str_list _ _ p hu⟩
 |@tup a1 xs is p q=>cases r2 with
  |oth k=>rw[g8 k]at hd;cases hd|non=>cases hd;show⟨RcAt.tuple_none p hu,RcNeAt.tuple_none p hu⟩|bl y=>cases hd;show⟨RcAt.tuple_bool _ p hu,RcNeAt.tuple_bool _ p hu⟩|int y t=>cases hd;show⟨RcAt.tuple_int _ _ p hu,RcNeAt.tuple_int _ _ p hu⟩|str y t=>cases hd;show⟨RcAt.tuple_str _ _ p hu,RcNeAt.tuple_str _ _ p hu⟩|@tup a2 ys js p2 q2=>
   let⟨e,he,hb⟩:=parts (A:=A.in1) q q2 hd λa b c=>Cw n dF a b c;rw[hb];show⟨RcAt.tuples p p2 hu he,RcNeAt.tuples p p2 hu he⟩
  |fl p2 q2=>cases hd;show⟨RcAt.tuple_list p p2 hu,RcNeAt.tuple_list p p2 hu⟩
 |@fl a1 xs is p q=>cases r2 with
  |oth k=>rw[g8 k]at hd;cases hd|non=>cases hd;show⟨RcAt.list_none p hu,RcNeAt.list_none p hu⟩|bl y=>cases hd;show⟨RcAt.list_bool _ p hu,RcNeAt.list_bool _ p hu⟩|int y t=>cases hd;show⟨RcAt.list_int _ _ p hu,RcNeAt.list_int _ _ p hu⟩|str y t=>cases hd;show⟨RcAt.list_str _ _ p hu,RcNeAt.list_str _ _ p hu⟩|tup p2 q2=>cases hd;show⟨RcAt.list_tuple p p2 hu,RcNeAt.list_tuple p p2 hu⟩|@fl a2 ys js p2 q2=>
   let⟨e,he,hb⟩:=parts (A:=A.in1) q q2 hd λa b c=>Cw n dF a b c;show⟨Yz p p2 hu he hb,zgx p p2 hu he hb⟩
def xU(K:W.Frag)(cA:Cl)(f:Bool->Bool):R2:=λx y H Q=>∃U d1 d2 b,Rv K cA U H d1 x/\Rv K cA U H d2 y/\bQ 50 d1 d2=some b/\Q (.bl (f b)) H
def zkO(hu:X.A.units+60<cLine):eG X (compareOp .Eq) (xU X.K cA id):=by
 rintro ao s Z H x y v u Q I rx ry ⟨U,d1,d2,b,r1,r2,hd,q⟩;show(YB (n:=49) gV (zK I r1 rx) (zK I r2 ry) hd).1 X.prog X.w X.xe _ ⟨.bl b,H,I,rfl,q⟩
def zk5(hu:X.A.units+60<cLine):eG X (compareOp .NotEq) (xU X.K cA not):=by
 rintro ao s Z H x y v u Q I rx ry ⟨U,d1,d2,b,r1,r2,hd,q⟩;show(YB (n:=49) gV (zK I r1 rx) (zK I r2 ry) hd).2 X.prog X.w X.xe _ ⟨.bl (!b),H,I,rfl,q⟩
def ziT:∀(n:Nat) {d d' x:D} {u:Value} {b b':Bool},Is h d u->Is h d' u->bQ n d x=some b->bQ n d' x=some b'->b=b':=by
 intro n;let tn:∀{n:Nat} {xs xs':List D} {x:D},(∀ys,x=.tup ys->False)->bQ n (.tup xs) x=bQ n (.tup xs') x:=λ{n xs xs' x} hx=>by
  cases n<;>cases x<;>first|rfl|exact(hx _ rfl).elim
 let ln:∀{n:Nat} {xs xs':List D} {x:D},(∀ys,x=.fl ys->False)->bQ n (.fl xs) x=bQ n (.fl xs') x:=λ{n xs xs' x} hx=>by
  cases n<;>cases x<;>first|rfl|exact(hx _ rfl).elim
 let main:∀{n:Nat},(∀{xs xs' ys:List D} {is js:List Value} {b b':Bool},iK h xs is->iK h xs' js->is.toArray=js.toArray->bQ n (.tup xs) (.tup ys)=some b->bQ n (.tup xs') (.tup ys)=some b'->b=b')->(∀{xs xs' ys:List D} {is js:List Value} {b b':Bool},iK h xs is->iK h xs' js->is.toArray=js.toArray->bQ n (.fl xs) (.fl ys)=some b->bQ n (.fl xs') (.fl ys)=some b'->b=b')->∀{d d' x:D} {u:Value} {b b':Bool},Is h d u->Is h d' u->bQ n d x=some b->bQ n d' x=some b'->b=b':=by
  intro n R L d d' x u b b' r1 r2 h1 h2;cases r1 with
  |oth k=>rw[tO k]at h1;cases h1|non=>cases r2 with
   |oth k=>rw[tO k]at h2;cases h2|non=>rw[h1]at h2;show cU h2
  |bl y=>cases r2 with
   |oth k=>rw[tO k]at h2;cases h2|bl=>rw[h1]at h2;show cU h2
  |int y=>cases r2 with
   |oth k=>rw[tO k]at h2;cases h2|int=>rw[h1]at h2;show cU h2
  |str y=>cases r2 with
   |oth k=>rw[tO k]at h2;cases h2|str=>rw[h1]at h2;show cU h2
  |tup p q=>cases r2 with
   |oth k=>rw[tO k]at h2;cases h2|tup p2 q2=>
    cases x with
    |tup ys=>show R q q2 (Yx p p2) h1 h2|_=>rw[tn (by intro ys z;cases z),h2]at h1;show(cU h1).symm
   |fl p2 q2=>show(Fl p2 p).elim
  |fl p q=>cases r2 with
   |oth k=>rw[tO k]at h2;cases h2|fl p2 q2=>
    cases x with
    |fl ys=>show L q q2 (Yy p p2) h1 h2|_=>rw[ln (by intro ys z;cases z),h2]at h1;show(cU h1).symm
   |tup p2 q2=>show(Fl p p2).elim
 induction n with
 |zero=>
  intro d d' x u b b' r1 r2;show main (n:=0) (λ_ _ _ z=>by cases z) (λ_ _ _ z=>by cases z) r1 r2
 |succ n ih=>
  let rows:∀{xs xs' ys:List D} {is js:List Value} {b b':Bool},iK h xs is->iK h xs' js->is.toArray=js.toArray->b_ (bQ n) xs ys=some b->b_ (bQ n) xs' ys=some b'->b=b':=by
   intro xs xs' ys is js b b' q1 q2 e h1 h2;let e:is=js:=by simpa using e
   subst e;let⟨e1,a1,b1⟩:=Jy h1;let⟨e2,a2,b2⟩:=Jy h2;let hl:xs.length=xs'.length:=q1.len.trans q2.len.symm;rw[b1,b2,hl]
   congr 1
   rw[Bool.eq_iff_iff,ju,ju];let key:∀j∈List.range (min xs'.length ys.length),e1 j=e2 j:=λj hj=>by
    let hj:=pA.mp hj;obtain⟨x1,YC⟩ : ∃x,xs[j]?=some x:=⟨_,dz (by rw[hl];show fD hj (Nat.min_le_left _ _))⟩;obtain⟨x2,M8⟩ : ∃x,xs'[j]?=some x:=⟨_,dz (fD hj (Nat.min_le_left _ _))⟩;obtain⟨y,hy⟩ : ∃y,ys[j]?=some y:=⟨_,dz (fD hj (Nat.min_le_right _ _))⟩;let⟨v1,f1,p1⟩:=q1.get YC;let⟨v2,f2,p2⟩:=q2.get M8;rw[f1]at f2;cases f2;show ih p1 p2 (a1 j x1 y YC hy) (a2 j x2 y M8 hy)
   show⟨λz j hj=>by rw[<-key j hj];show z j hj,λz j hj=>by rw[key j hj];show z j hj⟩
  intro d d' x u b b' r1 r2;show main (n:=n+1) rows rows r1 r2
theorem YD:∀{xs:List D} {b:Bool},memD x xs=some b->∀d∈xs,∃k,bQ 50 d x=some k
 |[],_,_,d,hd=>by cases hd|y::xs,b,h,d,hd=>by
  unfold memD at h;cases e1:bQ 50 y x with
  |none=>simp only[e1]at h;cases h|some a=>
   cases e2:memD x xs with
   |none=>simp only[e1,e2]at h;cases h|some c=>
    rcases iG.mp hd with rfl|hd
    .exact⟨a,e1⟩
    .exact YD e2 d hd
def Nr:∀{xs:List D} {us:List Value} {b:Bool},memD x xs=some b->iK h xs us->∃e:Value->Bool,(∀u∈us,∃d,Is h d u/\bQ 50 d x=some (e u))/\us.any e=b:=by
 intro xs us b hm r;let ex:∀u∈us,∃d k,Is h d u/\bQ 50 d x=some k:=by
  intro u hu;let⟨i,hi,e⟩:=yL hu;let hl:=r.len;obtain⟨d,hd⟩ : ∃d,xs[i]?=some d:=⟨_,dz gV⟩;let⟨u',e1,q⟩:=r.get hd;rw[dz hi,e]at e1;cases e1;let⟨k,hk⟩:=YD hm d (dZ hd);show⟨d,k,q,hk⟩
 show⟨λu=>by classical show if z:∃k,∃d,Is h d u/\bQ 50 d x=some k then z.choose else false,λu hu=>?_,?_⟩
 .obtain⟨d,k,q,hk⟩:=ex u hu;let z:∃k,∃d,Is h d u/\bQ 50 d x=some k:=⟨k,d,q,hk⟩;dsimp only;rw[dif_pos z];show z.choose_spec
 .clear ex;let key:∀(xs:List D) (us:List Value) (b:Bool),memD x xs=some b->iK h xs us->us.any (λu=>by classical show if z:∃k,∃d,Is h d u/\bQ 50 d x=some k then z.choose else false)=b:=by
   intro xs
   induction xs with
   |nil=>intro us b hm r;cases r;cases hm;rfl|cons d ds ih=>
    intro us b hm r;cases r with
    |@cons _ u _ us a r=>
     unfold memD at hm;cases e1:bQ 50 d x with
     |none=>simp only[e1]at hm;cases hm|some k=>
      cases e2:memD x ds with
      |none=>simp only[e1,e2]at hm;cases hm|some c=>
       simp only[e1,e2]at hm;cases hm;rw[List.any_cons];let z:∃k,∃d,Is h d u/\bQ 50 d x=some k:=⟨k,d,a,e1⟩;let hk:z.choose=k:=by
        let⟨d',q,wR⟩:=z.choose_spec;show ziT 50 q a wR e1
       rw[dif_pos z,hk,ih us c e2 r]
  show key xs us b hm r
def xV(K:W.Frag)(cA:Cl)(f:Bool->Bool):R2:=λx y H Q=>∃U d1 d2 xs b,Rv K cA U H d1 x/\Rv K cA U H d2 y/\mX d2=some xs/\memD d1 xs=some b/\Q (.bl (f b)) H
def zmv(hu:X.A.units+60<cLine):eG X (compareOp .In) (xV X.K cA id):=by
 rintro ao s Z H x y v u Q I rx ry ⟨U,d1,d2,xs,b,r1,r2,hq,hm,q⟩;let dF:X.A.in1.units+50<cLine:=by change X.A.units+1+50<cLine;lia
 let i1:=zK I r1 rx;cases zK I r2 ry with
 |tup p r=>
  cases hq;let⟨e,he,hb⟩:=Nr hm r;show SeqAt.in_tupleAt e p (λw hw=>?_) ⟨.bl b,H,I,by rw[<-hb];simp[L2.RelV],q⟩;let⟨d,q1,q2⟩:=he w (by simpa using hw);show Cw 50 dF q1 i1 q2
 |fl p r=>
  cases hq;let⟨e,he,hb⟩:=Nr hm r;show SeqAt.in_listAt e p (λw hw=>?_) ⟨.bl b,H,I,by rw[<-hb];simp[L2.RelV],q⟩;let⟨d,q1,q2⟩:=he w (by simpa using hw);show Cw 50 dF q1 i1 q2
 |oth k=>cases d2<;>cases hq<;>cases k|_=>cases hq
def zjw(hu:X.A.units+60<cLine):eG X (compareOp .NotIn) (xV X.K cA not):=by
 rintro ao s Z H x y v u Q I rx ry ⟨U,d1,d2,xs,b,r1,r2,hq,hm,q⟩;let dF:X.A.in1.units+50<cLine:=by change X.A.units+1+50<cLine;lia
 let i1:=zK I r1 rx;cases zK I r2 ry with
 |tup p r=>
  cases hq;let⟨e,he,hb⟩:=Nr hm r;show SeqAt.notIn_tupleAt e p (λw hw=>?_) ⟨.bl (!b),H,I,by rw[<-hb];simp[L2.RelV],q⟩;let⟨d,q1,q2⟩:=he w (by simpa using hw);show Cw 50 dF q1 i1 q2
 |fl p r=>
  cases hq;let⟨e,he,hb⟩:=Nr hm r;show SeqAt.notIn_listAt e p (λw hw=>?_) ⟨.bl (!b),H,I,by rw[<-hb];simp[L2.RelV],q⟩;let⟨d,q1,q2⟩:=he w (by simpa using hw);show Cw 50 dF q1 i1 q2
 |oth k=>cases d2<;>cases hq<;>cases k|_=>cases hq
end
end Mi
namespace HT
open PySem PyProof.Rows
section
variable {prog:Program}{w:World}{A:Around}{E:Value->Shared->Prop}{s:Shared}
def uO{t b:Addr}{vs ws:List Value}{Q:Value->Shared->Prop}(ht:IsTup s.heap t vs.toArray)(hb:IsTup s.heap b ws.toArray)(hv:vs=[])
  (h1:Q (.ref b) s):wpAny (model prog w) A (binaryOp .Add (.ref t) (.ref b)) Q E s:=by
 let⟨⟨cls,dd,data,sl⟩,ho,hc,n,hd⟩:=id ht;let⟨⟨cls2,dd2,data2,sl2⟩,pR,nG,n2,hd2⟩:=id hb;simp only at hc hd nG hd2;subst hc hd nG hd2;show concat_meets ⟨_,ho,rfl⟩ ⟨_,pR,rfl⟩ noFill_tuple_add seq_tuple_add Pq Pn (Pj _ _)
   (tuple_addW0 t b vs.toArray ws.toArray n n2 dd dd2 sl sl2 (by simp[hv])) ⟨ho,pR,h1⟩
def gH{t sl:Addr}{items:Array Value}{vl vu:Value}{lo hi:Option Int}{Q:Value->Shared->Prop}(ht:IsTup s.heap t items)(hs:s.heap.IsSliceOf sl vl vu .none)(pl:IsPart vl lo)(pu:IsPart vu hi)
  (hw:bT items.size 0 lo=0/\bT items.size items.size hi=items.size) (h:Q (.ref t) s):wpAny (model prog w) A (getItem (.ref t) (.ref sl)) Q E s:=by
 let⟨os,rT,Bs,vO⟩:=id hs;let Im:s.TypeIs (.ref sl) "slice":=⟨os,rT,Bs⟩;unfold getItem
 try with_reducible show pB ?_
 first|refine aB (aJ ?_)|skip
 show aB (wpAny_sequenceKey ht.typeIs J0 ?_);show aB (yI (name:=Str.ofString "__getitem__") ht.typeIs wB
  (wD wB ht.typeIs entry_tuple_getitem ?_ (args_tuple_getitem _ _)))
 change wpAny _ _ (Builtin.Tuple.tupleItemsOf (.ref t) >>= _) _ _ s;show aB (tupleItemsOf_ ht ?_);show aB (GQ Im ?_);rw[if_pos J0];show aB (Xw hs pl pu ?_);let SM:(((bT items.size 0 lo:Nat):Int)==0&&(1:Int)==1&&(bT items.size items.size hi-bT items.size 0 lo)==items.size)=true:=by
  rw[hw.1,hw.2];simp
 change wpAny _ _ (if (((bT items.size 0 lo:Nat):Int)==0&&(1:Int)==1&&(bT items.size items.size hi-bT items.size 0 lo)==items.size)=true then _ else _) _ _ s;rw[if_pos SM];show aB ?_;unfold Builtin.Tuple.tupleIsExact;show aB (GQ ht.typeIs ?_);show aJ ?_;rw[if_pos J0];show aB (yV ?_);show aJ ⟨_,rfl,aJ h⟩
theorem zb1{i:Int}{t:Tok}{Q:Option Int->Shared->Prop}(h:Q (some i) s):wpAny (model prog w) A (Builtin.Slice.slicePartIndex (.int i t)) Q E s:=Q0 (.int i t) h
def zbr{sl:Addr}{t:Tok}{n:Nat}{Q:Int×Int×Nat->Shared->Prop}(hs:s.heap.IsSliceOf sl .none .none (.int (-1) t))
  (h:Q ((n:Int)-1,-1,n) s):wpAny (model prog w) A (Builtin.Slice.sliceApplied (.ref sl) (pure (n:Int))) Q E s:=by
 let⟨os,rT,Bs,vO⟩:=id hs;unfold Builtin.Slice.sliceApplied Builtin.Slice.sliceFields;show aB (aB (kW rT vO (x:=.none) rfl (aB (kW rT vO (x:=.none) rfl (aB (kW rT vO (x:=.int (-1) t) rfl (aJ ?_)))))));show aB (zb1 ?_);change wpAny _ _ (if ((-1:Int)==0)=true then _ else _) _ _ s;rw[if_neg J0];show aB (slicePart_none (aB (slicePart_none (aB (aJ ?_)))));change wpAny _ _ (pure ((n:Int)-1,(-1:Int),Builtin.Slice.slicePlaces ((n:Int)-1) (-1) (-1))) _ _ s;let e:Builtin.Slice.slicePlaces ((n:Int)-1) (-1) (-1)=n:=by
  unfold Builtin.Slice.slicePlaces;rw[if_neg J0];by_cases hn:n=0
  .subst hn;rfl
  .rw[if_pos gV];let:(-(-1:Int))=1:=rfl;rw[this,Int.ediv_one]
   lia
 rw[e];show aJ h
def zhi(xs:Array Value):((List.range xs.size).filterMap λ(m:Nat)=>xs[(((xs.size:Int)-1)+(m:Int) * -1).toNat]?).toArray=xs.toList.reverse.toArray:=by
 let e:∀n,n<=xs.size->(List.range n).filterMap (λ(m:Nat)=>xs[(((xs.size:Int)-1)+(m:Int) * -1).toNat]?)=(xs.toList.reverse).take n:=by
  intro n
  induction n with
  |zero=>intro _;simp|succ n ih=>
   intro hn;let cj:n<xs.toList.reverse.length:=by simp;lia
   rw[List.range_succ,Pz,ih gV,Wx cj]
   congr 1
   let:(((xs.size:Int)-1)+(n:Int) * -1).toNat=xs.size-1-n:=by lia
   simp only[vB,List.filterMap_nil,this];rw[Array.getElem?_eq_getElem gV];simp[List.getElem_reverse]
 rw[e xs.size (bU _),Px RQ]
def iB(ht:IsTup s.heap t items)(hs:s.heap.IsSliceOf sl .none .none (.int (-1) tk))
  (h:Q (.ref s.heap.objs.size) {s with heap:=s.heap.push {cls:=.type "tuple",data:=.seq items.toList.reverse.toArray}})
  (hsz:items.size<=sizeLine):wpAny (model prog w) A (getItem (.ref t) (.ref sl)) Q E s:=by
 let iz:sizeOk (.seq items.toList.reverse.toArray):=by
  change items.toList.reverse.toArray.size<=sizeLine;simpa using hsz
 let⟨os,rT,Bs,vO⟩:=id hs;let Im:s.TypeIs (.ref sl) "slice":=⟨os,rT,Bs⟩;unfold getItem
 try with_reducible show pB ?_
 first|refine aB (aJ ?_)|skip
 show aB (wpAny_sequenceKey ht.typeIs J0 ?_);show aB (yI (name:=Str.ofString "__getitem__") ht.typeIs wB
  (wD wB ht.typeIs entry_tuple_getitem ?_ (args_tuple_getitem _ _)))
 change wpAny _ _ (Builtin.Tuple.tupleItemsOf (.ref t) >>= _) _ _ s;show aB (tupleItemsOf_ ht ?_);show aB (GQ Im ?_);rw[if_pos J0];show aB (zbr hs ?_);change wpAny _ _ (if (((items.size:Int)-1)==0&&(-1:Int)==1&&items.size==items.size)=true then _ else _) _ _ s;rw[if_neg RQ,zhi]
 first
  |exact aB (m:=Builtin.Tuple.tupleExact _) (o_ (aJ ⟨_,rfl,aJ h⟩) iz)
  |exact aB (m:=Builtin.Tuple.tupleExact _) (o_ (aB (aJ (aJ ⟨_,rfl,aJ h⟩))) iz)
  |exact aB (aB (m:=Builtin.Tuple.tupleExact _) (o_ (aJ (aJ ⟨_,rfl,aJ h⟩)) iz))
  |exact aB (aB (m:=Builtin.Tuple.tupleExact _) (o_ (aJ ⟨_,rfl,aJ h⟩) iz))
end
end HT
namespace L2
open PySem PySem.Spec PyProof.Rows
section
variable {X:Cx}{e:Expr}{te:TE}{pos p2:Pos}
def uP(K:W.Frag):R2:=λx y H Q=>∃a b xs ys,x=.ref a/\y=.ref b/\gD K H a xs/\gD K H b ys/\xs.length+ys.length<=sizeLine /\
 (xs=[]->Q (.ref b) H)/\(ys=[]->Q (.ref a) H)/\∀p,H p=none->Q (.ref p) (upd H p (.tup (xs++ys)))
def uQ:eG X (binaryOp .Add) (uP X.K):=by
 intro ao s Z H x y v u Q I rx ry h;let⟨a,b,xs,ys,rfl,rfl,ha,hb,hz,q0,q1,q2⟩:=h;cases rx;cases ry;let⟨its,r1,p1,_⟩:=I.tuple ha;let⟨its2,r2,p2,_⟩:=I.tuple hb;by_cases hx:xs=[]
 .exact HT.uO p1 p2 (r1.mR.mpr hx) ⟨.ref b,H,I,rfl,q0 hx⟩
 .refine HT.w6 p1 p2 (λz=>hx (r1.mR.mp z)) (λz=>⟨.ref a,H,I,rfl,q1 (r2.mR.mp z)⟩) (λz=>?_) (by rw[<-r1.length,<-r2.length];show hz);show⟨.ref s.heap.objs.size,_,I.laid (t':=s.toks) (o:=.tup (xs++ys)) (λb ob q=>bW _ q) (bU _) ?_,rfl,q2 _ (I.hok.fresh (bU _))⟩;show⟨by rw[dJ];show hz,_,r1.append r2,IsTup.new _ _⟩
def zL(K:W.Frag):V->Option Int->Option Int->Hp->VK->Prop:=λx lo hi H Q=>∃a xs,x=.ref a/\gD K H a xs /\
 ((HT.bT xs.length 0 lo=0/\HT.bT xs.length xs.length hi=xs.length)->Q (.ref a) H)/\∀p,H p=none->Q (.ref p) (upd H p (.tup (mQ xs lo hi)))
def zko:xr X (zL X.K):=by
 intro ao s Z H x v vl vu lo hi sl Q I rx hs pl pu h;let⟨a,xs,rfl,hx,hw,q⟩:=h;by_cases hz:HT.bT xs.length 0 lo=0/\HT.bT xs.length xs.length hi=xs.length
 .cases rx;let⟨its,r,ht,_⟩:=I.tuple hx;let hlen:its.toArray.size=xs.length:=by rw[eE];show r.length.symm
  show⟨"tuple",_,wB.lookup,ht.typeIs,?_⟩;show HT.gH ht hs pl pu (by rw[hlen];show hz) ⟨.ref a,H,I,rfl,hw hz⟩
 .exact zlj ao s Z H (.ref a) v vl vu lo hi sl Q I rx hs pl pu ⟨a,xs,rfl,hx,hz,q⟩
def zlV(he:PE X e te):PE X (.Subscript e (.Slice none none (some (.UnaryOp .USub (.Constant (.int 1) j p3) p4)) p2) pos) (λZ H Q=>te Z H λx H1=>∃a xs,x=.ref a/\gD X.K H1 a xs/\∀p,H1 p=none->Q (.ref p) (upd H1 p (.tup xs.reverse))):=by
 intro ao s Z H Q I h;show Subscript_ (aO (he ao s Z H _ I h) λv s1 hz=>?_);let⟨x,H1,I1,r1,a,xs,ex,hx,q⟩:=hz;subst ex;cases r1;show wpAny_Slice ?_;rw[evalPart_none];show aJ (aJ ?_);rw[evalPart_some];show aO (Xe (r:=rU λi=>.int (-i)) Xf W3 ao s1 Z H1 (λv H'=>v=.int (-1)/\H'=H1) I1 ⟨1,rfl,rfl,rfl⟩) λu s2 hz=>?_;let⟨z,H2,I2,r2,ez,eH⟩:=hz;subst ez eH;let⟨t,rfl⟩:=r2;let⟨its,r,ht,hz⟩:=I2.tuple hx;let I4:Inv X ao Z H2 {s2 with heap:=s2.heap.push {cls:=.type "slice",data:=.fields #[.none,.none,.int (-1) t]}}:=I2.kept (t':=s2.toks) λb ob q=>bW _ q;let⟨its,r,ht,hz⟩:=I4.tuple hx;let hlen:its.toArray.size=xs.length:=by rw[eE];show r.length.symm
 change wpAny (model X.prog X.w) X.A (subscriptTail e (.Slice none none (some (.UnaryOp .USub (.Constant (.int 1) j p3) p4)) p2) (.ref a) (.ref s2.heap.objs.size)) (EP X ao Z Q) X.xe {s2 with heap:=s2.heap.push {cls:=.type "slice",data:=.fields #[.none,.none,.int (-1) t]}};show tail_any (ops:=[.ref a,.ref s2.heap.objs.size]) ht.typeIs wB.lookup (HT.iB ht (Heap.IsSliceOf.new ..) ?_ (by rw[hlen];show hz)) (by with_unfolding_all rfl);show⟨.ref _,_,I4.laid (t':=s2.toks) (o:=.tup xs.reverse) (λb ob q=>bW _ q) (bU _) ?_,rfl,q _ (I4.hok.fresh (bU _))⟩;show⟨by rw[List.length_reverse];show hz,_,?_,IsTup.new _ _⟩;let rv:∀{xs:List V} {us:List Value},Vals xs us->Vals xs.reverse us.reverse:=λ{xs us} r=>by
  induction r with
  |nil=>show .nil|cons a b ih=>rw[Lz,Lz];show ih.append (.cons a .nil)
 simpa using rv r
end
section
variable {X:Cx}
def zM(K:W.Frag):R2:=λx y H Q=>∃l b xs zs,x=.ref l/\y=.ref b/\cP K H l xs/\cP K H b zs/\xs.length+zs.length<=sizeLine/\∀p,H p=none->Q (.ref p) (upd H p (.lst (xs++zs)))
def xW:eG X (binaryOp .Add) (zM X.K):=by
 intro ao s Z H x y v u Q I rx ry h;let⟨l,b,xs,zs,rfl,rfl,hH,hB,hz,q⟩:=h;cases rx;cases ry;let⟨its,r,pl,_⟩:=I.list hH;let⟨its2,r2,pl2,_⟩:=I.list hB;let⟨⟨cls,dd,data,sl⟩,ho,hc,n,hd⟩:=pl.isList;let⟨⟨cls2,dd2,data2,sl2⟩,pR,nG,n2,hd2⟩:=pl2.isList;simp only at hc hd nG hd2;subst hc hd nG hd2;show concat_meets ⟨_,ho,rfl⟩ ⟨_,pR,rfl⟩ noFill_list_add seq_list_add PySem.F.slot_list_add PySem.F.entry_list_add (PySem.F.args_list_add_2 _ _) (list_addW l b its.toArray its2.toArray n n2 dd dd2 sl sl2 (by rw[eE,eE,<-r.length,<-r2.length];show hz)) ⟨ho,pR,?_⟩;let ea:its.toArray++its2.toArray=(its++its2).toArray:=by simp
 rw[ea];show⟨.ref _,_,I.Ra (t':=s.toks) (r.append r2) (by rw[dJ];omega),rfl,q _ I.fresh⟩
def qZ(K:W.Frag):R2:=λx y H Q=>pO (λi j=>.int (i+j)) x y H Q\/zM K x y H Q\/uP K x y H Q\/∃i j,x=.str i/\y=.str j/\i.length+j.length<=sizeLine/\Q (.str (i++j)) H
theorem zfB:eG X (binaryOp .Add) (qZ X.K):=Bm.or (xW.or (uQ.or ze8))
end
end L2
namespace Mi
open PySem PySem.Spec PyProof.Rows L2
section
variable {K:W.Frag}{cA:Cl}{U:Ph}{H:Hp}{Q:VK}{p:Pr}
def bD.some'{o:Option Rz}(h:bD K cA U H o Q):∃z,o=some z:=by
 cases o with
 |none=>show h.elim|some z=>show⟨z,rfl⟩
theorem bD.of{o:Option Rz}{z:Rz}(h:bD K cA U H o Q)(e:o=some z):bD K cA U H (some z) Q:=e▸h
theorem bD.here{d:D}{v:V}(h:bD K cA U H (some (.dat d)) Q)(r:Rep K cA U H d v):Q v H:=h H v bw.refl r
theorem bD.tup{xs:List D}{vs:List V}{a:Addr}(h:bD K cA U H (some (.dat (.tup xs))) Q)(z:Zt U H)(r:aC K cA U H xs vs)(hp:H a=none):Q (.ref a) (upd H a (.tup vs)):=
 h _ _ (bw.new hp) (.tup (TupAt.new (z.nz hp)) (r.mono (bw.new hp).ext z.lz))
def xR.two{ds:List D}{vs:List V}{d d':D}(h:xR K cA U H [d,d'] vs):∃v v',vs=[v,v']/\Rv K cA U H d v/\Rv K cA U H d' v':=by
 cases h with
 |cons a r=>cases r with
  |cons b r=>cases r;show⟨_,_,rfl,a,b⟩
def xR.one(h:xR K cA U H [d] vs):∃v,vs=[v]/\Rv K cA U H d v:=by
 cases h with
 |cons a r=>cases r;show⟨_,rfl,a⟩
def Rv.int{i:Int}{v:V}(h:Rv K cA U H (.int i) v):v=.int i:=by cases (show Rep K cA U H (.int i) v from h);rfl
def Rv.bl{i:Bool}{v:V}(h:Rv K cA U H (.bl i) v):v=.bl i:=by cases (show Rep K cA U H (.bl i) v from h);rfl
def Rv.str{i:Str}{v:V}(h:Rv K cA U H (.str i) v):v=.str i:=by cases (show Rep K cA U H (.str i) v from h);rfl
def Rv.tup{xs:List D}{v:V}(h:Rv K cA U H (.tup xs) v):∃a vs,v=.ref a/\TupAt K U H a vs/\aC K cA U H xs vs:=by
 cases (show Rep K cA U H (.tup xs) v from h) with
 |tup a r=>show⟨_,_,rfl,a,r⟩
def Rv.sq{d:D}{xs:List D}{v:V}(h:Rv K cA U H d v)(e:mX d=some xs):∃a vs,v=.ref a/\(cP K H a vs\/gD K H a vs)/\aC K cA U H xs vs:=by
 cases d with
 |tup ys=>
  cases e;let⟨a,vs,e,t,r⟩:=Rv.tup h;show⟨a,vs,e,.inr t.jk,r⟩
 |fl ys=>
  cases e;let⟨a,vs,e,l,r⟩:=h;show⟨a,vs,e,.inl l,r⟩
 |_=>cases e
def YF{f:Int->Int->Option D}{ds:List D}{z:Rz}(h:cV f ds=some z):∃i j d,ds=[.int i,.int j]/\f i j=some d/\z=.dat d:=by
 cases ds with
 |nil=>cases h|cons a t=>
 cases a with
 |int i=>
  cases t with
  |nil=>cases h|cons b t=>
  cases b with
  |int j=>
   cases t with
   |cons _ _=>cases h|nil=>
    let⟨d,e1,e2⟩:=mF.mp h;show⟨_,_,d,rfl,e1,e2.symm⟩
  |_=>cases h
 |_=>cases h
def JD{f:Int->Int->Option D}(hp:prim p=cV f){C:Int->Int->Prop}{g:Int->Int->V}(hf:∀i j d,f i j=some d->C i j/\∀U H,Rep K cA U H d (g i j)):bA K cA p (r2 (rI C g)):=by
 intro U H ds vs Q zt rs o;rw[hp]at o;let⟨z,e⟩:=o.some';let⟨i,j,d,rfl,e1,rfl⟩:=YF e;let⟨c,r⟩:=hf i j d e1;let⟨v,v',rfl,r1,r2⟩:=rs.two (ds:=[]);rw[r1.int,r2.int];show⟨_,_,rfl,i,j,rfl,rfl,c,(o.of e).here (r U H)⟩
def Fp{f:Int->Int->D}(hp:prim p=cV λi j=>some (f i j)){g:Int->Int->V}(hf:∀i j U H,Rep K cA U H (f i j) (g i j)):bA K cA p (r2 (pO g)):=by
 intro U H ds vs Q zt rs o;let⟨x,y,e,i,j,a,b,_,q⟩:=JD (K:=K) (cA:=cA) (C:=λ_ _=>True) hp (λi j d e=>⟨trivial,λU H=>by cases e;show hf i j U H⟩) U H ds vs Q zt rs o;show⟨x,y,e,i,j,a,b,q⟩
def JF{α:Type}{c:Prop}[Decidable c]{x y:α}(h:(if c then some x else none)=some y):c/\y=x:=by
 split at h
 .rename_i z;cases h;show⟨z,rfl⟩
 .cases h
theorem zl5:bA K cA .aq (r2 (pO λi j=>.int (i-j))):=Fp (f:=λi j=>.int (i-j)) rfl λi j _ _=>.int _
theorem zmJ:bA K cA .mul (r2 (rI wY λi j=>.int (i*j))):=JD rfl λi j d e=>by let⟨c,rfl⟩:=JF e;show⟨c,λ_ _=>.int _⟩
theorem zkj:bA K cA .fdiv (r2 (rI wX λi j=>.int (i/j))):=JD rfl λi j d e=>by let⟨c,rfl⟩:=JF e;show⟨c,λ_ _=>.int _⟩
theorem zlS:bA K cA .mod (r2 (rI (λ_ j=>0<j) λi j=>.int (i%j))):=JD rfl λi j d e=>by let⟨c,rfl⟩:=JF e;show⟨c,λ_ _=>.int _⟩
theorem zlU:bA K cA .pow (r2 (rI H_ λi j=>.int (i^j.toNat))):=JD rfl λi j d e=>by let⟨c,rfl⟩:=JF e;show⟨c,λ_ _=>.int _⟩
theorem zou:bA K cA .le (r2 (pO λi j=>.bl (decide (i<=j)))):=Fp (f:=λi j=>.bl (decide (i<=j))) rfl λi j _ _=>.bl _
theorem zoR:bA K cA .gt (r2 (pO λi j=>.bl (decide (j<i)))):=Fp (f:=λi j=>.bl (decide (j<i))) rfl λi j _ _=>.bl _
theorem zoJ:bA K cA .ge (r2 (pO λi j=>.bl (decide (j<=i)))):=Fp (f:=λi j=>.bl (decide (j<=i))) rfl λi j _ _=>.bl _
def zmU:bA K cA .neg (λvs H Q=>∃x,vs=[x]/\rU (λi=>.int (-i)) x H Q):=by
 intro U H ds vs Q zt rs o;let⟨z,e⟩:=o.some';let e:qU (λi=>.int (-i)) ds=some z:=e;cases ds with
 |nil=>cases e|cons a t=>
 cases a with
 |int i=>
  cases t with
  |cons _ _=>cases e|nil=>
   cases e;let⟨v,rfl,r1⟩:=rs.one;show⟨_,rfl,_,r1.int,bD.here (o.of rfl) (.int _)⟩
 |_=>cases e
def zod:bA K cA .eq (r2 (xU K cA id)):=by
 intro U H ds vs Q zt rs o;let⟨z,e⟩:=o.some';let e:xO id ds=some z:=e;unfold xO at e;split at e
 .obtain⟨b,e1,e2⟩:=mF.mp e;let⟨v,v',rfl,r1,r2⟩:=rs.two (ds:=[]);subst e2;show⟨_,_,rfl,U,_,_,b,r1,r2,e1,(o.of e).here (.bl _)⟩
 .cases e
def zoa:bA K cA .ne (r2 (xU K cA not)):=by
 intro U H ds vs Q zt rs o;let⟨z,e⟩:=o.some';let e:xO not ds=some z:=e;unfold xO at e;split at e
 .obtain⟨b,e1,e2⟩:=mF.mp e;let⟨v,v',rfl,r1,r2⟩:=rs.two (ds:=[]);subst e2;show⟨_,_,rfl,U,_,_,b,r1,r2,e1,(o.of e).here (.bl _)⟩
 .cases e
def YG{f:Bool->Bool}{ds:List D}{z:Rz}(h:vQ f ds=some z):∃a b xs k,ds=[a,b]/\mX b=some xs/\memD a xs=some k/\z=.dat (.bl (f k)):=by
 unfold vQ at h;split at h
 .obtain⟨k,e1,e2⟩:=mF.mp h;let⟨xs,e3,e4⟩:=vA.mp e1;show⟨_,_,xs,k,rfl,e3,e4,e2.symm⟩
 .cases h
def zoc:bA K cA .inn (r2 (xV K cA id)):=by
 intro U H ds vs Q zt rs o;let⟨z,e⟩:=o.some';let⟨a,b,xs,k,rfl,e1,e2,rfl⟩:=YG (show vQ id ds=some z from e);let⟨v,v',rfl,r1,r2⟩:=rs.two (ds:=[]);show⟨_,_,rfl,U,_,_,xs,k,r1,r2,e1,e2,(o.of e).here (.bl _)⟩
def zla:bA K cA .nin (r2 (xV K cA not)):=by
 intro U H ds vs Q zt rs o;let⟨z,e⟩:=o.some';let⟨a,b,xs,k,rfl,e1,e2,rfl⟩:=YG (show vQ not ds=some z from e);let⟨v,v',rfl,r1,r2⟩:=rs.two (ds:=[]);show⟨_,_,rfl,U,_,_,xs,k,r1,r2,e1,e2,(o.of e).here (.bl _)⟩
theorem Nt:∀{xs:List D} {ns:List Int} {vs:List V},cB xs=some ns->aC K cA U H xs vs->vs=ns.map V.int
 |[],ns,vs,h,r=>by cases h;cases r;rfl|d::xs,ns,vs,h,r=>by
  cases d with
  |int i=>
   simp only[cB,mF]at h;let⟨ns',h1,rfl⟩:=h;cases r with
   |cons a r=>cases a;rw[Nt h1 r];rfl
  |_=>simp[cB]at h
theorem SN:∀(a b:List Int),ltI a b=HT.lexLt a b
 |_,[]=>by cases ‹List Int›<;>rfl|[],_::_=>rfl|x::xs,y::ys=>by
  unfold ltI;rw[SN xs ys,HT.jU]
def zok:bA K cA .lt (r2 λx y H Q=>pO (λi j=>.bl (decide (i<j))) x y H Q\/Ip K x y H Q):=by
 intro U H ds vs Q zt rs o;let⟨z,e⟩:=o.some';let e:Jl ds=some z:=e;unfold Jl at e;split at e
 .cases e;let⟨v,v',rfl,r1,r2⟩:=rs.two (ds:=[]);show⟨_,_,rfl,.inl ⟨_,_,r1.int,r2.int,bD.here (o.of rfl) (.bl _)⟩⟩
 .split at e
  .rename_i a b h1 h2;cases e;let⟨v,v',rfl,r1,r2⟩:=rs.two (ds:=[]);let⟨p,us,rfl,t1,q1⟩:=r1.tup;let⟨p',us',rfl,t2,q2⟩:=r2.tup;let o2:bD K cA U H (some (.dat (.bl (ltI a b)))) Q:=by
    let o3:bD K cA U H (Jl [.tup _,.tup _]) Q:=o;unfold Jl at o3;simp only[h1,h2]at o3;show o3
   show⟨_,_,rfl,.inr ⟨p,p',a,b,rfl,rfl,by rw[<-Nt h1 q1];show t1.jk,by rw[<-Nt h2 q2];show t2.jk,?_⟩⟩;rw[<-SN];show o2.here (.bl _)
  .cases e
 .cases e
def zmb:bA K cA .add (r2 (qZ K)):=by
 intro U H ds vs Q zt rs o;let o:bD K cA U H (Cd ds) Q:=o;cases ds with
 |nil=>show False.elim o|cons a t=>
 cases a with
 |int i=>
  cases t with
  |nil=>show False.elim o|cons b t=>
  cases b with
  |int j=>
   cases t with
   |cons _ _=>show False.elim o|nil=>
    let⟨v,v',rfl,r1,r2⟩:=rs.two (ds:=[]);show⟨_,_,rfl,.inl ⟨_,_,r1.int,r2.int,bD.here o (.int _)⟩⟩
  |_=>show False.elim o
 |tup xs=>
  cases t with
  |nil=>show False.elim o|cons b t=>
  cases b with
  |tup ys=>
   cases t with
   |cons _ _=>show False.elim o|nil=>
    let⟨v,v',rfl,r1,r2⟩:=rs.two (ds:=[]);let⟨p,us,rfl,t1,q1⟩:=r1.tup;let⟨p',us',rfl,t2,q2⟩:=r2.tup;let o:bD K cA U H (if xs.length+ys.length<=sizeLine then some (.dat (.tup (xs++ys))) else none) Q:=o;by_cases hz:xs.length+ys.length<=sizeLine
    .rw[if_pos hz]at o;show⟨_,_,rfl,.inr (.inr (.inl ⟨p,p',us,us',rfl,rfl,t1.jk,t2.jk,by rw[<-q1.len,<-q2.len];show hz,λe=>?_,λe=>?_,λa ha=>o.tup zt (q1.app q2) ha⟩))⟩
     .subst e;cases q1;show o.here (.tup t2 q2)
     .subst e;cases q2;rw[yQ]at o;show o.here (.tup t1 q1)
    .rw[if_neg hz]at o;show o.elim
  |_=>show False.elim o
 |fl xs=>
  cases t with
  |nil=>show False.elim o|cons b t=>
  cases b with
  |fl ys=>
   cases t with
   |cons _ _=>show False.elim o|nil=>
    let⟨v,v',rfl,⟨p,us,rfl,t1,q1⟩,⟨p',us',rfl,t2,q2⟩⟩:=rs.two (ds:=[]);let o:bD K cA U H (if xs.length+ys.length<=sizeLine then some (.nw (xs++ys)) else none) Q:=o;by_cases hz:xs.length+ys.length<=sizeLine
    .rw[if_pos hz]at o;show⟨_,_,rfl,.inr (.inl ⟨p,p',us,us',rfl,rfl,t1,t2,by rw[<-q1.len,<-q2.len];show hz,λa ha=>o a _ ha (q1.app q2)⟩)⟩
    .rw[if_neg hz]at o;show o.elim
  |_=>show False.elim o
 |str x=>
  cases t with
  |nil=>show False.elim o|cons b t=>
  cases b with
  |str y=>
   cases t with
   |cons _ _=>show False.elim o|nil=>
    let⟨v,v',rfl,r1,r2⟩:=rs.two (ds:=[]);let o:bD K cA U H (if x.length+y.length<=sizeLine then some (.dat (.str (x++y))) else none) Q:=o;by_cases hz:x.length+y.length<=sizeLine
    .rw[if_pos hz]at o;show⟨_,_,rfl,.inr (.inr (.inr ⟨_,_,r1.str,r2.str,hz,o.here (.str _)⟩))⟩
    .rw[if_neg hz]at o;show o.elim
  |_=>show False.elim o
 |_=>show False.elim o
def zmn:bA K cA .len (λxs H Q=>∃p ys,xs=[.ref p]/\(cP K H p ys\/gD K H p ys)/\Q (.int ys.length) H):=by
 intro U H ds vs Q zt rs o;let o:bD K cA U H (sE (λxs=>some (.dat (.int xs.length))) ds) Q:=o;unfold sE at o;split at o
 .obtain⟨v,rfl,r1⟩:=rs.one;let⟨z,e⟩:=o.some';let⟨xs,e1,e2⟩:=vA.mp e;let⟨a,us,rfl,sq,q⟩:=r1.sq e1;cases e2;show⟨a,us,rfl,sq,?_⟩;rw[<-q.len];show(o.of e).here (.int _)
 .exact o.elim
def zjE:bA K cA .list (λxs H Q=>∃p ys,xs=[.ref p]/\(cP K H p ys\/gD K H p ys)/\∀l,H l=none->Q (.ref l) (upd H l (.lst ys))):=by
 intro U H ds vs Q zt rs o;let o:bD K cA U H (sE (λxs=>some (.nw xs)) ds) Q:=o;unfold sE at o;split at o
 .obtain⟨v,rfl,r1⟩:=rs.one;let⟨z,e⟩:=o.some';let⟨xs,e1,e2⟩:=vA.mp e;let⟨a,us,rfl,sq,q⟩:=r1.sq e1;cases e2;show⟨a,us,rfl,sq,λl hl=>(o.of e) l us hl q⟩
 .exact o.elim
def zhj:bA K cA .tuple (λxs H Q=>∃p ys,xs=[.ref p]/\((cP K H p ys/\∀l,H l=none->Q (.ref l) (upd H l (.tup ys)))\/(gD K H p ys/\Q (.ref p) H))):=by
 intro U H ds vs Q zt rs o;let o:bD K cA U H (p8 ds) Q:=o;unfold p8 at o;split at o
 .rename_i d _;let⟨v,rfl,r1⟩:=rs.one;cases d with
  |tup xs=>
   let⟨a,us,rfl,t,q⟩:=r1.tup;show⟨a,us,rfl,.inr ⟨t.jk,bD.here o (.tup t q)⟩⟩
  |fl xs=>
   let⟨a,us,rfl,t,q⟩:=r1;show⟨a,us,rfl,.inl ⟨t,λl hl=>bD.tup o zt q hl⟩⟩
  |_=>show o.elim
 .exact o.elim
def zm6:bA K cA .abs (λxs H Q=>∃i,xs=[.int i]/\Q (.int (if i<0 then -i else i)) H):=by
 intro U H ds vs Q zt rs o;let o:bD K cA U H (qU (λi=>.int (if i<0 then -i else i)) ds) Q:=o;cases ds with
 |nil=>show False.elim o|cons a t=>
 cases a with
 |int i=>
  cases t with
  |cons _ _=>show False.elim o|nil=>
   let⟨v,rfl,r1⟩:=rs.one;rw[r1.int];show⟨_,rfl,bD.here o (.int _)⟩
 |_=>show False.elim o
def zkx:bA K cA .rZ (λxs H Q=>(∃i,xs=[.int i]/\Q (.int i) H)\/∃k,xs=[.bl k]/\Q (.int (if k then 1 else 0)) H):=by
 intro U H ds vs Q zt rs o;let o:bD K cA U H (Jm ds) Q:=o;cases ds with
 |nil=>show False.elim o|cons a t=>
 cases a with
 |int i=>
  cases t with
  |cons _ _=>show False.elim o|nil=>
   let⟨v,rfl,r1⟩:=rs.one;rw[r1.int];show .inl ⟨_,rfl,bD.here o (.int _)⟩
 |bl k=>
  cases t with
  |cons _ _=>show False.elim o|nil=>
   let⟨v,rfl,r1⟩:=rs.one;rw[r1.bl];show .inr ⟨_,rfl,bD.here o (.int _)⟩
 |_=>show False.elim o
def zjk:bA K cA .max2 (λxs H Q=>∃i j,xs=[.int i,.int j]/\Q (.int (if j>i then j else i)) H):=by
 intro U H ds vs Q zt rs o;let⟨x,y,e,i,j,rfl,rfl,q⟩:=Fp (K:=K) (cA:=cA) (p:=.max2) (f:=λi j=>.int (if j>i then j else i)) rfl (λi j _ _=>.int _) U H ds vs Q zt rs o;show⟨i,j,e,q⟩
def zjM:bA K cA .min2 (λxs H Q=>∃i j,xs=[.int i,.int j]/\Q (.int (if j<i then j else i)) H):=by
 intro U H ds vs Q zt rs o;let⟨x,y,e,i,j,rfl,rfl,q⟩:=Fp (K:=K) (cA:=cA) (p:=.min2) (f:=λi j=>.int (if j<i then j else i)) rfl (λi j _ _=>.int _) U H ds vs Q zt rs o;show⟨i,j,e,q⟩
def zgd:bA K cA .divmod (λxs H Q=>∃i j,xs=[.int i,.int j]/\wX i j/\∀p,H p=none->Q (.ref p) (upd H p (.tup [.int (i/j),.int (i%j)]))):=by
 intro U H ds vs Q zt rs o;let o:bD K cA U H (cV (λi j=>if 0<j/\j<1073741824 then some (.tup [.int (i/j),.int (i%j)]) else none) ds) Q:=o;let⟨z,e⟩:=o.some';let⟨i,j,d,rfl,e1,rfl⟩:=YF e;let⟨c,rfl⟩:=JF e1;let⟨v,v',rfl,r1,r2⟩:=rs.two (ds:=[]);rw[r1.int,r2.int];show⟨i,j,rfl,c,λp hp=>(o.of e).tup zt (.cons (.int _) (.cons (.int _) .nil)) hp⟩
theorem YH:∀{xs:List D} {bs:List Bool} {vs:List V},eU xs=some bs->aC K cA U H xs vs->vs=bs.map V.bl
 |[],bs,vs,h,r=>by cases h;cases r;rfl|d::xs,bs,vs,h,r=>by
  cases d with
  |bl b=>
   simp only[eU,mF]at h;let⟨bs',h1,rfl⟩:=h;cases r with
   |cons q r=>cases q;rw[YH h1 r];rfl
  |_=>simp[eU]at h
def zn4:bA K cA .ix (r2 (Q7 K)):=by
 intro U H ds vs Q zt rs o;let o:bD K cA U H (R6 ds) Q:=o;unfold R6 at o;split at o
 .rename_i d i _;let⟨v,v',rfl,r1,r2⟩:=rs.two (ds:=[]);let⟨z,e⟩:=o.some';let⟨y,e1,e2⟩:=mF.mp e;let⟨xs,e3,e4⟩:=vA.mp e1;let⟨a,us,rfl,sq,q⟩:=r1.sq e3;let key:∃w,L2.n8 us i=some w/\Rep K cA U H y w:=by
   unfold L2.n8 at *;rw[<-q.len];let⟨j,h1,h2⟩:=vA.mp e4;let⟨w,h3,h4⟩:=q.get h2;show⟨w,by rw[h1];show h3,h4⟩
  let⟨w,hw,jT⟩:=key;subst e2;let q':=(o.of e).here jT;rcases sq with sq|sq
  .exact⟨_,_,rfl,.inl ⟨a,us,i,w,rfl,r2.int,sq,hw,q'⟩⟩
  .exact⟨_,_,rfl,.inr (.inl ⟨a,us,i,w,rfl,r2.int,sq,hw,q'⟩)⟩
 .exact o.elim
def YJ(K:W.Frag):V->Option Int->Option Int->Hp->VK->Prop:=λx lo hi H Q=>Iz K x lo hi H Q\/zL K x lo hi H Q
theorem zmz:xr X (YJ X.K):=xH.or zko
def zjO{d:D}{lo hi:Option Int}{v:V}(zt:Zt U H)(r:Rv K cA U H d v)(o:bD K cA U H (cutD d lo hi) Q):YJ K v lo hi H Q:=by
 cases d with
 |tup xs=>
  let⟨a,us,rfl,t,q⟩:=r.tup;show .inr ⟨a,us,rfl,t.jk,λe=>?_,λp hp=>bD.tup o zt q.cut hp⟩;let hc:cut xs lo hi=xs:=by
   unfold cut;rw[q.len,e.1,e.2,List.drop_zero,Nat.sub_zero,<-q.len,Ef]
  let o:bD K cA U H (some (.dat (.tup (cut xs lo hi)))) Q:=o;rw[hc]at o;show o.here (.tup t q)
 |fl xs=>
  let⟨a,us,rfl,t,q⟩:=r;show .inl ⟨a,us,rfl,t,λp hp=>o p _ hp q.cut⟩
 |_=>show o.elim
end
end Mi
namespace L2
open PySem PySem.Spec PyProof.Rows
section
variable {X:Cx}{ao:List (Addr×Obj)}{Z:St}{H:Hp}{s:Shared}{a:Addr}{y v:V}{u r:Value}{o:Option V}{A:Around}{E:Value->Shared->Prop}
def Inv.big(I:Inv X ao Z H s):sysModules<s.heap.objs.size:=by
 let h:mainGlobals<s.heap.objs.size:=(I.mod.glob.keeps I.bk).lt;show Nat.lt_trans J0 h
theorem zjF(I:Inv X ao Z H s)(mu:Ht (H a))(hs:Heap.SameBut a s.heap h')(he:∃q,h'.get? a=some q)(new:bC X.prog X.w (upd H a ob) h' a ob) :
  Inv X ao Z (upd H a ob) {s with heap:=h',toks:=t'}:=
 I.write (x:=a) (e:=a) mu (.inl rfl) (λb q hb z=>(hs.2 b hb).trans z) he new
end
def Cy(i:Expr):Prop:=∀ov iv,subscripted i false ov iv=operate [ov,iv] (getItem ov iv)
def zks{prog:Program}{w:World}{A:Around}{E:Value->Shared->Prop}{s:Shared}{env:Env}{value slice:Expr}{pos:Pos}{T id:String}{Q:Value->Shared->Prop}
  (hl:typeLookup (.type T) "__getitem__"=pure (some (.builtin id))) (hs:Cy slice)
  (h:wpAny (model prog w) A (eval value env) (λo s₁=>wpAny (model prog w) A (eval slice env) (λi s₂=>s₂.TypeIs o T/\wpAny (model prog w) A (getItem o i) Q E s₂) E s₁) E s) :
  wpAny (model prog w) A (eval (.Subscript value slice pos) env) Q E s:=by
 show Subscript_ (fK h (λo s₁ h₁=>fK h₁ (λi s₂ h₂=>?_) λ_ _ x=>x) λ_ _ x=>x);let⟨hT,h₂⟩:=h₂;unfold subscriptTail;show aB ?_;rw[getitemInPython_of_ne hT.not_modules];show aB (wpAny_specialOf hT hl ?_);let fin:wpAny (model prog w) A (subscripted slice false o i) (λr s₃=>wpAny (model prog w) A (letTemporaryGo value o r >>= λ_=>pure r) Q E s₃) E s₂:=by
  rw[hs o i];show wpAny_operating (fK h₂ (λr s₃ h₃=>aB (wpAny_letTemporaryGo (aJ h₃))) λ_ _ x=>x)
 first
  |exact aJ (aB fin)
  |exact aB (aJ (aB fin))
  |exact aB fin
end L2
namespace Mi
open PySem PySem.Spec PyProof.Rows L2
section
variable {X:Cx}{cA:Cl}{aq:Nat->Nat->Bool}{aj:Bool}{F:Fn}{EX:XS}{a b c d e o:Expr}{A B C Dd E' O:E}{pos pp p2 apos cpos:Pos}{es:List Expr}{Xs:Es}{fz:Bool}{p:Pr}{x:Str}{U:Ph}{H:Hp}{s:S}{lo hi:Option Expr}{Lo Hi:Eo}
def JM(X:Cx)(cA:Cl)(aq:Nat->Nat->Bool)(aj:Bool)(F:Fn)(EX:XS)(oe:Option Expr)(m:Eo):Prop:=
 PO X oe (λZ H Q=>∃U J s,aR X.K cA U H Z J/\aD X.K cA U H s/\Run X.K cA (xQ aq aj F m J) U H s (λi _ U' H'=>Q i H') (eX X.K cA EX Z))
def PO.weak{oe:Option Expr}{t t':TO}(h:PO X oe t)(f:∀Z H Q,t' Z H Q->t Z H Q):PO X oe t':=by
 intro ao s Z H Q I q;show h ao s Z H Q I (f Z H Q q)
theorem znQ:JM X cA aq aj F EX none .no:=PO.weak zjs λZ H Q hh=>un hh λU J s hL hS h=>h.bF hS
theorem zm0(ha:SE X cA aq aj F EX a A):JM X cA aq aj F EX (some a) (.yes A):=PO.weak (zjL ha) λZ H Q hh=>un hh λU J s hL hS h=>by
 show aV hL hS h λx H1 U1 d1 s1 x1 hL1 aG r1 h1=>?_;let⟨i,_,e,h3⟩:=Cv r1 h1;show⟨i,e,h3.bF aG⟩
theorem JV{β:Type}{Z:L2.St}{J:Vs}{m:Eo}{k:Option Int->M β}{P:β->S->Ph->Hp->Prop}(hL:aR X.K cA U H Z J)(hS:aD X.K cA U H s)(h:Run X.K cA (M.bd (xQ aq aj F m J) k) U H s P (eX X.K cA EX Z)){Q:Option Int->Hp->Prop}
  (f:∀i H1 U1 s1,Ext U H U1 H1->aR X.K cA U1 H1 Z J->aD X.K cA U1 H1 s1->Run X.K cA (k i) U1 H1 s1 P (eX X.K cA EX Z)->Q i H1) :
  ∃U J s,aR X.K cA U H Z J/\aD X.K cA U H s/\Run X.K cA (xQ aq aj F m J) U H s (λi _ U' H'=>Q i H') (eX X.K cA EX Z):=
 ⟨U,J,s,hL,hS,h.bd.imp λi s1 U1 H1 ⟨x1,r1,h1⟩=>f i H1 U1 s1 x1 (hL.mono x1 hS.lz) r1 h1⟩
theorem znH(ha:SE X cA aq aj F EX a A)(hl:JM X cA aq aj F EX lo Lo)(hh:JM X cA aq aj F EX hi Hi):SE X cA aq aj F EX (.Subscript a (.Slice lo hi none p2) pos) (.sl fz A Lo Hi):=PE.weak (zho zmz ha hl hh) λZ H Q hh=>un hh λU J s hL hS h=>by
 show aV hL hS h λx H1 U1 d1 s1 x1 hL1 aG r1 h1=>JV hL1 aG h1 λl H2 U2 s2 x2 hL2 aM h2=>JV hL2 aM h2 λu H3 U3 s3 x3 oM gG h3=>?_;let⟨dd,rv,h4⟩:=Nm gG ((r1.mono x2 aG.lz).mono x3 aM.lz) h3;show zjO gG.zs rv (tM gG h4)
theorem zmP(ha:SE X cA aq aj F EX a A):SE X cA aq aj F EX (.Subscript a (.Slice none none (some (.UnaryOp .USub (.Constant (.int 1) j p3) p4)) p2) pos) (.pr true .rev (.cons A .nil)):=PE.weak (zlV ha) λZ H Q hh=>un hh λU J s hL hS h=>by
 let h:Run X.K cA (M.bd (M.bd (ev aq aj F A J) λx=>M.bd (M.ret []) λz=>M.ret (x::z)) λvs=>M.bd (gJ vs) λds=>cg true (prim .rev ds)) U H s _ _:=h;simp only[gF]at h;show aV hL hS h λx H1 U1 d1 s1 x1 hL1 aG r1 h1=>?_;let⟨ds,rs,h3⟩:=uN aG (.cons r1 .nil) h1;let o:bD X.K cA U1 H1 (Cm ds) Q:=tM aG h3;unfold Cm at o;split at o
 .obtain⟨v,e,r⟩:=rs.one;cases e;let⟨ad,us,e2,t,q⟩:=r.tup;subst e2;show⟨ad,us,rfl,t.jk,λp hp=>bD.tup o aG.zs q.rev hp⟩
 .exact o.elim
theorem YK:∀bs:List Bool,(List.range bs.length).all (λi=>(bs[i]?).getD false)=bs.all id
 |[]=>rfl|b::r=>by
  rw[gw,Pu,Aq,GR,Aq];let:=YK r;simp only[Function.comp_def,DP,List.getElem?_cons_zero,Option.getD_some,id];rw[this]
def zgh(hc:X.aj=true):cT X (.builtin "all") (λxs H Q=>∃(p:Addr) (bs:List Bool),xs=[.ref p]/\cP X.K H p (bs.map V.bl)/\Q (.bl (bs.all id)) H):=by
 rintro ao s Z H xs us Q I r ⟨p,bs,e,hp,q⟩;subst e;let⟨u,rfl,ru⟩:=Vals.one r;cases (show u=Value.ref p from ru);let⟨its,rv,pl,hz⟩:=I.list hp;let hl:s.heap.IsList p its.toArray:=pl.isList;let hpn:p≠s.heap.objs.size:=by
  let⟨o,hg,_⟩:=hl;show cR (bK hg)
 show call_all_walk (Ly hl ?_);show⟨_,_,_,_,_,_,λi=>(bs[i]?).getD false,rfl,Walks.list (A:=X.A.in1) (I.ok.hd hc) _ p hpn its.toArray,⟨⟨_,dU _ rfl,rfl,rfl⟩,hl.push _⟩,?_,λh' tk hk=>?_⟩
 .intro i v s' Q' E' hP hQ;let hi:its[i]?=some v:=by simpa using hP
  let hb:∃b,bs[i]?=some b:=by
   let cj:i<its.length:=(dI.mp hi).1;let z:=rv.length;rw[cO]at z;show⟨_,dz gV⟩
  let⟨b,hb⟩:=hb;let⟨u,e1,e2⟩:=rv.get (i:=i) (x:=V.bl b) (by rw[gq,hb];rfl);rw[hi]at e1;cases e1;cases (show v=Value.bool b from e2);let hQ:Q' ((bs[i]?).getD false) s':=hQ;rw[hb]at hQ;show vC hQ
 .let ez:(List.range its.toArray.size).all (λi=>(bs[i]?).getD false)=bs.all id:=by
   let z:=rv.length;rw[cO]at z;rw[eE,<-z];show YK bs
  rw[ez];show⟨.bl (bs.all id),H,I.kept (h':=h') (t':=tk) (old_kept hk),rfl,q⟩
def zmy{K:W.Frag}:bA K cA .all (λxs H Q=>∃(p:Addr) (bs:List Bool),xs=[.ref p]/\cP K H p (bs.map V.bl)/\Q (.bl (bs.all id)) H):=by
 intro U H ds vs Q zt rs o;let o:bD K cA U H (Cg ds) Q:=o;unfold Cg at o;split at o
 .obtain⟨v,rfl,⟨ad,us,rfl,l,q⟩⟩:=rs.one;let⟨z,e⟩:=o.some';let⟨bs,e1,e2⟩:=mF.mp e;subst e2;show⟨ad,bs,rfl,by rw[<-YH e1 q];show l,(o.of e).here (.bl _)⟩
 .exact o.elim
def Nu:Kd->String->Bool
 |.int,"int"=>true|.int,"bool"=>true|.bool,"bool"=>true|.str,"str"=>true|.tuple,"tuple"=>true|.list,"list"=>true|.dict,"dict"=>true|_,_=>false
def uR:Kd->Option Value
 |.int=>some (.type "int")|.bool=>some (.type "bool")|.str=>some (.type "str")|.tuple=>some (.type "tuple")|.list=>some (.type "list")|.dict=>some (.type "dict")|_=>none
def zlx{K:W.Frag}{k:Kd}{cu:Value}(h:uR k=some cu){T:String}(hT:T∈["NoneType","bool","int","str","tuple","list","dict"]):PySem.W.kitOne K (.type T) cu=some (Nu k T):=by
 simp only[iG,List.mem_nil_iff,or_false]at hT;cases k<;>simp only[uR]at h<;>cases h<;>rcases hT with rfl|rfl|rfl|rfl|rfl|rfl|rfl<;>rfl
structure JZ(K:W.Frag)(cA:Cl)(aq:Nat->Nat->Bool):Prop where
 xc:∀c,XC K (cA.a c)
 aq:∀c e,PySem.W.kitOne K (.ref (cA.a c)) (.ref (cA.a e))=some (aq c e)
 su:∀c,PySem.W.kitOne K (.ref (cA.a c)) (.type "ValueError")=some true
def Ft(cA:Cl):Kd->V
 |.cls e=>.ref (cA.a e)|.su=>.ty "ValueError"|.int=>.ty "int"|.bool=>.ty "bool"|.str=>.ty "str"|.tuple=>.ty "tuple"|.list=>.ty "list"|.dict=>.ty "dict"
def zhh(Cs:uR k=none->JZ X.K cA aq) :
  cT X (.builtin "isinstance") (λxs H Q=>∃U d v bb,xs=[v,Ft cA k]/\Rv X.K cA U H d v/\lY aq d k=some bb/\Q (.bl bb) H):=by
 rintro ao sh Z H xs us Q I r ⟨U,d,v,bb,e,rd,hi,q⟩;subst e;let⟨u,w,rfl,ru,SQ⟩:=Vals.two r;let uU:∀tk,EP X ao Z Q (.bool bb) {sh with toks:=tk}:=λtk=>⟨.bl bb,H,I.tok tk,rfl,q⟩;let bt:∀{T:String} {Hh:Heap->Prop},PySem.W.KitX X.K u (.type T) Hh->Hh sh.heap->T∈["NoneType","bool","int","str","tuple","list","dict"]->u≠Value.builtin "__main__.__loader__#opaque"->(∃cu,uR k=some cu/\w=cu/\Nu k T=bb)->wpAny (model X.prog X.w) X.A (PySem.call (.builtin "isinstance") [u,w]) (EP X ao Z Q) X.xe sh:=λ{T Hh} SX hh hT hx ⟨cu,h1,h2,h3⟩=>by
  subst h2 h3;show PySem.W.kia_one SX I.lR hh (zlx h1 hT) hx uU
 let wv:∀cu,uR k=some cu->w=cu:=λcu h=>by
  cases k<;>simp only[uR]at h<;>cases h<;>show SQ
 let fin:∀T,lY aq d k=(match uR k with|some _=>some (Nu k T)|none=>none)->∃cu,uR k=some cu/\w=cu/\Nu k T=bb:=λT h=>by
  rw[hi]at h;cases z:uR k with
  |none=>rw[z]at h;cases h|some cu=>rw[z]at h;cases h;show⟨cu,rfl,wv cu z,rfl⟩
 cases d with
 |non=>
  cases (show Rep X.K cA U H .non v from rd);cases (show u=Value.none from ru);show bt PySem.W.kitx_none trivial RQ (λz=>nomatch z) (fin "NoneType" (by cases k<;>rfl))
 |bl b=>
  cases rd.bl;cases (show u=Value.bool b from ru);show bt PySem.W.kitx_bool trivial RQ (λz=>nomatch z) (fin "bool" (by cases k<;>rfl))
 |int i=>
  cases rd.int;let⟨t,z⟩:=(show ∃t,u=Value.int i t from ru);cases z;show bt PySem.W.kitx_int trivial RQ (λz=>nomatch z) (fin "int" (by cases k<;>rfl))
 |str y=>
  cases rd.str;let⟨t,z⟩:=(show ∃t,u=Value.str y t from ru);cases z;show bt PySem.W.kitx_str trivial RQ (λz=>nomatch z) (fin "str" (by cases k<;>rfl))
 |tup xs=>
  let⟨ad,vs,rfl,h1,h2⟩:=rd.tup;cases (show u=Value.ref ad from ru);let⟨its,_,ht,_⟩:=I.tuple h1.jk;let⟨o,q1,q2,_⟩:=ht;show bt PySem.W.kitx_tuple ⟨o,q1,q2⟩ RQ (λz=>nomatch z) (fin "tuple" (by cases k<;>rfl))
 |fl xs=>
  let⟨ad,vs,rfl,h1,h2⟩:=rd;cases (show u=Value.ref ad from ru);let⟨its,_,ht,_⟩:=I.list h1;let⟨o,q1,q2,_⟩:=ht.isList;show bt PySem.W.kitx_list ⟨o,q1,q2⟩ RQ (λz=>nomatch z) (fin "list" (by cases k<;>rfl))
 |fd ks vs=>
  cases (show Rep X.K cA U H (.fd ks vs) v from rd) with
  |@fd ad kk ii q1 n=>
   cases (show u=Value.ref ad from ru);let⟨_,_,vs,_,o,es',ep,g1,g2,_⟩:=(show bC X.prog X.w H sh.heap ad (.dK [(.inr kk,.int ii)]) from I.hok ad _ q1);show bt PySem.W.kitx_dict ⟨o,g1,g2.1⟩ RQ (λz=>nomatch z) (fin "dict" (by cases k<;>rfl))
 |ob c fs=>cases k<;>cases hi|any=>cases k<;>cases hi|exc c fs=>
  cases (show Rep X.K cA U H (.exc c fs) v from rd) with
  |@exc ad _ _ vs hx rs=>
   cases (show u=Value.ref ad from ru);let hI:∃ox od,PySem.W.InstAt sh.heap ad ox (cA.a c) od:=by
    obtain⟨_,⟨_,_,hx⟩|⟨dx,hx,_,hd,_⟩⟩:=hx
    .obtain⟨⟨oe,vs,g1,g2,g3,g4⟩,_⟩:=(show bC X.prog X.w H sh.heap ad (xK ad (cA.a c) none) from I.hok ad _ hx);show⟨oe,none,g1,g2,by unfold PySem.W.notCls;rw[g4],by rw[g3];trivial⟩
    .obtain⟨⟨oe,vs,g1,g2,g3,g4⟩,_⟩:=(show bC X.prog X.w H sh.heap ad (xK ad (cA.a c) (some dx)) from I.hok ad _ hx);let⟨mA,⟨od,es,ep,e1,c1⟩,_⟩:=(show bC X.prog X.w H sh.heap dx (.xd _) from I.hok dx _ hd);show⟨oe,some od,g1,g2,by unfold PySem.W.notCls;rw[g4],by rw[g3];show e1⟩
   cases k with
   |cls e=>
    cases (show w=Value.ref (cA.a e) from SQ);let z:some (aq c e)=some bb:=hi;cases z;show PySem.W.kia_one (X5 ((Cs rfl).xc c)) I.lR hI ((Cs rfl).aq c e) (λz=>nomatch z) uU
   |su=>
    cases (show w=Value.type "ValueError" from SQ);let z:some true=some bb:=hi;cases z;show PySem.W.kia_one (X5 ((Cs rfl).xc c)) I.lR hI ((Cs rfl).su c) (λz=>nomatch z) uU
   |_=>cases hi
theorem zlb(Cs:uR k=none->JZ X.K cA aq)(hg:Gl X "isinstance")(hm:X.mg "isinstance"=none)(ha:SE X cA aq aj F EX a A)(hk:PE X kx (tC (Ft cA k)))(h1:starEach [a,kx] X.env=(false,eval a X.env)::starEach [kx] X.env:=by rfl)(h2:starEach [kx] X.env=(false,eval kx X.env)::starEach [] X.env:=by rfl)
  (cQ:(backTo pos (starEach [kx] X.env)).any (·.1)=false:=by rfl):SE X cA aq aj F EX (.Call (.Name "isinstance" pp) [a,kx] [] pos) (.lF A k):=PE.weak (Xr (zhh (cA:=cA) (k:=k) Cs) hg hm PyProof.Rows.boot_isinstance (rP ha (rP hk wZ h2) h1) J0 J0 h1 cQ) λZ H Q hh=>un hh λU J s hL hS h=>
 aV hL hS h λv H1 U1 d s1 x1 hL1 aG r1 h1=>by
  change ∃U d' v' bb,[v,Ft cA k]=[v',Ft cA k]/\_;let⟨dd,rv,h2⟩:=Nm aG r1 h1;let⟨bb,e,h3⟩:=Run.m9 h2;show⟨U1,dd,v,bb,rfl,rv,e,h3.bF aG _ (.d (.bl bb))⟩
end
theorem YL(n:Nat):∀is js:List Int,b_ (bQ n) (is.map .int) (js.map .int)=some (decide (is=js))
 |[],[]=>rfl|[],_::_=>rfl|_::_,[]=>rfl|i::is,j::js=>by
  let e:bQ n (.int i) (.int j)=some (i==j):=by cases n<;>rfl
  simp only[iH,b_,YL n is js,e]
  congr 1
  by_cases h:i=j
  .subst h;by_cases h2:is=js<;>simp[h2]
  .simp[h]
def zmI{a b:Kx}:bQ 2 (sH a) (sH b)=some (decide (a=b)):=by
 cases a with
 |non=>cases b<;>rfl|int i=>cases b with
  |int j=>
   change some (i==j)=_;by_cases h:i=j
   .subst h;simp
   .let hn:¬Kx.int i=Kx.int j:=λz=>h (by cases z;rfl);simp[h,hn]
  |_=>rfl
 |row is=>cases b with
  |row js=>
   change b_ (bQ 1) (is.map .int) (js.map .int)=_;rw[YL];by_cases h:is=js
   .subst h;simp
   .let hn:¬Kx.row is=Kx.row js:=λz=>h (by cases z;rfl);simp[h,hn]
  |_=>rfl
def YM{x y:List Kx}:bQ 3 (i_ x) (i_ y)=some (decide (x=y)):=by
 change b_ (bQ 2) (x.map sH) (y.map sH)=_
 induction x generalizing y with
 |nil=>cases y<;>rfl|cons a x ih=>cases y with
  |nil=>rfl|cons b y=>
   simp only[iH,b_,ih,zmI]
   congr 1
   by_cases h:a=b
   .subst h;by_cases h2:x=y<;>simp[h2]
   .simp[h]
theorem YQ:∀{xs:List D} {is:List Int},cB xs=some is->xs=is.map .int
 |[],is,h=>by cases h;rfl|x::r,is,h=>by
  cases x with
  |int i=>
   simp only[cB,mF]at h;let⟨js,h1,rfl⟩:=h;rw[YQ h1];rfl
  |_=>cases h
def zkm{d:D}{k:Kx}(h:uK d=some k):d=sH k:=by
 cases d with
 |non=>cases h;rfl|int i=>cases h;rfl|tup xs=>
  simp only[uK,mF]at h;let⟨js,h1,rfl⟩:=h;rw[YQ h1];rfl
 |_=>cases h
theorem YS:∀{xs:List D} {k:List Kx},Cu xs=some k->xs=k.map sH
 |[],k,h=>by cases h;rfl|x::r,k,h=>by
  unfold Cu at h;cases e1:uK x with
  |none=>simp only[e1]at h;cases h|some a=>cases e2:Cu r with
   |none=>simp only[e1,e2]at h;cases h|some b=>
    simp only[e1,e2]at h;cases h;rw[zkm e1,YS e2];rfl
def zni{d:D}{k:List Kx}(h:kOf d=some k):d=i_ k:=by
 cases d with
 |tup xs=>change D.tup xs=.tup _;rw[YS h]|_=>cases h
def YT:Kx->Nat
 |.row is=>is.length+1|_=>1
def uV:List Kx->Nat
 |[]=>0|x::r=>YT x+uV r
section
variable {prog:Program}{w:World}{A:Around}{E:Value->Shared->Prop}{s:Shared}{h h':Heap}
theorem YW:∀{is:List Int} {us:List Value},iK h (is.map .int) us->ItemsAre (intKind prog w) is us
 |[],us,r=>by cases r;show .nil|i::is,us,r=>by
  cases r with
  |cons a r=>cases a with
   |int i t=>show .cons (by simp[intKind,Value.isInt]) (YW r)|oth k=>cases k
def uW{is:List Int}{a:Value}(x:Is h (.tup (is.map .int)) a):∃b,a=.ref b/\IsTupleKey (intKind prog w) h is b:=by
 cases x with
 |tup p r=>
  let⟨o,e,c,n,d⟩:=p;show⟨_,rfl,o,_,n,e,c,d,by simpa using YW r⟩
 |oth k=>cases k
def zj9{x:Kx}{u:Value}{Q:Int->Shared->Prop}(hu:A.units<cLine)(hx:Is s.heap (sH x) u)(q:Q (Sh x) {s with toks:=s.toks+YT x}):wpAny (model prog w) A (pyHash u) Q E s:=by
 cases x with
 |non=>
  cases hx with
  |non=>show PySem.W.pyHash_slot (T:="NoneType") rfl F.slot_NoneType_hash F.entry_NoneType_hash (F.args_NoneType_hash_1 _) (beq_builtin_none _) (.inr hu) (aB (aJ (aB (wpAny_mkInt (aJ ⟨_,_,rfl,q⟩)))))|oth k=>cases k
 |int i=>
  cases hx with
  |int i t=>show wpAny_pyHash_int q|oth k=>cases k
 |row is=>
  let⟨b,rfl,k⟩:=uW (prog:=prog) (w:=w) hx;show wpAny_pyHash_tuple hu k q
theorem YX{k:List Kx}:∀{r:List Kx} {us:List Value} {b:Array Int} {s:Shared} {Q:Array Int->Shared->Prop},A.units<cLine->iK s.heap (r.map sH) us->(∀b':Array Int,b'.toList=b.toList++r.map Sh->Q b' {s with toks:=s.toks+uV r})->
  wpAny (model prog w) A (forIn us b λx r=>do let h <-pyHash x;pure PUnit.unit;pure (ForInStep.yield (r.push h))) Q E s
 |[],us,b,s,Q,hu,x,q=>by cases x;show aJ (q b RQ)|a::r,us,b,s,Q,hu,x,q=>by
  cases x with
  |cons x1 x2=>
   rw[Ek];show aB (aB (zj9 hu x1 (aB (aJ (aJ ?_)))));show YX (k:=k) hu x2 λb' e=>?_;let:=q b' (by simp[e]);simpa [uV,Nat.add_assoc] using this
def zhm{k:List Kx}{a:Addr}{Q:Int->Shared->Prop}(hu:A.units+1<cLine)(hk:Is s.heap (i_ k) (.ref a))(q:Q (qW k) {s with toks:=s.toks+(uV k+1)}):wpAny (model prog w) A (pyHash (.ref a)) Q E s:=by
 cases hk with
 |oth k=>cases k|tup p r=>
  let⟨o,e,c,n,d⟩:=p;show PySem.W.pyHash_slot (T:="tuple") ⟨_,e,c⟩ F.slot_tuple_hash F.entry_tuple_hash (F.args_tuple_hash_1 _) (beq_builtin_none _) (.inr gV) ?_;change wpAny _ _ (Builtin.Tuple.tupleItemsOf (.ref a) >>= _) _ _ s;show aB (wpAny_tupleItemsOf e d (aB ?_));rw[<-Lw];show YX (A:=A.in1) (k:=k) (show A.units+1<cLine from hu) (by simpa using r) λb hb=>?_;change wpAny _ _ (retInt (Builtin.Tuple.tupleHashOf b.toList)) _ _ _;rw[hb];show aB (wpAny_mkInt (aJ ⟨_,_,rfl,by simpa [Nat.add_assoc,qW] using q⟩))
theorem zhu(ht:∀a xs,h.IsTuple a xs->h'.IsTuple a xs)(hl:∀a xs,h.IsList a xs->h'.IsList a xs){d:D}{u:Value}(x:Is h d u):Is h' d u:=
 Is.rec (motive_1:=λd u _=>Is h' d u) (motive_2:=λd u _=>iK h' d u) .non .bl .int .str (λp _ r=>.tup (ht _ _ p) r) (λp _ r=>.fl (hl _ _ p) r) (λk=>.oth k) .nil (λ_ _ a r=>.cons a r) x
def zhT:∀{n:Nat} {x:Kx} {u:Value} {Q:Bool->Shared->Prop},Is s.heap (sH x) u->Q true s->wpAny (model prog w) A (eqIsQuiet (n+1) u) Q E s:=by
 intro n x u Q hx q;cases x with
 |non=>
  cases hx with
  |non=>rw[eqIsQuiet_byValue _ rfl];show aJ q|oth k=>cases k
 |int i=>
  cases hx with
  |int i t=>rw[eqIsQuiet_byValue _ rfl];show aJ q|oth k=>cases k
 |row is=>
  let⟨b,rfl,k⟩:=uW (prog:=prog) (w:=w) hx;let ty:=k.typeIs;let⟨o,items,m,ho,_,hd,hi⟩:=k;unfold eqIsQuiet;show aB (wpAny_specialOf ty F.slot_tuple_eq.lookup ?_);change wpAny _ A (isInstance (.ref b) (.type "tuple") >>= _) Q E s;show aB (L_ ty isSubtype_tuple_tuple ?_);simp only[Bool.not_true,rH,nO];show aB (rJ ho hd (aB ?_));change wpAny _ A (forIn items _ _) _ E s;rw[<-Lw];show wpAny_forIn_list _ (λl r t=>r.1=none/\t=s/\∀v∈l,carriedByValue v=true) _ (λv l r t z=>?_) (λr t z=>?_) _ _ ⟨rfl,rfl,hi.byValue⟩
  .obtain⟨_,rfl,pW⟩:=z;rw[eqIsQuiet_byValue _ (pW v kO)];show aB (aJ (aJ ⟨rfl,rfl,λy hy=>pW y (g_ _ hy)⟩))
  .obtain⟨r1,r2⟩:=r;let⟨z1,rfl,_⟩:=z;cases z1;show aJ q
def zgo{k:List Kx}{a:Addr}{Q:Bool->Shared->Prop}(hk:Is s.heap (i_ k) (.ref a))(q:Q true s):wpAny (model prog w) A (eqIsQuiet 8 (.ref a)) Q E s:=by
 cases hk with
 |oth k=>cases k|@tup _ _ its p r=>
  let⟨o,ho,c,n,hd⟩:=p;unfold eqIsQuiet;show aB (wpAny_specialOf ⟨_,ho,c⟩ F.slot_tuple_eq.lookup ?_);change wpAny _ A (isInstance (.ref a) (.type "tuple") >>= _) Q E s;show aB (L_ ⟨_,ho,c⟩ isSubtype_tuple_tuple ?_);simp only[Bool.not_true,rH,nO];show aB (rJ ho hd (aB ?_));change wpAny _ A (forIn its.toArray _ _) _ E s;rw[<-Lw];show wpAny_forIn_list _ (λl r t=>r.1=none/\t=s/\∀v∈l,∃x,Is s.heap (sH x) v) _ (λv l r t z=>?_) (λr t z=>?_) _ _ ⟨rfl,rfl,?_⟩
  .obtain⟨_,rfl,pW⟩:=z;let⟨x,hx⟩:=pW v kO;show aB (zhT (n:=6) hx (aJ ⟨rfl,rfl,λy hy=>pW y (g_ _ hy)⟩))
  .obtain⟨r1,r2⟩:=r;let⟨z1,rfl,_⟩:=z;cases z1;show aJ q
  .intro v hv;let:∀{ks:List Kx} {us:List Value},iK s.heap (ks.map sH) us->∀v∈us,∃x,Is s.heap (sH x) v:=λ{ks}=>by
    induction ks with
    |nil=>intro us r v hv;cases r;cases hv|cons y ks ih=>
     intro us r v hv;cases r with
     |cons a r=>
      rcases iG.mp hv with rfl|hv
      .exact⟨y,a⟩
      .exact ih r v hv
   show this r v (by simpa using hv)
end
def jK(prog:Program)(w:World):HeapKind prog w (List Kx) where
 is:=λh k a=>Is h (i_ k) (.ref a)
 hash:=qW
 draws:=λk=>uV k+1
 room:=λA=>A.units+4<cLine
 inj:=λx y=>fG (Sy 3 x y YM)
 keeps:=λ{h h' k a d o es ep} x ho hd hs=>zhu (λb xs ⟨q,e,c,n,z⟩=>⟨q,(hs.2 b λy=>by subst y;rw[ho]at e;cases e;rw[hd]at z;cases z).trans e,c,n,z⟩) (λb xs ⟨q,e,c,n,z⟩=>⟨q,(hs.2 b λy=>by subst y;rw[ho]at e;cases e;rw[hd]at z;cases z).trans e,c,n,z⟩) x
 pyHash:=λhu hk q=>zhm gV hk q
 eqBool:=λ{A E s x y a b Q} hu hx hy q=>Cw 3 (show A.units+3<cLine by lia) hx hy YM _ _ _ _ q
 quiet:=λhk q=>zgo hk q
section
variable {K:W.Frag}{cA:Cl}{U U':Ph}{H H':Hp}{s:S}
theorem TupAt.kh(e:∀a,U'.z a->U.z a){a:Addr}{vs:List V}(h:TupAt K U H a vs):TupAt K U' H a vs:=h.imp (λ⟨p,n⟩=>⟨p,λz=>n (e a z)⟩) id
theorem LstAt.kh(e:∀a,U'.z a->U.z a){a:Addr}{vs:List V}(h:LstAt K U H a vs):LstAt K U' H a vs:=h.imp (λ⟨p,n⟩=>⟨p,λz=>n (e a z)⟩) id
theorem ExcAt.kh(e:∀a,U'.z a->U.z a){a:Addr}{c:Nat}{vs:List V}(h:ExcAt cA U H a c vs):ExcAt cA U' H a c vs:=
 ⟨λz=>h.1 (e a z),h.2.imp id λ⟨dx,p,n,q,l⟩=>⟨dx,p,λz=>n (e dx z),q,l⟩⟩
theorem qe.kh(e:∀a,U'.z a->U.z a){a:Addr}{c:Nat}{vs:List V}(h:qe cA U H a c vs):qe cA U' H a c vs:=⟨λz=>h.1 (e a z),h.2⟩
theorem Rep.kh(e:∀a,U'.z a->U.z a){d:D}{v:V}(h:Rep K cA U H d v):Rep K cA U' H d v:=
 Rep.rec (motive_1:=λd v _=>Rep K cA U' H d v) (motive_2:=λd v _=>aC K cA U' H d v) .non .bl .int .str (λh _ i=>.tup (h.kh e) i) (λh _ i=>.fl (h.kh e) i) (λh n=>.fd h (λz=>n (e _ z))) (λh _ i=>.exc (h.kh e) i) (λh _ i=>.ob (h.kh e) i) .any .nil (λ_ _ i j=>.cons i j) h
theorem aC.kh(e:∀a,U'.z a->U.z a){d:List D}{v:List V}(h:aC K cA U H d v):aC K cA U' H d v:=
 aC.rec (motive_1:=λd v _=>Rep K cA U' H d v) (motive_2:=λd v _=>aC K cA U' H d v) .non .bl .int .str (λh _ i=>.tup (h.kh e) i) (λh _ i=>.fl (h.kh e) i) (λh n=>.fd h (λz=>n (e _ z))) (λh _ i=>.exc (h.kh e) i) (λh _ i=>.ob (h.kh e) i) .any .nil (λ_ _ i j=>.cons i j) h
theorem kZ.kh(e:∀a,U'.z a->U.z a){a:Addr}{o:SO}(h:kZ K cA U H a o):kZ K cA U' H a o:=h.map (λ_ _ q=>q) λ_ _ r=>r.kh e
theorem Rep.zl{d:D}{v:V}(h:Rep K cA U H d v)(l:List Addr):Rep K cA ⟨U.z,l⟩ H d v:=Rep.kh (U:=U) (U':=⟨U.z,l⟩) (λ_ z=>z) h
theorem aC.zl{d:List D}{v:List V}(h:aC K cA U H d v)(l:List Addr):aC K cA ⟨U.z,l⟩ H d v:=aC.kh (U:=U) (U':=⟨U.z,l⟩) (λ_ z=>z) h
theorem kZ.zl{a:Addr}{o:SO}(h:kZ K cA U H a o)(l:List Addr):kZ K cA ⟨U.z,l⟩ H a o:=kZ.kh (U:=U) (U':=⟨U.z,l⟩) (λ_ z=>z) h
def adr(l:List Addr):List Nat->List Addr
 |[]=>[]|n::r=>match l[n]? with
  |some a=>a::adr l r|none=>adr l r
theorem Fw{l:List Addr}:∀{ns:List Nat} {a:Addr},a∈adr l ns->∃n∈ns,l[n]?=some a
 |[],a,h=>by cases h|n::r,a,h=>by
  unfold adr at h;cases e:l[n]? with
  |none=>
   simp only[e]at h;let⟨m,h1,h2⟩:=Fw h;show⟨m,g_ _ h1,h2⟩
  |some b=>
   simp only[e]at h;rcases iG.mp h with rfl|h
   .exact⟨n,kO,e⟩
   .obtain⟨m,h1,h2⟩:=Fw h;show⟨m,g_ _ h1,h2⟩
theorem YZ{s:S}:∀{ns:List Nat} {s0:S} {i n:Nat},jD s ns=some s0->ns[i]?=some n->s0[i]?=s[n]?/\∃o,s[n]?=some o
 |[],s0,i,n,h,e=>by simp at e|m::r,s0,i,n,h,e=>by
  unfold jD at h;cases e1:s[m]? with
  |none=>simp only[e1]at h;cases h|some o=>
   cases e2:jD s r with
   |none=>simp only[e1,e2]at h;cases h|some q=>
    simp only[e1,e2]at h;cases h;cases i with
    |zero=>simp at e;subst e;show⟨by simp[e1],o,e1⟩|succ i=>simpa using YZ e2 (by simpa using e)
theorem Y0{s:S}:∀{ns:List Nat} {s0:S},jD s ns=some s0->s0.length=ns.length
 |[],s0,h=>by cases h;rfl|m::r,s0,h=>by
  unfold jD at h;cases e1:s[m]? with
  |none=>simp only[e1]at h;cases h|some o=>
   cases e2:jD s r with
   |none=>simp only[e1,e2]at h;cases h|some q=>
    simp only[e1,e2]at h;cases h;rw[gw,gw,Y0 e2]
theorem J1{l:List Addr}:∀{ns:List Nat} {i n:Nat},(∀n∈ns,∃a,l[n]?=some a)->ns[i]?=some n->(adr l ns)[i]?=l[n]?
 |[],i,n,_,e=>by simp at e|m::r,i,n,h,e=>by
  let⟨a,ha⟩:=h m kO;unfold adr;simp only[ha];cases i with
  |zero=>simp at e;subst e;simp[ha]|succ i=>simpa using J1 (λn hn=>h n (g_ _ hn)) (by simpa using e)
theorem J2{l:List Addr}:∀{ns:List Nat},(∀n∈ns,∃a,l[n]?=some a)->(adr l ns).length=ns.length
 |[],_=>rfl|m::r,h=>by
  let⟨a,ha⟩:=h m kO;unfold adr;simp only[ha];rw[gw,gw,J2 (λn hn=>h n (g_ _ hn))]
theorem Y4{l:List Addr}(hl:l.Nodup):∀{ns:List Nat},ns.Nodup->(∀n∈ns,∃a,l[n]?=some a)->(adr l ns).Nodup
 |[],_,_=>Al|m::r,hn,h=>by
  let⟨a,ha⟩:=h m kO;unfold adr;simp only[ha];let⟨h1,h2⟩:=wF.mp hn;show wF.mpr ⟨λz=>?_,Y4 hl h2 (λn hn=>h n (g_ _ hn))⟩;let⟨n,q1,q2⟩:=Fw z;let:m=n:=(P_ (dI.mp ha).1 hl).mp (ha.trans q2.symm);show h1 (this▸q1)
theorem Fx{s:S}:∀{ns:List Nat} {s1:S},(cW s ns s1).length=s.length
 |[],s1=>by cases s1<;>rfl|n::r,[]=>rfl|n::r,o::q=>by
  change (cW (s.set n o) r q).length=_;rw[Fx,pJ]
theorem S5{s:S}:∀{ns:List Nat} {s1:S} {m:Nat},m∉ns->(cW s ns s1)[m]?=s[m]?
 |[],s1,m,_=>by cases s1<;>rfl|n::r,[],m,_=>rfl|n::r,o::q,m,h=>by
  change (cW (s.set n o) r q)[m]?=_;rw[S5 (λz=>h (g_ _ z)),qF (λz=>h (by rw[z];show kO))]
theorem Y5{s:S}:∀{ns:List Nat} {s1:S} {i m:Nat} {o:SO},ns.Nodup->ns[i]?=some m->s1[i]?=some o->m<s.length->(cW s ns s1)[m]?=some o
 |[],s1,i,m,o,_,e,_,_=>by simp at e|n::r,[],i,m,o,_,_,e,_=>by simp at e|n::r,q::qs,i,m,o,hn,e1,e2,hm=>by
  change (cW (s.set n q) r qs)[m]?=_;let⟨h1,h2⟩:=wF.mp hn;cases i with
  |zero=>
   simp at e1 e2;subst e1 e2;rw[S5 h1,yJ hm]
  |succ i=>show Y5 h2 (by simpa using e1) (by simpa using e2) (by rw[pJ];show hm)
def zf8:∀{xs:List Xv} {vs:List V} (l0:List Addr) (z:Addr->Prop) (k:Nat),aQ K cA U H xs vs->U.z=z->(∀i n,(locs xs)[i]?=some n->l0[k+i]?=U.l[n]?)->aQ K cA ⟨z,l0⟩ H (dD k xs) vs
 :=by
 intro xs vs l0 z k r0
 induction r0 generalizing k with
 |nil=>show λ_ _=>.nil|@cons x v xs vs a q ih=>
  intro ez h;cases a with
  |d a=>show .cons (.d (a.kh λb hb=>by rw[ez];show hb)) (ih k ez h)|@l n a' a=>
   show .cons (.l ?_) (ih (k+1) ez λi m e=>?_)
   .let:=h 0 n rfl;rw[Nat.add_zero]at this;change l0[k]?=_;rw[this];show a
   .let:=h (i+1) m (by simpa [locs] using e);rw[<-this]
    congr 1
    lia
def zeZ:∀{xs:List Xv} {vs:List V},aQ K cA U H xs vs->∀n∈locs xs,∃a,U.l[n]?=some a
 :=by
 intro xs vs r0
 induction r0 with
 |nil=>show λn h=>by cases h|cons a q ih=>
  intro n h;cases a with
  |d a=>show ih n h|l a=>
   rcases iG.mp h with rfl|h
   .exact⟨_,a⟩
   .exact ih n h
def Y6{xs:List Xv}{U1:Ph}{s0 s1:S}(hS:aD K cA U H s)(hn:(locs xs).Nodup)(ht:∀n∈locs xs,∃a,U.l[n]?=some a)(x:Ext ⟨U.z,adr U.l (locs xs)⟩ H U1 H')(r1:aD K cA U1 H' s1) :
  Ext U H ⟨U1.z,U.l⟩ H'/\aD K cA ⟨U1.z,U.l⟩ H' (cW s (locs xs) s1):=by
 let aq:∀a∈adr U.l (locs xs),a∈U.l:=λa ha=>by let⟨n,_,q⟩:=Fw ha;show dZ q
 let⟨r,er,hr⟩:=x.more;let er:U1.l=adr U.l (locs xs)++r:=er;show⟨⟨⟨[],by simp,by simp⟩,λa h=>x.qg a h,λa h=>x.j8 a h,λa o h t n=>x.frame a o h t λz=>n (aq a z),x.stay⟩,?_⟩;show⟨by rw[Fx];show hS.len,λn o a e1 e2=>?_,hS.uniq,λa ha=>x.qg a (hS.lz a ha),r1.zt⟩;let e2:U.l[n]?=some a:=e2;by_cases dF:n∈locs xs
 .obtain⟨i,hi,ei⟩:=yL dF;let ei:(locs xs)[i]?=some n:=by rw[dz hi,ei]
  let ha:(adr U.l (locs xs))[i]?=some a:=by rw[J1 ht ei];show e2
  let Y7:U1.l[i]?=some a:=by rw[er,nJ (dI.mp ha).1];show ha
  let cj:i<s1.length:=by rw[<-r1.len];show(dI.mp Y7).1
  let hb:=Y5 (s:=s) (s1:=s1) hn ei (dz cj) (by rw[<-hS.len];show(dI.mp e2).1);rw[hb]at e1;cases e1;show kZ.zl (r1.obj i _ a (dz cj) Y7) _
 .rw[S5 dF]at e1;let S6:a∉adr U.l (locs xs):=λz=>by
   let⟨m,q1,q2⟩:=Fw z;let:n=m:=(P_ (dI.mp e2).1 hS.uniq).mp (e2.trans q2.symm);show dF (this▸q1)
  show(hS.obj n o a e1 e2).map (λ_ t q=>x.frame a _ q t S6) λ_ _ r=>Rep.zl ((Rep.zl r _).mono x λa ha=>hS.lz a (aq a ha)) _
def Y8{F:List Xv->M Xv}{xs:List Xv}{vs:List V}{Q:VK}{EE:Nat->List D->Ph->Hp->Prop}(hS:aD K cA U H s)(r:aQ K cA U H xs vs)
  (hE:∀c fs U1 U2 H',U1.z=U2.z->EE c fs U1 H'->EE c fs U2 H')
  (h:Run K cA (cH F xs) U H s (λx _ U' H'=>∀v,aN K cA U' H' x v->Q v H') (λc fs _ U' H'=>EE c fs U' H')) :
  ∃U0 s0,aQ K cA U0 H (dD 0 xs) vs/\aD K cA U0 H s0/\Run K cA (F (dD 0 xs)) U0 H s0 (λx _ U' H'=>∀v,aN K cA U' H' x v->Q v H') (λc fs _ U' H'=>EE c fs U' H'):=by
 unfold Run cH at h;by_cases hn:(locs xs).Nodup
 .simp only[if_pos hn]at h;let ht:=zeZ r;let aq:∀a∈adr U.l (locs xs),a∈U.l:=λa ha=>by let⟨n,_,q⟩:=Fw ha;show dZ q
  cases e0:jD s (locs xs) with
  |none=>simp only[e0]at h|some s0=>
   simp only[e0]at h;show⟨⟨U.z,adr U.l (locs xs)⟩,s0,zf8 _ _ 0 r rfl (λi n e=>by rw[Nat.zero_add];show J1 ht e),?_,?_⟩
   .refine⟨by rw[Y0 e0];show J2 ht,λi o a e1 e2=>?_,Y4 hS.uniq hn ht,λa ha=>hS.lz a (aq a ha),hS.zt⟩;let e2:(adr U.l (locs xs))[i]?=some a:=e2;let hi:i<(locs xs).length:=by rw[<-J2 ht];show(dI.mp e2).1
    let ei:(locs xs)[i]?=some ((locs xs)[i]):=dz hi;rw[J1 ht ei]at e2;rw[(YZ e0 ei).1]at e1;show kZ.zl (hS.obj _ o a e1 e2) _
   .unfold Run;cases e1:F (dD 0 xs) s0 with
    |none=>simp only[e1]at h|some q=>
     let⟨q,s1⟩:=q;simp only[e1]at h;cases q with
     |er c fs=>
      intro U1 H' x r1;let⟨x2,r2⟩:=Y6 (s0:=s0) hS hn ht x r1;show hE c fs ⟨U1.z,U.l⟩ U1 H' rfl (h ⟨U1.z,U.l⟩ H' x2 r2)
     |ok y=>
      intro U1 H' x r1 v rv;let⟨x2,r2⟩:=Y6 (s0:=s0) hS hn ht x r1;cases y with
      |d w=>
       cases rv with
       |d rv=>show h ⟨U1.z,U.l⟩ H' x2 r2 v (.d (Rep.zl rv _))
      |l n=>
       cases rv with
       |@l _ a hl=>
        let⟨rr,er,hr⟩:=x.more;let er:U1.l=adr U.l (locs xs)++rr:=er;cases em:(locs xs)[n]? with
        |some m=>
         simp only[em]at h;show h _ H' x2 r2 _ (.l ?_);change U.l[m]?=some a;let ha:(adr U.l (locs xs))[n]?=U.l[m]?:=J1 ht em;let cj:n<(adr U.l (locs xs)).length:=by rw[J2 ht];show(dI.mp em).1
         rw[er,nJ cj]at hl;rw[<-ha];show hl
        |none=>
         simp only[em]at h;let hge:(adr U.l (locs xs)).length<=n:=by rw[J2 ht];show qD.mp em
         let E_:a∈rr:=by
          rw[er,o8 hge]at hl;show dZ hl
         let S6:a∉U.l:=λz=>by
          let⟨o,eo⟩:=hS.zt a (hS.lz a z);rw[hr a E_]at eo;cases eo
         cases eo:s1[n]? with
         |none=>simp only[eo]at h|some o=>
          simp only[eo]at h;let ho:=r1.obj n o a eo hl;show h ⟨U1.z,U.l++[a]⟩ H' ⟨⟨[a],rfl,by simpa using hr a E_⟩,x2.qg,x2.j8,x2.frame,x2.stay⟩ ?_ _ (.l (by change (U.l++[a])[s.length]?=_;rw[<-hS.len];simp));show⟨by change (U.l++[a]).length=_;rw[dJ,dJ,Fx,hS.len];rfl,λm o' a' e1 e2=>?_,?_,λb hb=>?_,r1.zt⟩
          .let e2:(U.l++[a])[m]?=some a':=e2;by_cases hm:m<s.length
           .rw[nJ (by rw[Fx];show hm)]at e1;rw[nJ (by rw[hS.len];show hm)]at e2;show kZ.zl (r2.obj m o' a' e1 e2) _
           .let tQ:m=s.length:=by
             let z:=(dI.mp e2).1;rw[dJ,hS.len]at z;simp at z
             lia
            subst tQ;rw[o8 (by rw[Fx];show bU _)]at e1;rw[o8 (by rw[hS.len];show bU _)]at e2;simp[Fx]at e1;simp[hS.len]at e2;subst e1 e2;show kZ.zl ho _
          .show (U.l++[a]).Nodup;rw[LC];show⟨hS.uniq,by simp,λb hb c hc e=>?_⟩;simp at hc;subst hc e;show S6 hb
          .let hb:b∈U.l++[a]:=hb;rcases jN.mp hb with z|z
           .exact x2.qg b (hS.lz b z)
           .simp at z;subst z;show r1.lz _ (dZ hl)
 .simp only[if_neg hn]at h
end
section
variable {X:Cx}{cA:Cl}{aq:Nat->Nat->Bool}{aj:Bool}{F:Fn}{EX:XS}{a b c d e o:Expr}{A B C Dd E' O:E}{pos pp p2 apos cpos:Pos}{es:List Expr}{Xs:Es}{fz:Bool}{p:Pr}{x:Str}{U:Ph}{H:Hp}{s:S}
def Nv{K:W.Frag}{β:Type}{x:Xv}{v:V}{k:Nat×List D->M β}{P:β->S->Ph->Hp->Prop}{Ee:Nat->List D->S->Ph->Hp->Prop}(hS:aD K cA U H s)(r:aN K cA U H x v)(h:Run K cA (M.bd (cL x) k) U H s P Ee) :
  ∃n ad xs vs,x=.l n/\v=.ref ad/\s[n]?=some (.lst xs)/\U.l[n]?=some ad/\H ad=some (.lst vs)/\aC K cA U H xs vs/\Run K cA (k (n,xs)) U H s P Ee:=by
 cases r with
 |d _=>show h.elim|@l n ad hl=>
  unfold Run M.bd cL at h;dsimp only at h;cases e:s[n]? with
  |none=>rw[e]at h;show h.elim|some o=>
   rw[e]at h;cases o with
   |lst xs=>
    let⟨vs,q1,q2⟩:=hS.obj n _ _ e hl;show⟨n,ad,xs,vs,rfl,rfl,e,hl,q1,q2,h⟩
   |_=>show h.elim
theorem zkd(ho:SE X cA aq aj F EX o O)(ha:SE X cA aq aj F EX a A)
  (fO:attributeBase o "append" X.env (eval o X.env)=eval o X.env:=by rfl)
  (Bv:((backTo cpos (starEach [a] X.env)).all (λx=>!x.1)&&(backToKw cpos (keywordEach [] X.env)).all (λx=>x.1.isSome)
  &&decide ([a].length+([]:List Keyword).length+(if ([]:List Keyword).isEmpty then 0 else 1)<30))=true:=by rfl)
  (fP:(apos.endLine==cpos.line)=true:=by rfl) (hs:starEach [a] X.env=(false,eval a X.env)::starEach [] X.env:=by rfl) (pU:(backTo cpos (starEach [] X.env)).any (·.1)=false:=by rfl) :
  SE X cA aq aj F EX (.Call (.Attribute o "append" apos) [a] [] cpos) (.push O A):=PE.weak (zow PySem.F.plainAttrs_list PySem.F.slot_list_append PySem.F.type_list_append Rb ho (rP ha wZ hs) fO Bv fP hs pU) λZ H Q hh=>un hh λU J s hL hS h=>by
 show aV hL hS h λx H1 U1 d1 s1 x1 hL1 aG r1 h1=>?_;let⟨n,ad,xs,vs,rfl,rfl,e1,f1,g1,q1,h2⟩:=Nv aG r1 h1;show⟨.inl ⟨rfl,vs,cP.of g1⟩,aV hL1 aG h2 λy H2 U2 d2 s2 x2 hL2 aM r2 h3=>?_⟩;let⟨dd,_,rd,h4⟩:=Nk r2 h3;let⟨n',ad',ys,us,en,ea,e2,f2,g2,q2,h5⟩:=Nv aM (r1.mono x2 aG.lz) h4;cases en;cases ea;by_cases hz:ys.length<sizeLine
 .let h5:Run X.K cA (M.bd (putL n (ys++[dd])) λ_=>M.ret (Xv.d .non)) U2 H2 s2 (λd _ U' H'=>∀v,aN X.K cA U' H' d v->Q v H') (eX X.K cA EX Z):=by
   let h6:Run X.K cA (if ys.length<sizeLine then M.bd (putL n (ys++[dd])) λ_=>M.ret (Xv.d .non) else M.no) U2 H2 s2 (λd _ U' H'=>∀v,aN X.K cA U' H' d v->Q v H') (eX X.K cA EX Z):=h5;rw[if_pos hz]at h6;show h6
  show⟨ad,us,y,rfl,rfl,g2,by rw[<-q2.len];show hz,?_⟩;show h5 U2 _ (Ext.write f2 ⟨_,g2⟩) (aM.write e2 f2 (q2.app (.cons rd .nil))) _ (.d .non)
 .let h6:Run X.K cA (if ys.length<sizeLine then M.bd (putL n (ys++[dd])) λ_=>M.ret (Xv.d .non) else M.no) U2 H2 s2 (λd _ U' H'=>∀v,aN X.K cA U' H' d v->Q v H') (eX X.K cA EX Z):=h5;rw[if_neg hz]at h6;show h6.elim
def zdM{α:Type}{xs:List α}{d:α}(h:xs.getLast?=some d):xs[xs.length-1]?=some d:=by
 rw[List.getLast?_eq_getElem?]at h;show h
def aC.dropLast{K:W.Frag}{ds:List D}{vs:List V}(r:aC K cA U H ds vs):aC K cA U H ds.dropLast vs.dropLast:=by
 rw[List.dropLast_eq_take,List.dropLast_eq_take,r.len];show r.take _
theorem zlE(ho:SE X cA aq aj F EX o O)(fO:attributeBase o "pop" X.env (eval o X.env)=eval o X.env:=by rfl)(fP:(apos.endLine==cpos.line)=true:=by rfl) :
  SE X cA aq aj F EX (.Call (.Attribute o "pop" apos) [] [] cpos) (.pop O):=PE.weak (zln PySem.F.plainAttrs_list PySem.F.slot_list_pop PySem.F.type_list_pop zkQ ho fO fP) λZ H Q hh=>un hh λU J s hL hS h=>by
 show aV hL hS h λx H1 U1 d1 s1 x1 hL1 aG r1 h1=>?_;let⟨n,ad,xs,vs,rfl,rfl,e1,f1,g1,q1,h2⟩:=Nv aG r1 h1;show⟨.inl ⟨rfl,vs,cP.of g1⟩,?_⟩;cases eg:xs.getLast? with
 |none=>simp only[eg]at h2;show h2.elim|some dd=>
  simp only[eg]at h2;let⟨w,hw,jT⟩:=q1.get (zdM eg);rw[q1.len]at hw;show⟨ad,vs,w,rfl,rfl,g1,hw,?_⟩;let x2:Ext U1 H1 U1 (upd H1 ad (.lst vs.dropLast)):=Ext.write f1 ⟨_,g1⟩;show h2 U1 _ x2 (aG.write e1 f1 q1.dropLast) _ (.d (jT.mono x2 aG.lz))
def k_(K:W.Frag)(cA:Cl)(m:List Xv->M Xv):Sp:=λvs H Q E=>∃U xs s,aQ K cA U H xs vs/\aD K cA U H s/\Run K cA (m xs) U H s (λd _ U' H'=>∀v,aN K cA U' H' d v->Q v H') (λc fs _ U' H'=>∀dx,j_ K cA U' H' c fs dx->E (.ref (cA.a c)) dx H')
theorem zkp{K:W.Frag}{U1 U2:Ph}{c:Nat}{fs:List D}{dx:Option Addr}(e:U1.z=U2.z)(h:j_ K cA U2 H c fs dx):j_ K cA U1 H c fs dx:=h.imp id λ⟨d,vs,a,b,c,l,r⟩=>⟨d,vs,a,by rw[e];show b,c,l,r.kh λ_ z=>by rw[<-e];show z⟩
theorem ziU{cm:Bool}{k f:Nat}{fa:Addr}{fd:FuncData}{ps:List Str}(Fo:bZ X.prog X.w X.K X.mg X.base (eN X.prog X.w) cm k fa fd ps (k_ X.K cA (F f)))(iW:cm=true->X.aj=true)(hr:aX k X.A)(hg:Gl X x)(hm:X.mg x=some (.ref fa))(hk:PySem.W.keepIn X.K (.ref fa)=true)(hb:Binds X.K fd ps [])(R:Raises X EX)
  (ha:SA X cA aq aj F EX (e::es) Xs) (rR:(x==("__debug__" : Str))=false:=by decide) (he:starEach (e::es) X.env=(false,eval e X.env)::starEach es X.env:=by rfl) (cQ:(backTo pos (starEach es X.env)).any (·.1)=false:=by rfl) :
  SE X cA aq aj F EX (.Call (.Name x pp) (e::es) [] pos) (.call f Xs):=PE.weak (zhY Fo iW hr hg hm hk hb R ha rR he cQ) λZ H Q hh=>un hh λU J s hL hS h=>
 qj hL hS h λvs H1 U1 ds s1 x1 hL1 aG r1 h1=>by
  let⟨U0,s0,a1,a2,a3⟩:=Y8 (EE:=λc fs U' H'=>∀dx,j_ X.K cA U' H' c fs dx->EX Z (.ref (cA.a c)) dx H') aG r1 (λc fs U1 U2 H' ez z dx q=>z dx (zkp ez q)) h1;show⟨U0,_,s0,a1,a2,a3⟩
end
section
variable {K:W.Frag}{cA:Cl}{U U':Ph}{H H':Hp}{s:S}
def cD(U:Ph)(H H':Hp):Prop:=∀a o,H a=some o->¬U.z a->H' a=some o
theorem Rep.out(x:cD U H H'){d:D}{v:V}(h:Rep K cA U H d v):Rep K cA U H' d v:=
 Rep.rec (motive_1:=λd v _=>Rep K cA U H' d v) (motive_2:=λd v _=>aC K cA U H' d v) .non .bl .int .str
  (λh _ r=>.tup (h.imp (λz=>⟨z.1.imp (λq=>x _ _ q z.2) λw=>w.elim λo q=>⟨o,x _ _ q z.2⟩,z.2⟩) id) r)
  (λh _ r=>.fl (h.imp (λz=>⟨z.1.imp (λq=>x _ _ q z.2) λw=>w.elim λo q=>⟨o,x _ _ q z.2⟩,z.2⟩) id) r)
  (λh n=>.fd (x _ _ h n) n)
  (λh _ r=>.exc ⟨h.1,h.2.imp (λz=>z.elim λa z=>z.elim λb q=>⟨a,b,x _ _ q h.1⟩) λz=>z.elim λdx z=>⟨dx,x _ _ z.1 h.1,z.2.1,x _ _ z.2.2.1 z.2.1,z.2.2.2⟩⟩ r)
  (λh _ r=>.ob ⟨h.1,h.2.elim λdx z=>⟨dx,x _ _ z.1 h.1,z.2⟩⟩ r) .any .nil (λ_ _ a b=>.cons a b) h
theorem aC.out(x:cD U H H'){ds:List D}{vs:List V}(h:aC K cA U H ds vs):aC K cA U H' ds vs:=
 aC.rec (motive_1:=λ_ _ _=>True) (motive_2:=λd v _=>aC K cA U H' d v) trivial (λ_=>trivial) (λ_=>trivial) (λ_=>trivial) (λ_ _ _=>trivial) (λ_ _ _=>trivial) (λ_ _=>trivial) (λ_ _ _=>trivial) (λ_ _ _=>trivial) (λ_=>trivial) .nil (λh _ _ r=>.cons (h.out x) r) h
def aN.out(x:cD U H H'){d:Xv}{v:V}(h:aN K cA U H d v):aN K cA U H' d v:=by
 cases h with
 |d h=>show .d (h.out x)|l h=>show .l h
theorem aR.out(x:cD U H H')(h:aR K cA U H Z J):aR K cA U H' Z J:=⟨h.1,λi d e=>let ⟨v,a,b⟩:=h.2 i d e;⟨v,a,b.out x⟩⟩
theorem cD.refl:cD U H H:=λa o e _=>e
structure jE(K:W.Frag)(cA:Cl)(c:Src)(U:Ph)(H:Hp)(aW:L2.It):Prop where
 stop:∀U' H₁ H' s' i,Ext U H U' H₁->cD U' H₁ H'->aD K cA U' H' s'->c.at i s'=some none->aW.stop i H'
 go:∀U' H₁ H' s' i x,Ext U H U' H₁->cD U' H₁ H'->aD K cA U' H' s'->c.at i s'=some (some x)->aW.go i H'
 uh:∀U' H₁ H' s' i x v H2,Ext U H U' H₁->cD U' H₁ H'->aD K cA U' H' s'->c.at i s'=some (some x)->aW.uh i H' v H2->bw H' H2/\Rep K cA U' H2 x v
theorem LstAt.later(hz:∀a∈U.l,U.z a)(h:LstAt K U H a vs)(x:Ext U H U' H₁)(o:cD U' H₁ H'):LstAt K U' H' a vs:=
 (h.mono x hz).imp (λ⟨p,n⟩=>⟨p.imp (λq=>o _ _ q n) λ⟨w,q⟩=>⟨w,o _ _ q n⟩,n⟩) id
theorem TupAt.later(hz:∀a∈U.l,U.z a)(h:TupAt K U H a vs)(x:Ext U H U' H₁)(o:cD U' H₁ H'):TupAt K U' H' a vs:=
 (h.mono x hz).imp (λ⟨p,n⟩=>⟨p.imp (λq=>o _ _ q n) λ⟨w,q⟩=>⟨w,o _ _ q n⟩,n⟩) id
def jE.list(hz:∀a∈U.l,U.z a)(h:LstAt K U H a vs)(r:aC K cA U H xs vs):jE K cA (.fix xs) U H (MJ K a):=by
 show⟨λU' H₁ H' s' i x o hS e=>⟨vs,(h.later hz x o).sI,?_⟩,λU' H₁ H' s' i d x o hS e=>?_,λU' H₁ H' s' i d v H2 x o hS e y=>?_⟩
 .let e:xs[i]?=none:=cU e;show qD.mp ((r.mono x hz).none e)
 .let e:xs[i]?=some d:=cU e;let⟨v,q,_⟩:=r.get e;show⟨vs,v,(h.later hz x o).sI,q⟩
 .let e:xs[i]?=some d:=cU e;let⟨rfl,y⟩:=y;let⟨w,q,jT⟩:=((r.mono x hz).out o).get e;let:=y vs (h.later hz x o).sI;rw[q]at this;cases this;show⟨bw.refl,jT⟩
def jE.tuple(hz:∀a∈U.l,U.z a)(h:TupAt K U H a vs)(r:aC K cA U H xs vs):jE K cA (.fix xs) U H (Qz K a):=by
 show⟨λU' H₁ H' s' i x o hS e=>⟨vs,(h.later hz x o).jk,?_⟩,λU' H₁ H' s' i d x o hS e=>?_,λU' H₁ H' s' i d v H2 x o hS e y=>?_⟩
 .let e:xs[i]?=none:=cU e;show qD.mp ((r.mono x hz).none e)
 .let e:xs[i]?=some d:=cU e;let⟨v,q,_⟩:=r.get e;show⟨vs,v,(h.later hz x o).jk,q⟩
 .let e:xs[i]?=some d:=cU e;let⟨rfl,y⟩:=y;let⟨w,q,jT⟩:=((r.mono x hz).out o).get e;let:=y vs (h.later hz x o).jk;rw[q]at this;cases this;show⟨bw.refl,jT⟩
def S7(h:(Src.live n).at i s=some o):∃xs,s[n]?=some (.lst xs)/\xs[i]?=o:=by
 unfold Src.at at h;dsimp only at h;cases e:s[n]? with
 |none=>rw[e]at h;cases h|some ob=>
  rw[e]at h;cases ob with
  |lst xs=>show⟨xs,rfl,cU h⟩|_=>cases h
def jE.live(h:U.l[n]?=some a):jE K cA (.live n) U H (MJ K a):=by
 show⟨λU' H₁ H' s' i x o hS e=>?_,λU' H₁ H' s' i d x o hS e=>?_,λU' H₁ H' s' i d v H2 x o hS e y=>?_⟩
 .obtain⟨xs,e1,e2⟩:=S7 e;let⟨vs,q1,q2⟩:=hS.obj n _ a e1 (x.get h);show⟨vs,cP.of q1,qD.mp (q2.none e2)⟩
 .obtain⟨xs,e1,e2⟩:=S7 e;let⟨vs,q1,q2⟩:=hS.obj n _ a e1 (x.get h);let⟨v,q3,_⟩:=q2.get e2;show⟨vs,v,cP.of q1,q3⟩
 .obtain⟨xs,e1,e2⟩:=S7 e;let⟨vs,q1,q2⟩:=hS.obj n _ a e1 (x.get h);let⟨w,q3,jT⟩:=q2.get e2;let⟨rfl,y⟩:=y;let:=y vs (cP.of q1);rw[q3]at this;cases this;show⟨bw.refl,jT⟩
def S8:(jC a b)[i]?=if i<(b-a).toNat then some (.int (a+i)) else none:=by
 unfold jC;rw[gq,List.getElem?_range']
where
 List.getElem?_range' {n i:Nat}:Option.map (λ(i:Nat)=>D.int (a+i)) (List.range n)[i]?=if i<n then some (.int (a+i)) else none:=by
  by_cases h:i<n
  .rw[if_pos h,yM h];rfl
  .rw[if_neg h,Py (by simp;lia)];rfl
def jE.range{a b:Int}:jE K cA (.fix (jC a b)) U H (HS a (b-a).toNat):=by
 show⟨λU' H₁ H' s' i x o hS e=>?_,λU' H₁ H' s' i d x o hS e=>?_,λU' H₁ H' s' i d v H2 x o hS e y=>?_⟩
 .let e:(jC a b)[i]?=none:=cU e;rw[S8]at e;split at e
  .cases e
  .exact LR (by assumption)
 .let e:(jC a b)[i]?=some d:=cU e;rw[S8]at e;split at e
  .assumption
  .cases e
 .let e:(jC a b)[i]?=some d:=cU e;rw[S8]at e;split at e
  .cases e;let⟨rfl,rfl⟩:=y;show⟨bw.refl,.int _⟩
  .cases e
end
def S9(K:W.Frag)(te:TE):TI:=λZ H R=>te Z H λv H1=>∃a,v=.ref a/\(((∃xs,cP K H1 a xs)/\R (MJ K a) H1)\/((∃xs,gD K H1 a xs)/\R (Qz K a) H1))
def zkT(he:PE X l te):PI X tg l (S9 X.K te):=by
 intro ao s Z H R I h;show aO (he ao s Z H _ I h) λv s1 hx=>Qc hx λx H1 I1 r1 a e q=>?_;subst e;cases r1;rcases q with ⟨⟨xs,hq⟩,q⟩|⟨⟨xs,hq⟩,q⟩
 .obtain⟨its,rv,p,hz⟩:=I1.list hq;show Ly p.isList ?_;show⟨s1.heap.objs.size,[s1.heap.objs.size],_,_,H1,rfl,I1.kept (t':=s1.toks) λb o e=>bW _ e,zgI a _,⟨_,dU _ rfl,rfl,rfl⟩,λb hb=>?_,q⟩;let e:b=s1.heap.objs.size:=by simpa using hb
  subst e;show I1.uo (bU _) (I1.hok.fresh (bU _))
 .obtain⟨its,rv,p,hz⟩:=I1.tuple hq;show wpAny_pyIter_tuple (show s1.heap.IsTuple a its.toArray from p) ?_;show⟨s1.heap.objs.size,[s1.heap.objs.size],_,_,H1,rfl,I1.kept (t':=s1.toks) λb o e=>bW _ e,zeS a _,⟨_,dU _ rfl,rfl,rfl⟩,λb hb=>?_,q⟩;let e:b=s1.heap.objs.size:=by simpa using hb
  subst e;show I1.uo (bU _) (I1.hok.fresh (bU _))
section
variable {X:Cx}{cA:Cl}{aq:Nat->Nat->Bool}{aj:Bool}{F:Fn}{EX:XS}{a b tg:Expr}{A B:E}{pos pp:Pos}
def tI(K:W.Frag)(cA:Cl)(EX:XS)(m:Vs->M (Src×Nat)):TI:=λZ H R=>∃U J s,aR K cA U H Z J/\aD K cA U H s/\Run K cA (m J) U H s (λcn _ U1 H1=>∀aW,jE K cA cn.1 U1 H1 aW->R aW H1) (eX K cA EX Z)
def SI(X:Cx)(cA:Cl)(aq:Nat->Nat->Bool)(aj:Bool)(F:Fn)(EX:XS)(tg iter:Expr)(w:Wk):Prop:=PI X tg iter (tI X.K cA EX (iZ aq aj F w))
theorem PI.weak{iter:Expr}{t t':TI}(h:PI X tg iter t)(f:∀Z H Q,t' Z H Q->t Z H Q):PI X tg iter t':=λao s Z H Q I q=>h ao s Z H Q I (f Z H Q q)
theorem zmV(ha:SE X cA aq aj F EX a A):SI X cA aq aj F EX tg a (.seq A):=PI.weak (zkT ha) λZ H R hh=>un hh λU J s hL hS h=>by
 show aV hL hS h λv H1 U1 d s1 x1 hL1 aG r1 h1=>?_;cases r1 with
 |@l n ad hl=>
  unfold Run src at h1;dsimp only at h1;cases e:s1[n]? with
  |none=>rw[e]at h1;show h1.elim|some o=>
   rw[e]at h1;cases o with
   |lst xs=>
    let⟨vs,q1,q2⟩:=aG.obj n _ _ e hl;show⟨ad,rfl,.inl ⟨⟨vs,cP.of q1⟩,h1 U1 H1 Ext.refl aG _ (jE.live hl)⟩⟩
   |_=>show h1.elim
 |d r1=>
  cases r1 with
  |tup q r=>show⟨_,rfl,.inr ⟨⟨_,q.jk⟩,h1 U1 H1 Ext.refl aG _ (jE.tuple aG.lz q r)⟩⟩|fl q r=>show⟨_,rfl,.inl ⟨⟨_,q.sI⟩,h1 U1 H1 Ext.refl aG _ (jE.list aG.lz q r)⟩⟩|_=>show h1.elim
def Y9{i:Int}(h:fW i=true) : -(2^62)<=i/\i<2^62:=by
 unfold fW at h;rw[gA,Ai,Ai]at h;show⟨by lia,h.2⟩
def Y_{K:W.Frag}{U:Ph}{H:Hp}{s:S}{i j:Int}{P:Src×Nat->S->Ph->Hp->Prop}{Ee:Nat->List D->S->Ph->Hp->Prop}(hS:aD K cA U H s)(h:Run K cA (if (fW i&&fW j)=true then M.ret (Src.fix (jC i j),(jC i j).length) else M.no) U H s P Ee):(-(2^62)<=i/\i<2^62/\-(2^62)<=j/\j<2^62)/\P (.fix (jC i j),(jC i j).length) s U H:=by
 by_cases hk:(fW i&&fW j)=true
 .rw[if_pos hk]at h;rw[gA]at hk;let⟨a,b⟩:=Y9 hk.1;let⟨c,d⟩:=Y9 hk.2;show⟨⟨a,b,c,d⟩,h.bF hS⟩
 .rw[if_neg hk]at h;show h.elim
theorem zoL(ql:Gl X "range")(hmg:X.mg "range"=none)(ha:SE X cA aq aj F EX a A)(hb:SE X cA aq aj F EX b B)(h1:starEach [a,b] X.env=(false,eval a X.env)::starEach [b] X.env)(h2:starEach [b] X.env=(false,eval b X.env)::starEach [] X.env) :
  SI X cA aq aj F EX tg (.Call (.Name "range" pp) [a,b] [] pos) (.rg A B):=PI.weak (zft ql hmg (rP ha (rP hb wZ h2) h1) (by rw[h1,h2];rfl) (by rw[h2];rfl)) λZ H R hh=>un hh λU J s hL hS h=>by
 show aV hL hS h λx H1 U1 d1 s1 x1 hL1 aG r1 h1=>aV hL1 aG h1 λy H2 U2 d2 s2 x2 hL2 aM r2 h2=>?_;let⟨i,_,e1,h3⟩:=Cv (r1.mono x2 aG.lz) h2;let⟨j,_,e2,h4⟩:=Cv r2 h3;let⟨hz,q⟩:=Y_ aM h4;subst e1 e2;show⟨i,j,rfl,hz,q _ jE.range⟩
theorem zmx(ql:Gl X "range")(hmg:X.mg "range"=none)(hb:SE X cA aq aj F EX b B)(h2:starEach [b] X.env=(false,eval b X.env)::starEach [] X.env) :
  SI X cA aq aj F EX tg (.Call (.Name "range" pp) [b] [] pos) (.rg (.c (.int 0)) B):=PI.weak (zgg ql hmg (rP hb wZ h2) (by rw[h2];rfl)) λZ H R hh=>un hh λU J s hL hS h=>by
 let h:Run X.K cA (M.bd (ev aq aj F B J) λy=>M.bd (int (.d (.int 0))) λi=>M.bd (int y) λj=>if (fW i&&fW j)=true then M.ret (Src.fix (jC i j),(jC i j).length) else M.no) U H s _ _:=h;show aV hL hS h λy H2 U2 d2 s2 x2 hL2 aM r2 h2=>?_;let⟨j,_,e2,h4⟩:=Cv r2 (show Run X.K cA (M.bd (int d2) λj=>if (fW 0&&fW j)=true then M.ret (Src.fix (jC 0 j),(jC 0 j).length) else M.no) U2 H2 s2 _ _ from h2);let⟨hz,q⟩:=Y_ aM h4;subst e2;show⟨j,rfl,hz.2.2.1,hz.2.2.2,q _ ?_⟩;let:=jE.range (K:=X.K) (cA:=cA) (U:=U2) (H:=H2) (a:=0) (b:=j);rw[Int.sub_zero]at this;show this
end
section
variable {K:W.Frag}{cA:Cl}{U U' U0:Ph}{H H' H0:Hp}{s:S}
def Run.bd0(x:Ext U0 H0 U H)(h:Run K cA (M.bd m k) U0 H0 s P Ee) :
  Run K cA m U H s (λa s1 U1 H1=>Ext U H U1 H1/\aD K cA U1 H1 s1/\Run K cA (k a) U0 H0 s1 P Ee) Ee:=by
 unfold Run M.bd at *;cases e:m s with
 |none=>rw[e]at h;show h|some r=>
  let⟨r,s1⟩:=r;rw[e]at h;cases r with
  |er c f=>show λU1 H1 x1 r1=>h U1 H1 (x.trans x1) r1|ok a=>show λU1 H1 x1 r1=>⟨x1,r1,h⟩
def J3{α β:Type}{m:M α}{k:α->M β}{P:β->S->Ph->Hp->Prop}{Ee Ee':Nat->List D->S->Ph->Hp->Prop}(x:Ext U0 H0 U H)(h:Run K cA (M.bd (M.qt m) k) U0 H0 s P Ee) :
  Run K cA m U H s (λa s1 U1 H1=>Ext U H U1 H1/\aD K cA U1 H1 s1/\Run K cA (k a) U0 H0 s1 P Ee) Ee':=by
 let h2:=h.bd0 x;unfold Run at h2 ⊢;unfold M.qt at h2;cases e:m s with
 |none=>rw[e]at h2;show h2|some r=>
  let⟨r,s1⟩:=r;rw[e]at h2;cases r with
  |ok a=>show h2|er c f=>show h2.elim
def S_{α β:Type}{m m':M α}{k:α->M β}{P:β->S->Ph->Hp->Prop}{Ee:Nat->List D->S->Ph->Hp->Prop}(e:m s=m' s)(h:Run K cA (M.bd m k) U H s P Ee):Run K cA (M.bd m' k) U H s P Ee:=by
 unfold Run M.bd at *;rw[<-e];show h
end
section
variable {X:Cx}{cA:Cl}{aq:Nat->Nat->Bool}{aj:Bool}{F:Fn}{EX:XS}{elt iter tg:Expr}{A B:E}{pos p:Pos}{ifs:List Expr}{scope:Scope}{N:List Str}{cond:Eo}{fr aL:List Nat}{many:Nat}{fz:Bool}{w:Wk}
def Fy(X:Cx)(cA:Cl)(aq:Nat->Nat->Bool)(aj:Bool)(F:Fn)(EX:XS)(ifs:List Expr)(m:Eo):Prop:=EY X ifs (qX X.K cA EX (oJ aq aj F m))
theorem znd:Fy X cA aq aj F EX [] .no:=λao s Z H Q I ⟨U,J,st,hL,hS,h⟩=>zkA ao s Z H Q I (h.bF hS)
theorem zjl(h:ST X cA aq aj F EX c C):Fy X cA aq aj F EX [c] (.yes C):=zjG h
structure fZ(K:W.Frag)(cA:Cl)(g:TG)(aL:List Nat):Prop where
 run:∀(U:Ph) (H:Hp) (s:S) (Z:L2.St) (J J':Vs) (d:D) (v:V) (Q:L2.St->Hp->Prop),aR K cA U H Z J->aD K cA U H s->Rep K cA U H d v->dN aL d J=some J'->
  (∀Z',aR K cA U H Z' J'->Z'.length=Z.length->(∀i,i∉aL->Z'[i]?=Z[i]?)->Q Z' H)->g v Z H Q
theorem sO{K:W.Frag}(i:Nat):fZ K cA (dB i) [i] where
 run:=λU H s Z J J' d v Q hL hS r e k=>by
  cases e;show k _ (hL.set (.d r)) (pJ ..) λj hj=>qF (by simpa using λz=>hj (by simp[z]))
theorem Ny{K:W.Frag}(i j:Nat):fZ K cA (uf K 2 (iw (dB i) (iw (dB j) ud))) [i,j] where
 run:=λU H s Z J J' d v Q hL hS r e k=>by
  let e:(jZ d).bind (λds=>fX [i,j] (ds.map Xv.d) J)=some J':=e;let⟨ds,e1,e2⟩:=vA.mp e;cases r with
  |@tup ad xs vs h1 h2=>
   let e1:xs=ds:=cU e1;subst e1;cases h2 with
   |nil=>cases e2|cons r1 t1=>
    cases t1 with
    |nil=>cases e2|cons r2 t2=>
     cases t2 with
     |nil=>
      let e2:=cU e2;subst e2;show⟨ad,_,rfl,h1.jk,rfl,_,_,rfl,_,_,rfl,rfl,k _ ((hL.set (.d r1)).set (.d r2)) (by rw[pJ,pJ]) λm hm=>?_⟩;rw[qF (λz=>hm (by simp[z])),qF (λz=>hm (by simp[z]))]
     |cons r3 t3=>cases e2
  |_=>cases e1
def bG(many:Nat)(fr:List Nat)(Z:L2.St):L2.St:=List.replicate many none++fr.map λj=>(Z[j]?).join
def Za{U:Ph}{H:Hp}{Z:L2.St}{J:Vs}(hL:aR X.K cA U H Z J){Z':L2.St}(hl:Z'.length=many+fr.length)(hf:∀(i:Nat) j v,fr[i]?=some j->Z[j]?=some (some v)->Z'[many+i]?=some (some v)):aR X.K cA U H Z' (blk many fr J):=by
 show⟨by unfold blk;simp[hl],λi d e=>?_⟩;unfold blk at e;by_cases hi:i<many
 .rw[nJ (by simpa using hi),z_,if_pos hi]at e;cases e
 .rw[o8 (by simpa using LR hi),Gp,gq]at e;cases z:fr[i-many]? with
  |none=>rw[z]at e;cases e|some j=>
   rw[z]at e;let e3:J[j]?.join=some d:=by simpa using e
   let⟨v,q1,q2⟩:=hL.2 j d (Np e3);show⟨v,?_,q2⟩;let:=hf (i-many) j v z q1;rw[show many+(i-many)=i by omega]at this;show this
structure eY(U:Ph)(H:Hp)(Dd:Addr)(o:HO):Prop where
 at_:H Dd=some o
 nl:Dd∉U.l
 z:U.z Dd
 t:NT o:=by show trivial
abbrev Keep(U:Ph)(H:Hp)(Dd:Addr)(vs:List V):Prop:=eY U H Dd (.lst vs)
def eY.mono{U U':Ph}{H H':Hp}{Dd:Addr}{o:HO}(x:Ext U H U' H')(k:eY U H Dd o):eY U' H' Dd o:=by
 show⟨x.frame _ _ k.at_ k.t k.nl,λz=>?_,x.qg _ k.z,k.t⟩;let⟨r,er,hr⟩:=x.more;rw[er]at z;rcases jN.mp z with z|z
 .exact k.nl z
 .let:=hr _ z;rw[k.at_]at this;cases this
theorem eY.ext{U:Ph}{H:Hp}{Dd:Addr}{o u:HO}(k:eY U H Dd o)(tu:NT u:=by show trivial):(∀a o,H a=some o->¬U.z a->(upd H Dd u) a=some o)/\eY U (upd H Dd u) Dd u:=
 ⟨λa o e n=>by rw[bN (λz=>n (by rw[z];show k.z))];show e,h_,k.nl,k.z,tu⟩
end
section
variable {K:W.Frag}{cA:Cl}{U U':Ph}{H H':Hp}
def aD.keep{s:S}{Dd:Addr}{o u:HO}(h:aD K cA U H s)(k:eY U H Dd o)(tu:NT u:=by show trivial):aD K cA U (upd H Dd u) s:=by
 let x:cD U H (upd H Dd u):=(k.ext tu).1;show⟨h.len,λn o a e1 e2=>?_,h.uniq,h.lz,λa z=>?_⟩
 .let na:a≠Dd:=λy=>k.nl (by rw[<-y];show dZ e2);show(h.obj n o a e1 e2).map (λ_ _ q=>by rw[bN na];show q) λ_ _ r=>r.out x
 .by_cases e:a=Dd
  .subst e;show⟨_,h_⟩
  .obtain⟨o,q⟩:=h.zt a z;show⟨o,by rw[bN e];show q⟩
def Ext.keep{U1:Ph}{H1:Hp}{Dd:Addr}{vs:List V}{u:HO}(x:Ext U1 H1 U H)(hD:H1 Dd=none):Ext U1 H1 U (upd H Dd u):=by
 show⟨x.more,x.qg,x.j8,λa o h t n=>?_,λa o h=>?_⟩
 .rw[bN (λz=>by rw[z,hD]at h;cases h)];show x.frame a o h t n
 .rw[bN (λz=>by rw[z,hD]at h;cases h)];show x.stay a o h
def Zb{U1:Ph}{H1:Hp}{s':S}{fz:Bool}{acc:List D}{vs:List V}{Dd:Addr}{Q:VK}{Ee:Nat->List D->S->Ph->Hp->Prop}(h:Run K cA (newL fz acc) U1 H1 s' (λd _ U' H'=>∀v,aN K cA U' H' d v->Q v H') Ee)
  (x2:Ext U1 H1 U' H') (hD:H1 Dd=none) (nz:¬U1.z Dd) (aM:aD K cA U' H' s') (k:Keep U' H' Dd vs) (pF:aC K cA U' H' acc vs):Q (.ref Dd) H':=by
 cases fz with
 |true=>
  let zq:∀a,(λa=>U'.z a/\a≠Dd) a->U'.z a:=λa z=>z.1;show h ⟨λa=>U'.z a/\a≠Dd,U'.l⟩ H' ⟨x2.more,λa z=>⟨x2.qg a z,λe=>nz (by rw[<-e];show z)⟩,λa z=>x2.j8 a z.1,x2.frame,x2.stay⟩ ?_ _ (.d (.fl (.inl ⟨.inl k.at_,λz=>z.2 rfl⟩) (aC.kh (U:=U') zq pF)));show⟨aM.len,λn o a e1 e2=>kZ.kh (U:=U') zq (aM.obj n o a e1 e2),aM.uniq,λa ha=>⟨aM.lz a ha,λe=>k.nl (by rw[<-e];show ha)⟩,λa z=>aM.zt a z.1⟩
 |false=>
  let⟨r,er,hr⟩:=x2.more;show h ⟨U'.z,U'.l++[Dd]⟩ H' ⟨⟨r++[Dd],by change U'.l++[Dd]=_;rw[er,Gx],λb hb=>?_⟩,x2.qg,x2.j8,x2.frame,x2.stay⟩ ?_ _ (.l (by change (U'.l++[Dd])[s'.length]?=_;rw[<-aM.len];simp))
  .rcases jN.mp hb with z|z
   .exact hr b z
   .simp at z;subst z;show hD
  .refine⟨by change (U'.l++[Dd]).length=_;rw[dJ,dJ,aM.len];rfl,λm o' a' e1 e2=>?_,?_,λb hb=>?_,aM.zt⟩
   .let e2:(U'.l++[Dd])[m]?=some a':=e2;by_cases hm:m<s'.length
    .rw[nJ hm]at e1;rw[nJ (by rw[aM.len];show hm)]at e2;show kZ.zl (aM.obj m o' a' e1 e2) _
    .let tQ:m=s'.length:=by
      let z:=(dI.mp e2).1;rw[dJ,aM.len]at z;simp at z;omega
     subst tQ;rw[o8 (bU _)]at e1;rw[o8 (by rw[aM.len];show bU _)]at e2;simp at e1;simp[aM.len]at e2;subst e1 e2;show⟨vs,k.at_,aC.zl pF _⟩
   .show (U'.l++[Dd]).Nodup;rw[LC];show⟨aM.uniq,by simp,λb hb c hc e=>?_⟩;simp at hc;subst hc e;show k.nl hb
   .let hb:b∈U'.l++[Dd]:=hb;rcases jN.mp hb with z|z
    .exact aM.lz b z
    .simp at z;subst z;show k.z
def Ph.mark(U:Ph)(p:Addr):Ph:=⟨λa=>U.z a\/a=p,U.l⟩
def Zc{s:S}{p:Addr}(hS:aD K cA U H s)(hp:H p=none):Ext U H (U.mark p) (upd H p (.lst []))/\aD K cA (U.mark p) (upd H p (.lst [])) s/\Keep (U.mark p) (upd H p (.lst [])) p []:=by
 let g:=bw.new (o:=.lst []) hp;let nz:=hS.nz hp;show⟨⟨⟨[],by simp[Ph.mark],by simp⟩,λa z=>.inl z,λa z=>z.imp id λe=>by rw[e];show hp,λa o h _ _=>g a o h,λa o h=>⟨o,g a o h⟩⟩,⟨hS.len,λn o a e1 e2=>?_,hS.uniq,λa ha=>.inl (hS.lz a ha),λa z=>?_⟩,h_,λz=>nz (hS.lz p z),.inr rfl,trivial⟩
 .let x:Ext U H (U.mark p) (upd H p (.lst [])):=⟨⟨[],by simp[Ph.mark],by simp⟩,λa z=>.inl z,λa z=>z.imp id λe=>by rw[e];show hp,λa o h _ _=>g a o h,λa o h=>⟨o,g a o h⟩⟩;show(hS.obj n o a e1 e2).map (λu _=>g _ u) λ_ _ r=>r.mono x hS.lz
 .rcases z with z|z
  .obtain⟨o,e⟩:=hS.zt a z;show⟨o,g _ _ e⟩
  .subst z;show⟨_,h_⟩
end
section
variable {X:Cx}{cA:Cl}{aq:Nat->Nat->Bool}{aj:Bool}{F:Fn}{EX:XS}{elt iter tg:Expr}{A B:E}{pos p:Pos}{ifs:List Expr}{scope:Scope}{N:List Str}{cond:Eo}{fr aL:List Nat}{many:Nat}{fz:Bool}{w:Wk}
noncomputable abbrev bO(aq:Nat->Nat->Bool)(aj:Bool)(F:Fn)(B:E)(cond:Eo)(aL:List Nat)(Jb:Vs):D->List D->M (List D):=λd acc=>M.bd (M.opt (dN aL d Jb)) λJ'=>M.bd (M.qt (oJ aq aj F cond J')) λok=>
    if ok=true then M.bd (M.qt (ev aq aj F B J')) λy=>M.bd (dat y) λe=>if acc.length<sizeLine then M.ret (acc++[e]) else M.no else M.ret acc
theorem Fz{H:Hp}{a:Addr}{o:HO}(h:H a=some o):upd H a o=H:=funext λb=>by
 by_cases z:b=a
 .subst z;rw[h_,h]
 .rw[bN z]
def zg5{K:W.Frag}{g:TG}{U1 U':Ph}{H1 H2:Hp}{s':S}{Z':L2.St}{Jb:Vs}{Dd:Addr}{acc:List D}{vs:List V}{xi:D}{v:V}{β:Type}{kk:List D->M β}{P:β->S->Ph->Hp->Prop}{Ee:Nat->List D->S->Ph->Hp->Prop}(hT:fZ K cA g aL)(dF:∀i∈aL,i<many)
  (hD:H1 Dd=none) (x2:Ext U1 H1 U' H2) (hL2:aR K cA U' H2 Z' Jb) (aM:aD K cA U' H2 s') (kp:Keep U' H2 Dd vs) (pF:aC K cA U' H2 acc vs) (rx:Rep K cA U' H2 xi v)
  (h:Run K cA (M.bd (bO aq aj F B cond aL Jb xi acc) kk) U1 H1 s' P Ee) {Nn:L2.St->Hp->Prop}
  (hN:∀Z3 H3 U3 s3 m_ xX,Z3.length=Z'.length->(∀i,many<=i->Z3[i]?=Z'[i]?)->Ext U1 H1 U3 H3->Ext U' H2 U3 (upd H3 Dd (.lst vs))->aD K cA U3 H3 s3->Keep U3 H3 Dd xX->aC K cA U3 H3 m_ xX->Run K cA (kk m_) U1 H1 s3 P Ee->Nn Z3 H3) :
  g v Z' H2 λZ3 H3=>qX K cA (λ_ _ _ _=>False) (oJ aq aj F cond) Z3 H3 λok H4=>
   if ok=true then tE K cA (λ_ _ _ _=>False) (ev aq aj F B) Z3 H4 λy H5=>∃ys,H5 Dd=some (.lst ys)/\ys.length<sizeLine/\Nn Z3 (upd H5 Dd (.lst (ys++[y]))) else Nn Z3 H4:=by
 unfold bO at h;rw[gF]at h;let⟨J',e1,h1⟩:=Run.m9 h;show hT.run U' H2 s' Z' Jb J' xi v _ hL2 aM rx e1 λZ3 oM Cz FJ=>?_;rw[gF]at h1;let kf:∀i,many<=i->Z3[i]?=Z'[i]?:=λi hi=>FJ i λz=>absurd (dF i z) (Er.mpr hi);show⟨U',J',s',oM,aM,(J3 x2 h1).imp λok s4 U4 H4 ⟨x4,qY,h6⟩=>?_⟩;cases ok with
 |false=>
  show iF (hN Z3 H4 U4 s4 acc vs Cz kf (x2.trans x4) (by rw[Fz (kp.mono x4).at_];show x4) qY (kp.mono x4) (pF.mono x4 aM.lz) ?_);rw[if_neg J0]at h6;show h6
 |true=>
  rw[if_pos rfl,gF]at h6;show iT ⟨U4,J',s4,oM.mono x4 aM.lz,qY,(J3 (x2.trans x4) h6).imp λy s5 U5 H5 ⟨x5,J5,h7⟩ u ru=>?_⟩;rw[gF]at h7;let k5:=(kp.mono x4).mono x5;let r5:=(pF.mono x4 aM.lz).mono x5 qY.lz;let Tc:=(x2.trans x4).trans x5;obtain⟨dd,ey,rd,h8⟩ : ∃d,y=.d d/\Rep K cA U5 H5 d u/\Run K cA (M.bd (if acc.length<sizeLine then M.ret (acc++[d]) else M.no) kk) U1 H1 s5 P Ee:=by
   cases ru with
   |l _=>show h7.elim|d r=>show⟨_,rfl,r,h7⟩
  by_cases hz:acc.length<sizeLine
  .rw[if_pos hz]at h8;show⟨vs,k5.at_,by rw[<-r5.len];show hz,?_⟩;let ox:cD U5 H5 (upd H5 Dd (.lst (vs++[u]))):=k5.ext.1;show hN Z3 _ U5 s5 (acc++[dd]) (vs++[u]) Cz kf (Ext.keep (vs:=vs) Tc hD) (by rw[WQ,Fz k5.at_];show x4.trans x5) (J5.keep k5) k5.ext.2 ((r5.app (.cons rd .nil)).out ox) h8
  .rw[if_neg hz]at h8;show h8.elim
theorem Zd{g:TG}{iter':Expr}(hT:fZ X.K cA g aL)(dF:∀i∈aL,i<many){Z:L2.St}{H:Hp}{Q:VK}(hh:tE X.K cA EX (ev aq aj F (.comp fz B aL w fr many cond)) Z H Q) :
  uF (tI X.K cA EX (iZ aq aj F w)) (bG many fr) g (qX X.K cA (λ_ _ _ _=>False) (oJ aq aj F cond)) (tE X.K cA (λ_ _ _ _=>False) (ev aq aj F B)) Z H Q:=un hh λU J s hL hS h=>by
 by_cases cX:aj=true
 .let h:Run X.K cA (if aj=true then M.bd (iZ aq aj F w J) λcn=>M.bd (walk cn.1 (bO aq aj F B cond aL (blk many fr J)) (cn.2+1) 0 []) λxs=>newL fz xs else M.no) U H s (λd _ U' H'=>∀v,aN X.K cA U' H' d v->Q v H') (eX X.K cA EX Z):=h;rw[if_pos cX]at h;show⟨U,J,s,hL,hS,h.bd.imp λcn s1 U1 H1 ⟨x1,aG,h1⟩ aW hJ=>?_⟩;let hL1:=hL.mono x1 hS.lz;let⟨c,n⟩:=cn;dsimp only at h1 hJ;intro Dd hD;let⟨x0,Td,k0⟩:=Zc aG hD;let CG:∀{Z':L2.St},(Z'.length=many+fr.length/\∀i,many<=i->Z'[i]?=(bG many fr Z)[i]?)->∀{U' H'},Ext U1 H1 U' H'->aR X.K cA U' H' Z' (blk many fr J):=λ{Z'} hZ {U' H'} x=>Za (hL1.mono x aG.lz) hZ.1 λi j v e1 e2=>by
   rw[hZ.2 _ (by omega)];unfold bG;rw[o8 RQ,Gp,gq,show many+i-many=i by omega,e1];simp[e2]
  show⟨λi m Z' H'=>m=n+1-i/\(Z'.length=many+fr.length/\∀i,many<=i->Z'[i]?=(bG many fr Z)[i]?)/\∃U' s' acc vs,Ext U1 H1 U' H'/\aD X.K cA U' H' s'/\Keep U' H' Dd vs/\aC X.K cA U' H' acc vs /\
   Run X.K cA (M.bd (walk c (bO aq aj F B cond aL (blk many fr J)) (n+1-i) i acc) λxs=>newL fz xs) U1 H1 s' (λd _ U' H'=>∀v,aN X.K cA U' H' d v->Q v H') (eX X.K cA EX Z),⟨n+1,rfl,⟨by simp[bG],λi _=>rfl⟩,U1.mark Dd,s1,[],[],x0,Td,k0,.nil,h1⟩,?_⟩
  rintro i m Z' H' ⟨rfl,hZ,U',s',acc,vs,x2,aM,kp,pF,h3⟩;let hL2:=CG hZ x2;cases ek:n+1-i with
  |zero=>rw[ek]at h3;show h3.elim|succ k=>
   rw[ek]at h3;cases ei:c.at i s' with
   |none=>
    exfalso
    unfold Run M.bd walk at h3;simp only[ei]at h3
   |some oi=>
    cases oi with
    |none=>
     show .inl ⟨hJ.stop U' H' H' s' i x2 cD.refl aM ei,?_⟩;let h4:Run X.K cA (newL fz acc) U1 H1 s' (λd _ U' H'=>∀v,aN X.K cA U' H' d v->Q v H') (eX X.K cA EX Z):=by
      unfold Run M.bd walk at h3;simp only[ei]at h3;show h3
     show Zb h4 x2 hD (aG.nz hD) aM kp pF
    |some xi=>
     show .inr ⟨hJ.go U' H' H' s' i xi x2 cD.refl aM ei,λZ2 H2=>(Z2.length=many+fr.length/\∀i,many<=i->Z2[i]?=(bG many fr Z)[i]?)/\∃U' s' acc vs,Ext U1 H1 U' H2/\aD X.K cA U' H2 s'/\Keep U' H2 Dd vs/\aC X.K cA U' H2 acc vs /\
      Run X.K cA (M.bd (walk c (bO aq aj F B cond aL (blk many fr J)) k (i+1) acc) λxs=>newL fz xs) U1 H1 s' (λd _ U' H'=>∀v,aN X.K cA U' H' d v->Q v H') (eX X.K cA EX Z),λZ2 H2 hn=>⟨k,by omega,by omega,hn.1,?_⟩,λv H2 hy=>?_⟩
     .let:n+1-(i+1)=k:=by omega
      rw[this];show hn.2
     .obtain⟨gr,rx⟩:=hJ.uh U' H' H' s' i xi v H2 x2 cD.refl aM ei hy;let h4:Run X.K cA (M.bd (bO aq aj F B cond aL (blk many fr J) xi acc) λacc'=>M.bd (walk c (bO aq aj F B cond aL (blk many fr J)) k (i+1) acc') λxs=>newL fz xs) U1 H1 s' (λd _ U' H'=>∀v,aN X.K cA U' H' d v->Q v H') (eX X.K cA EX Z):=by
       let h5:=S_ (m':=M.bd (bO aq aj F B cond aL (blk many fr J) xi acc) λacc'=>walk c (bO aq aj F B cond aL (blk many fr J)) k (i+1) acc') (by rw[walk];simp only[ei]) h3;rw[gF]at h5;show h5
      show zg5 hT dF hD (x2.trans gr.ext) (hL2.mono gr.ext aM.lz) (aM.grow gr) (kp.mono gr.ext) (pF.mono gr.ext aM.lz) rx h4 λZ3 H3 U3 s3 m_ xX l3 f3 x3 _ gG k3 r3 h6=>⟨⟨l3.trans hZ.1,λi hi=>(f3 i hi).trans (hZ.2 i hi)⟩,U3,s3,m_,xX,x3,gG,k3,r3,h6⟩
 .let h:Run X.K cA (if aj=true then M.bd (iZ aq aj F w J) λcn=>M.bd (walk cn.1 (bO aq aj F B cond aL (blk many fr J)) (cn.2+1) 0 []) λxs=>newL fz xs else M.no) U H s (λd _ U' H'=>∀v,aN X.K cA U' H' d v->Q v H') (eX X.K cA EX Z):=h;rw[if_neg cX]at h;show h.elim
def Te{XN:List Str}(qO:∀(i:Nat) (y:Str) (j:Nat),N[many+i]?=some y->fr[i]?=some j->scope.names.lookup y=some .free/\XN[j]?=some y)(Z:L2.St)(i:Nat)(x:Str)(v:V)(e1:N[i]?=some x)(e2:(bG many fr Z)[i]?=some (some v)):scope.names.lookup x=some .free/\∃j:Nat,XN[j]?=some x/\Z[j]?=some (some v):=by
 unfold bG at e2;by_cases hi:i<many
 .rw[nJ (by simpa using hi),z_,if_pos hi]at e2;cases e2
 .rw[o8 (by simpa using LR hi),Gp,gq]at e2;cases z:fr[i-many]? with
  |none=>rw[z]at e2;cases e2|some j=>
   rw[z]at e2;let e3:(Z[j]?).join=some v:=by simpa using e2
   let⟨a1,a2⟩:=qO (i-many) x j (by rw[show many+(i-many)=i by omega];show e1) z;show⟨a1,j,a2,Np e3⟩
theorem Ze{g:TG}(hc:X.aj=true)(B':cG X.env.scope scope)(hi:SI X cA aq aj F EX tg iter w)(hN:N.length=many+fr.length)
  (qO:∀(i:Nat) (y:Str) (j:Nat),N[many+i]?=some y->fr[i]?=some j->scope.names.lookup y=some .free/\X.N[j]?=some y)
  (hg:∀cl C s3 H3 fp ao,PG (X.blk scope cl N C s3 H3 fp ao) tg g) (hT:fZ X.K cA g aL) (dF:∀i∈aL,i<many)
  (ht:∀cl C s3 H3 fp ao,Fy (X.blk scope cl N C s3 H3 fp ao) cA aq aj F (λ_ _ _ _=>False) ifs cond) (he:∀cl C s3 H3 fp ao,SE (X.blk scope cl N C s3 H3 fp ao) cA aq aj F (λ_ _ _ _=>False) elt B)
  (hs:∀x,foldedSetIterable iter X.env x=pure x:=by intro _;rfl):SE X cA aq aj F EX (.ListComp elt [⟨tg,iter,ifs,0⟩] scope pos) (.comp fz B aL w fr many cond):=
 PE.weak (zjV hc B' hi (⟨hg,ht,he⟩ : Parts X elt tg ifs scope N g (qX X.K cA (λ_ _ _ _=>False) (oJ aq aj F cond)) (tE X.K cA (λ_ _ _ _=>False) (ev aq aj F B))) (ZY:=bG many fr) (λZ=>by simp[bG,hN]) (λZ i x v e1 e2=>Te qO Z i x v e1 e2) hs) λZ H Q hh=>Zd (iter':=iter) hT dF hh
end
section
variable (K:W.Frag)(cA:Cl)
def aP(m:MS)(U:Ph)(H:Hp)(s:S)(D:Ends)(EX:XS):Prop:=match m s with
 |some (.nx J,s')=>∀U' H' Z',Ext U H U' H'->aD K cA U' H' s'->aR K cA U' H' Z' J->D.nx Z' H'|some (.bk J,s')=>∀U' H' Z',Ext U H U' H'->aD K cA U' H' s'->aR K cA U' H' Z' J->D.bk Z' H'|some (.ct J,s')=>∀U' H' Z',Ext U H U' H'->aD K cA U' H' s'->aR K cA U' H' Z' J->D.ct Z' H'|some (.rt d,s')=>∀U' H' v,Ext U H U' H'->aD K cA U' H' s'->aN K cA U' H' d v->D.rt v H'|some (.er c fs J,s')=>∀U' H' Z',Ext U H U' H'->aD K cA U' H' s'->aR K cA U' H' Z' J->∀dx,j_ K cA U' H' c fs dx->EX Z' (.ref (cA.a c)) dx H'|none=>False
def tS(EX:XS)(m:Vs->MS):TS:=λD Z H=>∃U J s,aR K cA U H Z J/\aD K cA U H s/\aP K cA (m J) U H s D EX
end
section
variable {K:W.Frag}{cA:Cl}{U U':Ph}{H H':Hp}{s:S}{Z:L2.St}{J:Vs}{EX:XS}{D:Ends}
def aP.ext{m:MS}(x:Ext U H U' H')(h:aP K cA m U H s D EX):aP K cA m U' H' s D EX:=by
 unfold aP at *;split at h<;>first
  |exact λU2 H2 a y r l=>h U2 H2 a (x.trans y) r l|exact h.elim
def aP.ofM{α:Type}{m:M α}{k:α->MS}(hL:aR K cA U H Z J)(hz:∀a∈U.l,U.z a)(h:aP K cA (ofM m J k) U H s D EX):Run K cA m U H s (λa s1 U1 H1=>Ext U H U1 H1/\aD K cA U1 H1 s1/\aP K cA (k a) U1 H1 s1 D EX) (eX K cA EX Z):=by
 unfold aP Mi.ofM at h;unfold Run;cases e:m s with
 |none=>rw[e]at h;show h|some r=>
  let⟨r,s1⟩:=r;rw[e]at h;cases r with
  |er c fs=>show λU1 H1 x r=>h U1 H1 Z x r (hL.mono x hz)|ok a=>
   intro U1 H1 x r;show⟨x,r,?_⟩;let h2:aP K cA (k a) U H s1 D EX:=h;show h2.ext x
def aP.then_(h:aP K cA (cI m k) U H s D EX):aP K cA m U H s {D with nx:=λZ' H'=>∃U' J' s',aR K cA U' H' Z' J'/\aD K cA U' H' s'/\aP K cA (k J') U' H' s' D EX} EX:=by
 unfold aP cI at h;unfold aP;cases e:m s with
 |none=>rw[e]at h;show h|some r=>
  let⟨r,s1⟩:=r;rw[e]at h;cases r with
  |nx J=>
   intro U1 H1 Z1 x r l;let h2:aP K cA (k J) U H s1 D EX:=h;show⟨U1,J,s1,l,r,h2.ext x⟩
  |bk J=>show h|ct J=>show h|rt d=>show h|er c fs J=>show h
end
section
variable (X:Cx)(cA:Cl)(aq:Nat->Nat->Bool)(aj:Bool)(F:Bool->Fn)(EX:XS)
def SS(st:Stmt)(m:St):Prop:=PS X st (tS X.K cA EX (ex aq aj F m))
def vW(st:List Stmt)(m:bL):Prop:=pN X st (tS X.K cA EX (exs aq aj F m))
end
section
variable {X:Cx}{cA:Cl}{aq:Nat->Nat->Bool}{aj:Bool}{F:Bool->Fn}{EX:XS}{a b c d e:Expr}{A B C:E}{pos p p2:Pos}{st:Stmt}{sts body orelse:List Stmt}{m:St}{ms mb me mh:bL}{es:List Expr}{Xs:Es}{x y n:Str}{i j:Nat}
theorem PS.weak{t t':TS}(h:PS X st t)(f:∀D Z H,t' D Z H->t D Z H):PS X st t':=λao s Z H D I q=>h ao s Z H D I (f D Z H q)
theorem pN.weak{t t':TS}(h:pN X sts t)(f:∀D Z H,t' D Z H->t D Z H):pN X sts t':=λao s Z H D I q=>h ao s Z H D I (f D Z H q)
theorem zn8:SS X cA aq aj F EX st .no:=λ_ _ _ _ _ _ ⟨_,_,_,_,_,h⟩=>h.elim
theorem zjK:vW X cA aq aj F EX [] .nil:=pN.weak W7 λD Z H hh=>un hh λU J s hL hS h=>h U H Z Ext.refl hS hL
theorem zhp(h1:SS X cA aq aj F EX st m)(h2:vW X cA aq aj F EX sts ms):vW X cA aq aj F EX (st::sts) (.cons m ms):=pN.weak (W8 h1 h2) λD Z H hh=>un hh λU J s hL hS h=>by
 let h:aP X.K cA (cI (ex aq aj F m J) λJ'=>exs aq aj F ms J') U H s D EX:=h;show⟨U,J,s,hL,hS,h.then_⟩
theorem znx(ha:SE X cA aq aj (F aj) EX a A)(hs:swapsWith a none pos.line X.env=pure false:=by rfl):SS X cA aq aj F EX (.Expr a pos) (.ex A):=PS.weak (zkB ha hs) λD Z H hh=>un hh λU J s hL hS h=>
 ⟨U,J,s,hL,hS,(aP.ofM hL hS.lz h).imp λd s1 U1 H1 ⟨x1,aG,h1⟩ v rv=>h1 U1 H1 Z Ext.refl aG (hL.mono x1 hS.lz)⟩
theorem zkM(ha:SE X cA aq aj (F aj) EX a A):SS X cA aq aj F EX (.Return (some a) pos) (.ret A):=PS.weak (zlZ ha) λD Z H hh=>un hh λU J s hL hS h=>
 ⟨U,J,s,hL,hS,(aP.ofM hL hS.lz h).imp λd s1 U1 H1 ⟨x1,aG,h1⟩ v rv=>h1 U1 H1 v Ext.refl aG rv⟩
theorem zlF(hN:X.N.Nodup)(hi:X.N[i]?=some x)(hx:Loc X.env.scope x)(ha:SE X cA aq aj (F aj) EX a A)(hs:swapsWith a (some (.Name x p)) pos.line X.env=pure false:=by rfl)(hf:X.fn x=true\/X.env.scope.names.lookup x=some .local:=by first|exact .inl rfl|exact .inr rfl) :
  SS X cA aq aj F EX (.Assign [.Name x p] a pos) (.asg (.nm i) A):=PS.weak (zlY hN hi hx ha hs hf) λD Z H hh=>un hh λU J s hL hS h=>
 ⟨U,J,s,hL,hS,(aP.ofM hL hS.lz h).imp λd s1 U1 H1 ⟨x1,aG,h1⟩ v rv=>h1 U1 H1 _ Ext.refl aG ((hL.mono x1 hS.lz).set rv)⟩
theorem Tf{k}(hc:X.aj=true)(hN:X.N.Nodup)(hi:X.N[i]?=some x)(hj:X.N[j]?=some y)(hx:Loc X.env.scope x)(hy:Loc X.env.scope y)(xY:X.fn x=true\/X.env.scope.names.lookup x=some .local)(xZ:X.fn y=true\/X.env.scope.names.lookup y=some .local) :
  PG X (.Tuple [.Name x px,.Name y py] k pos) (uf X.K 2 (iw (dB i) (iw (dB j) ud))):=zk2 hc (W_ (MF hN hi hx xY) (W_ (MF hN hj hy xZ) zjg))
def Zf{K:W.Frag}{U:Ph}{H:Hp}{s:S}{J:Vs}{Z:L2.St}{D:Ends}{d:Xv}{v:V}(cX:aj=true)(hL:aR K cA U H Z J)(hS:aD K cA U H s)(rv:aN K cA U H d v)(h:aP K cA (store aq aj (F aj) (.tp [i,j]) d J) U H s D EX):uf K 2 (iw (dB i) (iw (dB j) ud)) v Z H D.nx:=by
 let h:aP K cA (if aj=true then ofM (M.bd (dat d) λd=>M.opt ((jZ d).bind λds=>fX [i,j] (ds.map Xv.d) J)) J (λJ' s=>some (Out.nx J',s)) else λ_=>none) U H s D EX:=h;rw[if_pos cX]at h;let⟨dd,e0,rd,h1⟩:=Nk rv (aP.ofM hL hS.lz h);let⟨J',e,_,aG,h2⟩:=Run.opt hS h1;show(Ny i j).run U H s Z J J' dd v _ hL hS rd e λZ' hL' _ _=>h2 U H Z' Ext.refl hS hL'
theorem zjP{k}(hc:X.aj=true)(cX:aj=true)(hN:X.N.Nodup)(hi:X.N[i]?=some x)(hj:X.N[j]?=some y)(hx:Loc X.env.scope x)(hy:Loc X.env.scope y)(xY:X.fn x=true\/X.env.scope.names.lookup x=some .local)(xZ:X.fn y=true\/X.env.scope.names.lookup y=some .local)(ha:SE X cA aq aj (F aj) EX a A)
  (hs:swapsWithSole [.Tuple [.Name x px,.Name y py] k pt] a pos.line X.env=pure false:=by rfl) (hw:swappedStores [.Tuple [.Name x px,.Name y py] k pt] a X.env=pure none:=by rfl)
  (h1:(assignEach [.Tuple [.Name x px,.Name y py] k pt] X.env).map (·.2)=[assign (.Tuple [.Name x px,.Name y py] k pt) X.env]:=by rfl) :
  SS X cA aq aj F EX (.Assign [.Tuple [.Name x px,.Name y py] k pt] a pos) (.asg (.tp [i,j]) A):=PS.weak (Xa ha (Tf hc hN hi hj hx hy xY xZ) hs hw h1) λD Z H hh=>un hh λU J s hL hS h=>
 ⟨U,J,s,hL,hS,(aP.ofM hL hS.lz h).imp λd s1 U1 H1 ⟨x1,aG,h1⟩ v rv=>Zf cX (hL.mono x1 hS.lz) aG rv h1⟩
theorem zlJ(hO:SE X cA aq aj (F aj) EX oo O)(hI:SE X cA aq aj (F aj) EX ii I')(ha:SE X cA aq aj (F aj) EX a A)
  (Ti:∀v,assign (.Subscript oo ii p) X.env v=(do
   let ov <-holding [v] (eval oo X.env)
   let iv <-holding [v,ov] (eval ii X.env)
   standAt p
   holding [v,ov,iv] (setItem ov iv v)
   release [v,ov,iv] []):=by intro _;rfl) (hs:swapsWithSole [.Subscript oo ii p] a pos.line X.env=pure false:=by rfl) (hw:swappedStores [.Subscript oo ii p] a X.env=pure none:=by rfl)
  (h1:(assignEach [.Subscript oo ii p] X.env).map (·.2)=[assign (.Subscript oo ii p) X.env]:=by rfl) :
  SS X cA aq aj F EX (.Assign [.Subscript oo ii p] a pos) (.asg (.aq O I') A):=PS.weak (Xa ha (zmB hO hI zhx Ti) hs hw h1) λD Z H hh=>un hh λU J s hL hS h=>by
 show⟨U,J,s,hL,hS,(aP.ofM hL hS.lz h).imp λd s1 U1 H1 ⟨x1,aG,h1⟩ v rv=>?_⟩;let⟨dd,e0,rd,h2⟩:=Nk rv (aP.ofM (hL.mono x1 hS.lz) aG.lz h1);show aV (hL.mono x1 hS.lz) aG h2 λxo H2 U2 d2 s2 x2 hL2 aM r2 h3=>aV hL2 aM h3 λyi H3 U3 d3 s3 x3 oM gG r3 h4=>?_;let⟨k,_,ek,h5⟩:=Cv r3 h4;let⟨n,ad,xs,vs,_,ea,e1,f1,g1,q1,h6⟩:=Nv gG (r2.mono x3 aM.lz) h5;subst ek ea;cases ej:L2.pD xs.length k with
 |none=>simp only[ej]at h6;show h6.elim|some jj=>
  simp only[ej]at h6;show⟨ad,vs,k,jj,rfl,rfl,g1,by rw[<-q1.len];show ej,?_⟩;let rv3:=(rd.mono x2 aG.lz).mono x3 aM.lz;let qY:=gG.write e1 f1 (q1.set rv3 jj);let x4:Ext U3 H3 U3 (upd H3 ad (.lst (vs.set jj v))):=Ext.write f1 ⟨_,g1⟩;let⟨_,_,h8⟩:=h6 U3 _ x4 qY;show h8 U3 _ Z Ext.refl qY (oM.mono x4 gG.lz)
theorem zkL{kt k2 ug}(hc:X.aj=true)(cX:aj=true)(hN:X.N.Nodup)(hi:X.N[i]?=some x)(hj:X.N[j]?=some y)(wV:i≠j)(hx:X.env.scope.names.lookup x=some .local)(hy:X.env.scope.names.lookup y=some .local)
  (ha:SE X cA aq aj (F aj) EX a A) (hb:SE X cA aq aj (F aj) EX b B) (h1:starEach [a,b] X.env=(false,eval a X.env)::starEach [b] X.env) (h2:starEach [b] X.env=(false,eval b X.env)::starEach [] X.env)
  (hw:swappedStores [.Tuple [.Name x px,.Name y py] kt pt] (.Tuple [a,b] k2 ug) X.env=pure (some [x,y]))
  (hs:swapsWithSole [.Tuple [.Name x px,.Name y py] kt pt] (.Tuple [a,b] k2 ug) pos.line X.env=pure false:=by rfl) :
  SS X cA aq aj F EX (.Assign [.Tuple [.Name x px,.Name y py] kt pt] (.Tuple [a,b] k2 ug) pos) (.par i j A B):=PS.weak (zkV hc hN hi hj wV hx hy (rP ha (rP hb wZ h2) h1) hw hs) λD Z H hh=>un hh λU J s hL hS h=>by
 let h:aP X.K cA (if aj=true then ofM (M.bd (ev aq aj (F aj) A J) λx=>M.bd (ev aq aj (F aj) B J) λy=>M.ret (x,y)) J (λxy s=>some (.nx ((J.set i (some xy.1)).set j (some xy.2)),s)) else λ_=>none) U H s D EX:=h;rw[if_pos cX]at h;show aV hL hS (aP.ofM hL hS.lz h) λx H1 U1 d1 s1 x1 hL1 aG r1 h1=>aV hL1 aG h1 λy H2 U2 d2 s2 x2 hL2 aM r2 h2=>?_;let⟨_,_,h3⟩:=h2.bF aM;show⟨x,y,rfl,h3 U2 H2 _ Ext.refl aM ((hL2.set (r1.mono x2 aG.lz)).set r2)⟩
theorem zmR{pos':Pos}(hN:X.N.Nodup)(hi:X.N[i]?=some x)(hx:Loc X.env.scope x)(ha:SE X cA aq aj (F aj) EX a A)(hf:X.fn x=true\/X.env.scope.names.lookup x=some .local)(hr:PS X (.AugAssign (.Name x p) .Add a pos) (HN i (tE X.K cA EX (ev aq aj (F aj) A)) (Xb λi j=>i+j))) :
  SS X cA aq aj F EX (.AugAssign (.Name x p) .Add a pos) (.aug i A):=PS.weak hr λD Z H hh=>un hh λU J s hL hS h=>by
 let h:=aP.ofM hL hS.lz h;let⟨xv,e,h1⟩:=Run.m9 h;let⟨v,q1,q2⟩:=hL.2 i xv (Np e);show⟨v,q1,aV hL hS h1 λy H1 U1 d1 s1 x1 hL1 aG r1 h2=>?_⟩;let⟨p1,_,e1,h3⟩:=Cv (q2.mono x1 hS.lz) h2;let⟨p2,_,e2,h4⟩:=Cv r1 h3;let⟨_,_,h5⟩:=h4.bF aG;show⟨p1,p2,e1,e2,h5 U1 H1 _ Ext.refl aG (hL1.set (.d (.int _)))⟩
theorem znV(hc:ST X cA aq aj (F aj) EX c C)(ht:vW X cA aq aj F EX body mb)(he:vW X cA aq aj F EX orelse me):SS X cA aq aj F EX (.If c body orelse pos) (.iff C mb me):=PS.weak (zn1 hc ht he) λD Z H hh=>un hh λU J s hL hS h=>by
 show⟨U,J,s,hL,hS,(aP.ofM hL hS.lz h).imp λk s1 U1 H1 ⟨x1,aG,h1⟩=>?_⟩;cases k with
 |true=>show iT ⟨U1,J,s1,hL.mono x1 hS.lz,aG,h1⟩|false=>show iF ⟨U1,J,s1,hL.mono x1 hS.lz,aG,h1⟩
theorem ziN{g:TG}{elt iter tg:Expr}{ifs:List Expr}{scope:Scope}{N:List Str}{cond:Eo}{fr aL:List Nat}{many:Nat}{fz:Bool}{w:Wk}{spos py:Pos}(hc:X.aj=true)(q_:X.N.Nodup)(rW:X.N[i]?=some y)(hx:Loc X.env.scope y)(hf:X.fn y=true\/X.env.scope.names.lookup y=some .local)(B':cG X.env.scope scope)(hi:SI X cA aq aj (F aj) EX tg iter w)(hN:N.length=many+fr.length)
  (qO:∀(i:Nat) (y:Str) (j:Nat),N[many+i]?=some y->fr[i]?=some j->scope.names.lookup y=some .free/\X.N[j]?=some y)
  (hg:∀cl C s3 H3 fp ao,PG (X.blk scope cl N C s3 H3 fp ao) tg g) (hT:fZ X.K cA g aL) (dF:∀i∈aL,i<many)
  (ht:∀cl C s3 H3 fp ao,Fy (X.blk scope cl N C s3 H3 fp ao) cA aq aj (F aj) (λ_ _ _ _=>False) ifs cond) (he:∀cl C s3 H3 fp ao,SE (X.blk scope cl N C s3 H3 fp ao) cA aq aj (F aj) (λ_ _ _ _=>False) elt B)
  (uG:swapsWith (.ListComp elt [⟨tg,iter,ifs,0⟩] scope pos) (some (.Name y py)) spos.line X.env=pure true) (hs:∀x,foldedSetIterable iter X.env x=pure x:=by intro _;rfl) :
  SS X cA aq aj F EX (.Assign [.Name y py] (.ListComp elt [⟨tg,iter,ifs,0⟩] scope pos) spos) (.asg (.nm i) (.comp fz B aL w fr many cond)):=
 PS.weak (ze4 hc q_ rW hx hf B' hi (⟨hg,ht,he⟩ : Parts X elt tg ifs scope N g (qX X.K cA (λ_ _ _ _=>False) (oJ aq aj (F aj) cond)) (tE X.K cA (λ_ _ _ _=>False) (ev aq aj (F aj) B))) (ZY:=bG many fr) (λZ=>by simp[bG,hN]) (λZ i x v e1 e2=>Te qO Z i x v e1 e2) uG hs) λD Z H hh=>un hh λU J s hL hS h=>
  Zd (iter':=iter) hT dF ⟨U,J,s,hL,hS,(aP.ofM hL hS.lz h).imp λd s1 U1 H1 ⟨x1,aG,h1⟩ v rv=>h1 U1 H1 _ Ext.refl aG ((hL.mono x1 hS.lz).set rv)⟩
def oN(m:MS)(kN:Vs->MS):MS:=λs=>match m s with
 |some (.nx J',s')=>kN J' s'|some (.ct J',s')=>kN J' s'|some (.bk J',s')=>some (.nx J',s')|r=>r
def Zg{K:W.Frag}{U:Ph}{H:Hp}{s:S}{D:Ends}{m:MS}{kN:Vs->MS}{N:L2.St->Hp->Prop}(hN:∀U' J' s' Z' H',Ext U H U' H'->aR K cA U' H' Z' J'->aD K cA U' H' s'->aP K cA (kN J') U' H' s' D EX->N Z' H')(h:aP K cA (oN m kN) U H s D EX) :
  aP K cA m U H s {D with nx:=N,ct:=N,bk:=D.nx} EX:=by
 unfold aP oN at h;unfold aP;cases e:m s with
 |none=>rw[e]at h;show h|some r=>
  let⟨r,s1⟩:=r;rw[e]at h;cases r with
  |nx J'=>
   intro U1 H1 Z1 x r l;let h2:aP K cA (kN J') U H s1 D EX:=h;show hN U1 J' s1 Z1 H1 x l r (h2.ext x)
  |ct J'=>
   intro U1 H1 Z1 x r l;let h2:aP K cA (kN J') U H s1 D EX:=h;show hN U1 J' s1 Z1 H1 x l r (h2.ext x)
  |bk J'=>show h|rt d=>show h|er c fs J'=>show h
theorem zhv(hp:PassesOwn (model X.prog X.w) X.A X.env X.xe)(hc:ST X cA aq aj (F aj) EX c C)(hb:vW X cA aq aj F EX body mb):SS X cA aq aj F EX (.While c body [] pos) (.wh C mb):=PS.weak (zg6 hp hc hb) λD Z H hh=>un hh λU J s hL hS h=>by
 show⟨λm Z H=>∃U J s,aR X.K cA U H Z J/\aD X.K cA U H s/\aP X.K cA (gU (λJ=>M.bd (ev aq aj (F aj) C J) bool) (λJ=>exs aq aj F mb J) m J) U H s D EX,⟨jh,U,J,s,hL,hS,h⟩,?_⟩;rintro m Z H ⟨U,J,s,hL,hS,h⟩;cases m with
 |zero=>show h.elim|succ m=>
  show⟨U,J,s,hL,hS,(aP.ofM (k:=λok=>if ok=true then oN (exs aq aj F mb J) (gU (λJ=>M.bd (ev aq aj (F aj) C J) bool) (λJ=>exs aq aj F mb J) m) else λs=>some (.nx J,s)) hL hS.lz h).imp λk s1 U1 H1 ⟨x1,aG,h1⟩=>?_⟩;cases k with
  |true=>
   rw[if_pos rfl]at h1 ⊢;show⟨_,λZ' H' z=>⟨m,Gy m,z⟩,U1,J,s1,hL.mono x1 hS.lz,aG,Zg (λU' J' s' Z' H' _ l r q=>?_) h1⟩;show⟨U',J',s',l,r,q⟩
  |false=>
   rw[if_neg Gs]at h1 ⊢;show h1 U1 H1 Z Ext.refl aG (hL.mono x1 hS.lz)
def SG(X:Cx)(cA:Cl)(aq:Nat->Nat->Bool)(aj:Bool)(F:Bool->Fn)(EX:XS)(tg:Expr)(t:Tg):Prop:=∃g:TG,PG X tg g/\∀(U:Ph) (H:Hp) (s:S) (Z:L2.St) (J:Vs) (d:Xv) (v:V) (D:Ends),aR X.K cA U H Z J->aD X.K cA U H s->aN X.K cA U H d v->
 aP X.K cA (store aq aj (F aj) t d J) U H s D EX->g v Z H D.nx
theorem zjH(hN:X.N.Nodup)(hi:X.N[i]?=some x)(hx:Loc X.env.scope x)(hf:X.fn x=true\/X.env.scope.names.lookup x=some .local:=by first|exact .inl rfl|exact .inr rfl):SG X cA aq aj F EX (.Name x pos) (.nm i):=
 ⟨_,MF hN hi hx hf,λU H s Z J d v D hL hS r h=>h U H _ Ext.refl hS (hL.set r)⟩
theorem ziP{k}(hc:X.aj=true)(cX:aj=true)(hN:X.N.Nodup)(hi:X.N[i]?=some x)(hj:X.N[j]?=some y)(hx:Loc X.env.scope x)(hy:Loc X.env.scope y)(xY:X.fn x=true\/X.env.scope.names.lookup x=some .local)(xZ:X.fn y=true\/X.env.scope.names.lookup y=some .local) :
  SG X cA aq aj F EX (.Tuple [.Name x px,.Name y py] k pos) (.tp [i,j]):=
 ⟨_,Tf hc hN hi hj hx hy xY xZ,λU H s Z J d v D hL hS r h=>Zf cX hL hS r h⟩
def zmS(hp:PassesOwn (model X.prog X.w) X.A X.env X.xe)(hc:X.aj=true)(cX:aj=true)(ha:SI X cA aq aj (F aj) EX tg a w)(hg:SG X cA aq aj F EX tg t)(hb:vW X cA aq aj F EX body mb)
  (hs:∀x,foldedSetIterable a X.env x=pure x:=by intro _;rfl):SS X cA aq aj F EX (.For tg a body [] pos) (.fr t w mb):=by
 let⟨g,hG,hg⟩:=hg;show PS.weak (zmQ hp hc ha hG hb hs) λD Z H hh=>un hh λU J s hL hS h=>?_;let h:aP X.K cA (if aj=true then ofM (iZ aq aj (F aj) w J) J λcn=>dH cn.1 (λd J=>cI (store aq aj (F aj) t (.d d) J) λJ'=>exs aq aj F mb J') (cn.2+1) 0 J else λ_=>none) U H s D EX:=h;rw[if_pos cX]at h;show⟨U,J,s,hL,hS,(aP.ofM hL hS.lz h).imp λcn s1 U1 H1 ⟨x1,aG,h1⟩ aW hJ=>?_⟩;let hL1:=hL.mono x1 hS.lz;let⟨c,n⟩:=cn;dsimp only at h1 hJ;show⟨λi m Z' H'=>∃U' J' s',Ext U1 H1 U' H'/\aR X.K cA U' H' Z' J'/\aD X.K cA U' H' s'/\aP X.K cA (dH c (λd J=>cI (store aq aj (F aj) t (.d d) J) λJ'=>exs aq aj F mb J') m i J') U' H' s' D EX,⟨n+1,U1,J,s1,Ext.refl,hL1,aG,h1⟩,?_⟩;rintro i m Z' H' ⟨U',J',s',x2,hL2,aM,h4⟩;cases m with
 |zero=>show h4.elim|succ m=>
  cases ei:c.at i s' with
  |none=>
   exfalso
   unfold aP dH at h4;simp only[ei]at h4
  |some oi=>
   cases oi with
   |none=>
    show .inl ⟨hJ.stop U' H' H' s' i x2 cD.refl aM ei,?_⟩;unfold aP dH at h4;simp only[ei]at h4;show h4 U' H' Z' Ext.refl aM hL2
   |some xi=>
    show .inr ⟨hJ.go U' H' H' s' i xi x2 cD.refl aM ei,_,λZ3 H3 z=>⟨m,Gy m,z⟩,λv H3 hy=>?_⟩;let⟨gr,rx⟩:=hJ.uh U' H' H' s' i xi v H3 x2 cD.refl aM ei hy;let h5:aP X.K cA (oN (cI (store aq aj (F aj) t (.d xi) J') λJ'=>exs aq aj F mb J') (dH c (λd J=>cI (store aq aj (F aj) t (.d d) J) λJ'=>exs aq aj F mb J') m (i+1))) U' H' s' D EX:=by
     unfold aP at h4 ⊢;let e:dH c (λd J=>cI (store aq aj (F aj) t (.d d) J) λJ'=>exs aq aj F mb J') (m+1) i J' s'=oN (cI (store aq aj (F aj) t (.d xi) J') λJ'=>exs aq aj F mb J') (dH c (λd J=>cI (store aq aj (F aj) t (.d d) J) λJ'=>exs aq aj F mb J') m (i+1)) s':=by
      rw[dH];simp only[ei];rfl
     rw[e]at h4;show h4
    show hg U' H3 s' Z' J' (.d xi) v _ (hL2.mono gr.ext aM.lz) (aM.grow gr) (.d rx) (aP.then_ (Zg (λU4 J4 s4 Z4 H4 x4 l4 r4 q4=>⟨U4,J4,s4,(x2.trans gr.ext).trans x4,l4,r4,q4⟩) (h5.ext gr.ext)))
end
end Mi
namespace L2
open PySem PySem.Spec PyProof.Rows
structure oO(K:W.Frag)(x qual:Str)(st:Stmt)(f:Addr)(fd:FuncData):Prop where
 ex:∃(oc:Value) (od:Option Addr) (kV doc pm:Value) (an:Option Addr) (cdv ct:Value) (osl:Array (Option Value)),
  fd=PySem.W.fnOf x qual (aU st) (aH st) (aA st) .none kV doc pm an cdv ct/\K.lookup f=some ⟨oc,od,.func fd,osl⟩/\PySem.W.codeIn K cdv qual=true
 kp:PySem.W.keepIn K (.ref f)=true
end L2
namespace Mi
open PySem PySem.Spec PyProof.Rows L2
section
variable {P:Program}{w:World}{K:W.Frag}{mg:Str->Option Value}{base:Heap}{cA:Cl}{aq:Nat->Nat->Bool}{T:Nat->Option Df}
def Tj{U:Ph}{H:Hp}{N:List Str}{ds:List Xv}{vs:List V}{m p:Nat}(r:aQ K cA U H ds vs)(hp:p=ds.length)(hm:m=N.length):aR K cA U H (L2.start N vs) (ds.map some++List.replicate (m-p) none):=by
 subst hp hm;unfold L2.start;let hl:=r.len;show⟨by simp[hl],λi d e=>?_⟩;by_cases hi:i<ds.length
 .rw[nJ (by simpa using hi),gq]at e;cases z:ds[i]? with
  |none=>rw[z]at e;cases e|some x=>
   rw[z]at e;cases e;let⟨v,a,b⟩:=r.get z;show⟨v,by rw[nJ (by simp;lia),gq,a];rfl,b⟩
 .rw[o8 (by simpa using hi),z_]at e;split at e<;>cases e
def Nz{U:Ph}{H:Hp}{s:S}{ds:List Xv}{k n:Nat}{cm:Bool}{df:Df}{Q:VK}{E:XK}(hT:T n=some df)
  (h:Run K cA (call aq T (k+1) cm n ds) U H s (λd _ U' H'=>∀v,aN K cA U' H' d v->Q v H') (λc fs _ U' H'=>∀dx,j_ K cA U' H' c fs dx->E (.ref (cA.a c)) dx H')) :
  ds.length=df.gW/\aP K cA (exs aq cm (λc=>call aq T k c) df.body (ds.map some++List.replicate (df.many-df.gW) none)) U H s {nx:=λ_ H'=>Q .non H',rt:=Q} (λ_ C dx H'=>E C dx H'):=by
 unfold call at h;simp only[hT]at h;by_cases hl:ds.length=df.gW
 .refine⟨hl,?_⟩;rw[if_pos hl]at h;unfold Run at h;unfold aP;cases e:exs aq cm (λc=>call aq T k c) df.body (ds.map some++List.replicate (df.many-df.gW) none) s with
  |none=>simp only[e]at h|some r=>
   let⟨r,s1⟩:=r;simp only[e]at h;cases r with
   |nx J=>show λU' H' Z' x r l=>h U' H' x r _ (.d .non)|rt d=>show λU' H' v x r rv=>h U' H' x r v rv|er c fs J=>show λU' H' Z' x r l=>h U' H' x r|bk J=>show h.elim|ct J=>show h.elim
 .rw[if_neg hl]at h;show h.elim
def cM{cm:Bool}{n:Nat}{f:Addr}{fd:FuncData}{ps:List Str}:bZ P w K mg base (eN P w) cm 0 f fd ps (k_ K cA (call aq T 0 cm n)):=by
 let no:∀vs H Q E,k_ K cA (call aq T 0 cm n) vs H Q E->False:=by
  rintro vs H Q E ⟨_,_,_,_,_,h⟩;show h.elim
 show⟨λvs H Q E h=>(no _ _ _ _ h).elim,λA outer s H args us vs Q E _ _ _ _ _ h=>(no _ _ _ _ h).elim⟩
def Zh{x qual:Str}{st:Stmt}{f:Addr}{fd:FuncData}{N ps:List Str}{k n:Nat}{cm:Bool}{df:Df}(F:oO K x qual st f fd)(S:bR N ps (aA st))(hT:T n=some df)(hp:df.gW=ps.length)(hm:df.many=N.length)
  (hb:∀(cdv:Value) (A:Around) (outer:List Env) (s:Shared) (H:Hp) (E:XK),aX (k+1) A->
   vW (dh (eN P w) P w K mg base N qual (aA st) f cdv A outer s H E cm) cA aq cm (λc=>call aq T k c) (λ_ C dx H'=>E C dx H') (aH st) df.body) :
  bZ P w K mg base (eN P w) cm (k+1) f fd ps (k_ K cA (call aq T (k+1) cm n)):=by
 let⟨oc,od,kV,doc,pm,an,cdv,ct,osl,rfl,lk,iu⟩:=F.ex;show QT lk iu S (λvs H Q E hz=>?_) λA outer s H vs Q E hr hz=>?_
 .obtain⟨U,ds,s,r,hS,h⟩:=hz;rw[<-r.len,(Nz hT h).1,hp]
 .obtain⟨U,ds,st',r,hS,h⟩:=hz;let⟨hl,h2⟩:=Nz hT h;show⟨_,hb cdv A outer s H E hr,U,_,st',Tj r hl.symm hm,hS,h2⟩
theorem zlL{x qual:Str}{st:Stmt}{f:Addr}{fd:FuncData}{N ps:List Str}{k n:Nat}{cm:Bool}{df:Df}(F:oO K x qual st f fd)(S:bR N ps (aA st))(hT:T n=some df)(hp:df.gW=ps.length)(hm:df.many=N.length)
  (hb:∀(cdv:Value) (A:Around) (outer:List Env) (s:Shared) (H:Hp) (E:XK),aX k (A.deeper (envOfC qual (aA st) s.heap.objs.size f cdv))->
   vW (dh (eN P w) P w K mg base N qual (aA st) f cdv A outer s H E cm) cA aq cm (λc=>call aq T k c) (λ_ C dx H'=>E C dx H') (aH st) df.body) :
  bZ P w K mg base (eN P w) cm (k+1) f fd ps (k_ K cA (call aq T (k+1) cm n)):=Zh F S hT hp hm λcdv A outer s H E hr=>hb cdv A outer s H E (hr.deeper _)
end
def zmg{K:W.Frag}{cA:Cl}{m:List Xv->M Xv}{H:Hp}{a:Addr}{ns:List Int}(hq:cP K H a (ns.map V.int))(hm:∃s',m [.d (.fl (ns.map D.int))] []=some (.ok (.d (.bl true)),s')) :
  k_ K cA m [.ref a] H (λv _=>v=.bl true) λ_ _ _=>False:=by
 let rs:∀(l:List Int) U,aC K cA U H (l.map D.int) (l.map V.int):=λl U=>by
  induction l with
  |nil=>show .nil|cons i l ih=>show .cons (.int i) ih
 let hl:LstAt K ⟨λ_=>False,[]⟩ H a (ns.map V.int):=by
  rcases hq with h|h
  .exact .inl ⟨h,λz=>z⟩
  .exact .inr (.inr h)
 show⟨⟨λ_=>False,[]⟩,[.d (.fl (ns.map D.int))],[],.cons (.d (.fl hl (rs ns _))) .nil,⟨rfl,(λn o b e1 e2=>by simp at e1),Al,(λb hb=>by cases hb),(λb z=>False.elim z)⟩,?_⟩;let⟨s',e⟩:=hm;unfold Run;rw[e];intro U' H' _ _ v rv;cases rv with
 |d rv=>cases rv;rfl
theorem zfU:Raises X (λ_ _ _ _=>False):=λ_ _ _ _ _ _ _ _ _ _ _ _ _ z=>z.elim
def uX(r:aX k A):A.units+60<cLine:=by let:=r.un;lia
def aF:Expr->Bool
 |.Starred _ _=>false|_=>true
def aY(h:aF e=true):starEach (e::es) env=(false,eval e env)::starEach es env:=by
 cases e<;>first|rfl|cases h
theorem bB:∀{es:List Expr} {env:Env} {pos:Pos},es.all aF=true->(backTo pos (starEach es env)).any (·.1)=false
 |[],_,_,_=>rfl|e::es,env,pos,h=>by
  rw[Aq,gA]at h;rw[aY h.1];change (false||(backTo pos (starEach es env)).any (·.1))=false;rw[bB h.2];rfl
theorem rm:∀{es:List Expr} {env:Env} {pos:Pos},es.all aF=true->(backTo pos (starEach es env)).all (λx=>!x.1)=true
 |[],_,_,_=>rfl|e::es,env,pos,h=>by
  rw[Aq,gA]at h;rw[aY h.1];change (true&&(backTo pos (starEach es env)).all (λx=>!x.1))=true;rw[rm h.2];rfl
def yc(h1:aF e=true)(h2:es.all aF=true)(h3:decide (es.length<28)=true):((backTo pos (starEach (e::es) env)).all (λx=>!x.1)&&(backToKw pos (keywordEach [] env)).all (λx=>x.1.isSome)&&decide ((e::es).length+([]:List Keyword).length+(if ([]:List Keyword).isEmpty then 0 else 1)<30))=true:=by
 rw[rm (es:=e::es) (by rw[Aq,h1,h2];rfl)];let:=fG h3;let z:(e::es).length+([]:List Keyword).length+(if ([]:List Keyword).isEmpty then 0 else 1)<30:=by
  change es.length+1+0+0<30
  lia
 rw[fH z];rfl
def oR(sc scope:Scope):Bool:=(match scope.kind with|.function=>true|_=>false)&&scope.names.all λy=>match y.2 with
 |.cell=>(match scope.names.lookup y.1 with|some .cell=>true|_=>false)
 |.free=>(match sc.names.lookup y.1 with|some .cell=>true|some .free=>true|_=>false)
 |.local=>(match scope.names.lookup y.1 with|some .local=>true|_=>false)
 |_=>true
def cG.of(h:oR sc scope=true):cG sc scope:=by
 unfold oR at h;rw[gA,ju]at h;let⟨h1,h2⟩:=h;show⟨?_,λy hy z=>?_,λy hy z=>?_,λy hy z=>?_⟩
 .split at h1
  .assumption
  .cases h1
 .let:=h2 y hy;rw[z]at this;dsimp only at this;split at this
  .assumption
  .cases this
 .let:=h2 y hy;rw[z]at this;dsimp only at this;split at this
  .exact .inl (by assumption)
  .exact .inr (by assumption)
  .cases this
 .let:=h2 y hy;rw[z]at this;dsimp only at this;split at this
  .assumption
  .cases this
def frB(scope:Scope)(XN:List Str):List Str->List Nat->Bool
 |y::N,j::fr=>(match scope.names.lookup y with|some .free=>true|_=>false)&&decide (XN[j]?=some y)&&frB scope XN N fr
 |[],[]=>true|_,_=>false
theorem Zi:∀{N:List Str} {fr:List Nat},frB scope XN N fr=true->N.length=fr.length/\∀(i:Nat) (y:Str) (j:Nat),N[i]?=some y->fr[i]?=some j->scope.names.lookup y=some .free/\XN[j]?=some y
 |[],[],_=>⟨rfl,λi y j h=>by simp at h⟩|[],_::_,h=>by cases h|_::_,[],h=>by cases h|y::N,j::fr,h=>by
  unfold frB at h;rw[gA,gA,Ai]at h;let⟨⟨h1,h2⟩,h3⟩:=h;let⟨l,q⟩:=Zi h3;show⟨by simp[l],λi z m e1 e2=>?_⟩;cases i with
  |zero=>
   simp at e1 e2;subst e1 e2;show⟨?_,h2⟩;split at h1
   .assumption
   .cases h1
  |succ i=>show q i z m (by simpa using e1) (by simpa using e2)
def okN(x:Str):Bool:=!(x==("__debug__" : Str)) && !(x==("__classdict__" : Str)) && !decide (x="__name__")
def yd(h:okN x=true):(x==("__debug__" : Str))=false/\(x==("__classdict__" : Str))=false/\x≠"__name__":=by
 unfold okN at h;simp only[gA,Bool.not_eq_true',decide_eq_false_iff_not]at h;show⟨h.1.1,h.1.2,h.2⟩
theorem NK{env:Env}{k:NameKind}(hk:k≠.free):∀{names:List (Str×NameKind)} {x:Str},names.lookup x=some k->
  (names.map λ(n,k)=>if (k==NameKind.free&&env.scope.kind==.function&&env.kindOf n==some .cell) then (n,NameKind.cell) else (n,k)).lookup x=some k
 |[],x,h=>by simp at h|(n,q)::r,x,h=>by
  rw[pI]at h;rw[iH,pI];let hd:∀c:Bool,(if c=true then (n,NameKind.cell) else (n,q)).1=n:=λc=>by cases c<;>rfl
  rw[hd];by_cases z:x=n
  .subst z;simp only[Ed]at h ⊢;cases h
   split
   .rename_i y;simp only[gA,nM]at y;show absurd y.1.1 hk
   .rfl
  .let z':(x==n)=false:=by simpa using z
   simp only[z']at h ⊢;show NK hk h
def uY(K:W.Frag):Sp:=λvs H Q _=>∃(a:Addr) (ns:List Int),vs=[.ref a]/\cP K H a (ns.map V.int)/\ns.length<=63/\True/\∀H',Q (.bl true) H'
def zjW{K:W.Frag}{cA:Cl}{m:List Xv->M Xv}(hm:∀ns:List Int,ns.length<=63->∃s',m [.d (.fl (ns.map D.int))] []=some (.ok (.d (.bl true)),s'))(vs:List V)(H:Hp)(Q:VK)(E:XK)(h:uY K vs H Q E):k_ K cA m vs H Q E:=by
 let⟨a,ns,rfl,hq,hl,hO,k⟩:=h;let⟨U,ds,s,r1,r2,h⟩:=zmg (cA:=cA) (m:=m) hq (hm ns hl);show⟨U,ds,s,r1,r2,?_⟩;unfold Run at h ⊢;split at h
 .intro U' H' x r v rv;rw[h U' H' x r v rv];show k H'
 .exact λU' H' x r dx q=>(h U' H' x r dx q).elim
 .exact h
theorem CJ{K:W.Frag}{fd:FuncData}{p:Str}(h:∀a,bindArgs fd ⟨[a],[]⟩=pure [(p,a)]):Binds K fd [p] []:=.all λus hl=>by
 cases us with
 |nil=>cases hl|cons a r=>cases r with
  |nil=>show h a|cons b r=>cases hl
theorem uZ{K:W.Frag}{fd:FuncData}{p q:Str}(h:∀a b,bindArgs fd ⟨[a,b],[]⟩=pure [(p,a),(q,b)]):Binds K fd [p,q] []:=.all λus hl=>by
 cases us with
 |nil=>cases hl|cons a r=>cases r with
  |nil=>cases hl|cons b r=>cases r with
   |nil=>show h a b|cons c r=>cases hl
theorem u5{K:W.Frag}{fd:FuncData}{p q t:Str}(h:∀a b c,bindArgs fd ⟨[a,b,c],[]⟩=pure [(p,a),(q,b),(t,c)]):Binds K fd [p,q,t] []:=.all λus hl=>by
 cases us with
 |nil=>cases hl|cons a r=>cases r with
  |nil=>cases hl|cons b r=>cases r with
   |nil=>cases hl|cons c r=>cases r with
    |nil=>show h a b c|cons d r=>cases hl
theorem u6{K:W.Frag}{fd:FuncData}{p q t u:Str}(h:∀a b c d,bindArgs fd ⟨[a,b,c,d],[]⟩=pure [(p,a),(q,b),(t,c),(u,d)]):Binds K fd [p,q,t,u] []:=.all λus hl=>by
 cases us with
 |nil=>cases hl|cons a r=>cases r with
  |nil=>cases hl|cons b r=>cases r with
   |nil=>cases hl|cons c r=>cases r with
    |nil=>cases hl|cons d r=>cases r with
     |nil=>show h a b c d|cons e r=>cases hl
def zlT:bootBuiltins "int"=some (.type "int"):=by decide +kernel
def ziL:bootBuiltins "bool"=some (.type "bool"):=by decide +kernel
def Tn:bootBuiltins "tuple"=some (.type "tuple"):=by decide +kernel
def Zj:bootBuiltins "list"=some (.type "list"):=by decide +kernel
structure JE(X:Cx)(cA:Cl)(aq:Nat->Nat->Bool)(aj:Bool)(F:Fn)(EX:XS)(e:Expr)(m:E):Prop where
 o:SE X cA aq aj F EX e m
structure JA(X:Cx)(cA:Cl)(aq:Nat->Nat->Bool)(aj:Bool)(F:Fn)(EX:XS)(e:List Expr)(m:Es):Prop where
 o:SA X cA aq aj F EX e m
structure JT(X:Cx)(cA:Cl)(aq:Nat->Nat->Bool)(aj:Bool)(F:Fn)(EX:XS)(e:Expr)(m:E):Prop where
 o:ST X cA aq aj F EX e m
structure JW(X:Cx)(cA:Cl)(aq:Nat->Nat->Bool)(aj:Bool)(F:Fn)(EX:XS)(e:Expr)(m:E):Prop where
 o:SW X cA aq aj F EX e m
structure JC(X:Cx)(cA:Cl)(aq:Nat->Nat->Bool)(aj:Bool)(F:Fn)(EX:XS)(e:List Expr)(m:Eo):Prop where
 o:Fy X cA aq aj F EX e m
structure JO(X:Cx)(cA:Cl)(aq:Nat->Nat->Bool)(aj:Bool)(F:Fn)(EX:XS)(e:Option Expr)(m:Eo):Prop where
 o:JM X cA aq aj F EX e m
structure JI(X:Cx)(cA:Cl)(aq:Nat->Nat->Bool)(aj:Bool)(F:Fn)(EX:XS)(tg e:Expr)(m:Wk):Prop where
 o:SI X cA aq aj F EX tg e m
structure JG(X:Cx)(cA:Cl)(aq:Nat->Nat->Bool)(aj:Bool)(F:Bool->Fn)(EX:XS)(e:Expr)(m:Tg):Prop where
 o:SG X cA aq aj F EX e m
structure JS(X:Cx)(cA:Cl)(aq:Nat->Nat->Bool)(aj:Bool)(F:Bool->Fn)(EX:XS)(e:Stmt)(m:St):Prop where
 o:SS X cA aq aj F EX e m
structure JB(X:Cx)(cA:Cl)(aq:Nat->Nat->Bool)(aj:Bool)(F:Bool->Fn)(EX:XS)(e:List Stmt)(m:bL):Prop where
 o:vW X cA aq aj F EX e m
structure JK(X:Cx)(x:Str)(k:NameKind):Prop where
 o:X.env.scope.names.lookup x=some k
structure JP(X:Cx)(cA:Cl)(op:CmpOp)(p:Pr):Prop where
 o:∃r,eG X (compareOp op) r/\bA X.K cA p (r2 r)
structure JQ(X:Cx)(cA:Cl)(op:Operator)(p:Pr):Prop where
 o:∃r,eG X (binaryOp op) r/\bA X.K cA p (r2 r)
structure JN(X:Cx)(cA:Cl)(kx:Expr)(k:Kd):Prop where
 o:PE X kx (tC (Ft cA k))
structure JR(X:Cx)(EX:XS):Prop where
 o:Raises X EX
structure JH(X:Cx):Prop where
 o:PassesOwn (model X.prog X.w) X.A X.env X.xe
structure JY(X:Cx)(tg:Expr)(g:TG):Prop where
 o:PG X tg g
def lG:NameKind->Bool
 |.local=>true|.cell=>true|_=>false
def CK:NameKind->Bool
 |.local=>true|.cell=>true|.free=>true|_=>false
section
variable {X:Cx}{cA:Cl}{aq:Nat->Nat->Bool}{aj:Bool}{F:Fn}{EX:XS}{a b c d e:Expr}{A B C Dd E':E}{pos p p2 apos:Pos}{es:List Expr}{Xs:Es}{x y:Str}{k k':NameKind}{q q1 q2 q3:Pr}{fz:Bool}
theorem zpO(h:scope.names.lookup x=some k)(hk:(match k with|.free=>false|_=>true)=true):JK (X.blk scope cl N Cc s3 H3 fp ao) x k:=
 ⟨NK (by intro z;subst z;cases hk) h⟩
theorem g_v(i:Nat)(hN:X.N[i]?=some x)(h:JK X x k)(hv:CK k=true)(hd:okN x=true):JE X cA aq aj F EX (.Name x pos) (.v i):=
 ⟨zpC i hN (by cases k<;>first|exact .inl h.o|exact .inr (.inl h.o)|exact .inr (.inr h.o)|cases hv) (yd hd).1 (yd hd).2.1⟩
theorem znP{i j p}:JE X cA aq aj F EX (.Constant (.int i) j p) (.c (.int i)):=⟨zkU⟩
theorem zpG{i j p}:JE X cA aq aj F EX (.Constant (.bool i) j p) (.c (.bl i)):=⟨zor⟩
theorem zom{j p}:JE X cA aq aj F EX (.Constant .none j p) (.c .non):=⟨zmr⟩
def zpL(h:∃t,X.mg x=some (.int i t))(hg:JK X x .globalImplicit)(hd:okN x=true):JE X cA aq aj F EX (.Name x pos) (.c (.int i)):=by
 let⟨t,h⟩:=h;show⟨zjn hg.o h (yd hd).1⟩
theorem Zk:JQ X cA .Add .add:=⟨_,zfB,zmb⟩
theorem znK:JQ X cA .Sub .aq:=⟨_,znf,zl5⟩
theorem znU:JQ X cA .Mult .mul:=⟨_,zmf,zmJ⟩
theorem zkP:JQ X cA .FloorDiv .fdiv:=⟨_,zkh,zkj⟩
theorem zon:JQ X cA .Mod .mod:=⟨_,zmc,zlS⟩
theorem zoQ:JQ X cA .Pow .pow:=⟨_,zmL,zlU⟩
def CP(h:JQ X cA op q)(ha:JE X cA aq aj F EX a A)(hb:JE X cA aq aj F EX b B):JE X cA aq aj F EX (.BinOp a op b pos) (.pr fz q (.cons A (.cons B .nil))):=by
 let⟨r,h1,h2⟩:=h.o;show⟨zmp h1 h2 ha.o hb.o⟩
theorem znG(ha:JE X cA aq aj F EX a A):JE X cA aq aj F EX (.UnaryOp .USub a pos) (.pr true .neg (.cons A .nil)):=⟨znY Xf zmU ha.o⟩
theorem zn2(ha:JE X cA aq aj F EX a A):JE X cA aq aj F EX (.UnaryOp .Not a pos) (.not A):=⟨zk0 ha.o⟩
theorem Zm{op}(ha:JE X cA aq aj F EX a A):JE X cA aq aj F EX (.BoolOp op [a] pos) A:=⟨zmw ha.o⟩
theorem Tr{rest:List Expr}(ha:JE X cA aq aj F EX a A)(hb:JE X cA aq aj F EX (.BoolOp .And (b::rest) pos) B):JE X cA aq aj F EX (.BoolOp .And (a::b::rest) pos) (.and A B):=⟨zlw ha.o hb.o⟩
theorem zpQ{rest:List Expr}(ha:JE X cA aq aj F EX a A)(hb:JE X cA aq aj F EX (.BoolOp .Or (b::rest) pos) B):JE X cA aq aj F EX (.BoolOp .Or (a::b::rest) pos) (.or A B):=⟨znA ha.o hb.o⟩
theorem Tt{k:Nat}(hr:aX k X.A):JP X cA .Eq .eq:=⟨_,zkO (uX hr),zod⟩
theorem Zn{k:Nat}(hr:aX k X.A):JP X cA .NotEq .ne:=⟨_,zk5 (uX hr),zoa⟩
theorem Zo{k:Nat}(hr:aX k X.A):JP X cA .Lt .lt:=⟨_,Ia.or (zk4 (by let:=uX hr;lia)),zok⟩
theorem NP:JP X cA .LtE .le:=⟨_,znW,zou⟩
theorem Zq:JP X cA .Gt .gt:=⟨_,zos,zoR⟩
theorem Zr:JP X cA .GtE .ge:=⟨_,zoE,zoJ⟩
theorem Zu{k:Nat}(hr:aX k X.A):JP X cA .In .inn:=⟨_,zmv (uX hr),zoc⟩
theorem Zv{k:Nat}(hr:aX k X.A):JP X cA .NotIn .nin:=⟨_,zjw (uX hr),zla⟩
def oU:Expr->Bool
 |.Set _ _ _=>false|_=>true
def yg(h:oU b=true):behindInMarks op b=false:=by cases b<;>first|rfl|cases h
def zN(ho:JP X cA op q)(ha:JE X cA aq aj F EX a A)(hb:JE X cA aq aj F EX b B)(h1:oU b=true:=by rfl):JE X cA aq aj F EX (.Compare a [op] [b] pos) (.pr true q (.cons A (.cons B .nil))):=by
 let⟨r,h2,h3⟩:=ho.o;show⟨zlR h2 h3 ha.o hb.o (yg h1)⟩
def yh(ho:JP X cA op q)(ha:JE X cA aq aj F EX a A)(hb:JE X cA aq aj F EX b B)(h1:oU b=true:=by rfl):JT X cA aq aj F EX (.Compare a [op] [b] pos) (.pr true q (.cons A (.cons B .nil))):=by
 let⟨r,h2,h3⟩:=ho.o;show⟨zkJ h2 h3 ha.o hb.o (yg h1)⟩
def znL(h1:JP X cA op q1)(h2:JP X cA op' q2)(ha:JE X cA aq aj F EX a A)(hb:JE X cA aq aj F EX b B)(hc:JE X cA aq aj F EX c C)(hm:oU c=true:=by rfl):JE X cA aq aj F EX (.Compare a [op,op'] [b,c] pos) (.zA q1 q2 A B C):=by
 let⟨r,h3,h4⟩:=h1.o;let⟨r',h5,h6⟩:=h2.o;show⟨zlr h3 h4 h5 h6 ha.o hb.o hc.o (yg hm)⟩
theorem zop{j p}(ha:JE X cA aq aj F EX a A):JE X cA aq aj F EX (.Compare a [.Is] [.Constant .none j p] pos) (.pr true .tL (.cons A .nil)):=⟨zk1 ha.o⟩
theorem zmk{j p}(ha:JE X cA aq aj F EX a A):JE X cA aq aj F EX (.Compare a [.IsNot] [.Constant .none j p] pos) (.pr true .qQ (.cons A .nil)):=⟨zkv ha.o⟩
theorem zoq{j p}(ha:JE X cA aq aj F EX a A):JT X cA aq aj F EX (.Compare a [.Is] [.Constant .none j p] pos) (.pr true .tL (.cons A .nil)):=⟨zmX ha.o⟩
theorem zmE{j p}(ha:JE X cA aq aj F EX a A):JT X cA aq aj F EX (.Compare a [.IsNot] [.Constant .none j p] pos) (.pr true .qQ (.cons A .nil)):=⟨zkz ha.o⟩
def zO:Expr->Bool
 |.Call _ _ _ _=>true|.Name _ _=>true|.Subscript _ _ _=>true|.Attribute _ _ _=>true|_=>false
theorem Zw(ha:JE X cA aq aj F EX a A)(he:zO a=true:=by rfl):JT X cA aq aj F EX a A:=⟨znj ha.o (by cases a<;>first|(intro _;rfl)|cases he)⟩
theorem Zx(ha:JT X cA aq aj F EX a A):JT X cA aq aj F EX (.UnaryOp .Not a pos) (.not A):=⟨zmO ha.o⟩
theorem zls(ha:JT X cA aq aj F EX a A):JW X cA aq aj F EX (.BoolOp .And [a] pos) A:=⟨zjQ ha.o⟩
theorem zog(ha:JT X cA aq aj F EX a A):JW X cA aq aj F EX (.BoolOp .Or [a] pos) A:=⟨zle ha.o⟩
theorem znF{rest:List Expr}(ha:JT X cA aq aj F EX a A)(hb:JW X cA aq aj F EX (.BoolOp .And (b::rest) pos) B):JW X cA aq aj F EX (.BoolOp .And (a::b::rest) pos) (.and A B):=⟨zl8 ha.o hb.o⟩
theorem zpY{rest:List Expr}(ha:JT X cA aq aj F EX a A)(hb:JW X cA aq aj F EX (.BoolOp .Or (b::rest) pos) B):JW X cA aq aj F EX (.BoolOp .Or (a::b::rest) pos) (.or A B):=⟨zoA ha.o hb.o⟩
theorem t_w(h:JW X cA aq aj F EX a A):JT X cA aq aj F EX a A:=⟨zpF h.o⟩
theorem Zy(hc:JT X cA aq aj F EX c C)(ha:JE X cA aq aj F EX a A)(hb:JE X cA aq aj F EX b B):JE X cA aq aj F EX (.IfExp c a b pos) (.ite C A B):=⟨zlg hc.o ha.o hb.o⟩
theorem zoH:JA X cA aq aj F EX [] .nil:=⟨zlf⟩
theorem qm(ha:JE X cA aq aj F EX a A)(hr:JA X cA aq aj F EX es Xs)(hs:aF a=true:=by rfl):JA X cA aq aj F EX (a::es) (.cons A Xs):=⟨zi3 ha.o hr.o (aY hs)⟩
theorem zoK{k}(ha:JA X cA aq aj F EX es Xs)(hz:decide (Es.len Xs<=sizeLine)=true:=by rfl):JE X cA aq aj F EX (.Tuple es k pos) (.tup Xs):=⟨zk8 ha.o (fG hz)⟩
theorem zn7(ha:JA X cA aq aj F EX es Xs)(hz:decide (Es.len Xs<=sizeLine)=true:=by rfl):JE X cA aq aj F EX (.List es pos) (.lst fz Xs):=⟨zlC ha.o (fG hz)⟩
def u9:Expr->Bool
 |.Constant _ _ _=>true|.Name _ _=>true|.Call _ _ _ _=>true|.BinOp _ _ _ _=>true|.UnaryOp _ _ _=>true|.Subscript _ _ _=>true|.IfExp _ _ _ _=>true|.Attribute _ _ _=>true|.Compare _ _ _ _=>true|.BoolOp _ _ _=>true|_=>false
theorem Zz(ha:JE X cA aq aj F EX a A)(hb:JE X cA aq aj F EX b B)(hs:u9 b=true:=by rfl):JE X cA aq aj F EX (.Subscript a b pos) (.pr true .ix (.cons A (.cons B .nil))):=⟨zn9 zn4 ha.o hb.o (by cases b<;>first|(intro _ _;rfl)|cases hs)⟩
theorem zpJ:JO X cA aq aj F EX none .no:=⟨znQ⟩
theorem znO(ha:JE X cA aq aj F EX a A):JO X cA aq aj F EX (some a) (.yes A):=⟨zm0 ha.o⟩
theorem zpK{lo hi:Option Expr}{Lo Hi:Eo}(ha:JE X cA aq aj F EX a A)(hl:JO X cA aq aj F EX lo Lo)(hh:JO X cA aq aj F EX hi Hi):JE X cA aq aj F EX (.Subscript a (.Slice lo hi none p2) pos) (.sl fz A Lo Hi):=⟨znH ha.o hl.o hh.o⟩
theorem zoD(ha:JE X cA aq aj F EX a A):JE X cA aq aj F EX (.Subscript a (.Slice none none (some (.UnaryOp .USub (.Constant (.int 1) j p3) p4)) p2) pos) (.pr true .rev (.cons A .nil)):=⟨zmP ha.o⟩
theorem znb(f:Nat){cm:Bool}{k:Nat}{fa:Addr}{fd:FuncData}{ps:List Str}(Fo:bZ X.prog X.w X.K X.mg X.base (eN X.prog X.w) cm k fa fd ps (k_ X.K cA (F f)))(iW:cm=true->X.aj=true)(hr:aX k X.A)(hm:X.mg x=some (.ref fa))(hk:PySem.W.keepIn X.K (.ref fa)=true)(hb:Binds X.K fd ps [])(R:JR X EX)(hg:JK X x .globalImplicit)
  (ha:JA X cA aq aj F EX (e::es) Xs) (hd:okN x=true) (he:aF e=true:=by rfl) (cQ:es.all aF=true:=by rfl) :
  JE X cA aq aj F EX (.Call (.Name x p) (e::es) [] pos) (.call f Xs):=⟨ziU Fo iW hr hg.o hm hk hb R.o ha.o (yd hd).1 (aY he) (bB cQ)⟩
theorem NQ(hv:Ft cA kd=.ty T)(hm:X.mg x=none)(hb:bootBuiltins x=some (.type T))(hg:JK X x .globalImplicit)(hd:okN x=true):JN X cA (.Name x pos) kd:=⟨λao s Z H Q I h=>by
 rw[hv]at h;show vM I hg.o hm hb ⟨.ty T,H,I,rfl,h⟩ (yd hd).2.2 (yd hd).1⟩
theorem zl1(h0:(uR kd).isSome=true)(hm:X.mg "isinstance"=none)(hg:JK X "isinstance" .globalImplicit)(ha:JE X cA aq aj F EX a A)(hk:JN X cA kx kd)(h1:aF a=true:=by rfl)(h2:aF kx=true:=by rfl):JE X cA aq aj F EX (.Call (.Name "isinstance" p) [a,kx] [] pos) (.lF A kd):=
 ⟨zlb (λz=>by rw[z]at h0;cases h0) hg.o hm ha.o hk.o (aY h1) (aY h2) (bB (by rw[Aq,h2];rfl))⟩
theorem Tv(hm:X.mg "len"=none)(hg:JK X "len" .globalImplicit)(ha:JA X cA aq aj F EX (e::es) Xs)(he:aF e=true:=by rfl)(cQ:es.all aF=true:=by rfl):JE X cA aq aj F EX (.Call (.Name "len" p) (e::es) [] pos) (.pr fz .len Xs):=⟨zJ zc0 zmn hg.o hm PySem.boot_len ha.o J0 J0 (aY he) (bB cQ)⟩
theorem ZC(hm:X.mg "abs"=none)(hg:JK X "abs" .globalImplicit)(ha:JA X cA aq aj F EX (e::es) Xs)(he:aF e=true:=by rfl)(cQ:es.all aF=true:=by rfl):JE X cA aq aj F EX (.Call (.Name "abs" p) (e::es) [] pos) (.pr fz .abs Xs):=⟨zJ zhZ zm6 hg.o hm PyProof.Rows.boot_abs ha.o J0 J0 (aY he) (bB cQ)⟩
theorem zmK(hc:X.aj=true)(hm:X.mg "max"=none)(hg:JK X "max" .globalImplicit)(ha:JA X cA aq aj F EX (e::es) Xs)(he:aF e=true:=by rfl)(cQ:es.all aF=true:=by rfl):JE X cA aq aj F EX (.Call (.Name "max" p) (e::es) [] pos) (.pr fz .max2 Xs):=⟨zJ (zgr hc) zjk hg.o hm PyProof.Rows.boot_max ha.o J0 J0 (aY he) (bB cQ)⟩
theorem ZD(hc:X.aj=true)(hm:X.mg "min"=none)(hg:JK X "min" .globalImplicit)(ha:JA X cA aq aj F EX (e::es) Xs)(he:aF e=true:=by rfl)(cQ:es.all aF=true:=by rfl):JE X cA aq aj F EX (.Call (.Name "min" p) (e::es) [] pos) (.pr fz .min2 Xs):=⟨zJ (zgF hc) zjM hg.o hm PyProof.Rows.boot_min ha.o J0 J0 (aY he) (bB cQ)⟩
theorem zlG(hm:X.mg "int"=none)(hg:JK X "int" .globalImplicit)(ha:JA X cA aq aj F EX (e::es) Xs)(he:aF e=true:=by rfl)(cQ:es.all aF=true:=by rfl):JE X cA aq aj F EX (.Call (.Name "int" p) (e::es) [] pos) (.pr fz .rZ Xs):=⟨Sw zgO zkx hg.o hm PyProof.Rows.boot_int ha.o J0 J0 (aY he) (bB cQ)⟩
theorem zhP(hm:X.mg "divmod"=none)(hg:JK X "divmod" .globalImplicit)(ha:JA X cA aq aj F EX (e::es) Xs)(he:aF e=true:=by rfl)(cQ:es.all aF=true:=by rfl):JE X cA aq aj F EX (.Call (.Name "divmod" p) (e::es) [] pos) (.pr fz .divmod Xs):=⟨zJ zdL zgd hg.o hm PyProof.Rows.boot_divmod ha.o J0 J0 (aY he) (bB cQ)⟩
theorem FN(hc:X.aj=true)(hm:X.mg "all"=none)(hg:JK X "all" .globalImplicit)(ha:JA X cA aq aj F EX (e::es) Xs)(he:aF e=true:=by rfl)(cQ:es.all aF=true:=by rfl):JE X cA aq aj F EX (.Call (.Name "all" p) (e::es) [] pos) (.pr fz .all Xs):=⟨zJ (zgh hc) zmy hg.o hm PyProof.Rows.boot_all ha.o J0 J0 (aY he) (bB cQ)⟩
theorem zno(hm:X.mg "list"=none)(hg:JK X "list" .globalImplicit)(ha:JA X cA aq aj F EX (e::es) Xs)(he:aF e=true:=by rfl)(cQ:es.all aF=true:=by rfl):JE X cA aq aj F EX (.Call (.Name "list" p) (e::es) [] pos) (.pr fz .list Xs):=⟨Sw zdh zjE hg.o hm Zj ha.o J0 J0 (aY he) (bB cQ)⟩
theorem FP(hm:X.mg "tuple"=none)(hg:JK X "tuple" .globalImplicit)(ha:JA X cA aq aj F EX (e::es) Xs)(he:aF e=true:=by rfl)(cQ:es.all aF=true:=by rfl):JE X cA aq aj F EX (.Call (.Name "tuple" p) (e::es) [] pos) (.pr fz .tuple Xs):=⟨Sw zcs zhj hg.o hm Tn ha.o J0 J0 (aY he) (bB cQ)⟩
theorem znh(ho:JE X cA aq aj F EX a A)(hb:JE X cA aq aj F EX b B)(fO:attributeBase a "append" X.env (eval a X.env)=eval a X.env:=by rfl)(fP:(apos.endLine==pos.line)=true:=by rfl)(hs:aF b=true:=by rfl) :
  JE X cA aq aj F EX (.Call (.Attribute a "append" apos) [b] [] pos) (.push A B):=⟨zkd ho.o hb.o fO (yc hs rfl rfl) fP (aY hs) rfl⟩
theorem zoe(ho:JE X cA aq aj F EX a A)(fO:attributeBase a "pop" X.env (eval a X.env)=eval a X.env:=by rfl)(fP:(apos.endLine==pos.line)=true:=by rfl) :
  JE X cA aq aj F EX (.Call (.Attribute a "pop" apos) [] [] pos) (.pop A):=⟨zlE ho.o fO fP⟩
theorem zpS:JC X cA aq aj F EX [] .no:=⟨znd⟩
theorem ZF(h:JT X cA aq aj F EX c C):JC X cA aq aj F EX [c] (.yes C):=⟨zjl h.o⟩
theorem zox(ha:JE X cA aq aj F EX a A):JI X cA aq aj F EX tg a (.seq A):=⟨zmV ha.o⟩
theorem zpV(hmg:X.mg "range"=none)(ql:JK X "range" .globalImplicit)(ha:JE X cA aq aj F EX a A)(hb:JE X cA aq aj F EX b B)(h1:aF a=true:=by rfl)(h2:aF b=true:=by rfl):JI X cA aq aj F EX tg (.Call (.Name "range" p) [a,b] [] pos) (.rg A B):=⟨zoL ql.o hmg ha.o hb.o (aY h1) (aY h2)⟩
theorem ZG(hmg:X.mg "range"=none)(ql:JK X "range" .globalImplicit)(hb:JE X cA aq aj F EX b B)(h2:aF b=true:=by rfl):JI X cA aq aj F EX tg (.Call (.Name "range" p) [b] [] pos) (.rg (.c (.int 0)) B):=⟨zmx ql.o hmg hb.o (aY h2)⟩
def zP(scope:Scope)(x:Str):Bool:=match scope.names.lookup x with
 |some .local=>true|some .cell=>true|_=>false
def FQ(h:zP scope x=true):Loc (X.blk scope cl N Cc s3 H3 fp ao).env.scope x/\((X.blk scope cl N Cc s3 H3 fp ao).fn x=true\/(X.blk scope cl N Cc s3 H3 fp ao).env.scope.names.lookup x=some .local):=by
 unfold zP at h;split at h
 .rename_i z;show⟨.inl (lookup_relabel_local z),.inr (lookup_relabel_local z)⟩
 .rename_i z;show⟨.inr (NK (by intro y;cases y) z),.inl (by change (scope.names.lookup x==some NameKind.cell)=true;rw[z];rfl)⟩
 .cases h
theorem sS(i:Nat)(Tw:N.Nodup)(hi:N[i]?=some x)(hl:zP scope x=true):JY (X.blk scope cl N Cc s3 H3 fp ao) (.Name x tp) (dB i):=
 ⟨MF Tw hi (FQ hl).1 (FQ hl).2⟩
theorem Tz(i j:Nat)(hc:X.aj=true)(Tw:N.Nodup)(hi:N[i]?=some x)(hj:N[j]?=some y)(hl:zP scope x=true)(tQ:zP scope y=true):JY (X.blk scope cl N Cc s3 H3 fp ao) (.Tuple [.Name x px,.Name y py] kt tp) (uf X.K 2 (iw (dB i) (iw (dB j) ud))):=
 ⟨Tf (X:=X.blk scope cl N Cc s3 H3 fp ao) hc Tw hi hj (FQ hl).1 (FQ tQ).1 (FQ hl).2 (FQ tQ).2⟩
def zQ{scope:Scope}{XN:List Str}{M0 N:List Str}{fr:List Nat}(h:frB scope XN N fr=true):(M0++N).length=M0.length+fr.length/\∀(i:Nat) (y:Str) (j:Nat),(M0++N)[M0.length+i]?=some y->fr[i]?=some j->scope.names.lookup y=some .free/\XN[j]?=some y:=by
 let⟨l,q⟩:=Zi h;show⟨by rw[dJ,l],λi y j e1 e2=>q i y j ?_ e2⟩;rw[o8 gV]at e1;rw[show M0.length+i-M0.length=i by lia]at e1;show e1
theorem ZJ{elt iter tg:Expr}{ifs:List Expr}{scope:Scope}{cond:Eo}{aL:List Nat}{g:TG}{w:Wk}(sc:Scope)(XN M0 N:List Str)(fr:List Nat)(hc:X.aj=true)(J6:X.env.scope=sc)(q_:X.N=XN)(hB:oR sc scope=true)(hf:frB scope XN N fr=true)(hT:fZ X.K cA g aL)(dF:aL.all (λi=>decide (i<M0.length))=true)
  (hi:JI X cA aq aj F EX tg iter w) (hg:∀cl C s3 H3 fp ao,JY (X.blk scope cl (M0++N) C s3 H3 fp ao) tg g)
  (ht:∀cl C s3 H3 fp ao,JC (X.blk scope cl (M0++N) C s3 H3 fp ao) cA aq aj F (λ_ _ _ _=>False) ifs cond) (he:∀cl C s3 H3 fp ao,JE (X.blk scope cl (M0++N) C s3 H3 fp ao) cA aq aj F (λ_ _ _ _=>False) elt B)
  (hs:∀x,foldedSetIterable iter X.env x=pure x:=by intro _;rfl):JE X cA aq aj F EX (.ListComp elt [⟨tg,iter,ifs,0⟩] scope pos) (.comp fz B aL w fr M0.length cond):=
 ⟨Ze hc (cG.of (J6▸hB)) hi.o (zQ (q_▸hf)).1 (zQ (q_▸hf)).2 (λa b c d e f=>(hg a b c d e f).o) hT (λi hi=>fG (ju.mp dF i hi)) (λa b c d e f=>(ht a b c d e f).o) (λa b c d e f=>(he a b c d e f).o) hs⟩
theorem Kaa{scope dX:Scope}{env:Env}(h:cG scope dX):cG (relabel scope env) dX:=⟨h.kind,h.X7,λy hy z=>by
 rcases h.free y hy z with q|q
 .exact .inl (NK (by intro y;cases y) q)
 .exact Ro q,h.loc⟩
def ZK{elt iter tg:Expr}{ifs:List Expr}{scope dX:Scope}{cond:Eo}{aL:List Nat}{g:TG}{w:Wk}{cl:List (Str×Addr)}{zR:List Str}{Cc:Addr}{s3:Shared}{H3:Hp}{fp:List Addr}{ao:List (Addr×Obj)}(XN M0 N:List Str)(fr:List Nat)(hc:X.aj=true)(q_:zR=XN)(hB:oR scope dX=true)(hf:frB dX XN N fr=true)(hT:fZ X.K cA g aL)(dF:aL.all (λi=>decide (i<M0.length))=true)
  (hi:JI (X.blk scope cl zR Cc s3 H3 fp ao) cA aq aj F EX tg iter w) (hg:∀cl2 C s3' J7 fp' jf,JY ((X.blk scope cl zR Cc s3 H3 fp ao).blk dX cl2 (M0++N) C s3' J7 fp' jf) tg g)
  (ht:∀cl2 C s3' J7 fp' jf,JC ((X.blk scope cl zR Cc s3 H3 fp ao).blk dX cl2 (M0++N) C s3' J7 fp' jf) cA aq aj F (λ_ _ _ _=>False) ifs cond) (he:∀cl2 C s3' J7 fp' jf,JE ((X.blk scope cl zR Cc s3 H3 fp ao).blk dX cl2 (M0++N) C s3' J7 fp' jf) cA aq aj F (λ_ _ _ _=>False) elt B)
  (hs:∀x,foldedSetIterable iter (X.blk scope cl zR Cc s3 H3 fp ao).env x=pure x:=by intro _;rfl):JE (X.blk scope cl zR Cc s3 H3 fp ao) cA aq aj F EX (.ListComp elt [⟨tg,iter,ifs,0⟩] dX pos) (.comp fz B aL w fr M0.length cond):=by
 subst q_;show⟨Ze (X:=X.blk scope cl zR Cc s3 H3 fp ao) hc (Kaa (cG.of hB)) hi.o (zQ hf).1 (zQ hf).2 (λa b c d e f=>(hg a b c d e f).o) hT (λi hi=>fG (ju.mp dF i hi)) (λa b c d e f=>(ht a b c d e f).o) (λa b c d e f=>(he a b c d e f).o) hs⟩
theorem zpT:JR X (λ_ _ _ _=>False):=⟨zfU⟩
theorem ZL{P:Program}{w:World}{K:W.Frag}{mg:Str->Option Value}{base:Heap}{N:List Str}{qual:Str}{scope:Scope}{f:Addr}{cd:Value}{A:Around}{outer:List Env}{s:Shared}{H:Hp}{E:XK}{cm:Bool} :
  JR (dh (eN P w) P w K mg base N qual scope f cd A outer s H E cm) (λ_ C dx H'=>E C dx H'):=⟨zfe⟩
theorem vX{CX:rQ}{P:Program}{w:World}{K:W.Frag}{mg:Str->Option Value}{base:Heap}{N:List Str}{qual:Str}{scope:Scope}{f:Addr}{cd:Value}{A:Around}{outer:List Env}{s:Shared}{H:Hp}{E:XK}{cm:Bool} :
  JH (dh CX P w K mg base N qual scope f cd A outer s H E cm):=⟨PassesOwn.leaving⟩
end
section
variable {X:Cx}{cA:Cl}{aq:Nat->Nat->Bool}{aj:Bool}{F:Bool->Fn}{EX:XS}{a b c d e:Expr}{A B C:E}{pos p p2:Pos}{st:Stmt}{sts body orelse:List Stmt}{m:St}{ms mb me mh:bL}{es:List Expr}{Xs:Es}{x y n:Str}{k k':NameKind}
def vY(h:JK X x k)(hv:lG k=true):Loc X.env.scope x:=by cases k<;>first|exact .inl h.o|exact .inr h.o|cases hv
def vZ(h:JK X x k)(hv:X.fn x=true\/k=.local):X.fn x=true\/X.env.scope.names.lookup x=some .local:=by
 rcases hv with hv|hv
 .exact .inl hv
 .subst hv;show .inr h.o
theorem zn6:JB X cA aq aj F EX [] .nil:=⟨zjK⟩
theorem bI(h1:JS X cA aq aj F EX st m)(h2:JB X cA aq aj F EX sts ms):JB X cA aq aj F EX (st::sts) (.cons m ms):=⟨zhp h1.o h2.o⟩
theorem zpH:JS X cA aq aj F EX st .no:=⟨zn8⟩
theorem zpX(ha:JE X cA aq aj (F aj) EX a A)(hs:swapsWith a none pos.line X.env=pure false:=by rfl):JS X cA aq aj F EX (.Expr a pos) (.ex A):=⟨znx ha.o hs⟩
theorem rz(ha:JE X cA aq aj (F aj) EX a A):JS X cA aq aj F EX (.Return (some a) pos) (.ret A):=⟨zkM ha.o⟩
theorem v7(i:Nat)(hN:X.N.Nodup)(hi:X.N[i]?=some x)(hx:JK X x k)(hl:lG k=true)(ha:JE X cA aq aj (F aj) EX a A)(hs:swapsWith a (some (.Name x p)) pos.line X.env=pure false:=by rfl)(hf:X.fn x=true\/k=.local:=by first|exact .inl rfl|exact .inr rfl):JS X cA aq aj F EX (.Assign [.Name x p] a pos) (.asg (.nm i) A):=
 ⟨zlF hN hi (vY hx hl) ha.o hs (vZ hx hf)⟩
theorem v8{elt iter tg:Expr}{ifs:List Expr}{scope:Scope}{cond:Eo}{aL:List Nat}{g:TG}{w:Wk}{fz:Bool}{py spos:Pos}(i:Nat)(sc:Scope)(XN M0 N:List Str)(fr:List Nat)(hN:X.N.Nodup)(rW:X.N[i]?=some y)(hx:JK X y k)(hl:lG k=true)(hc:X.aj=true)(J6:X.env.scope=sc)(q_:X.N=XN)(hB:oR sc scope=true)(hf:frB scope XN N fr=true)(hT:fZ X.K cA g aL)(dF:aL.all (λi=>decide (i<M0.length))=true)
  (hi:JI X cA aq aj (F aj) EX tg iter w) (hg:∀cl C s3 H3 fp ao,JY (X.blk scope cl (M0++N) C s3 H3 fp ao) tg g)
  (ht:∀cl C s3 H3 fp ao,JC (X.blk scope cl (M0++N) C s3 H3 fp ao) cA aq aj (F aj) (λ_ _ _ _=>False) ifs cond) (he:∀cl C s3 H3 fp ao,JE (X.blk scope cl (M0++N) C s3 H3 fp ao) cA aq aj (F aj) (λ_ _ _ _=>False) elt B)
  (uG:swapsWith (.ListComp elt [⟨tg,iter,ifs,0⟩] scope pos) (some (.Name y py)) spos.line X.env=pure true:=by rfl) (TF:X.fn y=true\/k=.local:=by first|exact .inl rfl|exact .inr rfl) (hs:∀x,foldedSetIterable iter X.env x=pure x:=by intro _;rfl) :
  JS X cA aq aj F EX (.Assign [.Name y py] (.ListComp elt [⟨tg,iter,ifs,0⟩] scope pos) spos) (.asg (.nm i) (.comp fz B aL w fr M0.length cond)):=
 ⟨ziN hc hN rW (vY hx hl) (vZ hx TF) (cG.of (J6▸hB)) hi.o (zQ (q_▸hf)).1 (zQ (q_▸hf)).2 (λa b c d e f=>(hg a b c d e f).o) hT (λi hi=>fG (ju.mp dF i hi)) (λa b c d e f=>(ht a b c d e f).o) (λa b c d e f=>(he a b c d e f).o) uG hs⟩
theorem J8(i j:Nat){k0}(hc:X.aj=true)(cX:aj=true)(hN:X.N.Nodup)(hi:X.N[i]?=some x)(hj:X.N[j]?=some y)(hx:JK X x k)(hy:JK X y k')(TJ:lG k=true)(TQ:lG k'=true)(ha:JE X cA aq aj (F aj) EX a A)
  (xY:X.fn x=true\/k=.local:=by first|exact .inl rfl|exact .inr rfl) (xZ:X.fn y=true\/k'=.local:=by first|exact .inl rfl|exact .inr rfl)
  (hs:swapsWithSole [.Tuple [.Name x px,.Name y py] k0 pt] a pos.line X.env=pure false:=by rfl) (hw:swappedStores [.Tuple [.Name x px,.Name y py] k0 pt] a X.env=pure none:=by rfl) (h1:(assignEach [.Tuple [.Name x px,.Name y py] k0 pt] X.env).map (·.2)=[assign (.Tuple [.Name x px,.Name y py] k0 pt) X.env]:=by rfl) :
  JS X cA aq aj F EX (.Assign [.Tuple [.Name x px,.Name y py] k0 pt] a pos) (.asg (.tp [i,j]) A):=⟨zjP hc cX hN hi hj (vY hx TJ) (vY hy TQ) (vZ hx xY) (vZ hy xZ) ha.o hs hw h1⟩
theorem ZM(hO:JE X cA aq aj (F aj) EX oo O)(hI:JE X cA aq aj (F aj) EX ii I')(ha:JE X cA aq aj (F aj) EX a A)
  (Ti:∀v,assign (.Subscript oo ii p) X.env v=(do
   let obj <-holding [v] (eval oo X.env)
   let at_ <-holding [v,obj] (eval ii X.env)
   standAt p
   holding [v,obj,at_] (setItem obj at_ v)
   release [v,obj,at_] []):=by intro _;rfl) (hs:swapsWithSole [.Subscript oo ii p] a pos.line X.env=pure false:=by rfl) (hw:swappedStores [.Subscript oo ii p] a X.env=pure none:=by rfl)
  (h1:(assignEach [.Subscript oo ii p] X.env).map (·.2)=[assign (.Subscript oo ii p) X.env]:=by rfl):JS X cA aq aj F EX (.Assign [.Subscript oo ii p] a pos) (.asg (.aq O I') A):=⟨zlJ hO.o hI.o ha.o Ti hs hw h1⟩
theorem TV(i j:Nat){kt k2 ug}(hc:X.aj=true)(cX:aj=true)(hN:X.N.Nodup)(hi:X.N[i]?=some x)(hj:X.N[j]?=some y)(wV:i≠j)(hx:JK X x .local)(hy:JK X y .local)
  (ha:JE X cA aq aj (F aj) EX a A) (hb:JE X cA aq aj (F aj) EX b B) (hw:swappedStores [.Tuple [.Name x px,.Name y py] kt pt] (.Tuple [a,b] k2 ug) X.env=pure (some [x,y])) (h1:aF a=true:=by rfl) (h2:aF b=true:=by rfl)
  (hs:swapsWithSole [.Tuple [.Name x px,.Name y py] kt pt] (.Tuple [a,b] k2 ug) pos.line X.env=pure false:=by rfl):JS X cA aq aj F EX (.Assign [.Tuple [.Name x px,.Name y py] kt pt] (.Tuple [a,b] k2 ug) pos) (.par i j A B):=
 ⟨zkL hc cX hN hi hj wV hx.o hy.o ha.o hb.o (aY h1) (aY h2) hw hs⟩
theorem znE(i:Nat)(hN:X.N.Nodup)(hi:X.N[i]?=some x)(hx:JK X x k)(hl:lG k=true)(ha:JE X cA aq aj (F aj) EX a A)(hf:X.fn x=true\/k=.local:=by first|exact .inl rfl|exact .inr rfl)(hd:okN x=true:=by decide +kernel):JS X cA aq aj F EX (.AugAssign (.Name x p) .Add a pos) (.aug i A):=
 ⟨zmR (pos':=pos) hN hi (vY hx hl) ha.o (vZ hx hf) (zkR hN hi (vY hx hl) ha.o zkF (vZ hx hf))⟩
theorem J9(hc:JT X cA aq aj (F aj) EX c C)(ht:JB X cA aq aj F EX body mb)(he:JB X cA aq aj F EX orelse me):JS X cA aq aj F EX (.If c body orelse pos) (.iff C mb me):=⟨znV hc.o ht.o he.o⟩
theorem NZ(hp:JH X)(hc:JT X cA aq aj (F aj) EX c C)(hb:JB X cA aq aj F EX body mb):JS X cA aq aj F EX (.While c body [] pos) (.wh C mb):=⟨zhv hp.o hc.o hb.o⟩
theorem TX(i:Nat)(hN:X.N.Nodup)(hi:X.N[i]?=some x)(hx:JK X x k)(hl:lG k=true)(hf:X.fn x=true\/k=.local:=by first|exact .inl rfl|exact .inr rfl):JG X cA aq aj F EX (.Name x pos) (.nm i):=⟨zjH hN hi (vY hx hl) (vZ hx hf)⟩
theorem TY(i j:Nat){k0}(hc:X.aj=true)(cX:aj=true)(hN:X.N.Nodup)(hi:X.N[i]?=some x)(hj:X.N[j]?=some y)(hx:JK X x k)(hy:JK X y k')(TJ:lG k=true)(TQ:lG k'=true)(xY:X.fn x=true\/k=.local:=by first|exact .inl rfl|exact .inr rfl)(xZ:X.fn y=true\/k'=.local:=by first|exact .inl rfl|exact .inr rfl) :
  JG X cA aq aj F EX (.Tuple [.Name x px,.Name y py] k0 pos) (.tp [i,j]):=⟨ziP hc cX hN hi hj (vY hx TJ) (vY hy TQ) (vZ hx xY) (vZ hy xZ)⟩
theorem FT(hp:JH X)(hc:X.aj=true)(cX:aj=true)(ha:JI X cA aq aj (F aj) EX tg a w)(hg:JG X cA aq aj F EX tg t)(hb:JB X cA aq aj F EX body mb)(hs:∀x,foldedSetIterable a X.env x=pure x:=by intro _;rfl):JS X cA aq aj F EX (.For tg a body [] pos) (.fr t w mb):=
 ⟨zmS hp.o hc cX ha.o hg.o hb.o hs⟩
end
theorem ZP{P:Program}{w:World}{K:W.Frag}{mg:Str->Option Value}{base:Heap}{cA:Cl}{aq:Nat->Nat->Bool}{T:Nat->Option Df}{x qual:Str}{st:Stmt}{f:Addr}{fd:FuncData}{N ps:List Str}{k n:Nat}{cm:Bool}{df:Df}(F:oO K x qual st f fd)(S:bR N ps (aA st))(hT:T n=some df)(hp:df.gW=ps.length)(hm:df.many=N.length)
  (hb:∀(cdv:Value) (A:Around) (outer:List Env) (s:Shared) (H:Hp) (E:XK),aX k (A.deeper (envOfC qual (aA st) s.heap.objs.size f cdv))->
   JB (dh (eN P w) P w K mg base N qual (aA st) f cdv A outer s H E cm) cA aq cm (λc=>call aq T k c) (λ_ C dx H'=>E C dx H') (aH st) df.body) :
  bZ P w K mg base (eN P w) cm (k+1) f fd ps (k_ K cA (call aq T (k+1) cm n)):=zlL F S hT hp hm λcdv A outer s H E hr=>(hb cdv A outer s H E hr).o
section
variable {K:W.Frag}{cA:Cl}{U:Ph}{H:Hp}{kvs:iJ}{xs:m7}{k:List Kx}
def ji.len(r:ji K cA U H kvs xs):kvs.length=xs.length:=by
 induction r with
 |nil=>rfl|cons _ _ _ _ ih=>rw[gw,gw,ih]
def zkg{j:List Kx}{a:Addr}{u:Value}{r:m7}:atKey ((j,a,u)::r) k=if j=k then some (a,u) else atKey r k:=by
 unfold atKey;rw[List.find?_cons];by_cases e:j=k
 .simp[e]
 .simp[e]
def ji.at(r:ji K cA U H kvs xs):(bY k kvs=none/\atKey xs k=none)\/∃d p v,bY k kvs=some d/\atKey xs k=some p/\RelV v p.2/\Rep K cA U H d v:=by
 induction r with
 |nil=>show .inl ⟨rfl,rfl⟩|@cons j d ka u v r xs hk hu hv q ih=>
  rw[zkg];unfold bY;by_cases e:j=k
  .rw[if_pos e,if_pos e];show .inr ⟨d,(ka,u),v,rfl,rfl,hu,hv⟩
  .rw[if_neg e,if_neg e];show ih
def ji.isSome(r:ji K cA U H kvs xs):(atKey xs k).isSome=(bY k kvs).isSome:=by
 rcases r.at (k:=k) with ⟨a,b⟩|⟨d,p,v,a,b,_⟩<;>rw[a,b]<;>rfl
def ji.app{kvs':iJ}{xs':m7}(r:ji K cA U H kvs xs)(r':ji K cA U H kvs' xs'):ji K cA U H (kvs++kvs') (xs++xs'):=by
 induction r with
 |nil=>show r'|cons a b c _ ih=>show .cons a b c ih
def ji.put{ka:Addr}{u:Value}{v:V}{d:D}(r:ji K cA U H kvs xs)(hk:Rep K cA U H (i_ k) (.ref ka))(hu:RelV v u)(hv:Rep K cA U H d v):ji K cA U H (jB k d kvs) (storedH xs k ka u):=by
 unfold jB storedH;rw[r.isSome];by_cases e:(bY k kvs).isSome=true
 .rw[if_pos e,if_pos e];clear e
  induction r with
  |nil=>show .nil|@cons j d' ZQ u' v' r xs FW hu' QF q ih=>
   rw[iH,iH];change ji K cA U H ((if j=k then (j,d) else (j,d'))::_) ((if j=k then (j,ZQ,u) else (j,ZQ,u'))::_);by_cases e:j=k
   .rw[if_pos e,if_pos e];show .cons FW hu hv ih
   .rw[if_neg e,if_neg e];show .cons FW hu' QF ih
 .rw[if_neg e,if_neg e];show r.app (.cons hk hu hv .nil)
end
section
variable {X:Cx}{cA:Cl}{ao:List (Addr×Obj)}{Z:L2.St}{H:Hp}{s:Shared}{U:Ph}{a:Addr}{kvs:iJ}{xs:m7}{k:List Kx}{y v:V}{u:Value}{A:Around}{E:Value->Shared->Prop}
def T3(I:Inv X ao Z H s)(e:H a=some (uL a xs))(r:ji X.K cA U H kvs xs):(a==sysModules)=false/\xs.length<=sizeLine/\s.heap.DictOfH (jK X.prog X.w) a xs:=by
 let z:=(I.hok a _ e).1;let⟨h1,h2,o,es,ep,h3,h4,h5,h6,h7⟩:=z;show⟨h1,h2,o,es,ep,h3,h4,h5,h6,?_,h7⟩;clear h2 h6 h7 e
 induction r with
 |nil=>show λx hx=>nomatch hx
 |cons hk hu hv q ih=>show List.forall_mem_cons.mpr ⟨sJ I hk rfl,ih⟩
def T4{d:D}(hk:Rep X.K cA U H (i_ k) y):∃b,y=.ref b:=by cases hk;show⟨_,rfl⟩
def tGx(K:W.Frag)(cA:Cl)(td ty:TE):TE:=λZ H Q=>td Z H λx H1=>ty Z H1 λy H2=>∃a U kvs xs k d,x=.ref a/\H2 a=some (uL a xs)/\ji K cA U H2 kvs xs/\Rep K cA U H2 (i_ k) y/\bY k kvs=some d/\∀v,Rep K cA U H2 d v->Q v H2
def ZR(K:W.Frag)(cA:Cl)(f:Bool->Bool)(ty td:TE):TE:=λZ H Q=>ty Z H λy H1=>td Z H1 λx H2=>∃a U kvs xs k,x=.ref a/\H2 a=some (uL a xs)/\ji K cA U H2 kvs xs/\Rep K cA U H2 (i_ k) y/\Q (.bl (f (bY k kvs).isSome)) H2
def sPx(K:W.Frag)(cA:Cl)(td ty tv:TE):TS:=λD Z H=>tv Z H λv H1=>td Z H1 λx H2=>ty Z H2 λy H3=>∃a b U kvs xs k d,x=.ref a/\H3 a=some (uL a xs)/\ji K cA U H3 kvs xs/\y=.ref b/\Rep K cA U H3 (i_ k) y/\Rep K cA U H3 d v/\kvs.length<sizeLine /\
 ∀u,RelV v u->D.nx Z (upd H3 a (uL a (storedH xs k b u)))
variable {o i value:Expr}{pos pos':Pos}{td ty tv:TE}
def zoO(hu:X.A.units+5<cLine)(ho:PE X o td)(hi:PE X i ty)(hs:Cy i):PE X (.Subscript o i pos) (tGx X.K cA td ty):=by
 intro ao s Z H Q I h;show zks PySem.F.slot_dict_getitem.lookup hs (aO (ho ao s Z H _ I h) λu s1 hx=>eF hx λx H1 I1 rx q1=>aO (hi ao s1 Z H1 _ I1 q1) λiv s2 hz=>?_);let⟨y,H2,I2,ry,a,U,kvs,xs,k,d,ex,ea,rr,rk,g,q2⟩:=hz;subst ex;obtain rfl:u=Value.ref a:=rx;let⟨b,rfl⟩:=T4 (d:=d) rk;obtain rfl:iv=Value.ref b:=ry;let⟨z1,z2,dd⟩:=T3 I2 ea rr;rcases rr.at (k:=k) with ⟨z,_⟩|⟨d',p,v,z,hp,rv,rd⟩
 .rw[g]at z;cases z
 .rw[g]at z;cases z;show⟨dd.typeIs,wpAny_getItem_heap (knd:=jK X.prog X.w) (show X.A.units+1+4<cLine by lia) (sJ I2 rk rfl) dd hp ⟨v,H2,I2.tok _,rv,q2 v rd⟩⟩
def zkH(hu:X.A.units+5<cLine)(hi:PE X i ty)(ho:PE X o td):PC X .NotIn i o (ZR X.K cA not ty td):=by
 intro ao s Z H Q I h;show aO (hi ao s Z H _ I h) λiv s1 hx=>eF hx λy H1 I1 ry q1=>aO (ho ao s1 Z H1 _ I1 q1) λu s2 hz=>?_;let⟨x,H2,I2,rx,a,U,kvs,xs,k,ex,ea,rr,rk,q2⟩:=hz;subst ex;obtain rfl:u=Value.ref a:=rx;let⟨b,rfl⟩:=T4 (d:=.non) rk;obtain rfl:iv=Value.ref b:=ry;let⟨z1,z2,dd⟩:=T3 I2 ea rr;show wpAny_notIn_heap (knd:=jK X.prog X.w) (show X.A.units+1+4<cLine by lia) (sJ I2 rk rfl) z1 dd ⟨_,H2,I2.tok _,by rw[rr.isSome];rfl,q2⟩
def zeL{xs:m7}{b:Addr}{u:Value}:(storedH xs k b u).length<=xs.length+1:=by
 unfold storedH
 split
 .rw[cO];lia
 .simp
def zoI(hu:X.A.units+5<cLine)(ho:PE X o td)(hi:PE X i ty)(hv:PE X value tv)(hs:swapsWith value (some (.Subscript o i pos')) pos.line X.env=pure false):PS X (.Assign [.Subscript o i pos'] value pos) (sPx X.K cA td ty tv):=by
 intro ao s Z H D I h;show wpAny_Assign_Subscript (aO (hv ao s Z H _ I h) λr s1 hx=>eF hx λv H1 I1 rv q1=>aO (ho ao s1 Z H1 _ I1 q1) λu s2 hx=>eF hx λx H2 I2 rx q2=>aO (hi ao s2 Z H2 _ I2 q2) λiv s3 hz=>?_) hs;let⟨y,H3,I3,ry,a,b,U,kvs,xs,k,d,ex,ea,rr,ey,rk,rd,hl,q3⟩:=hz;subst ex ey;obtain rfl:u=Value.ref a:=rx;obtain rfl:iv=Value.ref b:=ry;let⟨z1,z2,dd⟩:=T3 I3 ea rr;let tQ:xs.length+1<=sizeLine:=by rw[<-rr.len];show hl
 show wpAny_setItem_heap (knd:=jK X.prog X.w) (hsz:=z2) (show X.A.units+1+4<cLine by lia) (sJ I3 rk rfl) dd λh' dd' N5=>⟨Z,_,?_,q3 r rv⟩;let⟨q,es,ep,hq,h2,h3,h4,_,h5⟩:=dd';show zjF I3 (by rw[ea];show True.intro) N5 ⟨q,hq⟩ ⟨⟨z1,jO zeL tQ,q,es,ep,hq,h2,h3,h4,h5⟩,⟨q,hq⟩,λh1 h2 ⟨a1,a2,o,es,ep,a3,a4⟩ kp=>⟨a1,a2,o,es,ep,kp o a3,a4⟩⟩
theorem znB:PE X (.Dict [] [] pos) (λ_ H Q=>∀p,H p=none->Q (.ref p) (upd H p (uL p []))):=λao s Z H Q I h=>
 wpAny_Dict_empty ⟨.ref s.heap.objs.size,_,I.laid (a:=s.heap.objs.size) (o:=uL s.heap.objs.size []) (t':=s.toks) (λ_ _ q=>bW _ q) (bU _)
  ⟨⟨DW.mpr (Ne.symm (cR I.big)),rM _,_,#[],0,dU _ rfl,⟨rfl,rfl,rfl⟩,rfl,rfl,Al⟩,⟨_,dU _ rfl⟩,λh1 h2 ⟨a1,a2,o,es,ep,a3,a4⟩ kp=>⟨a1,a2,o,es,ep,kp o a3,a4⟩⟩,rfl,h _ (I.hok.fresh (bU _))⟩
end
section
variable {X:Cx}{cA:Cl}{aq:Nat->Nat->Bool}{aj:Bool}{F:Fn}{EX:XS}{a b:Expr}{A B:E}{pos p:Pos}{K:W.Frag}{U:Ph}{H:Hp}{s:S}
def T5{β:Type}{x:Xv}{v:V}{k:List Kx->M β}{P:β->S->Ph->Hp->Prop}{Ee:Nat->List D->S->Ph->Hp->Prop}(r:aN K cA U H x v)(h:Run K cA (M.bd (key x) k) U H s P Ee):∃kx,Rep K cA U H (i_ kx) v/\Run K cA (k kx) U H s P Ee:=by
 cases r with
 |l _=>show h.elim|@d y _ r=>
  let⟨kx,e,h2⟩:=Run.m9 (o:=kOf y) h;rw[zni e]at r;show⟨kx,r,h2⟩
def T6{β:Type}{x:Xv}{v:V}{k:Nat×iJ->M β}{P:β->S->Ph->Hp->Prop}{Ee:Nat->List D->S->Ph->Hp->Prop}(hS:aD K cA U H s)(r:aN K cA U H x v)(h:Run K cA (M.bd (fV x) k) U H s P Ee) :
  ∃n ad kvs xs,x=.l n/\v=.ref ad/\s[n]?=some (.dct kvs)/\U.l[n]?=some ad/\H ad=some (uL ad xs)/\ji K cA U H kvs xs/\Run K cA (k (n,kvs)) U H s P Ee:=by
 cases r with
 |d _=>show h.elim|@l n ad hl=>
  unfold Run M.bd fV at h;dsimp only at h;cases e:s[n]? with
  |none=>rw[e]at h;show h.elim|some o=>
   rw[e]at h;cases o with
   |dct kvs=>
    let⟨xs,q1,q2⟩:=hS.obj n _ _ e hl;show⟨n,ad,kvs,xs,rfl,rfl,e,hl,q1,q2,h⟩
   |_=>show h.elim
theorem zkZ{k:Nat}(hr:aX k X.A)(ha:JE X cA aq aj F EX a A)(hb:JE X cA aq aj F EX b B)(hs:Cy b:=by show λ_ _=>rfl):JE X cA aq aj F EX (.Subscript a b pos) (.p7 A B):=⟨PE.weak (zoO (cA:=cA) (by let:=hr.un;lia) ha.o hb.o hs) λZ H Q hh=>un hh λU J s hL hS h=>by
 show aV hL hS h λx H1 U1 d1 s1 x1 hL1 aG r1 h1=>aV hL1 aG h1 λy H2 U2 d2 s2 x2 hL2 aM r2 h2=>?_;let⟨kx,rk,h3⟩:=T5 r2 h2;let⟨n,ad,kvs,xs,_,rfl,e1,e2,e3,rr,h4⟩:=T6 aM (r1.mono x2 aG.lz) h3;let h4:Run X.K cA (M.opt ((bY kx kvs).map Xv.d)) U2 H2 s2 (λd _ U' H'=>∀v,aN X.K cA U' H' d v->Q v H') (eX X.K cA EX Z):=h4;cases e:bY kx kvs with
 |none=>rw[e]at h4;show h4.elim|some d=>
  rw[e]at h4;show⟨ad,U2,kvs,xs,kx,d,rfl,e3,rr,rk,e,λv rv=>h4.bF aM v (.d rv)⟩⟩
theorem zji{b':Bool}{Z:L2.St}{Q:VK}(f:Bool->Bool)(hf:∀c,f c=(c==b'))(hh:tE X.K cA EX (ev aq aj F (.B_ b' A B)) Z H Q):ZR X.K cA f (tE X.K cA EX (ev aq aj F A)) (tE X.K cA EX (ev aq aj F B)) Z H Q:=un hh λU J s hL hS h=>by
 show aV hL hS h λx H1 U1 d1 s1 x1 hL1 aG r1 h1=>aV hL1 aG h1 λy H2 U2 d2 s2 x2 hL2 aM r2 h2=>?_;let⟨kx,rk,h3⟩:=T5 (r1.mono x2 aG.lz) h2;let⟨n,ad,kvs,xs,_,rfl,e1,e2,e3,rr,h4⟩:=T6 aM r2 h3;show⟨ad,U2,kvs,xs,kx,rfl,e3,rr,rk,?_⟩;rw[hf];show h4.bF aM _ (.d (.bl _))
theorem ZS{m:Vs->M Xv}{Z:L2.St}{Q:Bool->Hp->Prop}(hh:qX K cA EX (λJ=>M.bd (m J) bool) Z H Q):tE K cA EX m Z H λx H1=>∃c,x=.bl c/\Q c H1:=un hh λU J s hL hS h=>
 ⟨U,J,s,hL,hS,h.bd.imp λd s1 U1 H1 ⟨_,r1,h1⟩ v rv=>zgY r1 rv h1⟩
theorem zlh{k:Nat}(hr:aX k X.A)(ha:JE X cA aq aj F EX a A)(hb:JE X cA aq aj F EX b B)(h1:oU b=true:=by rfl):JT X cA aq aj F EX (.Compare a [.NotIn] [b] pos) (.B_ false A B):=⟨PT.weak (Qn (zkH (cA:=cA) (by let:=hr.un;lia) ha.o hb.o) (yg h1)) λZ H Q hh=>zji not (λc=>by cases c<;>rfl) (ZS hh)⟩
theorem zmW:JE X cA aq aj F EX (.Dict [] [] pos) .sy:=⟨PE.weak znB λZ H Q hh=>un hh λU J s hL hS h p hp=>
 h (U.add p) _ (Ext.add hp) (hS.Jv hp ⟨[],h_,.nil⟩) _ (.l (by change (U.l++[p])[s.length]?=_;rw[<-hS.len];simp))⟩
end
section
variable {X:Cx}{cA:Cl}{aq:Nat->Nat->Bool}{aj:Bool}{F:Bool->Fn}{EX:XS}{a oo ii:Expr}{A O I':E}{pos p:Pos}
theorem znk{k:Nat}(hr:aX k X.A)(hO:JE X cA aq aj (F aj) EX oo O)(hI:JE X cA aq aj (F aj) EX ii I')(ha:JE X cA aq aj (F aj) EX a A)(hs:swapsWith a (some (.Subscript oo ii p)) pos.line X.env=pure false:=by rfl) :
  JS X cA aq aj F EX (.Assign [.Subscript oo ii p] a pos) (.dput O I' A):=⟨PS.weak (zoI (cA:=cA) (by let:=hr.un;lia) hO.o hI.o ha.o hs) λD Z H hh=>un hh λU J s hL hS h=>by
 show aV hL hS (aP.ofM hL hS.lz h) λz H1 U1 d1 s1 x1 hL1 aG r1 h1=>?_;let⟨w,_,jT,h2⟩:=Nk r1 h1;show aV hL1 aG h2 λx H2 U2 d2 s2 x2 hL2 aM r2 h3=>aV hL2 aM h3 λy H3 U3 d3 s3 x3 oM gG r3 h4=>?_;let⟨kx,rk,h5⟩:=T5 r3 h4;let⟨n,ad,kvs,xs,_,rfl,e1,e2,e3,rr,h6⟩:=T6 gG (r2.mono x3 aM.lz) h5;let⟨b,rfl⟩:=T4 (X:=X) (d:=.non) rk;let ZV:=(jT.mono x2 aG.lz).mono x3 aM.lz;by_cases hz:kvs.length<sizeLine
 .refine⟨ad,b,U3,kvs,xs,kx,w,rfl,e3,rr,rfl,rk,ZV,hz,λu ru=>?_⟩;let h6:Run X.K cA (if kvs.length<sizeLine then putD n (jB kx w kvs) else M.no) U3 H3 s3 _ _:=h6;rw[if_pos hz]at h6;let x4:Ext U3 H3 U3 (upd H3 ad (uL ad (storedH xs kx b u))):=Ext.write e2 ⟨_,e3⟩;let rS:=gG.uM (so:=.dct (jB kx w kvs)) (ho:=uL ad (storedH xs kx b u)) (dI.mp e1).1 e2 ⟨_,h_,(rr.put rk ru ZV).map λ_ _ r=>r.mono x4 gG.lz⟩;let⟨x5,r5,h7⟩:=h6 U3 _ x4 rS;show h7 U3 _ Z Ext.refl rS (oM.mono x4 gG.lz)
 .let h6:Run X.K cA (if kvs.length<sizeLine then putD n (jB kx w kvs) else M.no) U3 H3 s3 _ _:=h6;rw[if_neg hz]at h6;show h6.elim⟩
end
end Mi
namespace Mi
open PySem PySem.Spec PyProof.Rows L2 PySem.W
def zl6{fd:FuncData}{x:Str}{st:Stmt}(h:nQ fd=vJ x st):fd=fnOf x x (aU st) (aH st) (aA st) .none fd.kwdefaults fd.doc fd.pyModule fd.annotations fd.code fd.closureTuple:=by
 cases fd;unfold nQ vJ at h;cases h;rfl
def fC(K:Frag)(x:Str):Addr:=match wH K x with
 |some p=>p.1|none=>0
def fdOf(K:Frag)(x:Str)(st:Stmt):FuncData:=match wH K x with
 |some p=>p.2|none=>vJ x st
structure FnAt(K:Frag)(x:Str)(st:Stmt):Prop where
 ns:nsIn K mainGlobals x=some (some (.ref (fC K x)))
 fn:oO K x x st (fC K x) (fdOf K x st)
def zoy{K:Frag}{x:Str}{st:Stmt}(h:(wH K x).map (λp=>nQ p.2)=some (vJ x st)):FnAt K x st:=by
 cases e:wH K x with
 |none=>rw[e]at h;cases h|some p=>
  rw[e]at h;let hp:nQ p.2=vJ x st:=cU h;let h1:fC K x=p.1:=by unfold fC;rw[e]
  let h2:fdOf K x st=p.2:=by unfold fdOf;rw[e]
  unfold wH at e;split at e
  .rename_i f hf;split at e
   .rename_i oc od fd sl hl;split at e
    .rename_i hc;cases e;rw[gA]at hc;show⟨by rw[h1];show hf,?_⟩;rw[h1,h2];show⟨⟨oc,od,_,_,_,_,_,_,sl,zl6 hp,hl,hc.1⟩,hc.2⟩
    .cases e
   .cases e
  .cases e
theorem FnAt.m{K:Frag}{x:Str}{st:Stmt}(F:FnAt K x st){h:Heap}{mg:Str->Option Value}(X:K.In h)(G:h.Ns mainGlobals mg):mg x=some (.ref (fC K x)):=mg_of X G F.ns
def znS{K:Frag}{x:Str}(h:tZ K x=true){hp:Heap}{mg:Str->Option Value}(X:K.In hp)(G:hp.Ns mainGlobals mg):mg x=some (.ref (dM K x)):=by
 show mg_of X G ?_;unfold tZ at h;unfold dM;split at h
 .rename_i C e;rw[e]
 .cases h
def T7{K:Frag}{x:Str}{i:Int}(h:mH K (x,i)=true){hp:Heap}{mg:Str->Option Value}(X:K.In hp)(G:hp.Ns mainGlobals mg):∃t,mg x=some (.int i t):=by
 unfold mH at h;split at h
 .rename_i j t e;rw[Ai]at h;subst h;show⟨t,mg_of X G e⟩
 .cases h
def qp{K:Frag}{x:Str}(h:qH K x=true){hp:Heap}{mg:Str->Option Value}(X:K.In hp)(G:hp.Ns mainGlobals mg):mg x=none:=by
 show mg_none_of X G ?_;unfold qH at h;split at h
 .rename_i e;show e
 .cases h
structure zT(l:Lk)(K:Frag):Prop where
 cl:∀x∈l.G7,tZ K x=true
 cs:l.G7.isEmpty=true\/yW K (l.L K)=true
 ra:∀k∈l.Wz,G6 K (iM (l.L K) k)=true
 ca:∀k∈l.WD,subB K (l.L K) k=true
 it:∀p∈l.wI,mH K p=true
 no:∀x∈l.Wy,qH K x=true
def Kab{l:Lk}{K:Frag}(h:l.good K=true):zT l K:=by
 unfold Lk.good at h;simp only[gA,Mf,ju]at h;let⟨⟨⟨⟨⟨h1,h2⟩,h3⟩,h4⟩,h5⟩,h6⟩:=h;show⟨h1,h2,h3,h4,h5,h6⟩
def yj{K:Frag}{x:Str}{st:Stmt}{f:Addr}{fd:FuncData}{p:Str}(F:oO K x x st f fd)(h:∀(kV doc pm:Value) (an:Option Addr) (cdv ct a:Value),bindArgs (fnOf x x (aU st) (aH st) (aA st) .none kV doc pm an cdv ct) ⟨[a],[]⟩=pure [(p,a)]):Binds K fd [p] []:=by
 let⟨oc,od,kV,doc,pm,an,cdv,ct,osl,rfl,lk,iu⟩:=F.ex;show CJ (h kV doc pm an cdv ct)
def yp{K:Frag}{x:Str}{st:Stmt}{f:Addr}{fd:FuncData}{p q:Str}(F:oO K x x st f fd)(h:∀(kV doc pm:Value) (an:Option Addr) (cdv ct a b:Value),bindArgs (fnOf x x (aU st) (aH st) (aA st) .none kV doc pm an cdv ct) ⟨[a,b],[]⟩=pure [(p,a),(q,b)]):Binds K fd [p,q] []:=by
 let⟨oc,od,kV,doc,pm,an,cdv,ct,osl,rfl,lk,iu⟩:=F.ex;show uZ (h kV doc pm an cdv ct)
def yq{K:Frag}{x:Str}{st:Stmt}{f:Addr}{fd:FuncData}{p q t:Str}(F:oO K x x st f fd)(h:∀(kV doc pm:Value) (an:Option Addr) (cdv ct a b c:Value),bindArgs (fnOf x x (aU st) (aH st) (aA st) .none kV doc pm an cdv ct) ⟨[a,b,c],[]⟩=pure [(p,a),(q,b),(t,c)]):Binds K fd [p,q,t] []:=by
 let⟨oc,od,kV,doc,pm,an,cdv,ct,osl,rfl,lk,iu⟩:=F.ex;show u5 (h kV doc pm an cdv ct)
def yr{K:Frag}{x:Str}{st:Stmt}{f:Addr}{fd:FuncData}{p q t u:Str}(F:oO K x x st f fd)(h:∀(kV doc pm:Value) (an:Option Addr) (cdv ct a b c d:Value),bindArgs (fnOf x x (aU st) (aH st) (aA st) .none kV doc pm an cdv ct) ⟨[a,b,c,d],[]⟩=pure [(p,a),(q,b),(t,c),(u,d)]):Binds K fd [p,q,t,u] []:=by
 let⟨oc,od,kV,doc,pm,an,cdv,ct,osl,rfl,lk,iu⟩:=F.ex;show u6 (h kV doc pm an cdv ct)
def CQ{K:Frag}{x:Str}{st:Stmt}{f:Addr}{fd:FuncData}{p:Str}(F:oO K x x st f fd)(h:∀(kV doc pm:Value) (an:Option Addr) (cdv ct a:Value),bindArgs (fnOf x x (aU st) (aH st) (aA st) .none kV doc pm an cdv ct) ⟨[a],[]⟩=pure [(p,a)]):∀(s:Shared) (u:Value),BindsTo s fd ⟨[u],[]⟩ [(p,u)]:=by
 let⟨oc,od,kV,doc,pm,an,cdv,ct,osl,rfl,lk,iu⟩:=F.ex;show λs u=>.of_eq (h kV doc pm an cdv ct u)
end Mi
namespace Mi
open PySem PySem.Spec PyProof.Rows L2
theorem ZW:∀{is:List Nat} {ds:List α} {J J':List (Option α)},fX is ds J=some J'->∀j,j∉is->J'[j]?=J[j]?
 |[],[],J,J',e,j,_=>by cases e;rfl|[],_::_,J,J',e,j,_=>by cases e|_::_,[],J,J',e,j,_=>by cases e|i::is,d::ds,J,J',e,j,h=>by
  let h1:=ZW (is:=is) (ds:=ds) e j (λz=>h (g_ _ z));rw[h1,qF (λz=>h (by rw[z];show kO))]
def zgU{tg:List Nat}{x:D}{J J':Vs}(e:dN tg x J=some J')(j:Nat)(h:j∉tg):J'[j]?=J[j]?:=by
 unfold dN at e;split at e
 .cases e;rw[qF (λz=>h (by simp[z]))]
 .cases ht:jZ x with
  |none=>rw[ht]at e;cases e|some ds=>rw[ht]at e;show ZW e j h
def zgV{many:Nat}{fr:List Nat}{J:Vs}{i:Nat}(h:i<many):(blk many fr J)[i]?=some none:=by
 unfold blk;rw[nJ (by simpa using h),z_,if_pos h]
section
variable {K:W.Frag}{cA:Cl}{U U' j9:Ph}{H H' m8:Hp}{s:S}
def Ext.put{Dd:Addr}{us vs:List V}(x:Ext U H U' (upd H' Dd (.lst us)))(k:Keep U H Dd us):Ext U (upd H Dd (.lst vs)) U' (upd H' Dd (.lst vs)):=by
 let⟨r,er,hr⟩:=x.more;let nD:∀b,H b=none->b≠Dd:=λb e z=>by rw[z,k.at_]at e;cases e
 show⟨⟨r,er,λb hb=>by rw[bN (nD b (hr b hb))];show hr b hb⟩,x.qg,λa z=>?_,λa o e t n=>?_,λa o e=>?_⟩
 .rcases x.j8 a z with z|z
  .exact .inl z
  .exact .inr (by rw[bN (nD a z)];show z)
 .by_cases z:a=Dd
  .subst z;rw[h_]at e ⊢;show e
  .rw[bN z]at e ⊢;let:=x.frame a o e t n;rw[bN z]at this;show this
 .by_cases z:a=Dd
  .subst z;show⟨_,h_⟩
  .rw[bN z]at e ⊢;let:=x.stay a o e;rw[bN z]at this;show this
def aR.slots{Z Z':L2.St}{J:Vs}{is:List Nat}(h:aR K cA U H Z J)(hl:Z'.length=Z.length)(he:∀j,j∉is->Z'[j]?=Z[j]?)(hn:∀i∈is,∀x,J[i]?≠some (some x)):aR K cA U H Z' J:=by
 show⟨hl.trans h.1,λi x e=>?_⟩;let⟨v,a,b⟩:=h.2 i x e;show⟨v,by rw[he i λz=>hn i z x e];show a,b⟩
end
section
variable {X:Cx}{cA:Cl}{aq:Nat->Nat->Bool}{aj:Bool}{F:Fn}{EX:XS}{elt iter tg iter₂ tg₂:Expr}{A B:E}{pos p:Pos}{ifs:List Expr}{scope:Scope}{N:List Str}{cond:Eo}{fr aL aL₂:List Nat}{many:Nat}{fz:Bool}{w w₂:Wk}
def zjA{K:W.Frag}{g:TG}{U1 U':Ph}{H1 H':Hp}{s':S}{Z3:L2.St}{J':Vs}{Dd:Addr}{acc:List D}{vs:List V}{β:Type}{kk:List D->M β}{P:β->S->Ph->Hp->Prop}{Ee:Nat->List D->S->Ph->Hp->Prop}{c:Src}{n:Nat}{aW:It}
  (hT:fZ K cA g aL) (dF:∀i∈aL,i<many) (kY:∀i∈aL,∀x,J'[i]?≠some (some x)) (hD:H1 Dd=none) (x2:Ext U1 H1 U' H') (hL:aR K cA U' H' Z3 J') (aM:aD K cA U' H' s') (kp:Keep U' H' Dd vs) (pF:aC K cA U' H' acc vs) (hJ:jE K cA c U' H' aW)
  (h:Run K cA (M.bd (walk c (bO aq aj F B cond aL J') (n+1) 0 acc) kk) U1 H1 s' P Ee) {Nn:L2.St->Hp->Prop}
  (hN:∀Z4 H4 U4 s4 J_ ZX,Z4.length=Z3.length->(∀i,i∉aL->Z4[i]?=Z3[i]?)->Ext U1 H1 U4 H4->Ext U' H' U4 (upd H4 Dd (.lst vs))->aD K cA U4 H4 s4->Keep U4 H4 Dd ZX->aC K cA U4 H4 J_ ZX->Run K cA (kk J_) U1 H1 s4 P Ee->Nn Z4 H4) :
  RL g (qX K cA (λ_ _ _ _=>False) (oJ aq aj F cond)) (tE K cA (λ_ _ _ _=>False) (ev aq aj F B)) Dd aW Z3 H' Nn:=by
 show⟨λi m Ka m8=>m=n+1-i/\(Ka.length=Z3.length/\∀j,j∉aL->Ka[j]?=Z3[j]?)/\∃j9 s'' gK vs'',Ext U1 H1 j9 m8/\Ext U' H' j9 (upd m8 Dd (.lst vs))/\aD K cA j9 m8 s''/\Keep j9 m8 Dd vs''/\aC K cA j9 m8 gK vs'' /\
  Run K cA (M.bd (walk c (bO aq aj F B cond aL J') (n+1-i) i gK) kk) U1 H1 s'' P Ee,⟨n+1,rfl,⟨rfl,λ_ _=>rfl⟩,U',s',acc,vs,x2,by rw[Fz kp.at_];show Ext.refl,aM,kp,pF,h⟩,?_⟩
 rintro i m Ka m8 ⟨rfl,hZ,j9,s'',gK,vs'',x3,xb,gG,k3,r3,h3⟩;let ox:cD j9 (upd m8 Dd (.lst vs)) m8:=λa o e nz=>by
  rw[bN (λz=>nz (by rw[z];show k3.z))]at e;show e
 let oM:aR K cA j9 m8 Ka J':=((hL.mono xb aM.lz).out ox).slots hZ.1 hZ.2 kY;cases ek:n+1-i with
 |zero=>rw[ek]at h3;show h3.elim|succ k=>
  rw[ek]at h3;cases ei:c.at i s'' with
  |none=>
   exfalso
   unfold Run M.bd walk at h3;simp only[ei]at h3
  |some oi=>
   cases oi with
   |none=>
    show .inl ⟨hJ.stop j9 _ m8 s'' i xb ox gG ei,?_⟩;let h4:Run K cA (kk gK) U1 H1 s'' P Ee:=by
     unfold Run M.bd walk at h3;simp only[ei]at h3;show h3
    show hN Ka m8 j9 s'' gK vs'' hZ.1 hZ.2 x3 xb gG k3 r3 h4
   |some xi=>
    show .inr ⟨hJ.go j9 _ m8 s'' i xi xb ox gG ei,λZ2 H2=>(Z2.length=Z3.length/\∀j,j∉aL->Z2[j]?=Z3[j]?)/\∃j9 s'' gK vs'',Ext U1 H1 j9 H2/\Ext U' H' j9 (upd H2 Dd (.lst vs))/\aD K cA j9 H2 s''/\Keep j9 H2 Dd vs''/\aC K cA j9 H2 gK vs'' /\
     Run K cA (M.bd (walk c (bO aq aj F B cond aL J') k (i+1) gK) kk) U1 H1 s'' P Ee,λZ2 H2 hn=>⟨k,by omega,by omega,hn.1,?_⟩,λv H2 hy=>?_⟩
    .let:n+1-(i+1)=k:=by omega
     rw[this];show hn.2
    .obtain⟨gr,rx⟩:=hJ.uh j9 _ m8 s'' i xi v H2 xb ox gG ei hy;let h4:Run K cA (M.bd (bO aq aj F B cond aL J' xi gK) λacc'=>M.bd (walk c (bO aq aj F B cond aL J') k (i+1) acc') kk) U1 H1 s'' P Ee:=by
      let h5:=S_ (m':=M.bd (bO aq aj F B cond aL J' xi gK) λacc'=>walk c (bO aq aj F B cond aL J') k (i+1) acc') (by rw[walk];simp only[ei]) h3;rw[gF]at h5;show h5
     let kg:=k3.mono gr.ext;let xg:Ext U' H' j9 (upd H2 Dd (.lst vs)):=xb.trans (Ext.put (us:=vs'') (vs:=vs) (by rw[Fz kg.at_];show gr.ext) k3);show sU hT (x3.trans gr.ext) hD (oM.mono gr.ext gG.lz) (gG.grow gr) kg (r3.mono gr.ext gG.lz) rx h4 λZ3' H3 U3 s3 m_ xX l3 f3 x3' xe T8 k3' r3' h6=>⟨⟨l3.trans hZ.1,λj hj=>(f3 j hj).trans (hZ.2 j hj)⟩,U3,s3,m_,xX,x3',xg.trans (Ext.put (us:=vs'') (vs:=vs) xe kg),T8,k3',r3',h6⟩
where
 sU {K:W.Frag} {g:TG} {U1 U':Ph} {H1 H2:Hp} {s':S} {Z':L2.St} {Jb:Vs} {Dd:Addr} {acc:List D} {vs:List V} {xi:D} {v:V} {β:Type} {kk:List D->M β} {P:β->S->Ph->Hp->Prop} {Ee:Nat->List D->S->Ph->Hp->Prop} (hT:fZ K cA g aL)
  (x2:Ext U1 H1 U' H2) (hD:H1 Dd=none) (hL2:aR K cA U' H2 Z' Jb) (aM:aD K cA U' H2 s') (kp:Keep U' H2 Dd vs) (pF:aC K cA U' H2 acc vs) (rx:Rep K cA U' H2 xi v)
  (h:Run K cA (M.bd (bO aq aj F B cond aL Jb xi acc) kk) U1 H1 s' P Ee) {Nn:L2.St->Hp->Prop}
  (hN:∀Z3 H3 U3 s3 m_ xX,Z3.length=Z'.length->(∀i,i∉aL->Z3[i]?=Z'[i]?)->Ext U1 H1 U3 H3->Ext U' H2 U3 (upd H3 Dd (.lst vs))->aD K cA U3 H3 s3->Keep U3 H3 Dd xX->aC K cA U3 H3 m_ xX->Run K cA (kk m_) U1 H1 s3 P Ee->Nn Z3 H3) :
  g v Z' H2 λZ3 H3=>qX K cA (λ_ _ _ _=>False) (oJ aq aj F cond) Z3 H3 λok H4=>
   if ok=true then tE K cA (λ_ _ _ _=>False) (ev aq aj F B) Z3 H4 λy H5=>∃ys,H5 Dd=some (.lst ys)/\ys.length<sizeLine/\Nn Z3 (upd H5 Dd (.lst (ys++[y]))) else Nn Z3 H4:=by
  unfold bO at h;rw[gF]at h;let⟨J',e1,h1⟩:=Run.m9 h;show hT.run U' H2 s' Z' Jb J' xi v _ hL2 aM rx e1 λZ3 oM Cz FJ=>?_;rw[gF]at h1;show⟨U',J',s',oM,aM,(J3 x2 h1).imp λok s4 U4 H4 ⟨x4,qY,h6⟩=>?_⟩;cases ok with
  |false=>
   show iF (hN Z3 H4 U4 s4 acc vs Cz FJ (x2.trans x4) (by rw[Fz (kp.mono x4).at_];show x4) qY (kp.mono x4) (pF.mono x4 aM.lz) ?_);rw[if_neg J0]at h6;show h6
  |true=>
   rw[if_pos rfl,gF]at h6;show iT ⟨U4,J',s4,oM.mono x4 aM.lz,qY,(J3 (x2.trans x4) h6).imp λy s5 U5 H5 ⟨x5,J5,h7⟩ u ru=>?_⟩;rw[gF]at h7;let k5:=(kp.mono x4).mono x5;let r5:=(pF.mono x4 aM.lz).mono x5 qY.lz;let Tc:=(x2.trans x4).trans x5;obtain⟨dd,ey,rd,h8⟩ : ∃d,y=.d d/\Rep K cA U5 H5 d u/\Run K cA (M.bd (if acc.length<sizeLine then M.ret (acc++[d]) else M.no) kk) U1 H1 s5 P Ee:=by
    cases ru with
    |l _=>show h7.elim|d r=>show⟨_,rfl,r,h7⟩
   by_cases hz:acc.length<sizeLine
   .rw[if_pos hz]at h8;show⟨vs,k5.at_,by rw[<-r5.len];show hz,?_⟩;let ox:cD U5 H5 (upd H5 Dd (.lst (vs++[u]))):=k5.ext.1;show hN Z3 _ U5 s5 (acc++[dd]) (vs++[u]) Cz FJ (Ext.keep (vs:=vs) Tc hD) (by rw[WQ,Fz k5.at_];show x4.trans x5) (J5.keep k5) k5.ext.2 ((r5.app (.cons rd .nil)).out ox) h8
   .rw[if_neg hz]at h8;show h8.elim
noncomputable abbrev gM(aq:Nat->Nat->Bool)(aj:Bool)(F:Fn)(B:E)(cond:Eo)(aL aL₂:List Nat)(w₂:Wk)(Jb:Vs):D->List D->M (List D):=λd acc=>M.bd (M.opt (dN aL d Jb)) λJ'=>M.bd (M.qt (iZ aq aj F w₂ J')) λqd=>
    walk qd.1 (bO aq aj F B cond aL₂ J') (qd.2+1) 0 acc
theorem ze5{g₁ g:TG}(hT:fZ X.K cA g₁ aL)(dF:∀i∈aL,i<many)(hT₂:fZ X.K cA g aL₂)(dF₂:∀i∈aL₂,i<many)(CT:∀i∈aL₂,i∉aL){Z:L2.St}{H:Hp}{Q:VK}(hh:tE X.K cA EX (ev aq aj F (.oE fz B aL w aL₂ w₂ fr many cond)) Z H Q) :
  uH (tI X.K cA EX (iZ aq aj F w)) (bG many fr) g₁ (tI X.K cA (λ_ _ _ _=>False) (iZ aq aj F w₂)) g (qX X.K cA (λ_ _ _ _=>False) (oJ aq aj F cond)) (tE X.K cA (λ_ _ _ _=>False) (ev aq aj F B)) Z H Q:=un hh λU J s hL hS h=>by
 by_cases cX:aj=true
 .let h:Run X.K cA (if aj=true then M.bd (iZ aq aj F w J) λcn=>M.bd (walk cn.1 (gM aq aj F B cond aL aL₂ w₂ (blk many fr J)) (cn.2+1) 0 []) λxs=>newL fz xs else M.no) U H s (λd _ U' H'=>∀v,aN X.K cA U' H' d v->Q v H') (eX X.K cA EX Z):=h;rw[if_pos cX]at h;show⟨U,J,s,hL,hS,h.bd.imp λcn s1 U1 H1 ⟨x1,aG,h1⟩ aW hJ=>?_⟩;let hL1:=hL.mono x1 hS.lz;let⟨c,n⟩:=cn;dsimp only at h1 hJ;intro Dd hD;let⟨x0,Td,k0⟩:=Zc aG hD;let CG:∀{Z':L2.St},(Z'.length=many+fr.length/\∀i,many<=i->Z'[i]?=(bG many fr Z)[i]?)->∀{U' H'},Ext U1 H1 U' H'->aR X.K cA U' H' Z' (blk many fr J):=λ{Z'} hZ {U' H'} x=>Za (hL1.mono x aG.lz) hZ.1 λi j v e1 e2=>by
   rw[hZ.2 _ (by omega)];unfold bG;rw[o8 RQ,Gp,gq,show many+i-many=i by omega,e1];simp[e2]
  show⟨λi m Z' H'=>m=n+1-i/\(Z'.length=many+fr.length/\∀i,many<=i->Z'[i]?=(bG many fr Z)[i]?)/\∃U' s' acc vs,Ext U1 H1 U' H'/\aD X.K cA U' H' s'/\Keep U' H' Dd vs/\aC X.K cA U' H' acc vs /\
   Run X.K cA (M.bd (walk c (gM aq aj F B cond aL aL₂ w₂ (blk many fr J)) (n+1-i) i acc) λxs=>newL fz xs) U1 H1 s' (λd _ U' H'=>∀v,aN X.K cA U' H' d v->Q v H') (eX X.K cA EX Z),⟨n+1,rfl,⟨by simp[bG],λi _=>rfl⟩,U1.mark Dd,s1,[],[],x0,Td,k0,.nil,h1⟩,?_⟩
  rintro i m Z' H' ⟨rfl,hZ,U',s',acc,vs,x2,aM,kp,pF,h3⟩;let hL2:=CG hZ x2;cases ek:n+1-i with
  |zero=>rw[ek]at h3;show h3.elim|succ k=>
   rw[ek]at h3;cases ei:c.at i s' with
   |none=>
    exfalso
    unfold Run M.bd walk at h3;simp only[ei]at h3
   |some oi=>
    cases oi with
    |none=>
     show .inl ⟨hJ.stop U' H' H' s' i x2 cD.refl aM ei,?_⟩;let h4:Run X.K cA (newL fz acc) U1 H1 s' (λd _ U' H'=>∀v,aN X.K cA U' H' d v->Q v H') (eX X.K cA EX Z):=by
      unfold Run M.bd walk at h3;simp only[ei]at h3;show h3
     show Zb h4 x2 hD (aG.nz hD) aM kp pF
    |some xi=>
     show .inr ⟨hJ.go U' H' H' s' i xi x2 cD.refl aM ei,λZ2 H2=>(Z2.length=many+fr.length/\∀i,many<=i->Z2[i]?=(bG many fr Z)[i]?)/\∃U' s' acc vs,Ext U1 H1 U' H2/\aD X.K cA U' H2 s'/\Keep U' H2 Dd vs/\aC X.K cA U' H2 acc vs /\
      Run X.K cA (M.bd (walk c (gM aq aj F B cond aL aL₂ w₂ (blk many fr J)) k (i+1) acc) λxs=>newL fz xs) U1 H1 s' (λd _ U' H'=>∀v,aN X.K cA U' H' d v->Q v H') (eX X.K cA EX Z),λZ2 H2 hn=>⟨k,by omega,by omega,hn.1,?_⟩,λv H2 hy=>?_⟩
     .let:n+1-(i+1)=k:=by omega
      rw[this];show hn.2
     .obtain⟨gr,rx⟩:=hJ.uh U' H' H' s' i xi v H2 x2 cD.refl aM ei hy;let h4:Run X.K cA (M.bd (M.opt (dN aL xi (blk many fr J))) λJ'=>M.bd (M.qt (iZ aq aj F w₂ J')) λqd=>M.bd (walk qd.1 (bO aq aj F B cond aL₂ J') (qd.2+1) 0 acc) λacc'=>M.bd (walk c (gM aq aj F B cond aL aL₂ w₂ (blk many fr J)) k (i+1) acc') λxs=>newL fz xs) U1 H1 s' (λd _ U' H'=>∀v,aN X.K cA U' H' d v->Q v H') (eX X.K cA EX Z):=by
       let h5:=S_ (m':=M.bd (gM aq aj F B cond aL aL₂ w₂ (blk many fr J) xi acc) λacc'=>walk c (gM aq aj F B cond aL aL₂ w₂ (blk many fr J)) k (i+1) acc') (by rw[walk];simp only[ei]) h3;rw[gF]at h5;unfold gM at h5;rw[gF]at h5;let e:(λJ'=>M.bd (M.bd (M.qt (iZ aq aj F w₂ J')) λqd=>walk qd.1 (bO aq aj F B cond aL₂ J') (qd.2+1) 0 acc) λacc'=>M.bd (walk c (gM aq aj F B cond aL aL₂ w₂ (blk many fr J)) k (i+1) acc') λxs=>newL fz xs)=λJ'=>M.bd (M.qt (iZ aq aj F w₂ J')) λqd=>M.bd (walk qd.1 (bO aq aj F B cond aL₂ J') (qd.2+1) 0 acc) λacc'=>M.bd (walk c (gM aq aj F B cond aL aL₂ w₂ (blk many fr J)) k (i+1) acc') λxs=>newL fz xs:=funext λJ'=>gF _ _ _;rw[<-e];show h5
      let⟨J',e1,h6⟩:=Run.m9 h4;let gG:=aM.grow gr;show hT.run U' H2 s' Z' _ J' xi v _ (hL2.mono gr.ext aM.lz) gG rx e1 λZ3 oM Cz FJ=>?_;let kg:=kp.mono gr.ext;let rg:=pF.mono gr.ext aM.lz;let xg:=x2.trans gr.ext;show⟨U',J',s',oM,gG,(J3 xg h6).imp λqd s4 U4 H4 ⟨x4,qY,h7⟩ aW₂ hJ₂=>?_⟩;show zjA (many:=many) hT₂ dF₂ (λi hi x z=>?_) hD (xg.trans x4) (oM.mono x4 gG.lz) qY (kg.mono x4) (rg.mono x4 gG.lz) hJ₂ h7 λZ4 H5 U5 s5 T9 vs5 l5 f5 x5 _ J5 k5 r5 h8=>⟨⟨l5.trans (Cz.trans hZ.1),λi hi=>?_⟩,U5,s5,T9,vs5,x5,J5,k5,r5,h8⟩
      .rw[zgU e1 i (CT i hi),zgV (dF₂ i hi)]at z;cases z
      .rw[f5 i λz=>absurd (dF₂ i z) (Er.mpr hi),FJ i λz=>absurd (dF i z) (Er.mpr hi)];show hZ.2 i hi
 .let h:Run X.K cA (if aj=true then M.bd (iZ aq aj F w J) λcn=>M.bd (walk cn.1 (gM aq aj F B cond aL aL₂ w₂ (blk many fr J)) (cn.2+1) 0 []) λxs=>newL fz xs else M.no) U H s (λd _ U' H'=>∀v,aN X.K cA U' H' d v->Q v H') (eX X.K cA EX Z):=h;rw[if_neg cX]at h;show h.elim
end
section
variable {X:Cx}{cA:Cl}{aq:Nat->Nat->Bool}{aj:Bool}{F:Bool->Fn}{EX:XS}{elt iter tg iter₂ tg₂:Expr}{A B:E}{pos p:Pos}{ifs:List Expr}{scope:Scope}{N:List Str}{cond:Eo}{fr aL aL₂:List Nat}{many:Nat}{fz:Bool}{w w₂:Wk}{i:Nat}{y:Str}
theorem zhL(hc:X.aj=true)(q_:X.N.Nodup)(rW:X.N[i]?=some y)(hx:Loc X.env.scope y)(hf:X.fn y=true\/X.env.scope.names.lookup y=some .local)(B':cG X.env.scope scope)(hi:SI X cA aq aj (F aj) EX tg iter w)(hN:N.length=many+fr.length)
  (qO:∀(i:Nat) (y:Str) (j:Nat),N[many+i]?=some y->fr[i]?=some j->scope.names.lookup y=some .free/\X.N[j]?=some y)
  (hg₁:∀cl C s3 H3 fp ao,PG (X.blk scope cl N C s3 H3 fp ao) tg g₁) (hT:fZ X.K cA g₁ aL) (dF:∀i∈aL,i<many) (hi₂:∀cl C s3 H3 fp ao,SI (X.blk scope cl N C s3 H3 fp ao) cA aq aj (F aj) (λ_ _ _ _=>False) tg₂ iter₂ w₂)
  (hg:∀cl C s3 H3 fp ao,PG (X.blk scope cl N C s3 H3 fp ao) tg₂ g) (hT₂:fZ X.K cA g aL₂) (dF₂:∀i∈aL₂,i<many) (CT:∀i∈aL₂,i∉aL)
  (ht:∀cl C s3 H3 fp ao,Fy (X.blk scope cl N C s3 H3 fp ao) cA aq aj (F aj) (λ_ _ _ _=>False) ifs cond) (he:∀cl C s3 H3 fp ao,SE (X.blk scope cl N C s3 H3 fp ao) cA aq aj (F aj) (λ_ _ _ _=>False) elt B)
  (uG:swapsWith (.ListComp elt [⟨tg,iter,[],0⟩,⟨tg₂,iter₂,ifs,0⟩] scope pos) (some (.Name y py)) spos.line X.env=pure true)
  (hs₂:∀env x,foldedSetIterable iter₂ env x=pure x) (hs:∀x,foldedSetIterable iter X.env x=pure x:=by intro _;rfl) :
  SS X cA aq aj F EX (.Assign [.Name y py] (.ListComp elt [⟨tg,iter,[],0⟩,⟨tg₂,iter₂,ifs,0⟩] scope pos) spos) (.asg (.nm i) (.oE fz B aL w aL₂ w₂ fr many cond)):=
 PS.weak (zdt hc q_ rW hx hf B' hi (⟨hg₁,hi₂,hg,ht,he⟩ : pZ X elt tg tg₂ iter₂ ifs scope N g₁ (tI X.K cA (λ_ _ _ _=>False) (iZ aq aj (F aj) w₂)) g (qX X.K cA (λ_ _ _ _=>False) (oJ aq aj (F aj) cond)) (tE X.K cA (λ_ _ _ _=>False) (ev aq aj (F aj) B))) hs₂ (ZY:=bG many fr) (λZ=>by simp[bG,hN]) (λZ i x v e1 e2=>Te qO Z i x v e1 e2) uG hs) λD Z H hh=>un hh λU J s hL hS h=>
  ze5 hT dF hT₂ dF₂ CT ⟨U,J,s,hL,hS,(aP.ofM hL hS.lz h).imp λd s1 U1 H1 ⟨x1,aG,h1⟩ v rv=>h1 U1 H1 _ Ext.refl aG ((hL.mono x1 hS.lz).set rv)⟩
def CV(aL aL₂:List Nat)(m:Nat):Bool:=aL.all (λi=>decide (i<m))&&aL₂.all (λi=>decide (i<m) && !aL.contains i)
def T_(h:CV aL aL₂ m=true):(∀i∈aL,i<m)/\(∀i∈aL₂,i<m)/\∀i∈aL₂,i∉aL:=by
 unfold CV at h;simp only[gA,ju,Ai,Bool.not_eq_true']at h;show⟨h.1,λi hi=>(h.2 i hi).1,λi hi z=>by let:=(h.2 i hi).2;rw[List.contains_iff_mem.mpr z]at this;cases this⟩
def u_:Expr->Bool
 |.Call _ _ _ _=>true|.Name _ _=>true|.BinOp _ _ _ _=>true|.Subscript _ _ _=>true|.Attribute _ _ _=>true|_=>false
def zjZ(h:u_ e=true):∀env x,foldedSetIterable e env x=pure x:=by cases e<;>first|(intro _ _;rfl)|cases h
theorem zi4(i:Nat)(sc:Scope)(XN M0 N:List Str)(fr:List Nat)(hN:X.N.Nodup)(rW:X.N[i]?=some y)(hx:JK X y k)(hl:lG k=true)(hc:X.aj=true)(J6:X.env.scope=sc)(q_:X.N=XN)(hB:oR sc scope=true)(hf:frB scope XN N fr=true)(hT:fZ X.K cA g₁ aL)(hT₂:fZ X.K cA g aL₂)(dF:CV aL aL₂ M0.length=true)
  (hi:JI X cA aq aj (F aj) EX tg iter w) (hg₁:∀cl C s3 H3 fp ao,JY (X.blk scope cl (M0++N) C s3 H3 fp ao) tg g₁) (hi₂:∀cl C s3 H3 fp ao,JI (X.blk scope cl (M0++N) C s3 H3 fp ao) cA aq aj (F aj) (λ_ _ _ _=>False) tg₂ iter₂ w₂) (hg:∀cl C s3 H3 fp ao,JY (X.blk scope cl (M0++N) C s3 H3 fp ao) tg₂ g)
  (ht:∀cl C s3 H3 fp ao,JC (X.blk scope cl (M0++N) C s3 H3 fp ao) cA aq aj (F aj) (λ_ _ _ _=>False) ifs cond) (he:∀cl C s3 H3 fp ao,JE (X.blk scope cl (M0++N) C s3 H3 fp ao) cA aq aj (F aj) (λ_ _ _ _=>False) elt B)
  (hp2:u_ iter₂=true:=by rfl) (uG:swapsWith (.ListComp elt [⟨tg,iter,[],0⟩,⟨tg₂,iter₂,ifs,0⟩] scope pos) (some (.Name y py)) spos.line X.env=pure true:=by rfl) (TF:X.fn y=true\/k=.local:=by first|exact .inl rfl|exact .inr rfl) (hs:∀x,foldedSetIterable iter X.env x=pure x:=by intro _;rfl) :
  JS X cA aq aj F EX (.Assign [.Name y py] (.ListComp elt [⟨tg,iter,[],0⟩,⟨tg₂,iter₂,ifs,0⟩] scope pos) spos) (.asg (.nm i) (.oE fz B aL w aL₂ w₂ fr M0.length cond)):=
 ⟨zhL hc hN rW (vY hx hl) (vZ hx TF) (cG.of (J6▸hB)) hi.o (zQ (q_▸hf)).1 (zQ (q_▸hf)).2 (λa b c d e f=>(hg₁ a b c d e f).o) hT (T_ dF).1 (λa b c d e f=>(hi₂ a b c d e f).o) (λa b c d e f=>(hg a b c d e f).o) hT₂ (T_ dF).2.1 (T_ dF).2.2 (λa b c d e f=>(ht a b c d e f).o) (λa b c d e f=>(he a b c d e f).o) uG (zjZ hp2) hs⟩
end
section
variable {K:W.Frag}{cA:Cl}{U:Ph}{H:Hp}
theorem aC.CW(r:aC K cA U H xs ys):∀l:List Nat,aC K cA U H (l.map λi=>xs.getD i .non) (l.map λi=>ys.getD i .non)
 |[]=>.nil|i::l=>by
  show .cons ?_ (aC.CW r l);change Rep K cA U H (xs.getD i .non) (ys.getD i .non);cases e:xs[i]? with
  |some x=>
   let⟨u,e1,e2⟩:=r.get e;rw[lq,lq,e,e1];show e2
  |none=>
   let e1:ys[i]?=Option.none:=r.none e;rw[lq,lq,e,e1];show .non
def aC.mem(r:aC K cA U H xs ys):∀v∈ys,∃d∈xs,Rep K cA U H d v:=by
 intro v hv;let⟨i,hi,e⟩:=yL hv;let e':ys[i]?=some v:=by rw[dz hi,e]
 cases ex:xs[i]? with
 |none=>rw[r.none ex]at e';cases e'|some d=>
  let⟨u,e1,e2⟩:=r.get ex;rw[e1]at e';cases e';show⟨d,dZ ex,e2⟩
theorem Z0:∀{us ws:List D} {xs ys:List V},aC K cA U H us xs->aC K cA U H ws ys->∀{b:Bool},oF us ws=some b->lE xs ys=some b
 |[],ws,_,ys,r1,r2,b,h=>by
  cases r1;unfold oF at h;unfold lE;rw[<-r2.len];show h
 |_::_,[],_,_,r1,r2,b,h=>by
  cases r2;cases r1;unfold oF at h;unfold lE;show h
 |x::us,y::ws,_,_,r1,r2,b,h=>by
  cases r1 with
  |cons a1 b1=>
   cases r2 with
   |cons a2 b2=>
    unfold oF at h;split at h
    .rename_i z;cases z
    .rename_i z;cases z
    .rename_i p ps q qs e1 e2;cases e1;cases e2;cases a1;cases a2;unfold lE;by_cases e:p=q
     .rw[if_pos e]at h ⊢;show Z0 b1 b2 h
     .rw[if_neg e]at h ⊢;show h
    .cases h
def zhI(r:aC K cA U H xs ys)(h:(xs.all iY||xs.all gR)=true):uI K H ys (vR xs):=by
 rw[Mf]at h;rcases h with h|h
 .left
  rw[ju]at h;show⟨λv hv=>?_,λi j b e=>?_⟩
  .obtain⟨d,hd,q⟩:=r.mem v hv;let:=h d hd;cases q<;>first|exact⟨_,rfl⟩|cases this
  .unfold vR at e;cases e1:xs[i]? with
   |none=>rw[e1]at e;cases e|some d1=>
    cases e2:xs[j]? with
    |none=>rw[e1,e2]at e;cases d1<;>cases e|some d2=>
     let h1:=h d1 (dZ e1);let h2:=h d2 (dZ e2);rw[e1,e2]at e;let⟨v1,a1,b1⟩:=r.get e1;let⟨v2,a2,b2⟩:=r.get e2;cases d1<;>first|cases h1|skip
     cases d2<;>first|cases h2|skip
     cases b1;cases b2;cases e;show⟨_,_,a1,a2,rfl⟩
 .right
  rw[ju]at h;show⟨λv hv=>?_,λi j b e=>?_⟩
  .obtain⟨d,hd,q⟩:=r.mem v hv;let:=h d hd;unfold gR at this;split at this
   .cases q with
    |tup t r'=>
     cases r' with
     |cons a1 b1=>
      cases a1;show⟨_,_,_,rfl,t.jk⟩
   .cases this
  .unfold vR at e;cases e1:xs[i]? with
   |none=>rw[e1]at e;cases e|some d1=>
    cases e2:xs[j]? with
    |none=>rw[e1,e2]at e;cases d1<;>cases e|some d2=>
     let h1:=h d1 (dZ e1);let h2:=h d2 (dZ e2);rw[e1,e2]at e;let⟨v1,a1,b1⟩:=r.get e1;let⟨v2,a2,b2⟩:=r.get e2;unfold gR at h1 h2;split at h1
     .split at h2
      .cases b1 with
       |tup t1 r1=>
        cases b2 with
        |tup t2 r2=>show⟨_,_,_,_,a1,a2,t1.jk,t2.jk,Z0 r1 r2 e⟩
      .cases h2
     .cases h1
def zgc:bA K cA .sorted (λxs H Q=>∃l ys lt p,xs=[.ref l]/\cP K H l ys/\ys.length<64/\(2<=ys.length->uI K H ys lt/\bf lt (PySem.W.kas_sort ys.length)=some p/\p.size=ys.length)/\∀r,H r=none->Q (.ref r) (upd H r (.lst (fB ys p)))):=by
 intro U H ds vs Q zt rs o;let o:bD K cA U H (mZ ds) Q:=o;unfold mZ at o;split at o
 .rename_i xs _;let⟨v,rfl,r1⟩:=rs.one;let⟨z,e⟩:=o.some';let⟨zs,e1,e2⟩:=mF.mp e;subst e2;obtain⟨a,us,rfl,sq,q⟩ : ∃a us,v=.ref a/\cP K H a us/\aC K cA U H xs us:=r1;let hl:=q.len;unfold vU at e1;by_cases hk:(xs.all iY||xs.all gR)=true
  .rw[if_pos hk]at e1;unfold jg at e1;by_cases h2:xs.length<2
   .rw[if_pos h2]at e1;cases e1;show⟨a,us,λ_ _=>none,#[],rfl,sq,by lia,λz=>absurd z gV,λr hr=>?_⟩;let:fB us #[]=us:=by unfold fB;rw[if_pos gV]
    rw[this];show(o.of e) r us hr q
   .rw[if_neg h2]at e1;by_cases nH:xs.length<64
    .rw[if_pos nH]at e1;cases ek:bf (vR xs) (PySem.W.kas_sort xs.length) with
     |none=>rw[ek]at e1;cases e1|some p=>
      rw[ek]at e1;dsimp only at e1;by_cases hp:p.size=xs.length
      .rw[if_pos hp]at e1;cases e1;show⟨a,us,vR xs,p,rfl,sq,by lia,λ_=>⟨zhI q hk,by rw[<-hl];show ek,by lia⟩,λr hr=>?_⟩;let:fB us p=p.toList.map λi=>us.getD i .non:=by unfold fB;rw[if_neg gV]
       rw[this];show(o.of e) r _ hr (q.CW p.toList)
      .rw[if_neg hp]at e1;cases e1
    .rw[if_neg nH]at e1;cases e1
  .rw[if_neg hk]at e1;cases e1
 .exact o.elim
end
section
variable {X:Cx}{cA:Cl}{aq:Nat->Nat->Bool}{aj:Bool}{F:Fn}{EX:XS}{e:Expr}{pos p:Pos}{es:List Expr}{Xs:Es}{fz:Bool}
def Z9:bootBuiltins "sorted"=some (.builtin "sorted"):=by decide +kernel
theorem zhR(hm:X.mg "sorted"=none)(hg:JK X "sorted" .globalImplicit)(ha:JA X cA aq aj F EX (e::es) Xs)(he:aF e=true:=by rfl)(cQ:es.all aF=true:=by rfl):JE X cA aq aj F EX (.Call (.Name "sorted" p) (e::es) [] pos) (.pr fz .sorted Xs):=⟨zJ zdB zgc hg.o hm Z9 ha.o J0 J0 (aY he) (bB cQ)⟩
end
section
variable {K:W.Frag}{cA:Cl}{U:Ph}{H:Hp}
theorem N6:∀{xs:List D} {k i:Nat},(enumFrom k xs)[i]?=(xs[i]?).map λd=>.tup [.int ((k+i:Nat):Int),d]
 |[],k,i=>by simp[enumFrom]|x::r,k,0=>by simp[enumFrom]|x::r,k,i+1=>by
  unfold enumFrom;rw[DP,DP,N6]
  congr 1
  funext d
  rw[show k+1+i=k+(i+1) by lia]
def sV(K:W.Frag)(U:Ph)(H:Hp):Bool->Addr->List V->Prop
 |true,a,vs=>LstAt K U H a vs|false,a,vs=>TupAt K U H a vs
def sV.sk{kd:Bool}{a:Addr}{vs:List V}(h:sV K U H kd a vs):Sk kd K H a vs:=by
 cases kd
 .exact TupAt.jk h
 .exact LstAt.sI h
def sV.later{U':Ph}{H₁ H':Hp}{kd:Bool}{a:Addr}{vs:List V}(hz:∀a∈U.l,U.z a)(h:sV K U H kd a vs)(x:Ext U H U' H₁)(o:cD U' H₁ H'):sV K U' H' kd a vs:=by
 cases kd
 .exact TupAt.later hz h x o
 .exact LstAt.later hz h x o
def jE.enum{kd:Bool}{l:Addr}{xs:List D}{vs:List V}(hz:∀a∈U.l,U.z a)(h:sV K U H kd l vs)(r:aC K cA U H xs vs):jE K cA (.fix (enumFrom 0 xs)) U H (Ite K kd l):=by
 show⟨λU' H₁ H' s' i x o hS e=>⟨vs,(h.later hz x o).sk,?_⟩,λU' H₁ H' s' i d x o hS e=>?_,λU' H₁ H' s' i d v H2 x o hS e y=>?_⟩
 .let e:(enumFrom 0 xs)[i]?=none:=cU e;rw[N6,Option.map_eq_none_iff]at e;show qD.mp ((r.mono x hz).none e)
 .let e:(enumFrom 0 xs)[i]?=some d:=cU e;rw[N6]at e;let⟨d',e',_⟩:=mF.mp e;let⟨v,q,_⟩:=r.get e';show⟨vs,v,(h.later hz x o).sk,q⟩
 .let e:(enumFrom 0 xs)[i]?=some d:=cU e;rw[N6]at e;let⟨d',e',rfl⟩:=mF.mp e;let⟨a,u,hn,rfl,rfl,hu⟩:=y;let⟨w,q,jT⟩:=((r.mono x hz).out o).get e';let:=hu vs (h.later hz x o).sk;rw[q]at this;cases this;let g:bw H' (upd H' a (.tup [.int i,u])):=bw.new hn;show⟨g,?_⟩;rw[show ((0+i:Nat):Int)=(i:Int) by simp];show .tup (.inl ⟨.inl h_,hS.nz hn⟩) (.cons (.int _) (.cons (jT.mono g.ext hS.lz) .nil))
def Ua(h:(Src.lZ n).at i s=some o):∃xs,s[n]?=some (.lst xs)/\(xs[i]?.map λx=>D.tup [.int i,x])=o:=by
 unfold Src.at at h;dsimp only at h;cases e:s[n]? with
 |none=>rw[e]at h;cases h|some ob=>
  rw[e]at h;cases ob with
  |lst xs=>show⟨xs,rfl,cU h⟩|_=>cases h
def jE.lZ{a:Addr}{n:Nat}(h:U.l[n]?=some a):jE K cA (.lZ n) U H (Ite K true a):=by
 show⟨λU' H₁ H' s' i x o hS e=>?_,λU' H₁ H' s' i d x o hS e=>?_,λU' H₁ H' s' i d v H2 x o hS e y=>?_⟩
 .obtain⟨xs,e1,e2⟩:=Ua e;rw[Option.map_eq_none_iff]at e2;let⟨vs,q1,q2⟩:=hS.obj n _ a e1 (x.get h);show⟨vs,cP.of q1,qD.mp (q2.none e2)⟩
 .obtain⟨xs,e1,e2⟩:=Ua e;let⟨d',e',_⟩:=mF.mp e2;let⟨vs,q1,q2⟩:=hS.obj n _ a e1 (x.get h);let⟨v,q3,_⟩:=q2.get e';show⟨vs,v,cP.of q1,q3⟩
 .obtain⟨xs,e1,e2⟩:=Ua e;let⟨d',e',rfl⟩:=mF.mp e2;let⟨vs,q1,q2⟩:=hS.obj n _ a e1 (x.get h);let⟨w,q3,jT⟩:=q2.get e';let⟨b,u,hn,rfl,rfl,hu⟩:=y;let:=hu vs (cP.of q1);rw[q3]at this;cases this;let g:bw H' (upd H' b (.tup [.int i,w])):=bw.new hn;show⟨g,.tup (.inl ⟨.inl h_,hS.nz hn⟩) (.cons (.int _) (.cons (jT.mono g.ext hS.lz) .nil))⟩
end
section
variable {X:Cx}{cA:Cl}{aq:Nat->Nat->Bool}{aj:Bool}{F:Fn}{EX:XS}{a b:Expr}{A B:E}{pos pp tpos:Pos}{elts:List Expr}{kk:Nat}
theorem zjt(ql:Gl X "enumerate")(hmg:X.mg "enumerate"=none)(hb:SE X cA aq aj F EX b B)(h2:starEach [b] X.env=(false,eval b X.env)::starEach [] X.env) :
  SI X cA aq aj F EX (.Tuple elts kk tpos) (.Call (.Name "enumerate" pp) [b] [] pos) (.enum B):=PI.weak (zjX ql hmg (rP hb wZ h2) (by rw[h2];rfl)) λZ H R hh=>un hh λU J s hL hS h=>by
 show aV hL hS h λy H2 U2 d2 s2 x2 hL2 aM r2 h2=>?_;cases r2 with
 |@l n ad hl=>
  unfold Run oH at h2;dsimp only at h2;cases e:s2[n]? with
  |none=>rw[e]at h2;show h2.elim|some o=>
   rw[e]at h2;cases o with
   |lst xs=>
    let⟨vs,q1,q2⟩:=aM.obj n _ _ e hl;show⟨true,_,_,rfl,cP.of q1,h2 U2 H2 Ext.refl aM _ (jE.lZ hl)⟩
   |_=>show h2.elim
 |d r2=>
  cases r2 with
  |fl q r=>show⟨true,_,_,rfl,q.sI,h2 U2 H2 Ext.refl aM _ (jE.enum (kd:=true) aM.lz q r)⟩|tup q r=>show⟨false,_,_,rfl,q.jk,h2 U2 H2 Ext.refl aM _ (jE.enum (kd:=false) aM.lz q r)⟩|_=>show h2.elim
theorem Z_:∀(ns:List Str) (vs:List V),((ns.zip vs).map (·.1)).Sublist ns
 |[],vs=>by simp|n::ns,[]=>by simp|n::ns,v::vs=>by
  rw[Gu,iH];show(Z_ ns vs).cons₂ n
theorem zfd:∀{ns:List Str} {vs:List V} {i:Nat} {x:Str} {v:V},ns.Nodup->ns[i]?=some x->vs[i]?=some v->(ns.zip vs).lookup x=some v
 |ns,vs,i,x,v,hn,h1,h2=>by
  show Yl ?_ (zka h1 h2);show List.Sublist.nodup (Z_ ns vs) hn
end
section
variable {X:Cx}{cA:Cl}{aq:Nat->Nat->Bool}{aj:Bool}{F:Fn}{EX:XS}{a b:Expr}{A B:E}{pos p tpos:Pos}{elts:List Expr}{kk:Nat}
theorem zlz(hmg:X.mg "enumerate"=none)(ql:JK X "enumerate" .globalImplicit)(hb:JE X cA aq aj F EX b B)(h2:aF b=true:=by rfl):JI X cA aq aj F EX (.Tuple elts kk tpos) (.Call (.Name "enumerate" p) [b] [] pos) (.enum B):=⟨zjt ql.o hmg hb.o (aY h2)⟩
end
end Mi
namespace Mi
open PySem PySem.Spec PyProof.Rows L2 PySem.W
def zjI{fd:FuncData}{q:Str}{st:Stmt}(h:nQ fd=Ax q st):fd=fnOf "__init__" q (aU st) (aH st) (aA st) .none fd.kwdefaults fd.doc fd.pyModule fd.annotations fd.code fd.closureTuple:=by
 cases fd;unfold nQ Ax at h;cases h;rfl
structure Kc(K:Frag)(C:Addr)(q:Str)(st:Stmt):Prop where
 ex:∃(fI:Addr) (od:Option Addr) (kV doc pm:Value) (an:Option Addr) (cdv ct:Value) (osl:Array (Option Value)) (cd:ClassData),
  K.lookup fI=some ⟨.type "function",od,.func (fnOf "__init__" q (aU st) (aH st) (aA st) .none kV doc pm an cdv ct),osl⟩/\codeIn K cdv q=true/\tY K C fI=true/\clsIn K C=some cd/\tX cd.mro=true/\cd.hasDict=true
def znI{K:Frag}{C:Addr}{q:Str}{st:Stmt}(h:(G8 K C).map nQ=some (Ax q st)):Kc K C q st:=by
 cases e:G8 K C with
 |none=>rw[e]at h;cases h|some fd=>
  rw[e]at h;let hp:nQ fd=Ax q st:=cU h;unfold G8 at e;split at e
  .rename_i cd iu;split at e
   .rename_i f hf;split at e
    .rename_i od fd' sl hl;split at e
     .rename_i hc;cases e;simp only[gA]at hc;let⟨⟨⟨c1,c2⟩,c3⟩,c4⟩:=hc;let eq:=zjI hp;let qn:fd.qualname=q:=by rw[eq]
      show⟨⟨f,od,fd.kwdefaults,fd.doc,fd.pyModule,fd.annotations,fd.code,fd.closureTuple,sl,cd,?_,by rw[<-qn];show c1,c2,iu,c3,c4⟩⟩;rw[<-eq];show hl
     .cases e
    .cases e
   .cases e
  .cases e
def zoz{K:Frag}{C:Addr}{f:Str}(h:Mp K C f=true):XF K C f:=by
 unfold Mp at h;simp only[gA,nM]at h;let⟨⟨⟨⟨h1,h2⟩,h3⟩,h4⟩,h5⟩:=h;show⟨h1,h2,h3,h4,h5⟩
structure oV(fs:List (Str×Stmt))(ms:List t_)(xs:List (Nat×Str))(l:Lk)(K:Frag):Prop where
 fn:∀p∈fs,FnAt K p.1 p.2
 gd:zT l K
 mi:∀m∈ms,Kc K (iM (l.L K) m.c) m.q m.st
 se:∀m∈ms,setB K (iM (l.L K) m.c) m.fs=true
 xf:∀x∈xs,XF K (iM (l.L K) x.1) x.2
theorem Ub{a:Nat}{o:Obj}:∀{l:List Obj} {i:Nat},((a:Addr),o)∈G9 i l->i<=a/\l[a-i]?=some o/\o.isFreed=false
 |[],i,h=>by cases h|p::r,i,h=>by
  unfold G9 at h;split at h
  .obtain⟨h1,h2,h3⟩:=Ub h;show⟨by lia,?_,h3⟩;rw[show a-i=(a-(i+1))+1 by lia];show h2
  .rename_i hf;rcases iG.mp h with e|h
   .cases e;show⟨bU _,by simp,(Bool.or_eq_false_iff.mp hf).1⟩
   .obtain⟨h1,h2,h3⟩:=Ub h;show⟨by lia,?_,h3⟩;rw[show a-i=(a-(i+1))+1 by lia];show h2
theorem Uc:∀{K:Frag},K.lookup a=some o->(a,o)∈K
 |[],h=>by cases h|(b,p)::r,h=>by
  rw[pI]at h;by_cases e:a=b
  .subst e;simp only[Ed]at h;cases h;show kO
  .rw[show (a==b)=false by simpa using e]at h;show g_ _ (Uc h)
theorem zg9:(bM h).In h:=λa o e=>by
 let hm:=Uc e;unfold bM at hm;rcases jN.mp hm with z|z
 .unfold qI at z;split at z
  .rename_i p hp;rcases iG.mp z with e|z
   .cases e;show hp
   .cases z
  .cases z
 .obtain⟨_,h2,h3⟩:=Ub (List.mem_reverse.mp z);rw[Heap.get?_some_iff];show⟨?_,h3⟩;let:h.objs.toList[a]?=some o:=by simpa using h2
  simpa using this
end Mi
namespace Mi
open PySem PySem.Spec PyProof.Rows L2
section
variable {K:W.Frag}{cA:Cl}{U:Ph}{H:Hp}
def jm(K:W.Frag)(U:Ph)(H:Hp):Bool->Addr->List V->Prop
 |true,a,vs=>LstAt K U H a vs|false,a,vs=>TupAt K U H a vs
def jm.sk{kd:Bool}{a:Addr}{vs:List V}(h:jm K U H kd a vs):Sk kd K H a vs:=by
 cases kd
 .exact TupAt.jk h
 .exact LstAt.sI h
def jm.later{kd:Bool}{a:Addr}{vs:List V}{U':Ph}{H₁ H':Hp}(hz:∀a∈U.l,U.z a)(h:jm K U H kd a vs)(x:Ext U H U' H₁)(o:cD U' H₁ H'):jm K U' H' kd a vs:=by
 cases kd
 .exact TupAt.later hz h x o
 .exact LstAt.later hz h x o
theorem Ud{xs ys:List D}{i:Nat}:(List.zipWith (λp q=>D.tup [p,q]) xs ys)[i]?=match xs[i]?,ys[i]? with
  |some p,some q=>some (.tup [p,q])|_,_=>none:=by
 rw[List.getElem?_zipWith];cases xs[i]?<;>cases ys[i]?<;>rfl
def jE.zip{k1 k2:Bool}{l1 l2:Addr}{xs ys:List D}{us vs:List V}(hz:∀a∈U.l,U.z a)(h1:jm K U H k1 l1 us)(h2:jm K U H k2 l2 vs)(r1:aC K cA U H xs us)(r2:aC K cA U H ys vs):jE K cA (.fix (List.zipWith (λp q=>D.tup [p,q]) xs ys)) U H (RW K k1 k2 l1 l2):=by
 show⟨λU' H₁ H' s' i x o hS e=>?_,λU' H₁ H' s' i d x o hS e=>?_,λU' H₁ H' s' i d v H2 x o hS e y=>?_⟩
 .let e:(List.zipWith (λp q=>D.tup [p,q]) xs ys)[i]?=none:=cU e;rw[Ud]at e;show⟨us,vs,(h1.later hz x o).sk,(h2.later hz x o).sk,?_⟩;cases ex:xs[i]? with
  |none=>show .inl (qD.mp (r1.none ex))|some p=>
   cases ey:ys[i]? with
   |none=>show .inr (qD.mp (r2.none ey))|some q=>rw[ex,ey]at e;cases e
 .let e:(List.zipWith (λp q=>D.tup [p,q]) xs ys)[i]?=some d:=cU e;rw[Ud]at e;cases ex:xs[i]? with
  |none=>rw[ex]at e;cases e|some p=>
   cases ey:ys[i]? with
   |none=>rw[ex,ey]at e;cases e|some q=>
    let⟨u,q1,_⟩:=r1.get ex;let⟨v,q2,_⟩:=r2.get ey;show⟨us,vs,u,v,(h1.later hz x o).sk,(h2.later hz x o).sk,q1,q2⟩
 .let e:(List.zipWith (λp q=>D.tup [p,q]) xs ys)[i]?=some d:=cU e;rw[Ud]at e;cases ex:xs[i]? with
  |none=>rw[ex]at e;cases e|some p=>
   cases ey:ys[i]? with
   |none=>rw[ex,ey]at e;cases e|some q=>
    rw[ex,ey]at e;cases e;let⟨a,u,w,hn,rfl,rfl,hu,hw⟩:=y;let⟨u',q1,ru⟩:=((r1.mono x hz).out o).get ex;let⟨w',q2,jT⟩:=((r2.mono x hz).out o).get ey;let e1:=hu us (h1.later hz x o).sk;let e2:=hw vs (h2.later hz x o).sk;rw[q1]at e1;rw[q2]at e2;cases e1;cases e2;let g:bw H' (upd H' a (.tup [u,w])):=bw.new hn;show⟨g,.tup (.inl ⟨.inl h_,hS.nz hn⟩) (.cons (ru.mono g.ext hS.lz) (.cons (jT.mono g.ext hS.lz) .nil))⟩
def zdV(r:aN K cA U H x v)(h:Run K cA (M.bd (qb x) k) U H s P Ee) :
  ∃xs kd a vs,v=.ref a/\jm K U H kd a vs/\aC K cA U H xs vs/\Run K cA (k xs) U H s P Ee:=by
 cases r with
 |l _=>show h.elim|d r=>
  cases r with
  |tup q r=>show⟨_,false,_,_,rfl,q,r,h⟩|fl q r=>show⟨_,true,_,_,rfl,q,r,h⟩|_=>show h.elim
end
section
variable {X:Cx}{cA:Cl}{aq:Nat->Nat->Bool}{aj:Bool}{F:Fn}{EX:XS}{a b:Expr}{A B:E}{pos pp tpos:Pos}{elts:List Expr}{kk:Nat}
theorem zmT(ql:Gl X "zip")(hmg:X.mg "zip"=none)(ha:SE X cA aq aj F EX a A)(hb:SE X cA aq aj F EX b B)(h1:starEach [a,b] X.env=(false,eval a X.env)::starEach [b] X.env)(h2:starEach [b] X.env=(false,eval b X.env)::starEach [] X.env) :
  SI X cA aq aj F EX (.Tuple elts kk tpos) (.Call (.Name "zip" pp) [a,b] [] pos) (.zip A B):=PI.weak (zmh ql hmg (rP ha (rP hb wZ h2) h1) (by rw[h1,h2];rfl) (by rw[h2];rfl)) λZ H R hh=>un hh λU J s hL hS h=>by
 show aV hL hS h λx H1 U1 d1 s1 x1 hL1 aG r1 h1=>aV hL1 aG h1 λy H2 U2 d2 s2 x2 hL2 aM r2 h2=>?_;let⟨xs,k1,l1,us,e1,q1,p1,h3⟩:=zdV (r1.mono x2 aG.lz) h2;let⟨ys,k2,l2,vs,e2,q2,p2,h4⟩:=zdV r2 h3;subst e1 e2;show⟨k1,k2,l1,l2,us,vs,rfl,q1.sk,q2.sk,(h4.bF aM) _ (jE.zip aM.lz q1 q2 p1 p2)⟩
theorem zoB(hmg:X.mg "zip"=none)(ql:JK X "zip" .globalImplicit)(ha:JE X cA aq aj F EX a A)(hb:JE X cA aq aj F EX b B)(h1:aF a=true:=by rfl)(h2:aF b=true:=by rfl):JI X cA aq aj F EX (.Tuple elts kk tpos) (.Call (.Name "zip" p) [a,b] [] pos) (.zip A B):=⟨zmT ql.o hmg ha.o hb.o (aY h1) (aY h2)⟩
end
def FZ(i:Int)(n:Nat):List V:=(List.range n).map λk=>.int (i+(k:Nat))
def zjh{i:Int}{acc:Array Value}:∀{n m:Nat},(∀k v,acc.toList[k]?=some (v:Value)->∃t,v=Value.int (i+((m+k:Nat):Int)) t)->acc.toList.length=n->Vals ((List.range n).map λk=>V.int (i+((m+k:Nat):Int))) acc.toList:=by
 generalize acc.toList=l
 induction l with
 |nil=>intro n m _ e;subst e;show .nil|cons v l ih=>
  intro n m h e;subst e;rw[gw,Pu,iH,Ar];show .cons (h 0 v rfl) ?_;let:=ih (n:=l.length) (m:=m+1) (λk v e=>by
   let:=h (k+1) v e;rw[show m+1+k=m+(k+1) by lia];show this) rfl
  let e:((λk=>V.int (i+((m+k:Nat):Int)))∘Nat.succ)=λk=>V.int (i+((m+1+k:Nat):Int)):=by
   funext k
   change V.int (i+((m+(k+1):Nat):Int))=_;rw[show m+(k+1)=m+1+k by lia]
  rw[e];show this
section
variable {K:W.Frag}{cA:Cl}{U:Ph}{H:Hp}
theorem zgD:∀l:List Nat,aC K cA U H (l.map λk=>D.int (i+(k:Nat))) (l.map λk=>V.int (i+(k:Nat)))
 |[]=>.nil|_::l=>.cons (.int _) (zgD l)
end
end Mi
namespace Mi
open PySem PySem.Spec PyProof.Rows L2 PySem.W
structure D3(K:Frag)(mg:Str->Option Value)(x:Str)(st:Stmt)(ps:List Str):Prop where
 f:oO K x x st (fC K x) (fdOf K x st)
 m:mg x=some (.ref (fC K x))
 b:Binds K (fdOf K x st) ps []
theorem dk{p:Prop}(h:p:=by decide +kernel):p:=h
section
variable {fs:List (Str×Stmt)}{ms:List t_}{xs:List (Nat×Str)}{lk:Lk}{K:Frag}{h:Heap}{mg:Str->Option Value}{x:Str}{st:Stmt}
theorem oW(S:oV fs ms xs lk K)(X:K.In h)(G:h.Ns mainGlobals mg)(j:Nat)(hj:fs[j]?=some (x,st):=by rfl)(hb:∀(kV doc pm:Value) (an:Option Addr) (cdv ct a:Value),bindArgs (fnOf x x (aU st) (aH st) (aA st) .none kV doc pm an cdv ct) ⟨[a],[]⟩=pure [(p,a)]:=by intros;rfl):D3 K mg x st [p]:=have F:=S.fn (x,st) (dZ hj);⟨F.fn,F.m X G,yj F.fn hb⟩
theorem kj(S:oV fs ms xs lk K)(X:K.In h)(G:h.Ns mainGlobals mg)(j:Nat)(hj:fs[j]?=some (x,st):=by rfl)(hb:∀(kV doc pm:Value) (an:Option Addr) (cdv ct a b:Value),bindArgs (fnOf x x (aU st) (aH st) (aA st) .none kV doc pm an cdv ct) ⟨[a,b],[]⟩=pure [(p,a),(q,b)]:=by intros;rfl):D3 K mg x st [p,q]:=have F:=S.fn (x,st) (dZ hj);⟨F.fn,F.m X G,yp F.fn hb⟩
theorem Ke(S:oV fs ms xs lk K)(X:K.In h)(G:h.Ns mainGlobals mg)(j:Nat)(hj:fs[j]?=some (x,st):=by rfl)(hb:∀(kV doc pm:Value) (an:Option Addr) (cdv ct a b c:Value),bindArgs (fnOf x x (aU st) (aH st) (aA st) .none kV doc pm an cdv ct) ⟨[a,b,c],[]⟩=pure [(p,a),(q,b),(t,c)]:=by intros;rfl):D3 K mg x st [p,q,t]:=have F:=S.fn (x,st) (dZ hj);⟨F.fn,F.m X G,yq F.fn hb⟩
theorem zo4(S:oV fs ms xs lk K)(X:K.In h)(G:h.Ns mainGlobals mg)(j:Nat)(hj:fs[j]?=some (x,st):=by rfl)(hb:∀(kV doc pm:Value) (an:Option Addr) (cdv ct a b c d:Value),bindArgs (fnOf x x (aU st) (aH st) (aA st) .none kV doc pm an cdv ct) ⟨[a,b,c,d],[]⟩=pure [(p,a),(q,b),(t,c),(u,d)]:=by intros;rfl):D3 K mg x st [p,q,t,u]:=have F:=S.fn (x,st) (dZ hj);⟨F.fn,F.m X G,yr F.fn hb⟩
theorem mG{α:Type}{l:List α}{a:α}(j:Nat)(h:l[j]?=some a:=by rfl):a∈l:=dZ h
end
end Mi
namespace Mi
open PySem
def W{α:Type}(m:M α)(s:S)(P:α->S->Prop):Prop:=∃a s',m s=some (.ok a,s')/\P a s'
def WS(m:MS)(s:S)(Q:Out->S->Prop):Prop:=∃o s',m s=some (o,s')/\Q o s'
section
variable {α β:Type}{m:M α}{k:α->M β}{s:S}{P:α->S->Prop}{R:β->S->Prop}
def W.bd(h:W m s λa s'=>W (k a) s' R):W (M.bd m k) s R:=by
 let⟨a,s',e,b,s2,e2,r⟩:=h;show⟨b,s2,by unfold M.bd;rw[e];show e2,r⟩
theorem W.ret{a:α}(h:P a s):W (M.ret a) s P:=⟨a,s,rfl,h⟩
def W.qt(h:W m s P):W (M.qt m) s P:=by
 let⟨a,s',e,p⟩:=h;show⟨a,s',by unfold M.qt;rw[e],p⟩
def W.opt(e:o=some a)(h:P a s):W (M.opt o) s P:=by subst e;show⟨a,s,rfl,h⟩
theorem W.imp{P':α->S->Prop}(h:W m s P)(f:∀a s',P a s'->P' a s'):W m s P':=let ⟨a,s',e,p⟩:=h;⟨a,s',e,f a s' p⟩
theorem W.eq(e:m s=some (.ok a,s'))(p:P a s'):W m s P:=⟨a,s',e,p⟩
theorem N7{d:D}{P:D->S->Prop}(h:P d s):W (rd (.d d)) s P:=⟨d,s,rfl,h⟩
theorem Ka1{n:Nat}{xs:List D}{P:D->S->Prop}(e:s[n]?=some (.lst xs))(h:P (.fl xs) s):W (rd (.l n)) s P:=⟨.fl xs,s,by unfold rd;simp only[e],h⟩
theorem Ka3{P:List D->S->Prop}(h:P [] s):W (gJ []) s P:=⟨[],s,rfl,h⟩
theorem Ue{x:Xv}{r:List Xv}{P:List D->S->Prop}(h:W (rd x) s λd s1=>W (gJ r) s1 λds s2=>P (d::ds) s2):W (gJ (x::r)) s P:=W.bd (h.imp λd s1 h1=>W.bd (h1.imp λds s2 h2=>W.ret h2))
theorem Kav{P:List D->S->Prop}(h:P [] s):W (cC []) s P:=⟨[],s,rfl,h⟩
theorem Kau{d:D}{r:List Xv}{P:List D->S->Prop}(h:W (cC r) s λds s2=>P (d::ds) s2):W (cC (.d d::r)) s P:=W.bd (W.ret (W.bd (h.imp λds s2 h2=>W.ret h2)))
theorem W.dat{x:D}{P:D->S->Prop}(h:P x s):W (dat (.d x)) s P:=⟨x,s,rfl,h⟩
theorem W.bool{b:Bool}{P:Bool->S->Prop}(h:P b s):W (bool (.d (.bl b))) s P:=⟨b,s,rfl,h⟩
theorem W.int{b:Int}{P:Int->S->Prop}(h:P b s):W (int (.d (.int b))) s P:=⟨b,s,rfl,h⟩
def cJ{fz:Bool}{o:Option Rz}{d:D}{P:Xv->S->Prop}(e:o=some (.dat d))(h:P (.d d) s):W (cg fz o) s P:=by subst e;show⟨_,s,rfl,h⟩
def zU{o:Option Rz}{xs:List D}{P:Xv->S->Prop}(e:o=some (.nw xs))(h:P (.d (.fl xs)) s):W (cg true o) s P:=by subst e;show⟨_,s,rfl,h⟩
theorem KaQ{xs:List D}{P:Xv->S->Prop}(h:P (.d (.fl xs)) s):W (newL true xs) s P:=⟨_,s,rfl,h⟩
theorem KaP{xs:List D}{P:Xv->S->Prop}(h:P (.l s.length) (s++[.lst xs])):W (newL false xs) s P:=⟨_,_,rfl,h⟩
def jo{F:List Xv->M Xv}{xs:List Xv}{P:Xv->S->Prop}(hl:locs xs=[])(h:W (F (dD 0 xs)) [] λv _=>∃d,v=.d d/\P (.d d) s):W (cH F xs) s P:=by
 let⟨v,s1,e,d,rfl,p⟩:=h;show⟨.d d,s,?_,p⟩;unfold cH;rw[hl,if_pos Al];simp only[jD,e,cW]
def Kam{F:List Xv->M Xv}{xs:List Xv}{P:Xv->S->Prop}(hl:locs xs=[])(h:W (F (dD 0 xs)) [] λv s1=>∃n o,v=.l n/\s1[n]?=some o/\P (.l s.length) (s++[o])):W (cH F xs) s P:=by
 let⟨v,s1,e,n,o,rfl,eo,p⟩:=h;show⟨.l s.length,s++[o],?_,p⟩;unfold cH;rw[hl,if_pos Al];simp only[jD,e,cW,List.getElem?_nil,eo]
def Ug{F:List Xv->M Xv}{xs:List Xv}{n:Nat}{o:SO}{P:Xv->S->Prop}(hl:locs xs=[n])(ho:s[n]?=some o)(h:W (F (dD 0 xs)) [o] λv s1=>∃d o',v=.d d/\s1=[o']/\P (.d d) (s.set n o')):W (cH F xs) s P:=by
 let⟨v,s1,e,d,o',rfl,rfl,p⟩:=h;show⟨.d d,s.set n o',?_,p⟩;unfold cH;rw[hl,if_pos RQ];simp only[jD,ho,e,cW]
end
section
variable {s:S}{Q:Out->S->Prop}
def WS.ofM(h:W m s λa s'=>WS (k a) s' Q):WS (Mi.ofM m J k) s Q:=by
 let⟨a,s',e,o,s2,e2,q⟩:=h;show⟨o,s2,by unfold Mi.ofM;rw[e];show e2,q⟩
theorem WS.nx(h:Q (.nx J) s):WS (λs=>some (.nx J,s)) s Q:=⟨_,s,rfl,h⟩
theorem WS.rt(h:Q (.rt x) s):WS (λs=>some (.rt x,s)) s Q:=⟨_,s,rfl,h⟩
theorem WS.imp(h:WS m s Q)(f:∀o s',Q o s'->Q' o s'):WS m s Q':=let ⟨a,s',e,p⟩:=h;⟨a,s',e,f a s' p⟩
end
def W.call(hT:T f=some d)(hl:xs.length=d.gW)
  (h:WS (exs aq aj (λc=>Mi.call aq T k c) d.body (xs.map some++List.replicate (d.many-d.gW) none)) s λo s'=>match o with|.nx _=>P (.d .non) s'|.rt v=>P v s'|_=>False):W (Mi.call aq T (k+1) aj f xs) s P:=by
 let⟨o,s',e,q⟩:=h;unfold Mi.call;simp only[hT,if_pos hl];unfold W;simp only[e];cases o with
 |nx J=>show⟨_,_,rfl,q⟩|rt v=>show⟨_,_,rfl,q⟩|bk J=>show q.elim|ct J=>show q.elim|er c fs J=>show q.elim
def vd(I:Nat->Vs->S->Prop)(h0:I 0 J s)(hb:∀i x J s,c[i]?=some x->I i J s->WS (b x J) s λo s'=>∃J',o=.nx J'/\I (i+1) J' s')
  (he:∀J s,I c.length J s->Q (.nx J) s):WS (dH (.fix c) b (c.length+1) 0 J) s Q:=by
 let key:∀n i J s,i+n=c.length->I i J s->WS (dH (.fix c) b (n+1) i J) s Q:=by
  intro n
  induction n with
  |zero=>
   intro i J s hi hI;let e:c[i]?=none:=by rw[qD];lia
   let:i=c.length:=by lia
   subst this;show⟨_,s,?_,he J s hI⟩;unfold dH;simp only[Src.at,e]
  |succ n ih=>
   intro i J s hi hI;let cj:i<c.length:=by lia
   let e:c[i]?=some c[i]:=dz cj;let⟨o,s',eb,J',rfl,CZ⟩:=hb i c[i] J s e hI;let⟨o2,s2,e2,q⟩:=ih (i+1) J' s' gV CZ;show⟨o2,s2,?_,q⟩;unfold dH;simp only[Src.at,e,eb];show e2
 show key c.length 0 J s gV h0
def zoC{i j:Int}(h:(-(2^64)<i/\i<2^64)\/(-(2^64)<j/\j<2^64)):prim .mul [.int i,.int j]=some (.dat (.int (i*j))):=by
 change Option.map _ (if _ then _ else _)=_;rw[if_pos h];rfl
def zoh{i j:Int}(h:0<j):prim .mod [.int i,.int j]=some (.dat (.int (i%j))):=by
 change Option.map _ (if _ then _ else _)=_;rw[if_pos h];rfl
def zmY{i j:Int}(h:0<j/\j<1073741824):prim .fdiv [.int i,.int j]=some (.dat (.int (i/j))):=by
 change Option.map _ (if _ then _ else _)=_;rw[if_pos h];rfl
def zhQ{i j:Int}(h:0<j/\j<1073741824):prim .divmod [.int i,.int j]=some (.dat (.tup [.int (i/j),.int (i%j)])):=by
 change Option.map _ (if _ then _ else _)=_;rw[if_pos h];rfl
def znv{i j:Int}(h:0<=j/\j<=1000000/\i.natAbs<2^64):prim .pow [.int i,.int j]=some (.dat (.int (i^j.toNat))):=by
 change Option.map _ (if _ then _ else _)=_;rw[if_pos h];rfl
def Kf{xs:List D}{i:Nat}{x:D}(h:xs[i]?=some x):prim .ix [.fl xs,.int i]=some (.dat x):=by
 change Option.map Rz.dat (L2.n8 xs i)=_;let:L2.n8 xs (i:Int)=some x:=by
  unfold L2.n8 L2.pD;let hl:i<xs.length:=(dI.mp h).1;simp[hl];show(dI.mp h).2
 rw[this];rfl
def Kg(h:xs.length+ys.length<=sizeLine):prim .add [.fl xs,.fl ys]=some (.nw (xs++ys)):=by
 change (if _ then _ else _)=_;rw[if_pos h]
def W.ite[Decidable c](h1:c->W m1 s P)(h2:¬c->W m2 s P):W (if c then m1 else m2) s P:=by
 by_cases h:c
 .rw[if_pos h];show h1 h
 .rw[if_neg h];show h2 h
def WS.ite[Decidable c](h1:c->WS m1 s P)(h2:¬c->WS m2 s P):WS (if c then m1 else m2) s P:=by
 by_cases h:c
 .rw[if_pos h];show h1 h
 .rw[if_neg h];show h2 h
theorem N8{n:Nat}{xs:List D}{s:S}{P:Unit->S->Prop}(h:P () (s.set n (.lst xs))):W (putL n xs) s P:=⟨_,_,rfl,h⟩
theorem W.cL{n:Nat}{xs:List D}{s:S}{P:Nat×List D->S->Prop}(e:s[n]?=some (.lst xs))(h:P (n,xs) s):W (cL (.l n)) s P:=⟨_,s,by unfold Mi.cL;simp only[e],h⟩
theorem Ka5{xs:List D}{s:S}{P:Src×Nat->S->Prop}(h:P (.fix xs,xs.length) s):W (src (.d (.tup xs))) s P:=⟨_,s,rfl,h⟩
theorem Ka4{xs:List D}{s:S}{P:Src×Nat->S->Prop}(h:P (.fix xs,xs.length) s):W (src (.d (.fl xs))) s P:=⟨_,s,rfl,h⟩
theorem WS.nil{aq:Nat->Nat->Bool}{aj:Bool}{F:Bool->Fn}{J:Vs}{s:S}{Q:Out->S->Prop}(h:Q (.nx J) s):WS (exs aq aj F .nil J) s Q:=⟨_,s,rfl,h⟩
def WS.cons{aq:Nat->Nat->Bool}{aj:Bool}{F:Bool->Fn}{a:St}{r:bL}{J:Vs}{s:S}{Q:Out->S->Prop}(h:WS (ex aq aj F a J) s λo s'=>match o with|.nx J'=>WS (exs aq aj F r J') s' Q|.rt x=>Q (.rt x) s'|_=>False):WS (exs aq aj F (.cons a r) J) s Q:=by
 let⟨o,s',e,q⟩:=h;unfold WS exs Mi.cI;rw[e];cases o with
 |nx J'=>show q|rt x=>show⟨_,_,rfl,q⟩|bk _=>show q.elim|ct _=>show q.elim|er _ _ _=>show q.elim
def sW{α:Type}(o:Option α)(P:α->Prop):Prop:=∃a,o=some a/\P a
theorem sW.mk{α:Type}{o:Option α}{P:α->Prop}{a:α}(e:o=some a)(h:P a):sW o P:=⟨a,e,h⟩
section
variable {aq:Nat->Nat->Bool}{aj:Bool}{F:Fn}{J:Vs}{s:S}{P:Xv->S->Prop}
theorem W.eC{d:D}(h:P (.d d) s):W (ev aq aj F (.c d) J) s P:=W.ret h
theorem W.eV{i:Nat}{x:Xv}(e:J[i]?.join=some x)(h:P x s):W (ev aq aj F (.v i) J) s P:=W.opt e h
theorem Uh{fz:Bool}{p:Pr}{xs:Es}(h:W (evs aq aj F xs J) s λvs s1=>W (gJ vs) s1 λds s2=>W (cg fz (prim p ds)) s2 P):W (ev aq aj F (.pr fz p xs) J) s P:=W.bd (h.imp λ_ _ h=>W.bd h)
theorem Kax{a b:E}(h:W (ev aq aj F a J) s λx s1=>W (Mi.bool x) s1 λk s2=>W (if k=true then ev aq aj F b J else M.ret (.d (.bl false))) s2 P):W (ev aq aj F (.and a b) J) s P:=W.bd (h.imp λ_ _ h=>W.bd h)
theorem Ui{a b:E}(h:W (ev aq aj F a J) s λx s1=>W (Mi.bool x) s1 λk s2=>W (if k=true then M.ret (.d (.bl true)) else ev aq aj F b J) s2 P):W (ev aq aj F (.or a b) J) s P:=W.bd (h.imp λ_ _ h=>W.bd h)
theorem KaE{a:E}(h:W (ev aq aj F a J) s λx s1=>W (Mi.bool x) s1 λk s2=>P (.d (.bl (!k))) s2):W (ev aq aj F (.not a) J) s P:=W.bd (h.imp λ_ _ h=>W.bd (h.imp λ_ _ h=>W.ret h))
theorem KaI{xs:Es}(h:W (evs aq aj F xs J) s λvs s1=>W (cC vs) s1 λds s2=>P (.d (.tup ds)) s2):W (ev aq aj F (.tup xs) J) s P:=W.bd (h.imp λ_ _ h=>W.bd (h.imp λ_ _ h=>W.ret h))
theorem KaD{fz:Bool}{xs:Es}(h:W (evs aq aj F xs J) s λvs s1=>W (cC vs) s1 λds s2=>W (newL fz ds) s2 P):W (ev aq aj F (.lst fz xs) J) s P:=W.bd (h.imp λ_ _ h=>W.bd h)
theorem KaA{k:Str}{i:Int}(h:P (.d (.fd [.str k] [.int i])) s):W (ev aq aj F (.Jj k i) J) s P:=W.ret h
theorem Kay{f:Nat}{xs:Es}(h:W (evs aq aj F xs J) s λvs s1=>W (cH (F f) vs) s1 P):W (ev aq aj F (.call f xs) J) s P:=W.bd h
theorem KaH{fz:Bool}{a:E}{lo hi:Eo}(h:W (ev aq aj F a J) s λx s1=>W (xQ aq aj F lo J) s1 λl s2=>W (xQ aq aj F hi J) s2 λu s3=>W (rd x) s3 λd s4=>W (cg fz (cutD d l u)) s4 P):W (ev aq aj F (.sl fz a lo hi) J) s P:=W.bd (h.imp λ_ _ h=>W.bd (h.imp λ_ _ h=>W.bd (h.imp λ_ _ h=>W.bd h)))
theorem KaR{P:Option Int->S->Prop}(h:P none s):W (xQ aq aj F .no J) s P:=W.ret h
theorem KaS{a:E}{P:Option Int->S->Prop}(h:W (ev aq aj F a J) s λx s1=>W (Mi.int x) s1 λi s2=>P (some i) s2):W (xQ aq aj F (.yes a) J) s P:=W.bd (h.imp λ_ _ h=>W.bd (h.imp λ_ _ h=>W.ret h))
theorem Kai{P:List Xv->S->Prop}(h:P [] s):W (evs aq aj F .nil J) s P:=W.ret h
theorem N_{a:E}{r:Es}{P:List Xv->S->Prop}(h:W (ev aq aj F a J) s λx s1=>W (evs aq aj F r J) s1 λxs s2=>P (x::xs) s2):W (evs aq aj F (.cons a r) J) s P:=W.bd (h.imp λ_ _ h=>W.bd (h.imp λ_ _ h=>W.ret h))
theorem KaN{a:E}{P:Src×Nat->S->Prop}(h:W (ev aq aj F a J) s λx s1=>W (src x) s1 P):W (iZ aq aj F (.seq a) J) s P:=W.bd h
end
section
variable {aq:Nat->Nat->Bool}{aj:Bool}{F:Bool->Fn}{J:Vs}{s:S}{Q:Out->S->Prop}
def WS.Kh{b:Bool}{m1 m2:MS}(e:b=true)(h:WS m1 s Q):WS (if b=true then m1 else m2) s Q:=by rw[if_pos e];show h
def WS.C_{b:Bool}{m1 m2:MS}(e:b=false)(h:WS m2 s Q):WS (if b=true then m1 else m2) s Q:=by rw[if_neg (by rw[e];decide)];show h
def WS.v9{m1 m2:MS}(h:WS m1 s Q):WS (if true=true then m1 else m2) s Q:=by rw[if_pos rfl];show h
def WS.Dg{m1 m2:MS}(h:WS m2 s Q):WS (if false=true then m1 else m2) s Q:=by rw[if_neg J0];show h
theorem Kbc{e:E}(h:W (ev aq aj (F aj) e J) s λ_ s1=>Q (.nx J) s1):WS (ex aq aj F (.ex e) J) s Q:=WS.ofM (h.imp λ_ _ h=>WS.nx h)
theorem Kbf{i:Nat}{e:E}(h:W (ev aq aj (F aj) e J) s λx s1=>Q (.nx (J.set i (some x))) s1):WS (ex aq aj F (.asg (.nm i) e) J) s Q:=WS.ofM (h.imp λ_ _ h=>WS.nx h)
def Kbk{is:List Nat}{e:E}(h:W (ev aq true (F true) e J) s λx s1=>W (dat x) s1 λd s2=>sW ((jZ d).bind λds=>fX is (ds.map .d) J) λJ'=>Q (.nx J') s2):WS (ex aq true F (.asg (.tp is) e) J) s Q:=by
 show WS.ofM (h.imp λx s1 h=>?_);show WS.v9 (m2:=λ_=>none) (WS.ofM (W.bd (h.imp λd s2 ⟨J',e,q⟩=>W.opt e (WS.nx q))))
def Kbj{o i e:E}(h:W (ev aq aj (F aj) e J) s λx s1=>W (dat x) s1 λd s2=>W (ev aq aj (F aj) o J) s2 λy s3=>W (ev aq aj (F aj) i J) s3 λz s4=>W (Mi.int z) s4 λj s5=>W (cL y) s5 λnx s6=>sW (L2.pD nx.2.length j) λq=>Q (.nx J) (s6.set nx.1 (.lst (nx.2.set q d)))):WS (ex aq aj F (.asg (.aq o i) e) J) s Q:=by
 show WS.ofM (h.imp λx s1 h=>WS.ofM (W.bd (h.imp λd s2 h=>W.bd (h.imp λy s3 h=>W.bd (h.imp λz s4 h=>W.bd (h.imp λj s5 h=>W.bd (h.imp λnx s6 h=>?_)))))));let⟨q,e,h⟩:=h;simp only[e];show N8 (WS.nx h)
def Kbg{i j:Nat}{a b:E}(h:W (ev aq true (F true) a J) s λx s1=>W (ev aq true (F true) b J) s1 λy s2=>Q (.nx ((J.set i (some x)).set j (some y))) s2):WS (ex aq true F (.par i j a b) J) s Q:=by
 show WS.v9 (m2:=λ_=>none) (WS.ofM (W.bd (h.imp λx s1 h=>W.bd (h.imp λy s2 h=>W.ret (WS.nx h)))))
theorem Kbh{e:E}(h:W (ev aq aj (F aj) e J) s λx s1=>Q (.rt x) s1):WS (ex aq aj F (.ret e) J) s Q:=WS.ofM (h.imp λ_ _ h=>WS.rt h)
theorem Dh{c:E}{t e:bL}(h:W (ev aq aj (F aj) c J) s λx s1=>W (Mi.bool x) s1 λb s2=>WS (if b=true then exs aq aj F t J else exs aq aj F e J) s2 Q):WS (ex aq aj F (.iff c t e) J) s Q:=WS.ofM (W.bd h)
def Kbd{t:Tg}{w:Wk}{b:bL}(h:W (iZ aq true (F true) w J) s λcn s1=>WS (dH cn.1 (λd J=>Mi.cI (store aq true (F true) t (.d d) J) λJ'=>exs aq true F b J') (cn.2+1) 0 J) s1 Q):WS (ex aq true F (.fr t w b) J) s Q:=by
 show WS.v9 (m2:=λ_=>none) (WS.ofM h)
end
def W.Kh{α:Type}{b:Bool}{m1 m2:M α}{s:S}{P:α->S->Prop}(e:b=true)(h:W m1 s P):W (if b=true then m1 else m2) s P:=by rw[if_pos e];show h
def W.C_{α:Type}{b:Bool}{m1 m2:M α}{s:S}{P:α->S->Prop}(e:b=false)(h:W m2 s P):W (if b=true then m1 else m2) s P:=by rw[if_neg (by rw[e];decide)];show h
def W.v9{α:Type}{m1 m2:M α}{s:S}{P:α->S->Prop}(h:W m1 s P):W (if true=true then m1 else m2) s P:=by rw[if_pos rfl];show h
def W.Dg{α:Type}{m1 m2:M α}{s:S}{P:α->S->Prop}(h:W m2 s P):W (if false=true then m1 else m2) s P:=by rw[if_neg J0];show h
structure Bx(R:Prop):Prop where
 o:R
end Mi
namespace Mi
open PySem PySem.W PyProof.Rows L2
def sX{α:Type}(lt:Nat->Nat->Option Bool)(t:KasT α)(P:α->Prop):Prop:=∃a,bf lt t=some a/\P a
section
variable {α β:Type}{lt:Nat->Nat->Option Bool}{n:Nat}
theorem sX.ret(h:P a):sX lt (.ret a) P:=⟨a,rfl,h⟩
theorem sX.bind(hf:∀a,P a->sX lt (f a) R):∀{t:KasT α},sX lt t P->sX lt (t.bind f) R
 |.ret a,⟨a',e,h⟩=>by cases e;show hf _ h|.ask i j k,⟨a',e,h⟩=>by
  unfold bf at e;cases el:lt i j with
  |none=>rw[el]at e;cases e|some b=>
   rw[el]at e;let⟨c,e1,h1⟩:=sX.bind hf (t:=k b) ⟨a',e,h⟩;show⟨c,?_,h1⟩;change bf lt (.ask i j λb=>(k b).bind f)=some c;unfold bf;rw[el];show e1
def Tot(n:Nat)(lt:Nat->Nat->Option Bool):Prop:=∀i j,i<n->j<n->∃b,lt i j=some b
variable (ht:Tot n lt)(hn:0<n)
include ht hn
end
section
variable {lt:Nat->Nat->Option Bool}{n:Nat}
theorem zf5(h:∀k,1<=k->k<n->lt (p.getD k 0) (p.getD (k-1) 0)=some false):∀f k,1<=k->k+f=n->sX lt (kas_asc p f k) λr=>r=n
 |0,k,h1,e=>.ret gV|f+1,k,h1,e=>by
  let⟨a,e1,e2⟩:=zf5 h f (k+1) gV gV;show⟨a,?_,e2⟩;unfold kas_asc bf;rw[h k h1 gV];show e1
def zed(hk:k<n):(List.range n).toArray.getD k 0=k:=by
 simp[Array.getD,hk]
def zgj(hn:0<n)(h:∀k,k+1<n->lt (k+1) k=some false):bf lt (kas_sort n)=some (List.range n).toArray:=by
 let h1:sX lt (kas_asc (List.range n).toArray (n-1) 1) λr=>r=n:=zf5 (λk a b=>by
  rw[zed b,zed gV];let:=h (k-1) gV
  rwa [show k-1+1=k by lia]at this) _ _ (bU _) gV
 let h2:sX lt (kas_count n (List.range n).toArray) λr=>r=(n,(List.range n).toArray):=by
  show sX.bind (λr hr=>?_) h1;subst hr;rw[if_pos RQ];show .ret rfl
 let h3:sX lt (kas_sort n) λr=>r=(List.range n).toArray:=by
  show sX.bind (λr hr=>?_) h2;subst hr;rw[if_neg (pK _)];show .ret rfl
 let⟨a,e,rfl⟩:=h3;show e
end
def zeD(hk:(xs.all iY||xs.all gR)=true)(nH:xs.length<64)(h:∀k,k+1<xs.length->vR xs (k+1) k=some false):vU xs=some xs:=by
 unfold vU;rw[if_pos hk];unfold jg;by_cases h2:xs.length<2
 .rw[if_pos h2]
 .rw[if_neg h2,if_pos nH,zgj gV h];dsimp only;rw[if_pos RQ]
  congr 1
  apply List.ext_getElem
  .simp
  .intro i a b;simp[lq,b]
def aZ(p:Int×Int):D:=.tup [.int p.1,.int p.2]
def zk9(p q:Int×Int):oF [.int p.1,.int p.2] [.int q.1,.int q.2]=some (decide (p.1<q.1\/p.1=q.1/\p.2<q.2)):=by
 let⟨a,b⟩:=p;let⟨c,d⟩:=q;simp only[oF];by_cases e:a=c
 .subst e;by_cases e2:b=d
  .subst e2;simp
  .simp[e2]
 .simp[e]
def zmN{ps:List (Int×Int)}{i j:Nat}{p q:Int×Int}(hi:ps[i]?=some p)(hj:ps[j]?=some q):vR (ps.map aZ) i j=some (decide (p.1<q.1\/p.1=q.1/\p.2<q.2)):=by
 unfold vR;rw[gq,gq,hi,hj];show zk9 p q
def zmG(ps:List (Int×Int)):((ps.map aZ).all iY||(ps.map aZ).all gR)=true:=by
 rw[Mf]
 right
 rw[GR,ju];intro x _;rfl
end Mi
namespace Mi
open PySem
def W.walk{c:List D}{f:D->List D->M (List D)}{s:S}{acc:List D}{P:List D->S->Prop}(I:Nat->List D->S->Prop)(h0:I 0 acc s)(hb:∀i x acc s,c[i]?=some x->I i acc s->W (f x acc) s λa s'=>I (i+1) a s')
  (he:∀acc s,I c.length acc s->P acc s):W (Mi.walk (.fix c) f (c.length+1) 0 acc) s P:=by
 let key:∀n i acc s,i+n=c.length->I i acc s->W (Mi.walk (.fix c) f (n+1) i acc) s P:=by
  intro n
  induction n with
  |zero=>
   intro i acc s hi hI;let e:c[i]?=none:=by rw[qD];lia
   let:i=c.length:=by lia
   subst this;show⟨acc,s,?_,he acc s hI⟩;unfold Mi.walk;simp only[Src.at,e]
  |succ n ih=>
   intro i acc s hi hI;let cj:i<c.length:=by lia
   let e:c[i]?=some c[i]:=dz cj;let⟨a,s',eb,CZ⟩:=hb i c[i] acc s e hI;let⟨a2,s2,e2,q⟩:=ih (i+1) a s' gV CZ;show⟨a2,s2,?_,q⟩;unfold Mi.walk;simp only[Src.at,e,M.bd,eb];show e2
 show key c.length 0 acc s gV h0
section
variable {aq:Nat->Nat->Bool}{F:Fn}{J:Vs}{s:S}{P:Xv->S->Prop}
def Kaq{fz:Bool}{elt:E}{tg:List Nat}{it:Wk}{fr:List Nat}{many:Nat}{cond:Eo}{c:List D}(g:D->Option D)(hc:c.length<=sizeLine)
  (hw:W (iZ aq true F it J) s λcn s1=>cn=(.fix c,c.length)/\s1=s)
  (hb:∀x∈c,∃J',dN tg x (blk many fr J)=some J'/\W (oJ aq true F cond J') s λb s1=>s1=s/\(if b=true then W (ev aq true F elt J') s λy s2=>s2=s/\∃d,y=.d d/\g x=some d else g x=none))
  (h:W (newL fz (c.filterMap g)) s P):W (ev aq true F (.comp fz elt tg it fr many cond) J) s P:=by
 change W (_root_.ite (true=true) _ _) s P
 rw[if_pos rfl];show W.bd (hw.imp λcn s1=>?_);rintro⟨rfl,rfl⟩;show W.bd ?_;show W.walk (c:=c) (λi acc s'=>s'=s1/\acc=(c.take i).filterMap g) ⟨rfl,rfl⟩ (λi x acc s' e hI=>?_) (λacc s' hI=>?_)
 .obtain⟨rfl,rfl⟩:=hI;let hi:i<c.length:=(dI.mp e).1;let ht:c.take (i+1)=c.take i++[x]:=by rw[Mj,e];rfl
  let hl:((c.take i).filterMap g).length<sizeLine:=yO (Ln _ _) (by rw[tH];lia);let⟨J',e1,h1⟩:=hb x (dZ e);show W.bd (W.opt e1 ?_);show W.bd (W.qt (h1.imp λb s2=>?_));rintro⟨rfl,h2⟩;rw[ht,Pz];cases b
  .rw[if_neg J0]at h2 ⊢;show W.ret ⟨rfl,?_⟩;simp[h2]
  .rw[if_pos rfl]at h2 ⊢;show W.bd (W.qt (h2.imp λy s3=>?_));rintro⟨rfl,d,rfl,eg⟩;show W.bd (W.dat ?_);rw[if_pos hl];show W.ret ⟨rfl,?_⟩;simp[eg]
 .obtain⟨rfl,rfl⟩:=hI;rw[Ef];show h
end
section
variable {aq:Nat->Nat->Bool}{aj:Bool}{F:Fn}{J:Vs}{s:S}{P:Xv->S->Prop}
theorem KaB(h:W (ev aq aj F a J) s λx s1=>W (rd x) s1 λd s2=>∃b,lY aq d k=some b/\P (.d (.bl b)) s2):W (ev aq aj F (.lF a k) J) s P:=
 W.bd (h.imp λ_ _ h=>W.bd (h.imp λ_ _ ⟨_,e,h⟩=>W.bd (W.opt e (W.ret h))))
theorem Kaz(h:W (ev aq aj F a J) s λx s1=>W (ev aq aj F b J) s1 λy s2=>W (gJ [x,y]) s2 λds s3=>W (cg true (prim p ds)) s3 λt s4=>W (Mi.bool t) s4 λk s5=>
  W (if k=true then M.bd (ev aq aj F c J) λz=>M.bd (gJ [y,z]) λds=>cg true (prim q ds) else M.ret (.d (.bl false))) s5 P):W (ev aq aj F (.zA p q a b c) J) s P:=
 W.bd (h.imp λ_ _ h=>W.bd (h.imp λ_ _ h=>W.bd (h.imp λ_ _ h=>W.bd (h.imp λ_ _ h=>W.bd h))))
end
def Kl(fz:Bool):Option Rz->Option Xv
 |some (.dat d)=>some (.d d)|some (.nw ys)=>match fz with
  |true=>some (.d (.fl ys))|false=>none
 |none=>none
def addQ:D->D->Option Rz
 |.int i,.int j=>some (.dat (.int (i+j)))|_,_=>none
def zV:List D->Option Rz
 |a::r=>match r with
  |b::r=>match r with
   |[]=>addQ a b|_::_=>none
  |[]=>none
 |[]=>none
def quick:Pr->Bool
 |.rY=>false|.Fe=>false|.mul=>false|.fdiv=>false|.mod=>false|.pow=>false|.divmod=>false|.sorted=>false|.qR=>false|.Ji=>false|.mult=>false|.zy=>false|.repr=>false|.str1=>false|.Yq=>false|.Jg=>false|.Jh=>false|_=>true
def rA(p:Pr)(ds:List D):Option Rz:=match p with
 |.add=>zV ds|p=>match quick p with
  |true=>prim p ds|false=>none
def Km{ds:List D}{r:Rz}(h:zV ds=some r):Cd ds=some r:=by
 cases ds with
 |nil=>cases h|cons a t=>cases t with
  |nil=>cases h|cons b t=>cases t with
   |cons _ _=>cases h|nil=>cases a with
    |int i=>cases b with
     |int j=>show h|_=>cases h
    |_=>cases h
def Di{p:Pr}{ds:List D}{r:Rz}(h:rA p ds=some r):prim p ds=some r:=by
 cases p with
 |add=>show Km h|_=>first|exact h|cases h
def Uj(fz:Bool)(ds:List D):Option Xv:=match fz with
 |true=>some (.d (.fl ds))|false=>none
def Ko:Xv->Option D
 |.d x=>some x|.l _=>none
def obP(c:Nat):Xv->Option (List D)
 |.d (.ob e fs)=>if e=c then some fs else none|_=>none
def notP:Xv->Option Xv
 |.d (.bl b)=>some (.d (.bl (!b)))|_=>none
def Uk(r:Option Xv):Xv->Option Xv
 |.d (.bl true)=>r|.d (.bl false)=>some (.d (.bl false))|_=>none
def orP(r:Option Xv):Xv->Option Xv
 |.d (.bl true)=>some (.d (.bl true))|.d (.bl false)=>r|_=>none
section
variable (aq:Nat->Nat->Bool)
mutual
noncomputable def cY:E->Vs->Option Xv
 |.c d,_=>some (.d d)|.v i,J=>J[i]?.join|.pr fz p xs,J=>(qu xs J).bind λds=>Kl fz (rA p ds)|.tup xs,J=>(qu xs J).bind λds=>some (.d (.tup ds))|.lst fz xs,J=>(qu xs J).bind λds=>Uj fz ds|.not a,J=>(cY a J).bind notP|.and a b,J=>(cY a J).bind (Uk (cY b J))|.or a b,J=>(cY a J).bind (orP (cY b J))|.lF a k,J=>(cY a J).bind λx=>(Ko x).bind λd=>(lY aq d k).bind λb=>some (.d (.bl b))|.of o c i,J=>(cY o J).bind λx=>(obP c x).bind λfs=>fs[i]?.map .d|_,_=>none
noncomputable def qu:Es->Vs->Option (List D)
 |.nil,_=>some []|.cons a r,J=>(cY a J).bind λx=>(Ko x).bind λd=>(qu r J).bind λds=>some (d::ds)
end
def oX:Es->Vs->Option (List Xv)
 |.nil,_=>some []|.cons a r,J=>(cY aq a J).bind λx=>(oX r J).bind λxs=>some (x::xs)
end
theorem nj{α β:Type}{o:Option α}{f:α->Option β}{b:β}(h:o.bind f=some b):∃a,o=some a/\f a=some b:=vA.mp h
def jq{α β:Type}{m:M α}{k:α->M β}{s s':S}{a:α}(e:m s=some (.ok a,s')):M.bd m k s=k a s':=by
 change (match m s with|some (.ok a,s')=>k a s'|some (.er c f,s')=>some (.er c f,s')|none=>none)=_;rw[e]
theorem Dj(s:S):∀ds:List D,gJ (ds.map .d) s=some (.ok ds,s)
 |[]=>rfl|d::r=>(jq (s':=s) (a:=d) rfl).trans ((jq (Dj s r)).trans rfl)
theorem vf(s:S):∀ds:List D,cC (ds.map .d) s=some (.ok ds,s)
 |[]=>rfl|d::r=>(jq (s':=s) (a:=d) rfl).trans ((jq (vf s r)).trans rfl)
def Ul{fz:Bool}{p:Pr}{ds:List D}{x:Xv}{s:S}(h:Kl fz (rA p ds)=some x):cg fz (prim p ds) s=some (.ok x,s):=by
 cases o:rA p ds with
 |none=>rw[o]at h;cases h|some r=>
  rw[o]at h;rw[Di o];cases r with
  |dat d=>cases h;rfl|nw ys=>cases fz with
   |true=>cases h;rfl|false=>cases h
section
variable {aq:Nat->Nat->Bool}{aj:Bool}{F:Fn}{J:Vs}{s:S}
def f9(e:E):∀x:Xv,cY aq e J=some x->ev aq aj F e J s=some (.ok x,s):=by
 show E.rec (motive_1:=λe=>∀x:Xv,cY aq e J=some x->ev aq aj F e J s=some (.ok x,s)) (motive_2:=λ_=>True) (motive_3:=λxs=>∀ds:List D,qu aq xs J=some ds->evs aq aj F xs J s=some (.ok (ds.map .d),s)) (motive_4:=λ_=>True)
  ?c ?v ?pr (λ_ _ _ _ _ _ _ _ _ h=>nomatch h) (λ_ _ _ _ _ _ _ _ _ _ _ _ h=>nomatch h) ?and ?or ?not (λ_ _ _ _ _ _ _ h=>nomatch h) ?tup ?lst (λ_ _ _ h=>nomatch h) (λ_ _ _ _ h=>nomatch h) ?lF (λ_ _ _ _ _ _ _ _ h=>nomatch h) (λ_ _ _ _ _ _ _ _ h=>nomatch h) (λ_ _ _ _ _ h=>nomatch h) (λ_ _ _ h=>nomatch h)
  (λ_ _ _ _ _ _ _ _ _ _ _ h=>nomatch h) (λ_ _ _ _ _ _ _ _ _ _ _ _ _ _ h=>nomatch h) (λ_ _ _ _ _ h=>nomatch h) ?of (λ_ _ _ _ _ h=>nomatch h) (λ_ _ _ _ _ _ _ h=>nomatch h) (λ_ h=>nomatch h) (λ_ _ _ _ _ _ h=>nomatch h) (λ_ _ _ _ _ h=>nomatch h) (λ_ _ _ h=>nomatch h) (λ_ _ _ _ _ _ h=>nomatch h) (λ_ _ _ _ _ h=>nomatch h) (λ_ _ _ _ _ _ _ h=>nomatch h) (λ_ h=>nomatch h)
  (λ_ _=>trivial) (λ_ _ _ _=>trivial) (λ_ _ _ _=>trivial) (λ_ _=>trivial) (λ_ _=>trivial) ?nil ?cons trivial (λ_ _=>trivial) e
 case c=>intro d x h;cases h;rfl
 case v=>intro i x h;show(show M.opt (J[i]?.join) s=_ from by rw[show J[i]?.join=some x from h];rfl)
 case pr=>
  intro fz p xs ih x h;let⟨ds,e1,e2⟩:=nj h;show(jq (ih _ e1)).trans ((jq (Dj s ds)).trans (Ul e2))
 case tup=>
  intro xs ih x h;let⟨ds,e1,e2⟩:=nj h;cases e2;show(jq (ih _ e1)).trans ((jq (vf s ds)).trans rfl)
 case lst=>
  intro fz xs ih x h;let⟨ds,e1,e2⟩:=nj h;cases fz with
  |false=>cases e2|true=>cases e2;show(jq (ih _ e1)).trans ((jq (vf s ds)).trans rfl)
 case not=>
  intro a ih x h;let⟨y,e1,e2⟩:=nj h;cases y with
  |l n=>cases e2|d y=>cases y with
   |bl b=>cases e2;show(jq (ih _ e1)).trans rfl|_=>cases e2
 case and=>
  intro a b ih ih2 x h;let⟨y,e1,e2⟩:=nj h;cases y with
  |l n=>cases e2|d y=>cases y with
   |bl b=>cases b with
    |true=>show(jq (ih _ e1)).trans (ih2 _ e2)|false=>cases e2;show(jq (ih _ e1)).trans rfl
   |_=>cases e2
 case or=>
  intro a b ih ih2 x h;let⟨y,e1,e2⟩:=nj h;cases y with
  |l n=>cases e2|d y=>cases y with
   |bl b=>cases b with
    |true=>cases e2;show(jq (ih _ e1)).trans rfl|false=>show(jq (ih _ e1)).trans (ih2 _ e2)
   |_=>cases e2
 case lF=>
  intro a k ih x h;let⟨y,e1,e2⟩:=nj h;cases y with
  |l n=>cases e2|d y=>
   let⟨d,e3,e4⟩:=nj e2;cases e3;let⟨b,e5,e6⟩:=nj e4;cases e6;show(jq (ih _ e1)).trans ((jq (s':=s) (a:=y) rfl).trans ((jq (s':=s) (a:=b) ?_).trans rfl));rw[e5];rfl
 case of=>
  intro o c i ih x h;let⟨y,e1,e2⟩:=nj h;let⟨fs,e3,e4⟩:=nj e2;show(jq (ih _ e1)).trans ((jq (s':=s) (a:=fs) ?_).trans ?_)
  .cases y with
   |l n=>cases e3|d y=>cases y with
    |ob e gs=>
     let e3:(if e=c then some gs else none)=some fs:=e3;change (if e=c then M.ret gs else M.no) s=_;split at e3
     .rename_i h;cases e3;rw[if_pos h];rfl
     .cases e3
    |_=>cases e3
  .show M.opt (fs[i]?.map Xv.d) s=_;rw[e4];rfl
 case nil=>intro ds h;cases h;rfl
 case cons=>
  intro a r ih ih2 ds h;let⟨y,e1,e2⟩:=nj h;cases y with
  |l n=>cases e2|d y=>
   let⟨d,e3,e4⟩:=nj e2;cases e3;let⟨rs,e5,e6⟩:=nj e4;cases e6;show(jq (ih _ e1)).trans ((jq (ih2 _ e5)).trans rfl)
theorem vg:∀(xs:Es) (ds:List D),qu aq xs J=some ds->evs aq aj F xs J s=some (.ok (ds.map .d),s)
 |.nil,ds,h=>by cases h;rfl|.cons a r,ds,h=>by
  let⟨y,e1,e2⟩:=nj h;cases y with
  |l n=>cases e2|d y=>
   let⟨d,e3,e4⟩:=nj e2;cases e3;let⟨rs,e5,e6⟩:=nj e4;cases e6;show(jq (f9 a _ e1)).trans ((jq (vg r _ e5)).trans rfl)
theorem jL:∀(xs:Es) {vs:List Xv},oX aq xs J=some vs->evs aq aj F xs J s=some (.ok vs,s)
 |.nil,vs,h=>by cases h;rfl|.cons a r,vs,h=>by
  let⟨y,e1,e2⟩:=nj h;let⟨ys,e3,e4⟩:=nj e2;cases e4;show(jq (f9 a _ e1)).trans ((jq (jL r e3)).trans rfl)
variable {P:Xv->S->Prop}
theorem W.pv{e:E}{x:Xv}(h:cY aq e J=some x)(k:P x s):W (ev aq aj F e J) s P:=W.eq (f9 e _ h) k
theorem KaY{f:Nat}{xs:Es}{vs:List Xv}(h:oX aq xs J=some vs)(k:W (cH (F f) vs) s P):W (ev aq aj F (.call f xs) J) s P:=Kay (W.eq (jL xs h) k)
theorem KaZ{fz:Bool}{p:Pr}{xs:Es}{ds:List D}(h:qu aq xs J=some ds)(k:W (cg fz (prim p ds)) s P):W (ev aq aj F (.pr fz p xs) J) s P:=Uh (W.eq (vg xs _ h) (W.eq (Dj s ds) k))
theorem KaX{xs:Es}{vs:List Xv}{P:List Xv->S->Prop}(h:oX aq xs J=some vs)(k:P vs s):W (evs aq aj F xs J) s P:=W.eq (jL xs h) k
end
section
variable {aq:Nat->Nat->Bool}{aj:Bool}{F:Bool->Fn}{J:Vs}{s:S}{Q:Out->S->Prop}{e:E}{r:bL}
theorem Kba{i:Nat}{x:Xv}(h:cY aq e J=some x)(k:WS (exs aq aj F r (J.set i (some x))) s Q):WS (exs aq aj F (.cons (.asg (.nm i) e) r) J) s Q:=WS.cons (Kbf (W.pv h k))
theorem Kbb{x:Xv}(h:cY aq e J=some x)(k:Q (.rt x) s):WS (exs aq aj F (.cons (.ret e) r) J) s Q:=WS.cons (Kbh (W.pv h k))
theorem Ka9{b:Bool}{t u:bL}(h:cY aq e J=some (.d (.bl b)))(k:WS (if b=true then exs aq aj F t J else exs aq aj F u J) s λo s'=>match o with|.nx J'=>WS (exs aq aj F r J') s' Q|.rt x=>Q (.rt x) s'|_=>False):WS (exs aq aj F (.cons (.iff e t u) r) J) s Q:=WS.cons (Dh (W.pv h (W.bool k)))
end
section
variable {aq:Nat->Nat->Bool}{aj:Bool}{F:Bool->Fn}{J:Vs}{s:S}{Q:Out->S->Prop}{c:Nat}{fs:List D}
def Kbi{c:Nat}{kp:Bool}{xs:Es}(h:W (evs aq true (F true) xs J) s λvs s1=>W (cC vs) s1 λds s2=>Q (.er c (if kp=true then ds else []) J) s2):WS (ex aq true F (.rise c kp xs) J) s Q:=by
 show WS.v9 (m2:=λ_=>none) (WS.ofM (W.bd (h.imp λvs s1 h=>h.imp λds s2 h=>?_)));show⟨_,s2,rfl,h⟩
def Kbn{m:MS}{k:Vs->MS}(h:WS m s λo s'=>match o with|.nx J'=>WS (k J') s' Q|.rt x=>Q (.rt x) s'|_=>False):WS (Mi.cI m k) s Q:=by
 let⟨o,s',e,q⟩:=h;unfold WS Mi.cI;rw[e];cases o with
 |nx J'=>show q|rt x=>show⟨_,_,rfl,q⟩|bk _=>show q.elim|ct _=>show q.elim|er _ _ _=>show q.elim
theorem Kbl{F:Fn}{i:Nat}{x:Xv}(h:Q (.nx (J.set i (some x))) s):WS (store aq aj F (.nm i) x J) s Q:=⟨_,s,rfl,h⟩
def Kbm{F:Fn}{is:List Nat}{d:D}(h:sW ((jZ d).bind λds=>fX is (ds.map .d) J) λJ'=>Q (.nx J') s):WS (store aq true F (.tp is) (.d d) J) s Q:=by
 let⟨J',e,q⟩:=h;show WS.v9 (m2:=λ_=>none) (WS.ofM (W.bd (W.dat (W.opt e (WS.nx q)))))
end
section
variable {aq:Nat->Nat->Bool}{aj:Bool}{F:Fn}{J:Vs}{s:S}{P:Xv->S->Prop}
theorem W.lF{a:E}{k:Kd}(h:W (ev aq aj F a J) s λx s1=>W (rd x) s1 λd s2=>sW (lY aq d k) λb=>P (.d (.bl b)) s2):W (ev aq aj F (.lF a k) J) s P:=KaB h
theorem W.zA{p q:Pr}{a b c:E}(h:W (ev aq aj F a J) s λx s1=>W (ev aq aj F b J) s1 λy s2=>W (gJ [x,y]) s2 λds s3=>W (cg true (prim p ds)) s3 λt s4=>W (Mi.bool t) s4 λk s5=>
  W (if k=true then M.bd (ev aq aj F c J) λz=>M.bd (gJ [y,z]) λds=>cg true (prim q ds) else M.ret (.d (.bl false))) s5 P):W (ev aq aj F (.zA p q a b c) J) s P:=Kaz h
theorem KaC{c a b:E}(h:W (ev aq aj F c J) s λx s1=>W (Mi.bool x) s1 λk s2=>W (if k=true then ev aq aj F a J else ev aq aj F b J) s2 P):W (ev aq aj F (.ite c a b) J) s P:=W.bd (h.imp λ_ _ h=>W.bd h)
theorem KaL{a:E}{P:Src×Nat->S->Prop}(h:W (ev aq aj F a J) s λx s1=>W (oH x) s1 P):W (iZ aq aj F (.enum a) J) s P:=W.bd h
theorem KaJ{xs:List D}{P:Src×Nat->S->Prop}(h:P (.fix (enumFrom 0 xs),(enumFrom 0 xs).length) s):W (oH (.d (.fl xs))) s P:=⟨_,s,rfl,h⟩
def KaM{a b:E}{P:Src×Nat->S->Prop}(h:W (ev aq aj F a J) s λx s1=>W (ev aq aj F b J) s1 λy s2=>W (Mi.int x) s2 λi s3=>W (Mi.int y) s3 λj s4=>(fW i&&fW j)=true/\P (.fix (jC i j),(jC i j).length) s4):W (iZ aq aj F (.rg a b) J) s P:=by
 show W.bd (h.imp λx s1 h=>W.bd (h.imp λy s2 h=>W.bd (h.imp λi s3 h=>W.bd (h.imp λj s4 h=>?_))));rw[if_pos h.1];show W.ret h.2
theorem KaO{a b:E}{P:Src×Nat->S->Prop}(h:W (ev aq aj F a J) s λx s1=>W (ev aq aj F b J) s1 λy s2=>W (qb x) s2 λxs s3=>W (qb y) s3 λys s4=>P (.fix (List.zipWith (λp q=>.tup [p,q]) xs ys),(List.zipWith (λ(p q:D)=>D.tup [p,q]) xs ys).length) s4):W (iZ aq aj F (.zip a b) J) s P:=
 W.bd (h.imp λx s1 h=>W.bd (h.imp λy s2 h=>W.bd (h.imp λxs s3 h=>W.bd (h.imp λys s4 h=>W.ret h))))
theorem W.jk{xs:List D}{P:List D->S->Prop}(h:P xs s):W (qb (.d (.tup xs))) s P:=W.ret h
theorem W.sI{xs:List D}{P:List D->S->Prop}(h:P xs s):W (qb (.d (.fl xs))) s P:=W.ret h
theorem Kaj{P:Bool->S->Prop}(h:P true s):W (oJ aq aj F .no J) s P:=W.ret h
theorem Kak{a:E}{P:Bool->S->Prop}(h:W (ev aq aj F a J) s λx s1=>W (Mi.bool x) s1 P):W (oJ aq aj F (.yes a) J) s P:=W.bd h
def Kas(g:D->D)(hc:c.length<=sizeLine)
  (hw:W (iZ aq true F it J) s λcn s1=>cn=(.fix c,c.length)/\s1=s)
  (hb:∀x∈c,sW (dN tg x (blk many fr J)) λJ'=>W (ev aq true F elt J') s λy s2=>s2=s/\y=.d (g x))
  (h:W (newL fz (c.map g)) s P):W (ev aq true F (.comp fz elt tg it fr many .no) J) s P:=by
 show Kaq (c:=c) (λx=>some (g x)) hc hw (λx hx=>?_) ?_
 .obtain⟨J',e,h1⟩:=hb x hx;show⟨J',e,W.ret ⟨rfl,?_⟩⟩;rw[if_pos rfl];show h1.imp λy s2 ⟨a,b⟩=>⟨a,_,b,rfl⟩
 .rw[show c.filterMap (λx=>some (g x))=c.map g by rw[<-Lr];rfl];show h
def jM{α:Type}{f:α->D}{l:List α}{fz:Bool}{elt:E}{tg:List Nat}{it:Wk}{fr:List Nat}{many:Nat}{cond:Eo}(g:α->Option D)(hc:l.length<=sizeLine)
  (hw:W (iZ aq true F it J) s λcn s1=>cn=(.fix (l.map f),(l.map f).length)/\s1=s)
  (hb:∀x∈l,sW (dN tg (f x) (blk many fr J)) λJ'=>W (oJ aq true F cond J') s λb s1=>s1=s/\(b=true->W (ev aq true F elt J') s λy s2=>s2=s/\∃d,y=.d d/\g x=some d)/\(b=false->g x=none))
  (h:W (newL fz (l.filterMap g)) s P):W (ev aq true F (.comp fz elt tg it fr many cond) J) s P:=by
 change W (_root_.ite (true=true) _ _) s P
 rw[if_pos rfl];show W.bd (hw.imp λcn s1=>?_);rintro⟨rfl,rfl⟩;show W.bd ?_;show W.walk (c:=l.map f) (λi acc s'=>s'=s1/\acc=(l.take i).filterMap g) ⟨rfl,rfl⟩ (λi x acc s' e hI=>?_) (λacc s' hI=>?_)
 .obtain⟨rfl,rfl⟩:=hI;rw[gq]at e;cases el:l[i]? with
  |none=>rw[el]at e;cases e|some y=>
   rw[el]at e;cases e;let hi:i<l.length:=(dI.mp el).1;let ht:l.take (i+1)=l.take i++[y]:=by rw[Mj,el];rfl
   let hl:((l.take i).filterMap g).length<sizeLine:=yO (Ln _ _) (by rw[tH];lia);let⟨J',e1,h1⟩:=hb y (dZ el);show W.bd (W.opt e1 ?_);show W.bd (W.qt (h1.imp λb s2=>?_));rintro⟨rfl,h2,h3⟩;rw[ht,Pz];cases b
   .rw[if_neg J0];show W.ret ⟨rfl,?_⟩;simp[h3 rfl]
   .rw[if_pos rfl];show W.bd (W.qt ((h2 rfl).imp λy s3=>?_));rintro⟨rfl,d,rfl,eg⟩;show W.bd (W.dat ?_);rw[if_pos hl];show W.ret ⟨rfl,?_⟩;simp[eg]
 .obtain⟨rfl,rfl⟩:=hI;rw[cO,Ef];show h
def Kar{c:List D}{fz:Bool}{elt:E}{tg:List Nat}{it:Wk}{fr:List Nat}{many:Nat}{cond:Eo}(I:Nat->List D->S->Prop)
  (hw:W (iZ aq true F it J) s λcn s1=>cn=(.fix c,c.length)/\I 0 [] s1)
  (hb:∀i x acc s,c[i]?=some x->I i acc s->sW (dN tg x (blk many fr J)) λJ'=>W (oJ aq true F cond J') s λb s1=>(b=true->W (ev aq true F elt J') s1 λy s2=>∃d,y=.d d/\acc.length<sizeLine/\I (i+1) (acc++[d]) s2)/\(b=false->I (i+1) acc s1))
  (h:∀acc s,I c.length acc s->W (newL fz acc) s P):W (ev aq true F (.comp fz elt tg it fr many cond) J) s P:=by
 change W (_root_.ite (true=true) _ _) s P
 rw[if_pos rfl];show W.bd (hw.imp λcn s1=>?_);rintro⟨rfl,h0⟩;show W.bd ?_;show W.walk (c:=c) I h0 (λi x acc s' e hI=>?_) (λacc s' hI=>h acc s' hI);let⟨J',e1,h1⟩:=hb i x acc s' e hI;show W.bd (W.opt e1 ?_);show W.bd (W.qt (h1.imp λb s2=>?_));rintro⟨h2,h3⟩;cases b
 .rw[if_neg J0];show W.ret (h3 rfl)
 .rw[if_pos rfl];show W.bd (W.qt ((h2 rfl).imp λy s3=>?_));rintro⟨d,rfl,hl,hi⟩;show W.bd (W.dat ?_);rw[if_pos hl];show W.ret hi
def W.push{o a:E}(h:W (ev aq aj F o J) s λx s1=>W (Mi.cL x) s1 λ_ s2=>W (ev aq aj F a J) s2 λy s3=>W (Mi.dat y) s3 λd s4=>W (Mi.cL x) s4 λnx s5=>nx.2.length<sizeLine/\P (.d .non) (s5.set nx.1 (.lst (nx.2++[d])))):W (ev aq aj F (.push o a) J) s P:=by
 show W.bd (h.imp λx s1 h=>W.bd (h.imp λ_ s2 h=>W.bd (h.imp λy s3 h=>W.bd (h.imp λd s4 h=>W.bd (h.imp λnx s5 h=>?_)))));rw[if_pos h.1];show W.bd (N8 (W.ret h.2))
end
def zdY{s:S}{o:SO}:(s++[o])[s.length]?=some o:=by simp
theorem Y{P R:Prop}(k:R)(h:Bx R->P:=by
 intro k
 repeat (first|with_reducible first
   |refine Kba (by with_unfolding_all rfl) ?_|refine Kbb (by with_unfolding_all rfl) ?_|refine Ka9 (by with_unfolding_all rfl) ?_|refine W.pv (by with_unfolding_all rfl) ?_|refine KaZ (by with_unfolding_all rfl) ?_|refine KaY (by with_unfolding_all rfl) ?_|refine KaX (by with_unfolding_all rfl) ?_
   |refine WS.cons ?_|refine WS.nil ?_|refine Kbn ?_|refine Kbl ?_|refine Kbm ?_|refine Kbf ?_|refine Kbh ?_|refine Dh ?_|refine Kbk ?_|refine Kbj ?_|refine Kbg ?_|refine Kbc ?_|refine Kbd ?_|refine Kbi ?_|refine WS.v9 ?_|refine WS.Dg ?_|refine WS.Kh (by with_unfolding_all rfl) ?_|refine WS.C_ (by with_unfolding_all rfl) ?_|refine sW.mk (by with_unfolding_all rfl) ?_
   |refine N_ ?_|refine Kai ?_|refine W.eC ?_|refine W.eV (by with_unfolding_all rfl) ?_|refine Uh ?_|refine Kay ?_|refine KaI ?_|refine KaD ?_|refine KaE ?_|refine Kax ?_|refine Ui ?_|refine KaC ?_|refine W.lF ?_|refine W.zA ?_|refine W.push ?_|refine KaH ?_|refine KaA ?_|refine KaR ?_|refine KaS ?_|refine KaN ?_|refine KaM ?_|refine KaO ?_|refine KaL ?_|refine Kaj ?_|refine Kak ?_|refine W.v9 ?_|refine W.Dg ?_|refine W.Kh (by with_unfolding_all rfl) ?_|refine W.C_ (by with_unfolding_all rfl) ?_
   |refine Ue ?_|refine Ka3 ?_|refine N7 ?_|refine Ka1 (by with_unfolding_all rfl) ?_|refine Ka1 zdY ?_|refine Kau ?_|refine Kav ?_|refine W.dat ?_|refine W.bool ?_|refine W.int ?_|refine W.cL (by with_unfolding_all rfl) ?_|refine W.cL zdY ?_|refine N8 ?_|refine Ka5 ?_|refine KaJ ?_|refine W.jk ?_|refine W.sI ?_|refine Ka4 ?_|refine KaQ ?_|refine KaP ?_
   |refine cJ (by first|(with_unfolding_all rfl)|exact zoC (by first|(left;constructor<;>lia)|(right;constructor<;>lia))|exact zoh gV|exact zmY gV|exact zhQ gV|exact znv J0) ?_|refine zU (by with_unfolding_all rfl) ?_
   |refine W.ret ?_|refine W.bd ?_
   | (dsimp only))
 all_goals show k.o):P:=h ⟨k⟩
def lx(p q:Int×Int):Prop:=p.1<q.1\/p.1=q.1/\p.2<q.2
def aK(n:Int)(ps:List (Int×Int)):D:=.tup [.int n,.tup (ps.map aZ)]
structure Web(n:Int)(ps:List (Int×Int)):Prop where
 h1:1<=n
 h8:n<=8
 tie:∀p∈ps,0<=p.1/\p.1<p.2/\p.2<n
 inc:ps.Pairwise lx
 len:(ps.length:Int)<=7*n
def ziI(h:∀x∈xs,x=.bl true):eU xs=some (List.replicate xs.length true):=by
 induction xs with
 |nil=>rfl|cons x r ih=>
  rw[h x RQ];change Option.map _ (eU r)=_;rw[ih λy hy=>h y (by simp[hy])];rfl
def Oa(h:∀x∈xs,x=.bl true):prim .all [.fl xs]=some (.dat (.bl true)):=by
 change Option.map _ (eU xs)=_;rw[ziI h];simp
def zir(p q:Int×Int):bQ (k+1) (aZ p) (aZ q)=some (decide (p=q)):=by
 change b_ (bQ k) [.int p.1,.int p.2] [.int q.1,.int q.2]=_;let hi:∀a b:Int,bQ k (.int a) (.int b)=some (a==b):=by intro a b;cases k<;>rfl
 simp only[b_,hi];let⟨a,b⟩:=p;let⟨c,d⟩:=q;by_cases h1:a=c
 .by_cases h2:b=d
  .simp[h1,h2]
  .simp[h1,h2]
 .simp[h1]
def zjC(ps:List (Int×Int)):b_ (bQ (k+1)) (ps.map aZ) (ps.map aZ)=some true:=by
 induction ps with
 |nil=>rfl|cons p r ih=>simp only[iH,b_,ih,zir];simp
def zkE:bQ 50 (aK n ps) (aK n ps)=some true:=by
 change b_ (bQ 49) [.int n,.tup (ps.map aZ)] [.int n,.tup (ps.map aZ)]=_;let h1:bQ 49 (.int n) (.int n)=some (n==n):=rfl;let h2:bQ 49 (.tup (ps.map aZ)) (.tup (ps.map aZ))=b_ (bQ 48) (ps.map aZ) (ps.map aZ):=rfl;simp only[b_,h1,h2,zjC];simp
def ziC(p:Int×Int)(ps:List (Int×Int)):memD (aZ p) (ps.map aZ)=some (decide (p∈ps)):=by
 induction ps with
 |nil=>rfl|cons q r ih=>
  simp only[iH,memD,ih,zir]
  congr 1
  rw[<-Bool.decide_or];apply yP.mpr;rw[iG]
  constructor
  .rintro(h|h)
   .exact .inl h.symm
   .exact .inr h
  .rintro(h|h)
   .exact .inl h.symm
   .exact .inr h
def zoG{f:Bool->Bool}{p:Int×Int}{ps:List (Int×Int)}:vQ f [aZ p,.fl (ps.map aZ)]=some (.dat (.bl (f (decide (p∈ps))))):=by
 change Option.map _ (memD (aZ p) (ps.map aZ))=_;rw[ziC];rfl
def zl7{f:Bool->Bool}{p:Int×Int}{ps:List (Int×Int)}:vQ f [aZ p,.tup (ps.map aZ)]=some (.dat (.bl (f (decide (p∈ps))))):=by
 change Option.map _ (memD (aZ p) (ps.map aZ))=_;rw[ziC];rfl
def znM(h:lx p q):ltI [p.1,p.2] [q.1,q.2]=true:=by
 simp only[ltI];rcases h with h|⟨h,h2⟩
 .rw[if_neg gV];simp[h]
 .rw[if_pos h,if_neg gV];simp[h2]
def Um(xs:List D):cut xs (some 1) none=xs.drop 1:=by
 unfold cut;rw[HT.jW];rw[show (some 1:Option Int)=some ((1:Nat):Int) from rfl,HT.mO];cases xs with
 |nil=>rfl|cons x r=>simp
theorem zil:∀{ps:List (Int×Int)},ps.Pairwise lx->∀x∈List.zipWith (λ(p q:D)=>D.tup [p,q]) (ps.map aZ) ((ps.map aZ).drop 1),∃p q,x=.tup [aZ p,aZ q]/\lx p q
 |[],_,x,hx=>by simp at hx|[p],_,x,hx=>by simp at hx|p::q::r,h,x,hx=>by
  rw[show (List.map aZ (p::q::r)).drop 1=List.map aZ (q::r) from rfl]at hx;let e:List.zipWith (λ(p q:D)=>D.tup [p,q]) (List.map aZ (p::q::r)) (List.map aZ (q::r))=.tup [aZ p,aZ q]::List.zipWith (λ(p q:D)=>D.tup [p,q]) (List.map aZ (q::r)) (List.map aZ r):=rfl;rw[e,iG]at hx;rcases hx with rfl|hx
  .exact⟨p,q,rfl,(Af.mp h).1 q RQ⟩
  .exact zil (ps:=q::r) (Af.mp h).2 x hx
theorem Uo:∀(xs:List D) (j i:Nat),(enumFrom j xs)[i]?=xs[i]?.map λx=>.tup [.int ((j+i:Nat):Int),x]
 |[],j,i=>by simp[enumFrom]|x::r,j,0=>by simp[enumFrom]|x::r,j,i+1=>by
  simp only[enumFrom,DP,Uo r (j+1) i];rw[show j+1+i=j+(i+1) by lia]
theorem Uq:∀(xs:List D) (j:Nat),(enumFrom j xs).length=xs.length
 |[],j=>rfl|x::r,j=>by simp[enumFrom,Uq r (j+1)]
def zmA{p:Int×Int}:¬lx p p:=by rintro(h|⟨_,h⟩)<;>lia
theorem zeE{ps:List (Int×Int)}(h:ps.Pairwise lx):ps.Nodup:=h.imp λ{p q} h e=>by subst e;show zmA h
def zcQ(h:vU xs=some ys):prim .sorted [.fl xs]=some (.nw ys):=by
 change Option.map Rz.nw (vU xs)=_;rw[h];rfl
def zhS{es:List Int}(nH:es.length<64)(h:es.Pairwise (·<·)):vU (es.map D.int)=some (es.map D.int):=by
 show zeD ?_ (by rw[cO];show nH) λk hk=>?_
 .rw[Mf]
  left
  rw[GR,ju];intro x _;rfl
 .rw[cO]at hk;unfold vR;rw[gq,gq,dz hk,dz (show k<es.length by lia)];let:=Lh.mp h k (k+1) gV hk gV;simp only[Option.map_some]
  congr 1
  apply jw
  lia
def endOf(i:Int)(p:Int×Int):Option Int:=if p.1=i then some p.2 else if p.2=i then some p.1 else none
def bJ(i:Int)(ps:List (Int×Int)):List Int:=ps.filterMap (endOf i)
def zev(h:Web n ps)(i:Int):(bJ i ps).Pairwise (·<·):=by
 let ht:=h.tie;let hi:=h.inc;clear h;unfold bJ
 induction ps with
 |nil=>simp|cons p r ih=>
  let⟨hp,hr⟩:=Af.mp hi;let ih:=ih (λq hq=>ht q (by simp[hq])) hr;rw[vB]
  split
  .exact ih
  .rename_i b eb;show Af.mpr ⟨λc hc=>?_,ih⟩;let⟨q,hq,eq⟩:=Ad.mp hc;let l:=hp q hq;let tp:=ht p RQ;let tq:=ht q (by simp[hq]);unfold endOf at eb eq;unfold lx at l;split at eb
   .cases eb;split at eq
    .cases eq;lia
    .split at eq
     .cases eq;lia
     .cases eq
   .split at eb
    .cases eb;split at eq
     .cases eq;lia
     .split at eq
      .cases eq;lia
      .cases eq
    .cases eb
def zdX(h:Web n ps)(he:e∈bJ i ps):0<=e/\e<n:=by
 let⟨q,hq,eq⟩:=Ad.mp he;let tq:=h.tie q hq;unfold endOf at eq;split at eq
 .cases eq;lia
 .split at eq
  .cases eq;lia
  .cases eq
theorem Ur:∀{es:List Int} {a n:Int},es.Pairwise (·<·)->(∀e∈es,a<=e/\e<n)->a<=n->(es.length:Int)<=n-a
 |[],a,n,_,_,h=>by simp;lia|e::r,a,n,h,hb,ha=>by
  let⟨h1,h2⟩:=Af.mp h;let he:=hb e RQ;let:=Ur (es:=r) (a:=e+1) (n:=n) h2 (λx hx=>⟨by let:=h1 x hx;lia,(hb x (by simp[hx])).2⟩) gV;rw[gw]
  lia
def Ob{a b:Int}{i:Nat}{x:D}(h:(jC a b)[i]?=some x):x=.int (a+i)/\a+i<b:=by
 unfold jC at h;rw[gq]at h;cases e:(List.range (b-a).toNat)[i]? with
 |none=>rw[e]at h;cases h|some j=>
  rw[e]at h;cases h;let⟨hl,rfl⟩:=dI.mp e;rw[lM]at hl;rw[List.getElem_range];show⟨rfl,by lia⟩
def Oc:(jC a b).length=(b-a).toNat:=by unfold jC;simp
def gO(h1 : -1000<=a)(h2:a<=1000):fW a=true:=by
 unfold fW;rw[fH gV,fH gV];rfl
def wg(hl:locs xs=[s.length])(h:W (F (dD 0 xs)) [o] λv s1=>∃d o',v=.d d/\s1=[o']/\P (.d d) (s++[o'])):W (cH F xs) (s++[o]) P:=by
 show Ug (n:=s.length) (o:=o) hl RQ (h.imp λv s1=>?_);rintro⟨d,o',rfl,rfl,hp⟩;show⟨d,o',rfl,rfl,by rw[show (s++[o]).set s.length o'=s++[o'] by simp];show hp⟩
def zkk{ns:List Int}{lo hi:Option Int}{x:D}(h:x∈cut (ns.map D.int) lo hi):∃n,x=.int n:=by
 let:=List.mem_of_mem_drop (List.mem_of_mem_take h);let⟨n,_,rfl⟩:=lu.mp this;show⟨n,rfl⟩
def zj1{ns:List Int}{lo hi:Option Int}:(cut (ns.map D.int) lo hi).length<=ns.length:=by
 unfold cut;rw[tH,Gz,cO]
 lia
theorem zdb{α:Type}[DecidableEq α]:∀{l m:List α},l.Nodup->(∀x∈l,x∈m)->l.length<=m.length
 |[],m,_,_=>rM _|x::r,m,h,hm=>by
  let⟨h1,h2⟩:=wF.mp h;let hx:x∈m:=hm x RQ;let:=zdb (l:=r) (m:=m.erase x) h2 λy hy=>(List.mem_erase_of_ne (λe=>by subst e;show h1 hy)).mpr (hm y (by simp[hy]));rw[List.length_erase_of_mem hx]at this;let:=List.length_pos_of_mem hx;rw[gw]
  lia
theorem Ka6(R:Vs->S->Prop)(h:WS (ex aq aj F a J) s λo s'=>∃J',o=.nx J'/\R J' s')(h2:∀J' s',R J' s'->WS (exs aq aj F r J') s' Q):WS (exs aq aj F (.cons a r) J) s Q:=
 WS.cons (h.imp λo s' ⟨J',e,hr⟩=>by subst e;show h2 J' s' hr)
def at'(fs:List Int)(j:Int):Int:=fs.getD j.toNat 0
def Od{fs:List Int}{j:Int}(h0:0<=j)(h:j<fs.length):∃(i:Nat) (hi:i<fs.length),j=i/\at' fs j=fs[i]:=by
 let⟨i,rfl⟩:=o9 h0;let hi:i<fs.length:=by lia
 show⟨i,hi,rfl,?_⟩;unfold at';rw[pq,lq,dz hi];rfl
def yt{fs:List Int}{j:Int}(h0:0<=j)(h:j<fs.length):at' fs j∈fs:=by
 let⟨i,hi,_,e⟩:=Od h0 h;rw[e];show List.getElem_mem _
def zpI{fs:List Int}{j:Int}(h0:0<=j)(h:j<fs.length):(fs.map D.int)[j.toNat]?=some (.int (at' fs j)):=by
 let⟨i,hi,rfl,e⟩:=Od h0 h;rw[e,pq,gq,dz hi];rfl
def mz{fs gs:List Int}{j:Int}(h0:0<=j)(h:j<fs.length):at' (fs++gs) j=at' fs j:=by
 let⟨i,hi,rfl,e⟩:=Od h0 h;unfold at';rw[pq,lq,lq,nJ hi]
def yu:at' (fs++[x]) fs.length=x:=by
 unfold at';rw[pq,lq,o8 (bU _)];simp
def pG(h0:0<=j)(h:xs[j.toNat]?=some x):prim .ix [.fl xs,.int j]=some (.dat x):=by
 let⟨k,rfl⟩:=o9 h0;show Kf h
theorem zm5(h0:0<=j)(h:xs[j.toNat]?=some x):prim .ix [.tup xs,.int j]=some (.dat x):=pG h0 h
theorem zot(h0:0<=j)(h:j<fs.length):prim .ix [.fl (fs.map .int),.int j]=some (.dat (.int (at' fs j))):=pG h0 (zpI h0 h)
def Us:L2.pD (n+1) (-1)=some n:=by
 unfold L2.pD;simp
 lia
def Dk:prim .ix [.fl (xs++[x]),.int (-1)]=some (.dat x):=by
 change Option.map Rz.dat (L2.n8 (xs++[x]) (-1))=_;let:L2.n8 (xs++[x]) (-1)=some x:=by
  unfold L2.n8;rw[dJ];change (L2.pD (xs.length+1) (-1)).bind _=_;rw[Us];simp
 rw[this];rfl
def iC(k a b:Int):Int:=if k-(if a-b<0 then -(a-b) else a-b)<(if a-b<0 then -(a-b) else a-b) then k-(if a-b<0 then -(a-b) else a-b) else (if a-b<0 then -(a-b) else a-b)
def mC(hd:1<=d):d<=iC k a b↔(d<=a-b/\a-b<=k-d)\/(d<=b-a/\b-a<=k-d):=by
 unfold iC
 split<;>split<;>lia
def zi9(j:Int)(ls:List Int):memD (.int j) (ls.map .int)=some (decide (j∈ls)):=by
 induction ls with
 |nil=>rfl|cons q r ih=>
  let hi:bQ 50 (.int q) (.int j)=some (q==j):=rfl;simp only[iH,memD,ih,hi]
  congr 1
  by_cases h:q=j
  .subst h;simp
  .let h2:¬j=q:=λe=>h e.symm;simp[h,h2]
structure bx(n k d:Int)(ps:List (Int×Int))(hs:List Int):Prop where
 len:(hs.length:Int)=n
 lo:∀x∈hs,0<=x/\x<k
 fit:∀p∈ps,d<=iC k (at' hs p.1) (at' hs p.2)
section
variable {aq:Nat->Nat->Bool}{aj:Bool}{F:Bool->Fn}{J:Vs}{s:S}{Q:Out->S->Prop}
def WS.wh(I:Nat->Vs->S->Prop)(hm:m<jh)(h0:I m J s)
  (step:∀m J s,I m J s->W (ev aq aj (F aj) c J) s λx s1=>W (Mi.bool x) s1 λk s2=>(k=true->WS (exs aq aj F b J) s2 λo s3=>(∃J' m',o=.nx J'/\m'<m/\I m' J' s3)\/(∃x,o=.rt x/\Q (.rt x) s3))/\(k=false->Q (.nx J) s2)):WS (ex aq aj F (.wh c b) J) s Q:=by
 let key:∀n m J s,m<n->I m J s->WS (gU (λJ=>M.bd (ev aq aj (F aj) c J) Mi.bool) (λJ=>exs aq aj F b J) n J) s Q:=by
  intro n
  induction n with
  |zero=>intro m J s h;show absurd h (Mg _)|succ n ih=>
   intro m J s hmn hI;let⟨x,s1,e1,k,s2,e2,hk⟩:=step m J s hI;unfold gU;show WS.ofM (W.bd ⟨x,s1,e1,k,s2,e2,?_⟩);cases k with
   |false=>show⟨_,s2,by rw[if_neg J0],hk.2 rfl⟩|true=>
    let⟨o,s3,e3,hr⟩:=hk.1 rfl;rcases hr with ⟨J',m',rfl,Oe,CZ⟩|⟨x,rfl,hq⟩
    .obtain⟨o2,s4,e4,q⟩:=ih m' J' s3 gV CZ;show⟨o2,s4,by rw[if_pos rfl,e3];show e4,q⟩
    .exact⟨_,s3,by rw[if_pos rfl,e3],hq⟩
 show key jh m J s hm h0
end
section
variable {aq:Nat->Nat->Bool}{aj:Bool}{F:Fn}{J:Vs}{s:S}{P:Xv->S->Prop}
def W.pop(h:W (ev aq aj F o J) s λv s1=>v=.l n/\s1[n]?=some (.lst (xs++[x]))/\P (.d x) (s1.set n (.lst xs))):W (ev aq aj F (.pop o) J) s P:=by
 show W.bd (h.imp λv s1 h=>?_);let⟨rfl,e,h⟩:=h;show W.bd (W.cL e ?_);let e1:(xs++[x]).getLast?=some x:=by simp
 let e2:(xs++[x]).dropLast=xs:=by simp
 simp only[e1,e2];show W.bd (N8 (W.ret h))
end
def Ge(h r:List Int):Prop:=∀j:Nat,j<r.length->(∀i:Nat,i<j->at' h i=at' r i)->at' r j<=at' h j
def zgw(g:Ge h r)(h0:∀j:Nat,0<=at' h j):Ge h (r++[0]):=by
 intro j hj ha;rw[dJ]at hj;by_cases hl:j<r.length
 .rw[mz gV gV];show g j hl λi hi=>by rw[ha i hi,mz gV gV]
 .let:j=r.length:=by simp at hj;lia
  subst this;rw[yu];show h0 _
def zij(g:Ge h (r++[x]))(hx:(∀i:Nat,i<r.length->at' h i=at' r i)->at' h r.length≠x):Ge h (r++[x+1]):=by
 intro j hj ha;rw[dJ]at hj;by_cases hl:j<r.length
 .rw[mz gV gV];let:=g j (by rw[dJ];lia) λi hi=>by rw[ha i hi,mz gV gV,mz gV gV]
  rwa [mz gV gV]at this
 .let:j=r.length:=by simp at hj;lia
  subst this;rw[yu];let ha':∀i:Nat,i<r.length->at' h i=at' r i:=λi hi=>by rw[ha i hi,mz gV gV]
  let:=g r.length RQ λi hi=>by rw[ha' i hi,mz gV gV]
  rw[yu]at this;let:=hx ha'
  lia
def zkS(g:Ge h (r++[y]++[x]))(hx:(∀i:Nat,i<(r++[y]).length->at' h i=at' (r++[y]) i)->False):Ge h (r++[y+1]):=by
 let g1:Ge h (r++[y]):=by
  intro j hj ha;let:=g j (by rw[dJ];lia) λi hi=>by rw[ha i hi,mz (fs:=r++[y]) (gs:=[x]) gV gV]
  rwa [mz gV gV]at this
 show zij g1 λha e=>hx λi hi=>?_;rw[dJ]at hi;by_cases hl:i<r.length
 .rw[ha i hl,mz gV gV]
 .let:i=r.length:=by simp at hi;lia
  subst this;rw[yu,e]
def val(B:Nat):List Int->Nat->Nat
 |[],_=>0|x::r,n=>x.toNat*B^(n-1)+val B r (n-1)
theorem Dl(B:Nat):∀(r t:List Int) (n:Nat),val B (r++t) n=val B r n+val B t (n-r.length)
 |[],t,n=>by simp[val]|x::r,t,n=>by
  simp only[List.cons_append,val,Dl B r t (n-1),gw];rw[show n-1-r.length=n-(r.length+1) by lia]
  lia
theorem Ut{B:Nat}(hB:0<B):∀{r:List Int} {n:Nat},(∀z∈r,z<B)->r.length<=n->val B r n+B^(n-r.length)<=B^n
 |[],n,_,_=>by simp[val]|x::r,n,h,hl=>by
  rw[gw]at hl;let ih:=Ut hB (r:=r) (n:=n-1) (λz hz=>h z (by simp[hz])) gV;let hx:x.toNat+1<=B:=by let:=h x RQ;lia
  simp only[val,gw];rw[show n-(r.length+1)=n-1-r.length by lia];let h2:B^n=B*B^(n-1):=by
   conv=>lhs;rw[show n=n-1+1 by lia]
   rw[Nat.pow_succ,Nat.mul_comm]
  rw[h2];let h3:=DR (B^(n-1)) hx;rw[GX]at h3
  lia
def left'(B n:Nat)(r:List Int):Nat:=(n+1)*(B^n-val B r n)+(n-r.length)
def zgK(h:r.length<n):left' B n (r++[0])<left' B n r:=by
 unfold left';rw[Dl];simp[val]
 lia
def zgq{B n a b la lb:Nat}(h:a<b)(hb:b<=B^n)(hl:la<=n)(tQ:lb<=n):(n+1)*(B^n-b)+(n-lb)<(n+1)*(B^n-a)+(n-la):=by
 let:B^n-b+1<=B^n-a:=by lia
 let:=Nat.mul_le_mul_left (n+1) this;rw[Nat.mul_add]at this
 lia
def zg4{B n:Nat}{r:List Int}{x:Int}(h0:0<=x)(hx:x+1<B)(hr:∀z∈r,z<B)(h:r.length<n):left' B n (r++[x+1])<left' B n (r++[x]):=by
 let h1:=Ut (B:=B) gV (r:=r++[x+1]) (n:=n) (λz hz=>by
  rcases jN.mp hz with hz|hz
  .exact hr z hz
  .let:z=x+1:=by simpa using hz
   lia) (by rw[dJ];simp;lia)
 unfold left';show zgq ?_ gV (by simp;lia) (by simp;lia);rw[Dl,Dl];simp only[val];rw[show (x+1).toNat=x.toNat+1 by lia,GX];let:0<B^(n-r.length-1):=Nat.pow_pos gV
 lia
def zh3{B n:Nat}{r:List Int}{y x:Int}(h0:0<=y)(hy:y+1<B)(Uu:0<=x)(hx:x<B)(hr:∀z∈r,z<B)(h:r.length+1<n):left' B n (r++[y+1])<left' B n (r++[y]++[x]):=by
 let h1:=Ut (B:=B) gV (r:=r++[y+1]) (n:=n) (λz hz=>by
  rcases jN.mp hz with hz|hz
  .exact hr z hz
  .let:z=y+1:=by simpa using hz
   lia) (by rw[dJ];simp;lia)
 unfold left';show zgq ?_ gV (by simp;lia) (by simp;lia);rw[Dl,Dl,Dl];simp only[val,dJ];rw[show (y+1).toNat=y.toNat+1 by lia,GX];let e1:B^(n-r.length-1)=B*B^(n-(r.length+[y].length)-1):=by
  conv=>lhs;rw[show n-r.length-1=n-(r.length+[y].length)-1+1 by simp;lia]
  rw[Nat.pow_succ,Nat.mul_comm]
 let h2:x.toNat+1<=B:=by lia
 let h3:=DR (B^(n-(r.length+[y].length)-1)) h2;rw[GX]at h3;let:0<B^(n-(r.length+[y].length)-1):=Nat.pow_pos gV
 lia
def Kp{m:Nat}{f:Nat->Int}{j:Int}(h0:0<=j)(h:j<m):at' ((List.range m).map f) j=f j.toNat:=by
 unfold at';rw[lq,gq,yM gV];rfl
def ziS(xs:List D):bQ 50 (.fl xs) (.fl [])=some (decide (xs=[])):=by
 cases xs with
 |nil=>rfl|cons x r=>rfl
def zhD(xs:List D):bQ 50 (.tup xs) (.tup [])=some (decide (xs=[])):=by
 cases xs with
 |nil=>rfl|cons x r=>rfl
def Dm:xO f [.fl xs,.fl []]=some (.dat (.bl (f (decide (xs=[]))))):=by
 change Option.map _ (bQ 50 (.fl xs) (.fl []))=_;rw[ziS];rfl
def zlk:xO f [.tup xs,.tup []]=some (.dat (.bl (f (decide (xs=[]))))):=by
 change Option.map _ (bQ 50 (.tup xs) (.tup []))=_;rw[zhD];rfl
def znl{f:Bool->Bool}{j:Int}{ls:List Int}:vQ f [.int j,.fl (ls.map .int)]=some (.dat (.bl (f (decide (j∈ls))))):=by
 change Option.map _ (memD (.int j) (ls.map .int))=_;rw[zi9];rfl
def dO(k d:Int):D:=.tup [.int k,.int d]
section
variable {n k d:Int}{ps:List (Int×Int)}{ls:List Int}
structure Good(n k d:Int)(ps:List (Int×Int))(ls:List Int)(h:List Int):Prop where
 hu:bx n k d ps h
 z:at' h 0=0
 l:∀j∈ls,at' h j=0
def zi5(w:Web n ps)(hd:1<=d)(hk:1<=k)(hls:∀j∈ls,(0<=j/\j<n)/\∀p∈ps,p.1≠j/\p.2≠j){hs:List Int}(h:bx n k d ps hs):∃g,Good n k d ps ls g:=by
 let h1:=w.h1;let hl:=h.len;let IW:∀j:Int,0<=j->j<n->0<=at' hs j/\at' hs j<k:=λj a b=>h.lo _ (yt a gV);let z:=IW 0 gV gV;let hr:∀x:Int,0<=x/\x<k->0<=(if x<at' hs 0 then x-at' hs 0+k else x-at' hs 0)/\(if x<at' hs 0 then x-at' hs 0+k else x-at' hs 0)<k:=by
  intro x hx
  split<;>lia
 show⟨(List.range n.toNat).map λ(i:Nat)=>if (i:Int)∈ls then 0 else (if at' hs i<at' hs 0 then at' hs i-at' hs 0+k else at' hs i-at' hs 0),⟨?_,λx hx=>?_,λp hp=>?_⟩,?_,λj hj=>?_⟩
 .rw[cO,lM];lia
 .obtain⟨i,hi,rfl⟩:=lu.mp hx;let:=pA.mp hi
  split
  .lia
  .exact hr _ (IW i gV gV)
 .let ht:=w.tie p hp;rw[Kp gV gV,Kp gV gV];let e1:((p.1.toNat:Nat):Int)=p.1:=by lia
  let e2:((p.2.toNat:Nat):Int)=p.2:=by lia
  rw[e1,e2,if_neg (λq=>(hls _ q).2 p hp |>.1 rfl),if_neg (λq=>(hls _ q).2 p hp |>.2 rfl)];let f:=(mC hd).mp (h.fit p hp);rw[mC hd];let a:=IW p.1 gV gV;let b:=IW p.2 gV gV
  split<;>split<;>lia
 .rw[Kp gV gV];change (if ((0:Nat):Int)∈ls then 0 else if at' hs ((0:Nat):Int)<at' hs 0 then _ else _)=(0:Int)
  split
  .rfl
  .show (if at' hs 0<at' hs 0 then _ else at' hs 0-at' hs 0)=(0:Int);rw[if_neg gV]
   lia
 .let:=(hls j hj).1;rw[Kp gV gV];let e1:((j.toNat:Nat):Int)=j:=by lia
  rw[e1,if_pos hj]
structure yw(n k d:Int)(ps:List (Int×Int))(ls:List Int)(r:List Int)(x:Int):Prop where
 lo:∀z∈r,0<=z/\z<k
 x0:0<=x
 xk:x<=k
 len:(r.length:Int)<n
 fit:∀p∈ps,p.2<r.length->d<=iC k (at' r p.1) (at' r p.2)
 ge:∀h,Good n k d ps ls h->Ge h (r++[x])
def zfw(g:Good n k d ps ls h)(hk:1<=k)(j:Nat):0<=at' h j:=by
 by_cases hj:j<h.length
 .exact(g.hu.lo _ (yt gV gV)).1
 .unfold at';rw[pq,lq,Py gV];show Aw _
def Uv(hn:1<=n)(hk:1<=k)(hp:∀p∈ps,0<=p.1/\p.1<p.2):yw n k d ps ls [] 0 where
 lo:=by simp
 x0:=by lia
 xk:=by lia
 len:=by simp;lia
 fit:=λp Sv h=>by let:=hp p Sv;simp at h;lia
 ge:=λh g=>zgw (r:=[]) (λj hj=>by simp at hj) (zfw g hk)
theorem zjy(w:Web n ps)(S:yw n k d ps ls (r++[y]) x)(hx:x=k\/(0<x/\((r++[y]).length:Int)∈ls)):yw n k d ps ls r (y+1) where
 lo:=λz hz=>S.lo z (Ac _ hz)
 x0:=by let:=S.lo y RQ;lia
 xk:=by let:=S.lo y RQ;lia
 len:=by let:=S.len;rw[dJ]at this;simp at this;lia
 fit:=λp hp h=>by
  let ht:=w.tie p hp;let:=S.fit p hp (by rw[dJ];simp;lia)
  rwa [mz gV gV,mz gV gV]at this
 ge:=λh g=>by
  show zkS (S.ge h g) λha=>?_;let hge:=S.ge h g (r++[y]).length (by rw[dJ (as:=r++[y])];simp) λi hi=>by rw[ha i hi,mz (fs:=r++[y]) (gs:=[x]) gV gV]
  rw[yu]at hge;let hlen:=S.len;let hl:=g.hu.len;rcases hx with rfl|⟨h0,tQ⟩
  .let:=(g.hu.lo _ (yt (fs:=h) (j:=((r++[y]).length:Nat)) gV gV)).2
   lia
  .let:=g.l _ tQ
   lia
theorem zj2(w:Web n ps)(S:yw n k d ps ls r x)(hx:x≠k)(hn:∃p∈ps,p.2=r.length/\iC k (at' (r++[x]) p.1) x<d):yw n k d ps ls r (x+1) where
 lo:=S.lo
 x0:=by let:=S.x0;lia
 xk:=by let:=S.xk;lia
 len:=S.len
 fit:=S.fit
 ge:=λh g=>zij (S.ge h g) λha e=>by
  let⟨p,hp,e2,hg⟩:=hn;let ht:=w.tie p hp;let:=g.hu.fit p hp;rw[e2,e]at this;let⟨i,hi⟩:=o9 ht.1;rw[hi,ha i gV]at this;rw[hi,mz gV gV]at hg
  lia
theorem zhE(S:yw n k d ps ls r x)(hk:1<=k)(hx:x≠k)(hl:(r.length:Int)+1<n)(xM:∀p∈ps,0<=p.1/\p.1<p.2)(hn:∀p∈ps,p.2=r.length->d<=iC k (at' (r++[x]) p.1) x):yw n k d ps ls (r++[x]) 0 where
 lo:=λz hz=>by
  rcases jN.mp hz with hz|hz
  .exact S.lo z hz
  .let:z=x:=by simpa using hz
   let:=S.x0;let:=S.xk
   lia
 x0:=by lia
 xk:=by lia
 len:=by rw[dJ];simp;lia
 fit:=λp hp h=>by
  let ht:=xM p hp;rw[dJ]at h;simp at h;by_cases hl:p.2<r.length
  .rw[mz gV gV,mz gV gV];show S.fit p hp hl
  .let e:p.2=r.length:=by lia
   let:=hn p hp e;rw[e,yu];show this
 ge:=λh g=>zgw (S.ge h g) (zfw g hk)
def zh2(S:yw n k d ps ls r x)(hx:x≠k)(hl:(r.length:Int)+1=n)(xM:∀p∈ps,0<=p.1/\p.1<p.2/\p.2<n)(hn:∀p∈ps,p.2=r.length->d<=iC k (at' (r++[x]) p.1) x):bx n k d ps (r++[x]) where
 len:=by rw[dJ];simp;lia
 lo:=λz hz=>by
  rcases jN.mp hz with hz|hz
  .exact S.lo z hz
  .let:z=x:=by simpa using hz
   let:=S.x0;let:=S.xk
   lia
 fit:=λp hp=>by
  let ht:=xM p hp;by_cases hl:p.2<r.length
  .rw[mz gV gV,mz gV gV];show S.fit p hp hl
  .let e:p.2=r.length:=by lia
   let:=hn p hp e;rw[e,yu];show this
theorem zng(hd:1<=d)(jJ:ps≠[])(hk:k<2*d)(hs:List Int):¬bx n k d ps hs:=λh=>by
 cases ps with
 |nil=>show jJ rfl|cons p r=>
  let:=(mC hd).mp (h.fit p RQ)
  lia
theorem zgS(hd:1<=d)(ht:∃x y z,(x,y)∈ps/\(x,z)∈ps/\(y,z)∈ps)(hk:k<3*d)(hs:List Int):¬bx n k d ps hs:=λh=>by
 let⟨x,y,z,h1,h2,h3⟩:=ht;let a:=(mC hd).mp (h.fit _ h1);let b:=(mC hd).mp (h.fit _ h2);let c:=(mC hd).mp (h.fit _ h3);dsimp only at a b c
 lia
end
def Dn{α:Type}{l:List α}{f:α->D}:l.filterMap (λx=>some (f x))=l.map f:=by
 rw[<-Lr];rfl
def Ka8(I:Nat->Vs->S->Prop)(h0:I 0 J s)(hb:∀i x J s,c[i]?=some x->I i J s->WS (b x J) s λo s'=>(∃J',o=.nx J'/\I (i+1) J' s')\/(∃x,o=.rt x/\Q (.rt x) s'))
  (he:∀J s,I c.length J s->Q (.nx J) s):WS (dH (.fix c) b (c.length+1) 0 J) s Q:=by
 let key:∀n i J s,i+n=c.length->I i J s->WS (dH (.fix c) b (n+1) i J) s Q:=by
  intro n
  induction n with
  |zero=>
   intro i J s hi hI;let e:c[i]?=none:=by rw[qD];lia
   let:i=c.length:=by lia
   subst this;show⟨_,s,?_,he J s hI⟩;unfold dH;simp only[Src.at,e]
  |succ n ih=>
   intro i J s hi hI;let cj:i<c.length:=by lia
   let e:c[i]?=some c[i]:=dz cj;let⟨o,s',eb,hr⟩:=hb i c[i] J s e hI;rcases hr with ⟨J',rfl,CZ⟩|⟨x,rfl,hq⟩
   .obtain⟨o2,s2,e2,q⟩:=ih (i+1) J' s' gV CZ;show⟨o2,s2,?_,q⟩;unfold dH;simp only[Src.at,e,eb];show e2
   .refine⟨_,s',?_,hq⟩;unfold dH;simp only[Src.at,e,eb]
 show key c.length 0 J s gV h0
def oY(n:Nat):List Int:=(List.range n).map λ(k:Nat)=>(k:Int)
def zfM{n:Nat}{j:Int}(h0:0<=j)(h:j<n):at' (oY n) j=j:=by
 unfold oY;rw[Kp h0 h]
 lia
def zi1{n K:Int}{ps:List (Int×Int)}(w:Web n ps)(hK:n<=K):bx n K 1 ps (oY n.toNat) where
 len:=by let:=w.h1;unfold oY;simp;lia
 lo:=λx hx=>by
  unfold oY at hx;let⟨i,hi,rfl⟩:=lu.mp hx;let:=pA.mp hi
  lia
 fit:=λp hp=>by
  let ht:=w.tie p hp;rw[zfM gV gV,zfM gV gV,mC gV]
  lia
def Ga{hs:List Int}{f:Int->Int}{j:Int}(h0:0<=j)(h:j<hs.length):at' (hs.map f) j=f (at' hs j):=by
 let⟨i,hi,rfl,e⟩:=Od h0 h;rw[e];unfold at';rw[pq,lq,gq,dz hi];rfl
def Uw{n k:Int}(hn:n<=6)(hk:k<=18):(n.toNat+1)*(k.toNat+1)^n.toNat+n.toNat<1000000000:=by
 let h1:(k.toNat+1)^n.toNat<=19^n.toNat:=Nat.pow_le_pow_left gV _;let h2:19^n.toNat<=19^6:=Nat.pow_le_pow_right J0 gV;let h3:(n.toNat+1)*(k.toNat+1)^n.toNat<=7*19^6:=Nat.mul_le_mul gV gV;let h4:7*19^6=329321167:=by decide
 lia
def zgz{α:Type}(l:List α)(f:α->Bool):eU (l.map λx=>D.bl (f x))=some (l.map f):=by
 induction l with
 |nil=>rfl|cons x r ih=>
  change Option.map _ (eU (r.map λx=>D.bl (f x)))=_;rw[ih];rfl
def zk3{α:Type}{l:List α}{f:α->Bool}:prim .all [.fl (l.map λx=>D.bl (f x))]=some (.dat (.bl (l.all f))):=by
 change Option.map _ (eU (l.map λx=>D.bl (f x)))=_;rw[zgz];change some (Rz.dat (.bl ((l.map f).all id)))=_;rw[GR];rfl
end Mi
namespace Mi
open PySem PySem.Spec PyProof.Rows L2 PySem.W
section
variable {K:W.Frag}{cA:Cl}{U:Ph}{H:Hp}
def zli{d:D}{v:V}{k:Bool}(r:Rv K cA U H d v)(e:xP d=some k):Bq K v H k:=by
 cases d with
 |non=>
  cases (show Rep K cA U H .non v from r);cases e;rfl
 |bl c=>
  cases (show Rep K cA U H (.bl c) v from r);cases e;rfl
 |int i=>
  cases (show Rep K cA U H (.int i) v from r);cases e;rfl
 |tup xs=>
  cases (show Rep K cA U H (.tup xs) v from r) with
  |tup t q=>
   cases e;show .inr (.inl ⟨_,t.jk,?_⟩);cases q<;>rfl
 |fl xs=>
  obtain⟨a,us,rfl,sq,q⟩ : ∃a us,v=.ref a/\cP K H a us/\aC K cA U H xs us:=r;cases e;show .inl ⟨_,sq,?_⟩;cases q<;>rfl
 |_=>cases e
end
section
variable {X:Cx}{cA:Cl}{aq:Nat->Nat->Bool}{aj:Bool}{F:Fn}{EX:XS}{a b:Expr}{A B:E}{pos p:Pos}{x:Str}{e:Expr}{es:List Expr}{Xs:Es}
def yx(sc:Scope)(x:Str):Bool:=match sc.names.lookup x with
 |some k=>CK k|none=>false
def Og(sc:Scope)(x:Str):Bool:=match sc.names.lookup x with
 |some .globalImplicit=>true|_=>false
def zgB{sc:Scope}{x:Str}(h:yx sc x=true):∃k,sc.names.lookup x=some k/\CK k=true:=by
 unfold yx at h;split at h
 .rename_i k e;show⟨k,e,h⟩
 .cases h
def ziD{sc:Scope}{x:Str}(h:Og sc x=true):sc.names.lookup x=some .globalImplicit:=by
 unfold Og at h;split at h
 .assumption
 .cases h
theorem gk(h:Og X.env.scope x=true:=by kernel_rfl):JK X x .globalImplicit:=⟨ziD h⟩
def jl(h:(match X.env.scope.names.lookup x with|some .local=>true|_=>false)=true:=by kernel_rfl):JK X x .local:=by
 split at h
 .exact⟨by assumption⟩
 .cases h
def jc(h:(match X.env.scope.names.lookup x with|some .cell=>true|_=>false)=true:=by kernel_rfl):JK X x .cell:=by
 split at h
 .exact⟨by assumption⟩
 .cases h
theorem Gb{scope:Scope}{cl:List (Str×Addr)}{N:List Str}{Cc:Addr}{s3:Shared}{H3:Hp}{fp:List Addr}{ao:List (Addr×Obj)}(h:Og scope x=true:=by kernel_rfl):JK (X.blk scope cl N Cc s3 H3 fp ao) x .globalImplicit:=zpO (ziD h) rfl
def gv(i:Nat)(h:(decide (X.N[i]?=some x)&&yx X.env.scope x&&okN x)=true:=by kernel_rfl):JE X cA aq aj F EX (.Name x pos) (.v i):=by
 rw[gA,gA]at h;let⟨k,e,hv⟩:=zgB h.1.2;show g_v i (fG h.1.1) ⟨e⟩ hv h.2
theorem gc{f k:Nat}{cm:Bool}{st:Stmt}{ps:List Str}(Fo:bZ X.prog X.w X.K X.mg X.base (eN X.prog X.w) cm k (fC X.K x) (fdOf X.K x st) ps (k_ X.K cA (F f)))(D:D3 X.K X.mg x st ps)(hr:aX k X.A)(R:JR X EX)(g:JK X x .globalImplicit)(ha:JA X cA aq aj F EX (e::es) Xs)(h:okN x=true:=by kernel_rfl)
  (iW:cm=true->X.aj=true:=by first|exact λ_=>rfl|exact λz=>nomatch z) (he:aF e=true:=by rfl) (cQ:es.all aF=true:=by rfl):JE X cA aq aj F EX (.Call (.Name x p) (e::es) [] pos) (.call f Xs):=
 znb f Fo iW hr D.m D.f.kp D.b R g ha h he cQ
theorem nd(h:decide X.N.Nodup=true:=by kernel_rfl):X.N.Nodup:=fG h
end
theorem fJ{P:Program}{w:World}{K:W.Frag}{mg:Str->Option Value}{base:Heap}{cA:Cl}{aq:Nat->Nat->Bool}{T:Nat->Option Df}{x:Str}{st:Stmt}{ps:List Str}{k n:Nat}{cm:Bool}{df:Df}(D:D3 K mg x st ps)(N:List Str)(hT:T n=some df)
  (hb:∀(cdv:Value) (A:Around) (outer:List Env) (s:Shared) (H:Hp) (E:XK),aX k (A.deeper (envOfC x (aA st) s.heap.objs.size (fC K x) cdv))->
   JB (dh (eN P w) P w K mg base N x (aA st) (fC K x) cdv A outer s H E cm) cA aq cm (λc=>call aq T k c) (λ_ C dx H'=>E C dx H') (aH st) df.body) (S:bR N ps (aA st):=by show⟨rfl,rfl,rfl,dk,rfl,dk,dk⟩) (hp:df.gW=ps.length:=by rfl) (hm:df.many=N.length:=by rfl) :
  bZ P w K mg base (eN P w) cm (k+1) (fC K x) (fdOf K x st) ps (k_ K cA (call aq T (k+1) cm n)):=ZP D.f S hT hp hm hb
end Mi
namespace L2
open PySem PySem.Spec PySem.Calls PyProof.Rows PySem.W
def eZ.tri{H:Hp}{l:List Value}(x:eZ H l):TriplesOk l:=by
 induction x with
 |nil=>trivial|cons l m c r _ _ ih=>show ih
def eZ.found{H:Hp}{pos:Pos}{cv:Value}{l:List Value}(x:eZ H l)(h:codeAmong pos l=some cv):∃c,cv=.ref c/\GoodC H c:=by
 induction x with
 |nil=>cases h|cons a b c r g _ ih=>
  unfold rawInt codeAmong at h;split at h
  .cases h;show⟨c,rfl,g⟩
  .exact ih h
structure vh(H H':Hp):Prop where
 kp:∀b o,H b=some o->(∀ps,o≠.lQ ps)->H' b=some o
 st:∀b o,H b=some o->∃o',H' b=some o'
theorem vh.refl{H:Hp}:vh H H:=⟨λ_ _ e _=>e,λ_ o e=>⟨o,e⟩⟩
def Kq(K:Frag)(mg:Str->Option Value):Prop:=∃bm ob,mg "__builtins__"=some (.ref bm)/\bm≠builtinsNs/\bm≠mainGlobals/\K.lookup bm=some ob/\ob.cls=.type "module"/\ob.dict=some builtinsNs/\ob.data=.plain
noncomputable abbrev lamO(params:Arguments)(body:Expr)(scope:Scope)(pm:Value)(c':Addr)(ctv:Value):Obj:=kla_obj "<lambda>" iQ params body scope [] pm c' ctv
section
variable {X:Cx}{ao:List (Addr×Obj)}{Z:St}{H:Hp}{s:Shared}{c P:Addr}{params:Arguments}{body:Expr}{scope:Scope}{pos:Pos}{E:Value->Shared->Prop}{Q:Value->Shared->Prop}
theorem Inv.Dp{H1:Hp}{s1:Shared}{fa:Addr}{o:Obj}(I:Inv X ao Z H1 s1)(h1:s1.heap.get? fa=some o)(h2:H1 fa=none)(h3:fa≠X.env.locals)(h4:fa∉X.fs)(h5:∀v,o.data≠.cell v):Inv X (ao++[(fa,o)]) Z H1 s1:=
 I.jG λp hp=>by
  rcases jN.mp hp with hp|hp
  .exact I.pin p (kJ _ hp)
  .rw[Ag.mp hp];show⟨h1,h2,h3,h4,h5⟩
def zh0(I:Inv X ao Z H s)(on:qK=true)(iu:X.env.code=.ref c)(hC:codeHdIn X.K c P=true)(hl:jQ X.K c P=true)(Ux:Kq X.K X.mg)(pY:closureFor scope X.env=pure [])(hq:X.env.qual++"<lambda>"=iQ)(vm:defaultsOf params X.env=([],[]))
  (k:∀fa c' ctv pm H1 s1,Inv X (ao++[(fa,lamO params body scope pm c' ctv)]) Z H1 s1->GoodC H1 c'->vh H H1->Q (.ref fa) s1) :
  wpAny (model X.prog X.w) X.A (eval (.Lambda params body scope pos) X.env) Q E s:=by
 let⟨ps,hP,hT⟩:=I.Bb on c P hl;let oP:s.heap.get? P=some (tabObj ps):=I.hok P _ hP;let⟨bm,ob,b1,b2,b3,b4,b5,b6,b7⟩:=Ux;let kb:s.heap.get? bm=some ob:=I.lR bm ob b4;let nb:H bm=none:=(I.bs bm ob (I.mod.wI bm ob b4)).2;let hg:=I.mod.glob.keeps I.bk;let ng:H mainGlobals=none:=by
  let⟨o,_,_,e,_⟩:=I.mod.glob;show(I.bs _ _ e).2
 let hgP:mainGlobals≠P:=λz=>by rw[z,hP]at ng;cases ng
 let hB:s.heap.BuiltinsAt X.mg P:=⟨bm,ob,b1,b2,b3,(λz=>by rw[z,hP]at nb;cases nb),kb,b5,b6,b7⟩;show kla_eval vm ?_;rw[hq];cases hf:codeAmong pos ps.toList with
 |some cv=>
  let⟨c',rfl,gc⟩:=hT.found hf;show kla_makeFunctionHit (mg:=X.mg) pY I.ok.glob hg iu (codeHd_of_K I.lR hC) oP hT.tri hf hB λctv h' tk hk hsz=>?_;let kp:∀b u,s.heap.get? b=some u->(h'.push (lamO params body scope ((X.mg "__name__").getD .none) c' ctv)).get? b=some u:=λb u e=>bW _ (hk b u e);let I1:=I.kept (t':=tk) kp;show k _ c' ctv _ H _ (I1.Dp (dU _ rfl) (I.hok.fresh hsz) (pL (fD I.lt hsz)) (I.wQ hsz) λv z=>by cases z) gc vh.refl
 |none=>
  show kla_makeFunction (mg:=X.mg) pY I.ok.glob hg iu (codeHd_of_K I.lR hC) oP hT.tri hf hgP hB λc' ctv h' tk hx hge cj Dq htb=>?_;let⟨c2,oc,vs,t,e2,Hw,hd,hv⟩:=Dq;cases e2;let nc:H c'=none:=I.hok.fresh hge;let ncP:c'≠P:=λz=>by rw[z,hP]at nc;cases nc
  let kp:∀b u,b≠P->s.heap.get? b=some u->(h'.push (lamO params body scope ((X.mg "__name__").getD .none) c' ctv)).get? b=some u:=λb u nb e=>bW _ (hx b u nb e);let nP:∀b,H b=none->b≠P:=λb e z=>by rw[z,hP]at e;cases e
  let old:∀b u,s.heap.get? b=some u->b≠c':=λb u e=>cR (fD (bK e) hge);let hP1:upd (upd H P (.lQ (ps++#[rawInt pos.line,rawInt pos.col,.ref c']))) c' (.nU oc (.own 0)) P=some (.lQ (ps++#[rawInt pos.line,rawInt pos.col,.ref c'])):=by rw[bN ncP.symm,h_]
  let ot:∀b u,H b=some u->(∀ps,u≠.lQ ps)->upd (upd H P (.lQ (ps++#[rawInt pos.line,rawInt pos.col,.ref c']))) c' (.nU oc (.own 0)) b=some u:=λb u e nt=>by
   rw[bN (wM e nc),bN λz=>by rw[z,hP]at e;cases e;show nt _ rfl];show e
  let gc:GoodC (upd (upd H P (.lQ (ps++#[rawInt pos.line,rawInt pos.col,.ref c']))) c' (.nU oc (.own 0))) c':=⟨oc,_,vs,t,h_,hd,hv⟩;let I1:Inv X ao Z (upd (upd H P (.lQ (ps++#[rawInt pos.line,rawInt pos.col,.ref c']))) c' (.nU oc (.own 0))) {s with heap:=h'.push (lamO params body scope ((X.mg "__name__").getD .none) c' ctv),toks:=tk}:=by
   show I.step (g':=s.gens) (d':=s.drawn) (ch:=[]) (λ_ z=>nomatch z) (λb o _ _ _ e n=>kp b o (nP b n) e) (λb o _ _ _ e n=>⟨o.slots,kp b o (nP b n) e⟩) (λb o _ e n=>by rw[bN (old b o e),bN (nP b n)];show n) (λb o _ e=>?_) (λb xs e=>ot b _ e λ_ z=>by cases z) (λb o u e=>ot b _ e λ_ z=>by cases z) (λb qs e=>?_) (λm hm=>?_) (λb u e=>?_) I.bare
   .by_cases z:b=P
    .exact⟨_,by rw[z];show bW _ htb⟩
    .exact⟨o,kp b o z e⟩
   .by_cases z:b=P
    .subst z;rw[hP]at e;cases e;show⟨_,hP1,eZ.cons _ _ c' _ gc .nil⟩
    .exact⟨#[],by rw[bN (wM e nc),bN z,e];simp,.nil⟩
   .obtain⟨o,es,ep,ho,r⟩:=hm;show⟨o,es,ep,kp _ o (nP _ I.free) ho,r⟩
   .by_cases z:b=c'
    .subst z;rw[h_]at e;cases e;show⟨bW _ Hw,⟨oc,bW _ Hw⟩⟩
    .rw[bN z]at e;by_cases y:b=P
     .subst y;rw[h_]at e;cases e;change (h'.push _).get? b=some _;show bW _ htb
     .rw[bN y]at e;show(I.hok b u e).stay (λa v ha q=>kp a v ?_ q) (λa q=>ot a _ q λ_ z=>by cases z) λa xs q=>ot a _ q λ_ z=>by cases z
      rcases ha with rfl|ha
      .exact y
      .intro z;rw[z,hP]at ha;cases ha
  show k _ c' ctv _ _ _ (I1.Dp (dU _ rfl) ?_ (pL (fD I.lt (rK (yO hge cj)))) (I.wQ (rK (yO hge cj))) λv z=>by cases z) gc ⟨ot,λb o e=>?_⟩
  .rw[bN (pL cj),bN (pL (fD (bK oP) (rK (yO hge cj))))];show I.hok.fresh (rK (yO hge cj))
  .by_cases z:b=P
   .rw[z];show⟨_,hP1⟩
   .exact⟨o,by rw[bN (wM e nc),bN z];show e⟩
end
section
variable {X:Cx}{ao:List (Addr×Obj)}{Z:St}{H:Hp}{s:Shared}{CX:rQ}{cm:Bool}{k:Nat}{fa c':Addr}{params:Arguments}{body:Expr}{scope:Scope}{pm ctv:Value}{N:List Str}{x:Str}{u:Value}{v:V}{t:TE}{Q:VK}
def zh1(I:Inv X ao Z H s)(hfo:s.heap.get? fa=some (lamO params body scope pm c' ctv))(gc:GoodC H c')(S:bR N [x] scope)(iW:cm=true->X.A.handled=none)(hr:X.A.depth<recursionLimit)(kE:∀u,bindArgs (kla_fn "<lambda>" iQ params body scope [] pm (.ref c') ctv) ⟨[u],[]⟩=pure [(x,u)])(rv:RelV v u)
  (hb:PE (dh CX X.prog X.w X.K X.mg X.base N iQ scope fa (.ref c') X.A X.stack s H (λ_ _ _=>False) cm) body t) (hq:t (start N [v]) H Q) (kY:∀e s',CX X.stack H s (λ_ _ _=>False) e s'->X.xe e s') :
  wpAny (model X.prog X.w) X.A (call (.ref fa) [u]) (EP X ao Z Q) X.xe s:=by
 let e0:=I.env0;let lim:s.heap.NoLimit:=I.nolimit;let⟨oc,w,vs,tq,g1,g2,g3⟩:=gc;let Dq:s.heap.CodeRec (.ref c') iQ:=⟨c',oc,vs,tq,rfl,(I.hok c' _ g1).1,g2,g3⟩;let uq:∀y∈[(x,u)],scope.names.lookup y.1=some .local\/(scope.names.lookup y.1=some .cell/\((cellsFrom (s.heap.objs.size+1) scope.names []).lookup y.1).isSome=true):=λy hy=>by
  rw[Ag.mp hy];rcases S.par x RQ with q|q
  .exact .inl q
  .exact .inr ⟨q,Lp _ _ _ (.inl q)⟩
 show Ep (yS (R:=CR CX X.stack X.prog X.w H s Q λ_ _ _=>False) (kla_callFunE hr hfo rfl S.co S.gen rfl Dq ?_) λr s' hq=>?_)
 .rw[kE];show aJ ?_;show wpAny_newFunctionEnv_cells S.kind uq λenv he s1 y=>?_;subst he;show⟨lim.keeps y.toInCall.keep,kla_codeExpr ?_⟩;let I1:Inv (dh CX X.prog X.w X.K X.mg X.base N iQ scope fa (.ref c') X.A X.stack s H (λ_ _ _=>False) cm) [] (start N [v]) H s1:=Xp S iW e0 rfl (.cons rv .nil) y;show fK (hb [] s1 (start N [v]) H _ I1 hq) (λu' s' hs=>?_) λe s' hs=>hs;let⟨v',H',aW,rv',q⟩:=hs;show⟨v',H',aW.os,aW.bare,aW.base,aW.hok,rv',q⟩
 .cases r with
  |error e=>show kY e s' hq|ok fl=>
   cases fl with
   |ret u=>show I.after hq|next=>show False.elim hq|brk=>show False.elim hq|cont=>show False.elim hq
end
section
variable {X:Cx}{ao:List (Addr×Obj)}{Z:St}{H:Hp}{s:Shared}{E:Value->Shared->Prop}{fa D:Addr}{fo:Obj}{ys:List V}{its:List Value}{kz:List Int}{lt:Nat->Nat->Option Bool}{p:Array Nat}
theorem Inv.apart{a:Addr}(I:Inv X ao Z H s)(h:s.heap.objs.size<=a):a≠X.env.locals/\a∉X.fs/\(a∈X.ex\/X.s₀.heap.objs.size<=a)/\(∀x c,X.env.cells.lookup x=some c->c≠a)/\∀p∈X.pn++ao,p.1≠a:=
 ⟨pL (fD I.lt h),I.wQ h,.inr (jO I.sz h),λx c e=>by
  let⟨v,o,ho,_⟩:=I.cell x c e;show cR (fD (bK ho) h),λp hp=>cR (fD (bK (I.pin p hp).1) h)⟩
structure Own(X:Cx)(ao:List (Addr×Obj))(a:Addr):Prop where
 hL:a≠X.env.locals
 hf:a∉X.fs
 h1:a∈X.ex\/X.s₀.heap.objs.size<=a
 h2:∀x c,X.env.cells.lookup x=some c->c≠a
 h3:∀p∈X.pn++ao,p.1≠a
theorem Inv.own{a:Addr}(I:Inv X ao Z H s)(h:s.heap.objs.size<=a):Own X ao a:=let ⟨a1,a2,a3,a4,a5⟩:=I.apart h;⟨a1,a2,a3,a4,a5⟩
theorem Own.set{a:Addr}{h':Heap}{t':Nat}(o:Own X ao a)(hn:H a=none)(I:Inv X ao Z H s)(k:∀b o,b≠a->s.heap.get? b=some o->h'.get? b=some o):Inv X ao Z H {s with heap:=h',toks:=t'}:=I.turned k hn o.hL o.h1 o.h2 o.h3
theorem Own.pin{a:Addr}{u:Obj}(o:Own X ao a)(hn:H a=none)(I:Inv X ao Z H s)(h:s.heap.get? a=some u)(d:∀v,u.data≠.cell v):Inv X (ao++[(a,u)]) Z H s:=I.Dp h hn o.hL o.hf d
noncomputable abbrev Cx.Dr(X:Cx):Cx:=X.seen X.A.in1.in1 X.aj X.pn λ_ _=>False
theorem Inv.Dr(I:Inv X ao Z H s):Inv X.Dr ao Z H s:=I.seen rfl (λz=>I.ok.hd z) λ_ z=>z
theorem Inv.Uy(I:Inv X.Dr ao Z H s)(aW:X.aj=true->X.A.handled=none):Inv X ao Z H s:=I.BK rfl aW λ_ z=>z
def Kr(X:Cx)(Z:St)(G:Hp->Prop)(fa:Addr)(fo:Obj)(ys:List V)(kz:List Int):Prop:=
 ∀(i:Nat) (v:V) (k:Int),ys[i]?=some v->kz[i]?=some k->∀(H:Hp) (ps:List (Addr×Obj)) (s':Shared) (u:Value),G H->Inv X.Dr ps Z H s'->(fa,fo)∈ps->RelV v u->
  wpAny (model X.prog X.w) X.A.in1.in1 (call (.ref fa) [u]) (EP X.Dr ps Z λv' H'=>v'=.int k/\G H') (λ_ _=>False) s'
def zey{kS:Addr}{keys:Array Value}{e e1:Nat}{st:SortSt}{A:Around}{P:PySem.Fin->Shared->Prop}{out:Array Value}(oD:Own X ao D)(oK:Own X (ao++[(D,seqObj "list" #[] e1)]) kS)
  (I:Inv X (ao++[(D,seqObj "list" #[] e1)]++[(kS,seqObj "list" keys e)]) Z H s) (hz:keys.size<=100) (ho:out.size<=100) (hs:(arrOf st).map (·.2)=out) (hf:failedOf st=none)
  (h:∀s' c,Inv X ao Z H s'->H D=none->s'.heap.get? D=some (seqObj "list" out c)->P (.done (.ret .none)) s') :
  wpAny (model X.prog X.w) A (ksk_tail D false e1 (.ref kS) st) P E s:=by
 let hl:(100:Nat)<=sizeLine:=by decide
 let⟨nk,Uz,_⟩:=I.pin (kS,seqObj "list" keys e) RQ;let⟨nd,Ks,_⟩:=I.pin (D,seqObj "list" #[] e1) RQ;let nDK:D≠kS:=oK.h3 (D,seqObj "list" #[] e1) RQ;let I1:Inv X (ao++[(D,seqObj "list" #[] e1)]) Z H {s with heap:=s.heap.update kS (Obj.mapSeq λ_=>(#[]:Array Value))}:=oK.set (t':=s.toks) Uz I.bV λb o nb q=>(yK _ _ _ _ nb).trans q;let UG:(s.heap.update kS (Obj.mapSeq λ_=>(#[]:Array Value))).get? D=some (seqObj "list" #[] e1):=(yK _ _ _ _ nDK).trans nd;obtain⟨c2,nG⟩ : ∃c2,((s.heap.update kS (Obj.mapSeq λ_=>(#[]:Array Value))).update D (Obj.mapSeq λ_=>out)).get? D=some (seqObj "list" out c2):=⟨_,get?_update_seq UG λ_=>out⟩;unfold ksk_tail
 try dsimp only
 show aB (Ao nk rfl ?_ gV (rM _));show aB (yU ?_);show aB (seqEpoch_at UG rfl ?_);rw[hs];show aB (Ao UG rfl ?_ (rM _) (by simp only[rH,nO];lia));rw[hf];simp only[P0,rH,nO];show aJ (h _ c2 ?_ Ks nG);show Own.set (s:={s with heap:=s.heap.update kS (Obj.mapSeq λ_=>(#[]:Array Value))}) (h':=(s.heap.update kS (Obj.mapSeq λ_=>(#[]:Array Value))).update D (Obj.mapSeq λ_=>out)) (t':=s.toks) oD Ks I1.bV λb o nb q=>(yK _ _ _ _ nb).trans q
def zjR{kS:Addr}{keys:Array Value}{e e1:Nat}{A:Around}{P:PySem.Fin->Shared->Prop}(oD:Own X ao D)(oK:Own X (ao++[(D,seqObj "list" #[] e1)]) kS)
  (I:Inv X (ao++[(D,seqObj "list" #[] e1)]++[(kS,seqObj "list" keys e)]) Z H s) (hk:IntsAre keys.toList kz) (hlen:kz.length=its.length) (nH:its.length<64)
  (cj:∀i j b,lt i j=some b->∃x y,kz[i]?=some x/\kz[j]?=some y/\b=decide (x<y)) (hr:2<=its.length->bf lt (kas_sort its.length)=some p/\p.size=its.length)
  (h:∀s' c,Inv X ao Z H s'->H D=none->s'.heap.get? D=some (seqObj "list" (dj its p) c)->P (.done (.ret .none)) s') :
  wpAny (model X.prog X.w) A (ksk_end D false its.toArray e1 (.ref kS) keys) P E s:=by
 let hkl:=hk.length;rw[pH]at hkl;let hsz:its.toArray.size=its.length:=by simp
 unfold ksk_end
 try dsimp only
 simp only[rH,nO];by_cases h2:its.toArray.size<2
 .rw[if_pos h2,if_pos h2];show aB (aJ ?_);rw[StateT.run_pure];show aB (aJ ?_)
  try dsimp only
  show zey (out:=dj its p) oD oK I gV ?_ ?_ rfl h
  .unfold dj;rw[if_pos gV];simp;lia
  .unfold dj;rw[if_pos gV];apply Array.toList_inj.mp;change ((keys.zip its.toArray).map (·.2)).toList=_;rw[Array.toList_map,ksk_zip];let:keys.toList.length=keys.size:=pH;show List.map_snd_zip gV
 .rw[if_neg h2,if_neg h2];let lV:2<=its.length:=by lia
  let⟨hr,xM⟩:=hr lV;let ek:keys=keys.toList.toArray:=by rw[PJ]
  rw[ek];show aB (Yk (by rw[pH];lia) (λu hu=>?_) ?_)
  .obtain⟨n,t,e⟩:=hk.all u hu;show⟨n,t,e⟩
  show aB (fK (kat_run (κ:=oneType') (ks:=keys.toList) (vs:=its) (G:=λp' s'=>p'=p/\s'=s)
   (Q:=λst' s'=>arrOf st'=p.map (kas_item (keys.toList.toArray.zip its.toArray))/\failedOf st'=none/\s'=s)
   (by rw[pH];lia) lV nH (λp' st' s' a1 a2 a3 a4=>⟨by rw[a2,a4.1],a3,a4.2⟩) (RN (λi j b C hl hC=>?_) ⟨rfl,rfl⟩ hr)) ?_ λ_ _ e=>e)
  .obtain⟨x,y,e1,e2,rfl⟩:=cj i j b hl;let⟨t1,f1⟩:=hk.get i x e1;let⟨t2,f2⟩:=hk.get j y e2;change wpAny _ _ (keyLt' oneType' (keys.toList.getD i Value.none) (keys.toList.getD j Value.none)) C _ s;rw[Fb f1,Fb f2];show kat_lt_int hC
  .rintro⟨⟨⟩,st'⟩ s' ⟨E_,hf,rfl⟩
   try dsimp only
   let hout:=kat_snds (ks:=keys.toList) (vs:=its) (by rw[pH];lia) E_;let e:List.toArray (p.toList.map λi=>its.getD i Value.none)=dj its p:=by
    unfold dj;rw[if_neg gV]
   rw[e]at hout;let Yh:(dj its p).size=its.length:=by rw[<-e,eE,cO,pH,xM]
   show zey (out:=dj its p) oD oK I gV gV hout hf h
def zhG{G:Hp->Prop}{n:Nat}{P:PySem.Fin->Shared->Prop}(I:Inv X ao Z H s)(g:G H)(oD:Own X ao D)(Ks:H D=none)(ho:s.heap.get? D=some (seqObj "list" its.toArray n))(Ds:(fa,fo)∈ao)(rv:Vals ys its)(hlen:kz.length=ys.length)(nH:ys.length<64)(K:Kr X Z G fa fo ys kz)
  (cj:∀i j b,lt i j=some b->∃x y,kz[i]?=some x/\kz[j]?=some y/\b=decide (x<y)) (hr:2<=ys.length->bf lt (kas_sort ys.length)=some p/\p.size=ys.length)
  (h:∀H' s' c,G H'->Inv X ao Z H' s'->H' D=none->s'.heap.get? D=some (seqObj "list" (dj its p) c)->P (.done (.ret .none)) s') :
  wpAny (model X.prog X.w) X.A.in1.in1 (ksk_tree D (.ref fa) false) P E s:=by
 let hl:(100:Nat)<=sizeLine:=by decide
 let hil:=rv.length;let hD:D<s.heap.objs.size:=bK ho;obtain⟨e1,BW⟩ : ∃e1,(s.heap.update D (Obj.mapSeq λ_=>(#[]:Array Value))).get? D=some (seqObj "list" #[] e1):=⟨_,get?_update_seq ho λ_=>#[]⟩;let hkS:((s.heap.update D (Obj.mapSeq λ_=>(#[]:Array Value))).push (seqObj "tuple" its.toArray 0)).objs.size=s.heap.objs.size+1:=by rw[size_push',GC]
 let Gd:Own X ao (s.heap.objs.size+1):=I.own (wG _);let Uz:H (s.heap.objs.size+1)=none:=I.hok.fresh (wG _);let oK:Own X (ao++[(D,seqObj "list" #[] e1)]) (s.heap.objs.size+1):=⟨Gd.hL,Gd.hf,Gd.h1,Gd.h2,λq hq=>by
  rcases jN.mp hq with hq|hq
  .exact Gd.h3 q (Ac _ hq)
  .rcases jN.mp hq with hq|hq
   .exact Gd.h3 q (kJ _ hq)
   .rw[Ag.mp hq];show cR (tG hD)⟩
 let kp:∀b o,b≠D->s.heap.get? b=some o->(((s.heap.update D (Obj.mapSeq λ_=>(#[]:Array Value))).push (seqObj "tuple" its.toArray 0)).push (seqObj "list" #[] 0)).get? b=some o:=λb o nb q=>
  bW _ (bW _ ((yK _ _ _ _ nb).trans q))
 unfold ksk_tree;show aB (listItems_at ho rfl ?_);show aB (Ao ho rfl ?_ (by rw[eE];lia) (rM _));show aB (seqEpoch_at BW rfl ?_);show aB (wpAny_newTuple ?_ (by change its.length<=_;lia));show aB (GK ?_ (rM _));show pB ?_;rw[hkS];let I3:Inv X (ao++[(D,seqObj "list" #[] e1)]++[(s.heap.objs.size+1,seqObj "list" #[] 0)]) Z H {s with heap:=((s.heap.update D (Obj.mapSeq λ_=>(#[]:Array Value))).push (seqObj "tuple" its.toArray 0)).push (seqObj "list" #[] 0)}:=by
  let aW:=oD.set (t':=s.toks) Ks I kp;let UJ:=oD.pin Ks aW (bW _ (bW _ BW)) λv z=>by cases z
  show oK.pin Uz UJ (by rw[<-hkS];show dU _ rfl) λv z=>by cases z
 change wpAny (model X.prog X.w) X.A.in1.in1 (ksk_rest D (.ref fa) false its.toArray e1 (.ref (s.heap.objs.size+1))) P E _;unfold ksk_rest;show aB (yV ?_)
 first
  |rw[List.forIn_toArray]
  |(rw[<-Lw];simp only[List.toList_toArray])
 show aB (ksk_fold (λi s'=>∃(H':Hp) (kA:Array Value) (e:Nat),G H'/\Inv X (ao++[(D,seqObj "list" #[] e1)]++[(s.heap.objs.size+1,seqObj "list" kA e)]) Z H' s'/\IntsAre kA.toList (kz.take i)) its 0 _
  ⟨H,#[],0,g,I3,by simpa using IntsAre.nil⟩ ?step ?done)
 case step=>
  rintro j x s' hx ⟨H1,kA,e,g1,I',hk⟩;simp only[Nat.zero_add]at hk ⊢;let hj:j<its.length:=(dI.mp hx).1;obtain⟨k,hkj⟩ : ∃k,kz[j]?=some k:=⟨_,dz gV⟩;obtain⟨v,hv⟩ : ∃v,ys[j]?=some v:=⟨_,dz gV⟩;let⟨u,hu,rvu⟩:=rv.get hv;rw[hx]at hu;cases hu;let hz:kA.size<=64:=by
   let h1:=hk.length;rw[pH,tH]at h1
   lia
  show aB (El (fK (K j v k hv hkj H1 _ s' x g1 I'.Dr (by simp[Ds]) rvu) (λw s2 he=>?_) λ_ _ hF=>hF.elim));let⟨v',H2,aW,rv',rfl,g2⟩:=he;let⟨t2,rfl⟩:=rv';let aW:=aW.Uy I'.ok.hd
  try dsimp only
  let⟨nk,Ku,_⟩:=aW.pin (s.heap.objs.size+1,seqObj "list" kA e) RQ;obtain⟨c2,nG⟩ : ∃c2,(s2.heap.update (s.heap.objs.size+1) (Obj.mapSeq (·.push (.int k t2)))).get? (s.heap.objs.size+1)=some (seqObj "list" (kA.push (.int k t2)) c2):=⟨_,get?_update_seq nk (·.push (.int k t2))⟩;let ek:kz.take (j+1)=kz.take j++[k]:=by rw[List.take_add_one,hkj];simp
  let ea:(kA.push (Value.int k t2)).toList=kA.toList++[Value.int k t2]:=by simp
  show aB (Ao nk rfl ?_ gV (jO (Nat.le_of_eq (Array.size_push ..)) gV));show aJ ⟨rfl,H2,kA.push (.int k t2),c2,g2,?_,by rw[ea,ek];show ksk_snoc hk⟩;show oK.pin Ku (oK.set (t':=s2.toks) Ku aW.bV λb o nb q=>(yK _ _ _ _ nb).trans q) nG λv z=>by cases z
 case done=>
  rintro s' ⟨H1,kA,e,g1,I',hk⟩;let FW:IntsAre kA.toList kz:=by
   let e3:kz.take (0+its.length)=kz:=Px gV;rw[e3]at hk;show hk
  let nk:=(I'.pin (s.heap.objs.size+1,seqObj "list" kA e) RQ).1
  try dsimp only
  show aB (listItems_at nk rfl ?_);show zjR oD oK I' FW gV gV cj (by rw[<-hil];show hr) λs' c=>h H1 s' c g1
def zfZ{G:Hp->Prop}{l:Addr}{Q:VK}(I:Inv X (ao++[(fa,fo)]) Z H s)(g:G H)(hq:cP X.K H l ys)(hlen:kz.length=ys.length)(nH:ys.length<64)(K:Kr X Z G fa fo ys kz)
  (cj:∀i j b,lt i j=some b->∃x y,kz[i]?=some x/\kz[j]?=some y/\b=decide (x<y)) (hr:2<=ys.length->bf lt (kas_sort ys.length)=some p/\p.size=ys.length)
  (q:∀H' r,G H'->H' r=none->Q (.ref r) (upd H' r (.lst (fB ys p)))) :
  wpAny (model X.prog X.w) X.A (call (.builtin "sorted") [.ref l] [(Str.ofString "key",.ref fa)]) (EP X ao Z Q) E s:=by
 let hl:(100:Nat)<=sizeLine:=by decide
 let⟨its,rv,pl,hz⟩:=I.list hq;let hil:=rv.length;show call_function_entry_kw kind_sorted plain_sorted entry_sorted (ksk_s1 _ _) ?_;unfold Builtin.«sorted»;show aB (m:=checkCount "sorted" 1 1 _) (aJ ?_);show aB (collect_list pl.isList ?_ gV);show aB (GK ?_ (by change its.length<=_;lia));let hsz:((s.heap.push (seqObj "list" #[] 0)).update s.heap.objs.size (Obj.mapSeq (·++its.toArray))).objs.size=s.heap.objs.size+1:=by
  rw[GC,size_push']
 let Bf:(((s.heap.push (seqObj "list" #[] 0)).update s.heap.objs.size (Obj.mapSeq (·++its.toArray))).push (seqObj "list" its.toArray 0)).get? (s.heap.objs.size+1)=some (seqObj "list" its.toArray 0):=by
  rw[<-hsz];show dU _ rfl
 let keep:∀b o,s.heap.get? b=some o->(((s.heap.push (seqObj "list" #[] 0)).update s.heap.objs.size (Obj.mapSeq (·++its.toArray))).push (seqObj "list" its.toArray 0)).get? b=some o:=λb o q=>by
  let cj:b<s.heap.objs.size:=bK q;rw[D_ _ _ _ (by rw[hsz];show cR (tG cj)),yK _ _ _ _ (cR cj),D_ _ _ _ (cR cj)];show q
 change wpAny _ _ _ _ _ {s with heap:=((s.heap.push (seqObj "list" #[] 0)).update s.heap.objs.size (Obj.mapSeq (·++its.toArray))).push (seqObj "list" its.toArray 0)};rw[hsz];let oD:Own X (ao++[(fa,fo)]) (s.heap.objs.size+1):=I.own (wG _);let I1:=I.kept (t':=s.toks) keep;show aB (pB (wpAny_call_entry_kw slot_list_sort ⟨_,Bf,rfl⟩ entry_list_sort ?body (ksk_l1 _ _)));change wpAny (model X.prog X.w) X.A.in1.in1 (Builtin.«list.sort» ⟨[.ref (s.heap.objs.size+1)],[(Str.ofString "key",.ref fa)]⟩) _ _ _;rw[ksk_t1];show zhG (n:=0) I1 g oD (I.hok.fresh (wG _)) Bf RQ rv hlen nH K cj hr λH' s' c g' aW Mv hc=>⟨_,rfl,?_⟩;show aJ ⟨_,rfl,.ref (s.heap.objs.size+1),upd H' (s.heap.objs.size+1) (.lst (fB ys p)),?_,rfl,q H' _ g' Mv⟩;let hn:X.s₀.heap.get? (s.heap.objs.size+1)=none:=DQ (jO I.sz (wG _));show aW.bV.track hn Mv (λp hp=>oD.h3 p (by
  rcases jN.mp hp with z|z
  .exact Ac _ z
  .exact kJ _ (Ac _ z))) oD.hL oD.h2 ⟨?_,(dj its p).toList,c,Yj rv p,by rw[PJ];show hc⟩
 unfold fB;by_cases h2:ys.length<2
 .rw[if_pos h2];show hz
 .rw[if_neg h2,cO,pH,(hr gV).2];show hz
end
end L2
namespace Mi
open PySem PySem.Spec PyProof.Rows L2 PySem.W
section
variable {K:Frag}{cA:Cl}{U U1:Ph}{H H':Hp}{s:S}
def Kv(hS:aD K cA U H s)(x:Ext ⟨U.z,[]⟩ H U1 H')(r1:aD K cA U1 H' []):Ext U H ⟨U1.z,U.l⟩ H'/\aD K cA ⟨U1.z,U.l⟩ H' s:=by
 show⟨⟨⟨[],by simp,by simp⟩,λa h=>x.qg a h,λa h=>x.j8 a h,λa o h t n=>x.frame a o h t RQ,x.stay⟩,?_⟩;show⟨hS.len,λn o a e1 e2=>(hS.obj n o a e1 e2).map (λ_ t q=>x.frame a _ q t RQ) λ_ _ r=>Rep.zl ((Rep.zl r []).mono x λa ha=>by simp at ha) _,hS.uniq,λa ha=>x.qg a (hS.lz a ha),r1.zt⟩
theorem zjv(t:vh H H'):Ext ⟨U.z,[]⟩ H ⟨U.z,[]⟩ H':=
 ⟨⟨[],by simp,by simp⟩,λ_ h=>h,λ_ h=>.inl h,λa o h nt _=>t.kp a o h λps e=>by rw[e]at nt;show nt,t.st⟩
theorem Kw(z:∀a,U.z a->∃o,H a=some o):aD K cA ⟨U.z,[]⟩ H []:=⟨rfl,λn o a e=>by simp at e,Al,λa h=>by simp at h,z⟩
theorem zeF{f:D->M Xv}:∀{xs:List D} {ks:List Int},jY f xs=some ks->ks.length=xs.length/\∀(i:Nat) d k,xs[i]?=some d->ks[i]?=some k->f d []=some (.ok (.d (.int k)),[])
 |[],ks,h=>by
  cases h;show⟨rfl,λi d k e=>by simp at e⟩
 |x::r,ks,h=>by
  unfold jY at h;split at h
  .rename_i k e;let⟨ks',e1,rfl⟩:=mF.mp h;let⟨l,q⟩:=zeF e1;show⟨by simp[l],λi d k' ed ek=>?_⟩;cases i with
   |zero=>simp at ed ek;subst ed ek;show e|succ i=>show q i d k' (by simpa using ed) (by simpa using ek)
  .cases h
end
section
variable {X:Cx}{cA:Cl}{aq:Nat->Nat->Bool}{aj:Bool}{F:Fn}{EX:XS}{a:Expr}{A B:E}{fz:Bool}{k:Nat}{c P:Addr}{params:Arguments}{body:Expr}{scope:Scope}{x:Str}{p pos yC kpos:Pos}
def zgW(on:qK=true)(hc:X.aj=true)(iu:X.env.code=.ref c)(hC:codeHdIn X.K c P=true)(hl:jQ X.K c P=true)(Ux:Kq X.K X.mg)(pY:closureFor scope X.env=pure [])(hq:X.env.qual++"<lambda>"=iQ)(vm:defaultsOf params X.env=([],[]))
  (Sc:bR [x] [x] scope) (hr:aX k X.A) (kE:∀pm c' ctv u,bindArgs (kla_fn "<lambda>" iQ params body scope [] pm (.ref c') ctv) ⟨[u],[]⟩=pure [(x,u)])
  (hm:X.mg "sorted"=none) (hg:Gl X "sorted") (ha:SE X cA aq aj F EX a A)
  (hb:∀fa c' s' H',SE (dh (eN X.prog X.w) X.prog X.w X.K X.mg X.base [x] iQ scope fa (.ref c') X.A.in1.in1 X.stack s' H' (λ_ _ _=>False) true) cA aq aj F (λ_ _ _ _=>False) body B)
  (he:starEach [a] X.env=(false,eval a X.env)::starEach [] X.env:=by rfl) :
  SE X cA aq aj F EX (.Call (.Name "sorted" p) [a] [⟨some "key",.Lambda params body scope yC,kpos⟩] pos) (.qT fz A B):=by
 intro ao s Z H Q I hh;let⟨U,J,st,hL,hS,h⟩:=hh;cases aj with
 |false=>show h.elim|true=>
 let h:Run X.K cA (M.bd (ev aq true F A J) λx=>match x with
   |.d (.fl xs)=>M.bd (M.opt (jY (λd=>ev aq true F B [some (.d d)]) xs)) λks=>M.bd (M.opt (jg (zE ks) xs)) λys=>newL fz ys|_=>M.no) U H st _ _:=h
 show Ae (vM I hg hm Z9 ?_ J0 J0);show callWith_kw (e:=a) (rest:=[]) ?_ (by rw[he];rfl) (by rw[he];rfl);let PAa:PA X [a] (zu (tE X.K cA EX (ev aq true F A)) Ie):=rP ha wZ he;show aO (PAa pos ao s Z H (λvs H1=>∃v U1 d st1,vs=[v]/\aR X.K cA U1 H1 Z J/\aD X.K cA U1 H1 st1/\aN X.K cA U1 H1 d v/\Run X.K cA ((λx:Xv=>match x with
   |.d (.fl xs)=>M.bd (M.opt (jY (λd=>ev aq true F B [some (.d d)]) xs)) λks=>M.bd (M.opt (jg (zE ks) xs)) λys=>newL fz ys|_=>M.no) d) U1 H1 st1 (λd _ U' H'=>∀v,aN X.K cA U' H' d v->Q v H') (eX X.K cA EX Z)) I ?_) λus s1 hx=>?_
 .exact aV hL hS h λv H1 U1 d st1 x1 hL1 aG r1 h2=>⟨v,U1,d,st1,rfl,hL1,aG,r1,h2⟩
 let⟨vs0,H1,I1,rvs,v,U1,d,st1,rfl,hL1,aG,r1,h2⟩:=hx;let⟨u,rfl,ru⟩:=vals1 rvs;let key:∃xs,d=.d (.fl xs):=by
  cases d with
  |l n=>show h2.elim|d d=>cases d<;>first|exact⟨_,rfl⟩|exact h2.elim
 let⟨xs,rfl⟩:=key;let h2:Run X.K cA (M.bd (M.opt (jY (λd=>ev aq true F B [some (.d d)]) xs)) λks=>M.bd (M.opt (jg (zE ks) xs)) λys=>newL fz ys) U1 H1 st1 (λd _ U' H'=>∀v,aN X.K cA U' H' d v->Q v H') (eX X.K cA EX Z):=h2;let⟨ks,ek,h3⟩:=h2.m9;let⟨zs,ez,h4⟩:=h3.m9;let⟨kl,kf⟩:=zeF ek;cases r1 with
 |d r1=>
 cases r1 with
 |@fl _ l vs hl1 rs=>
 cases ru;let hlen:=rs.len;obtain⟨pp,hp2,nH,hz⟩ : ∃pp:Array Nat,(2<=vs.length->bf (zE ks) (kas_sort vs.length)=some pp/\pp.size=vs.length)/\vs.length<64/\∀{U':Ph} {H':Hp},aC X.K cA U' H' xs vs->aC X.K cA U' H' zs (fB vs pp):=by
  unfold jg at ez;by_cases c2:xs.length<2
  .rw[if_pos c2]at ez;cases ez;show⟨#[],λz=>absurd z gV,by lia,λr=>?_⟩;let:fB vs #[]=vs:=by unfold fB;rw[if_pos gV]
   rw[this];show r
  .rw[if_neg c2]at ez;by_cases c3:xs.length<64
   .rw[if_pos c3]at ez;cases e:bf (zE ks) (PySem.W.kas_sort xs.length) with
    |none=>rw[e]at ez;cases ez|some q=>
     rw[e]at ez;dsimp only at ez;by_cases hq:q.size=xs.length
     .rw[if_pos hq]at ez;cases ez;show⟨q,λ_=>⟨by rw[<-hlen];show e,by lia⟩,by lia,λr=>?_⟩;let:fB vs q=q.toList.map λi=>vs.getD i .non:=by unfold fB;rw[if_neg gV]
      rw[this];show r.CW q.toList
     .rw[if_neg hq]at ez;cases ez
   .rw[if_neg c3]at ez;cases ez
 change wpAny _ _ (evalAll [do let v <-eval (.Lambda params body scope yC) X.env;standAt pos;pure v]) _ _ s1;show wpAny_evalAll_cons (aB (zh0 I1 on iu hC hl Ux pY hq vm λfa c' ctv pm H2 s2 I2 gc tx=>aB (tW (aJ (wpAny_evalAll_nil ?_)))));let x2:Ext ⟨U1.z,[]⟩ H1 ⟨U1.z,[]⟩ H2:=zjv tx;let r2:aD X.K cA ⟨U1.z,[]⟩ H2 []:=Kw λa z=>by let⟨o,e⟩:=aG.zt a z;show tx.st a o e
 show zfZ (G:=λH3=>∃U3,Ext ⟨U1.z,[]⟩ H2 U3 H3/\aD X.K cA U3 H3 []) (fo:=lamO params body scope pm c' ctv) (ys:=vs) (kz:=ks) (lt:=zE ks) (p:=pp) I2 ⟨_,Ext.refl,r2⟩ (LstAt.sI (LstAt.mono (U:=⟨U1.z,[]⟩) x2 (λa ha=>by simp at ha) hl1)) gV nH (λi v k' hv hk H3 ps s' u g3 aW Ds rv=>?_) (λi j b e=>?_) hp2 λH' r g3 hn=>?_
 .obtain⟨U3,x3,r3⟩:=g3;obtain⟨d,ed⟩ : ∃d,xs[i]?=some d:=by
   cases e:xs[i]? with
   |none=>rw[rs.none e]at hv;cases hv|some d=>show⟨d,rfl⟩
  let⟨v2,ev2,rd⟩:=rs.get ed;rw[hv]at ev2;cases ev2;let ef:=kf i d k' ed hk;let rd3:Rep X.K cA U3 H3 d v:=((Rep.zl rd []).mono x2 λa ha=>by simp at ha).mono x3 λa ha=>by simp at ha
  let⟨oc,w,ws,tq,g1,g2,g4⟩:=gc;let gc3:GoodC H3 c':=⟨oc,w,ws,tq,x3.frame c' _ g1 trivial RQ,g2,g4⟩;show zh1 (X:=X.Dr) (CX:=eN X.prog X.w) (cm:=true) aW (aW.pin _ (kJ _ Ds)).1 gc3 Sc (λ_=>aW.ok.hd hc) hr.depth (kE pm c' ctv) rv (hb fa c' s' H3) ?_ (λe s' z=>by let⟨_,_,_,_,_,_,_,_,_,_,z⟩:=z;show z);show⟨U3,[some (.d d)],[],⟨rfl,λj y e=>?_⟩,r3,?_⟩
  .cases j with
   |zero=>simp at e;subst e;show⟨v,rfl,.d rd3⟩|succ j=>simp at e
  .unfold Run;rw[ef];intro U' H' x' r' v' rv';cases rv' with
   |d rv'=>
    cases rv';show⟨rfl,U',x3.trans x',r'⟩
 .unfold zE at e;cases e1:ks[i]? with
  |none=>rw[e1]at e;cases e|some a=>
   cases e2:ks[j]? with
   |none=>rw[e1,e2]at e;cases e|some b'=>
    rw[e1,e2]at e;cases e;show⟨a,b',rfl,rfl,rfl⟩
 .obtain⟨U3,x3,r3⟩:=g3;let⟨xe,re⟩:=Kv aG (x2.trans x3) r3;let rs3:aC X.K cA ⟨U3.z,U1.l⟩ H' xs vs:=rs.mono xe aG.lz;show Yt re (h4.ext xe) r _ hn (hz rs3)
end
structure JL(X:Cx):Prop where
 ex:∃c P,X.env.code=.ref c/\codeHdIn X.K c P=true/\jQ X.K c P=true/\Kq X.K X.mg
structure Dt(K:Frag)(mg:Str->Option Value)(fd:FuncData):Prop where
 ex:∃c P,fd.code=.ref c/\codeHdIn K c P=true/\jQ K c P=true/\Kq K mg
section
variable {X:Cx}{cA:Cl}{aq:Nat->Nat->Bool}{aj:Bool}{F:Fn}{EX:XS}{a:Expr}{A B:E}{fz:Bool}{k:Nat}{params:Arguments}{body:Expr}{scope:Scope}{p pos yC kpos:Pos}
def ziY(x:Str)(L:JL X)(hr:aX k X.A)(hc:X.aj=true)(hm:X.mg "sorted"=none)(hg:JK X "sorted" .globalImplicit)(ha:JE X cA aq aj F EX a A)
  (hb:∀fa c' s' H',JE (dh (eN X.prog X.w) X.prog X.w X.K X.mg X.base [x] iQ scope fa (.ref c') X.A.in1.in1 X.stack s' H' (λ_ _ _=>False) true) cA aq aj F (λ_ _ _ _=>False) body B)
  (pY:closureFor scope X.env=pure []:=by rfl) (hq:X.env.qual++"<lambda>"=iQ:=by kernel_rfl) (vm:defaultsOf params X.env=([],[]):=by rfl)
  (kE:∀pm c' ctv u,bindArgs (kla_fn "<lambda>" iQ params body scope [] pm (.ref c') ctv) ⟨[u],[]⟩=pure [(x,u)]:=by intros;rfl)
  (Sc:bR [x] [x] scope:=by show⟨rfl,rfl,rfl,dk,rfl,dk,dk⟩) (he:starEach [a] X.env=(false,eval a X.env)::starEach [] X.env:=by rfl) (on:qK=true:=by rfl) :
  JE X cA aq aj F EX (.Call (.Name "sorted" p) [a] [⟨some "key",.Lambda params body scope yC,kpos⟩] pos) (.qT fz A B):=by
 let⟨c,P,l1,l2,l3,l4⟩:=L.ex;show⟨zgW on hc l1 l2 l3 l4 pY hq vm Sc hr kE hm hg.o ha.o (λfa c' s' H'=>(hb fa c' s' H').o) he⟩
end
def fJL{P:Program}{w:World}{K:Frag}{mg:Str->Option Value}{base:Heap}{cA:Cl}{aq:Nat->Nat->Bool}{T:Nat->Option Df}{x:Str}{st:Stmt}{ps:List Str}{k n:Nat}{cm:Bool}{df:Df}(D:D3 K mg x st ps)(LK:Dt K mg (fdOf K x st))(N:List Str)(hT:T n=some df)
  (hb:∀(cdv:Value) (A:Around) (outer:List Env) (s:Shared) (H:Hp) (E:XK),aX k (A.deeper (envOfC x (aA st) s.heap.objs.size (fC K x) cdv))->JL (dh (eN P w) P w K mg base N x (aA st) (fC K x) cdv A outer s H E cm)->
   JB (dh (eN P w) P w K mg base N x (aA st) (fC K x) cdv A outer s H E cm) cA aq cm (λc=>call aq T k c) (λ_ C dx H'=>E C dx H') (aH st) df.body) (S:bR N ps (aA st):=by show⟨rfl,rfl,rfl,dk,rfl,dk,dk⟩) (hp:df.gW=ps.length:=by rfl) (hm:df.many=N.length:=by rfl) :
  bZ P w K mg base (eN P w) cm (k+1) (fC K x) (fdOf K x st) ps (k_ K cA (call aq T (k+1) cm n)):=by
 let⟨c,P',l1,l2,l3,l4⟩:=LK.ex;let⟨oc,od,kV,doc,pm,an,cdv,ct,osl,e,lk,iu⟩:=D.f.ex;rw[e]at lk l1 ⊢;let l1:cdv=.ref c:=l1;show QT lk iu S (λvs H Q E hz=>?_) λA outer s H vs Q E hr hz=>?_
 .obtain⟨U,ds,s,r,hS,h⟩:=hz;rw[<-r.len,(Nz hT h).1,hp]
 .obtain⟨U,ds,st',r,hS,h⟩:=hz;let⟨hl,h2⟩:=Nz hT h;show⟨_,(hb cdv A outer s H E (hr.deeper _) ⟨c,P',l1,l2,l3,l4⟩).o,U,_,st',Tj r hl.symm hm,hS,h2⟩
structure kI(K:Frag)(h:Heap):Prop where
 ex:∃(q:Addr×FuncData) (c P:Addr),wH K "plain_rings"=some q/\q.2.code=.ref c/\codeHdIn K c P=true/\jQ K c P=true/\K.lookup P=none/\h.get? P=some (tabObj #[])/\(∀c' P',jQ K c' P'=true->P'=P)/\bmB K=true
def zkc{K:Frag}{c P:Addr}(h:jQ K c P=true):∃o,K.lookup c=some o/\lO o=some (.ref P):=by
 unfold jQ at h;split at h
 .rename_i o e;show⟨o,e,?_⟩;split at h
  .rename_i vs ed;rw[gA]at h;let⟨h1,h2⟩:=h;split at h1
   .rename_i q t e1;split at h2
    .rename_i p RM;unfold lO;rw[ed];dsimp only;rw[e1];dsimp only;rw[h1];dsimp only;rw[RM,nM.mp h2]
    .cases h2
   .cases h1
  .cases h
 .cases h
def zj0{K:Frag}{c P:Addr}{o:Obj}(e:K.lookup c=some o)(h:lO o=some (.ref P)):jQ K c P=true:=by
 unfold lO at h;split at h
 .rename_i vs ed;split at h
  .rename_i q t e1;split at h
   .rename_i eq;unfold jQ;rw[e];dsimp only;rw[ed];dsimp only;rw[e1,h];dsimp only;rw[eq];simp
   .cases h
  .cases h
 .cases h
def zgR{o:Obj}(h:qJ o=true):o=tabObj #[]:=by
 unfold qJ at h;split at h
 .rename_i vs sl;rw[gA]at h;rw[Array.isEmpty_iff.mp h.1,Array.isEmpty_iff.mp h.2]
 .cases h
def zjN{K:Frag}{h:Heap}(e:Ay K h=true):kI K h:=by
 unfold Ay at e;split at e
 .rename_i q hq;split at e
  .rename_i c hc;split at e
   .rename_i P hP;simp only[gA,ju]at e;let⟨⟨⟨⟨e1,e2⟩,e3⟩,e4⟩,e5⟩:=e;let⟨o,ho,hi⟩:=vA.mp hP;show⟨q,c,P,hq,hc,e1,zj0 ho hi,by simpa using e2,?_,λc' P' hl=>?_,e4⟩
    .unfold Hg at e3;cases pC:h.get? P with
     |none=>rw[pC]at e3;cases e3|some o'=>
      rw[pC]at e3;rw[zgR e3]
    .obtain⟨o',pC,rW⟩:=zkc hl;let:=e5 (c',o') (Uc pC);dsimp only at this;rw[rW]at this;show nM.mp this
   .cases e
  .cases e
 .cases e
def kI.keeps{K:Frag}{h h':Heap}(L:kI K h)(k:∀b o,h.get? b=some o->h'.get? b=some o):kI K h':=by
 let⟨q,c,P,a1,a2,a3,a4,a5,a6,a7⟩:=L.ex;show⟨q,c,P,a1,a2,a3,a4,a5,k _ _ a6,a7⟩
def zlO{v:Value}{n:String}(h:WL v=some n):v=.type n:=by cases v<;>first|(cases h;rfl)|cases h
def zl9{v:Value}{n:Addr}(h:WM v=some n):v=.ref n:=by cases v<;>first|(cases h;rfl)|cases h
def zki{v:Data}(h:G_ v=true):v=.plain:=by cases v<;>first|rfl|cases h
def Ky{α:Type}{o:Option α}{p:α->Bool}(h:o.any p=true):∃a,o=some a/\p a=true:=by
 cases o with
 |none=>cases h|some a=>show⟨a,rfl,h⟩
def zol{K:Frag}{h:Heap}{mg:Str->Option Value}(e:bmB K=true)(X:K.In h)(G:h.Ns mainGlobals mg):Kq K mg:=by
 let⟨bm,hb,e⟩:=Ky e;let⟨o,hl,e⟩:=Ky e;simp only[gA,nM,bne_iff_ne]at e;let⟨⟨⟨⟨e1,e2⟩,e3⟩,e4⟩,e5⟩:=e;let⟨v,h1,h2⟩:=vA.mp hb;let⟨u,h3,h4⟩:=vA.mp h2;subst h3;show⟨bm,o,mg_of X G (by rw[h1,zl9 h4]),e4,e5,hl,zlO e1,e2,zki e3⟩
def kI.lk{K:Frag}{h:Heap}{mg:Str->Option Value}(L:kI K h)(X:K.In h)(G:h.Ns mainGlobals mg)(st:Stmt):Dt K mg (fdOf K "plain_rings" st):=by
 let⟨q,c,P,a1,a2,a3,a4,a5,a6,a7,a8⟩:=L.ex;show⟨c,P,?_,a3,a4,zol a8 X G⟩;unfold fdOf;rw[a1];show a2
def zfm{P:Program}{w:World}{K:Frag}{mg mb:Str->Option Value}{CX:rQ}{k:Nat}{fa a:Addr}{fd:FuncData}{x:Str}{sp:Sp}{s₁:Shared}{vs:List Value}{ns:List Int}
  (KX:K.In s₁.heap) (hns:s₁.heap.Ns mainGlobals mg) (hb:s₁.heap.Ns builtinsNs mb) (hbb:∀x:Str,x≠"__name__"->mb x=bootBuiltins x) (UL:s₁.heap.NoLimit) (hg:s₁.gens=#[])
  (ha:s₁.heap.get? a=some {cls:=.type "list",data:=.seq vs.toArray}) (hi:IntsAre vs ns) (hl:ns.length<=sizeLine) (hr:aX k callerA)
  (F:∀base:Heap,K.In base->base.Ns mainGlobals mg->bZ P w K mg base CX true k fa fd [x] sp) (kE:∀(s:Shared) (u:Value),BindsTo s fd ⟨[u],[]⟩ [(x,u)])
  (M5:∀H:Hp,cP K H a (ns.map V.int)->sp [.ref a] H (λv _=>v=.bl true) λ_ _ _=>False)
  (hCX:∀H e s',CX [] H s₁ (λ_ _ _=>False) e s'->False) (LH:kI K s₁.heap) :
  codeAny (model P w) callerA (.call (.ref fa) ⟨[.ref a],[]⟩) (λr s'=>r=.ok (.ret (.bool true))/\OldK s₁.heap s'.heap/\s'.os=s₁.os/\AllBare s'.gens) s₁:=by
 let rv:=XQ hi;let lenV:=hi.length;let⟨q,c,T,a1,a2,a3,a4,a5,a6,a7,a8⟩:=LH.ex;let nTa:T≠a:=λz=>by rw[z,ha]at a6;cases a6
 let core:∀H:Hp,H T=some (.lQ #[])->cP K H a (ns.map V.int)->iI P w H s₁.heap->(∀b,H b≠none->b=T\/(b=a/\∃o xs,H b=some (.nU o (.lst xs))))->(H a≠none->K.lookup a=none)->
   codeAny (model P w) callerA (.call (.ref fa) ⟨[.ref a],[]⟩) (λr s'=>r=.ok (.ret (.bool true))/\OldK s₁.heap s'.heap/\s'.os=s₁.os/\AllBare s'.gens) s₁:=by
  intro H hT hS hok hA hK;let rB:∀{b:Addr} {o:Obj},s₁.heap.get? b=some o->H b=none->(mK s₁.heap H).get? b=some o:=λe n=>zg2 e n;let Ij:∀{b:Addr} {o:Obj} {es:Array DictEntry} {ep:Nat},s₁.heap.get? b=some o->o.data=.dict es ep->H b=none:=λ{b o es ep} e d=>by
   cases qq:H b with
   |none=>rfl|some u=>
    rcases hA b (by rw[qq];simp) with z|⟨z,_⟩
    .subst z;rw[a6]at e;cases e;let d':Data.fields #[]=Data.dict es ep:=d;cases d'
    .subst z;rw[ha]at e;cases e;let d':Data.seq vs.toArray _=Data.dict es ep:=d;cases d'
  let Oh:∀{b:Addr} {m:Str->Option Value},s₁.heap.Ns b m->(mK s₁.heap H).Ns b m:=λ{b m} ⟨o,es,ep,e,d,r⟩=>⟨o,es,ep,rB e (Ij e d),d,r⟩;let hKb:K.In (mK s₁.heap H):=λb o e=>rB (KX b o e) (by
   cases qq:H b with
   |none=>rfl|some u=>
    rcases hA b (by rw[qq];simp) with z|⟨z,_⟩
    .subst z;rw[a5]at e;cases e
    .subst z;rw[hK (by rw[qq];simp)]at e;cases e)
  let hM:Mod K mg (mK s₁.heap H):=⟨hKb,Oh hns,⟨mb,Oh hb,hbb⟩,let ⟨mc,h1,h2⟩:=UL;⟨mc,Oh h1,h2⟩⟩;let e0:pQ P w K mg (mK s₁.heap H) callerA [] s₁ H:=⟨rfl,hM,λb o e=>zjr e,Nat.le_of_eq (zfF _ _),trivial,⟨λb hb=>absurd (show b∈([]:List Addr) from hb) RQ,λ_ c' P' hc=>⟨#[],by rw[a7 c' P' hc];show hT,.nil⟩⟩,hok,.of_eq hg⟩;show yS ((F _ hKb (Oh hns)).run callerA [] s₁ H ⟨[.ref a],[]⟩ [.ref a] [.ref a] _ _ (λ_=>rfl) hr e0 (kE s₁ (.ref a)) (.cons rfl .nil) (M5 H hS)) λr s' h=>?_;cases r with
  |error e=>show(hCX H e s' h).elim|ok fl=>
   cases fl with
   |next=>show False.elim h|brk=>show False.elim h|cont=>show False.elim h|ret u=>
    let⟨v,H',os,bare,un,Kz,r',q'⟩:=h;let q':v=.bl true:=q';subst q';obtain rfl:u=Value.bool true:=r';let⟨more,hT',_⟩:=un.jy T #[] hT;let oT:s'.heap.get? T=some (tabObj (#[]++more)):=Kz T _ hT';let ht₀:s₁.heap.TableAt c T #[]:=(codeHd_of_K KX a3).tab a6;let kept:∀b o,b≠T->s₁.heap.get? b=some o->s'.heap.get? b=some o:=λb o nb e=>by
     cases qq:H b with
     |none=>show un.keep b o e qq (by intro z;show absurd (show b∈([]:List Addr) from z) RQ) RQ|some u=>
      rcases hA b (by rw[qq];simp) with z|⟨_,ob,xs,z⟩
      .exact absurd z nb
      .let z2:=un.iR b ob _ z;let⟨e1,_⟩:=hok b _ z;let⟨e2,_⟩:=Kz b _ z2;rw[e]at e1;cases e1;show e2
    show⟨rfl,⟨λb o e=>?_,λb o e=>?_⟩,os,bare⟩
    .by_cases z:b=T
     .subst z;rw[a6]at e;cases e;show .inr (.inl ⟨ht₀.isCodeTable,rfl,#[],more,rfl,oT⟩)
     .exact .inl (kept b o z e)
    .by_cases z:b=T
     .exact⟨_,by rw[z];show oT⟩
     .exact⟨o,kept b o z e⟩
 let zW:∀H,bC P w H s₁.heap T (.lQ #[]):=λH=>a6;cases hk:K.lookup a with
 |some o=>
  let e:=KX a o hk;rw[ha]at e;cases e;show core (λb=>if b=T then some (.lQ #[]) else none) (if_pos rfl) (.inr ⟨_,vs.toArray,_,hk,rfl,rfl,rfl,by rw[eE,lenV];show hl,by simpa using rv⟩) (λb u z=>?_) (λb z=>?_) λz=>absurd (if_neg (Ne.symm nTa)) z
  .by_cases hb:b=T
   .subst hb;let z':=(if_pos rfl).symm.trans z;cases z';show zW _
   .let z':=(if_neg hb).symm.trans z;cases z'
  .by_cases hb:b=T
   .exact .inl hb
   .exact absurd (if_neg hb) z
 |none=>
  show core (λb=>if b=T then some (.lQ #[]) else if b=a then some (.nU {cls:=.type "list",data:=.seq vs.toArray} (.lst (ns.map V.int))) else none) (if_pos rfl) (.inl (.inr ⟨{cls:=.type "list",data:=.seq vs.toArray},by change (if a=T then _ else _)=_;rw[if_neg (Ne.symm nTa),if_pos rfl]⟩)) (λb u z=>?_) (λb z=>?_) λ_=>hk
  .by_cases hb:b=T
   .subst hb;let z':=(if_pos rfl).symm.trans z;cases z';show zW _
   .let z':=(if_neg hb).symm.trans z;by_cases tR:b=a
    .let z'':=(if_pos tR).symm.trans z';cases z'';subst tR;show⟨ha,by rw[cO];show hl,vs,_,rv,ha⟩
    .let z'':=(if_neg tR).symm.trans z';cases z''
  .by_cases hb:b=T
   .exact .inl hb
   .by_cases tR:b=a
    .exact .inr ⟨tR,_,_,(if_neg hb).trans (if_pos tR)⟩
    .exact absurd ((if_neg hb).trans (if_neg tR)) z
end Mi
namespace Mi
open PySem PySem.Spec PyProof.Rows L2
section
variable {K:W.Frag}{cA:Cl}{U:Ph}{H:Hp}{s:S}
def zeh{β:Type}{c:Nat}{x:Xv}{v:V}{k:List D->M β}{P:β->S->Ph->Hp->Prop}{Ee:Nat->List D->S->Ph->Hp->Prop}(r:aN K cA U H x v)(h:Run K cA (M.bd (sG c x) k) U H s P Ee) :
  ∃fs ad dx vs,v=.ref ad/\H ad=some (.ins (cA.b c) dx ((cA.g c).zip vs))/\aC K cA U H fs vs/\Run K cA (k fs) U H s P Ee:=by
 cases r with
 |l _=>show h.elim|d r=>cases r with
  |@ob ad e fs vs q r=>
   let h2:Run K cA (M.bd (if e=c then M.ret fs else M.no) k) U H s P Ee:=h;clear h;by_cases z:e=c
   .rw[if_pos z]at h2;subst z;let⟨_,dx,q1,_⟩:=q;show⟨fs,ad,dx,vs,rfl,q1,r,h2⟩
   .rw[if_neg z]at h2;show h2.elim
  |_=>show h.elim
def Run.qt'{α:Type}{m:M α}{P:α->S->Ph->Hp->Prop}{Ee Ee':Nat->List D->S->Ph->Hp->Prop}(h:Run K cA (M.qt m) U H s P Ee):Run K cA m U H s P Ee':=by
 unfold Run M.qt at *;cases e:m s with
 |none=>rw[e]at h;show h|some r=>
  let⟨r,s1⟩:=r;rw[e]at h;cases r with
  |ok a=>show h|er c f=>show h.elim
theorem zcd:∀{ns:List Str} {vs:List V} {m:Str},m∉ns->(ns.zip vs).lookup m=none
 |[],vs,m,_=>by simp|n::ns,[],m,_=>by simp|n::ns,v::vs,m,h=>by
  rw[Gu,pI,show (m==n)=false from DW.mpr λe=>h (by simp[e])];show zcd λz=>h (g_ _ z)
end
structure Ow(K:W.Frag)(cA:Cl)(c:Nat):Prop where
 cl:Cls K (cA.b c)
 nf:∀f∈cA.g c,gQ K (cA.b c) f
 nd:(cA.g c).Nodup
section
variable {X:Cx}{cA:Cl}{aq:Nat->Nat->Bool}{aj:Bool}{F:Fn}{EX:XS}{a e:Expr}{es:List Expr}{A:E}{Xs:Es}{pos apos p:Pos}{x:Str}
theorem zpN{c i:Nat}(o:Ow X.K cA c)(ha:JE X cA aq aj F EX a A)(hi:((cA.g c)[i]?==some x)=true:=by kernel_rfl)(hb:attributeBase a x X.env (eval a X.env)=eval a X.env:=by rfl):JE X cA aq aj F EX (.Attribute a x pos) (.of A c i):=⟨PE.weak (znn ha.o hb) λZ H Q hh=>un hh λU J s hL hS h=>by
 show aV hL hS h λy H1 U1 d1 s1 x1 hL1 aG r1 h1=>?_;let⟨fs,ad,dx,vs,rfl,q1,q2,h2⟩:=zeh r1 h1;let hi:(cA.g c)[i]?=some x:=nM.mp hi;cases ef:fs[i]? with
 |none=>rw[ef]at h2;show h2.elim|some d=>
  rw[ef]at h2;let⟨v,e1,rv⟩:=q2.get ef;show⟨ad,_,dx,_,v,rfl,q1,o.cl,o.nf x (dZ hi),zfd o.nd hi e1,h2.bF aG v (.d rv)⟩⟩
theorem zfW:Passes (eN X.prog X.w) X λ_ _ _=>False:=λao Z H s e s' I h=>by
 let⟨_,_,_,_,_,_,_,_,_,_,z⟩:=h;show z.elim
structure Mt(K:W.Frag)(C:Addr)(m q:Str)(st:Stmt)(ps:List Str)(f:Addr)(fd:FuncData):Prop where
 fn:oO K m q st f fd
 mt:Meth K C m f
 bd:Binds K fd ps []
theorem zpE{c f k:Nat}{cm:Bool}{m q:Str}{st:Stmt}{ps:List Str}{fa:Addr}{fd:FuncData}{pl:Sem Bool}(o:Ow X.K cA c)(D:Mt X.K (cA.b c) m q st ps fa fd)(Fo:bZ X.prog X.w X.K X.mg X.base (eN X.prog X.w) cm k fa fd ps (k_ X.K cA (F f)))(hr:aX k X.A)(ha:JE X cA aq aj F EX a A)(hb:JA X cA aq aj F EX (e::es) Xs)
  (hm:decide (m∉cA.g c)=true:=by kernel_rfl) (iW:cm=true->X.aj=true:=by first|exact λ_=>rfl|exact λz=>nomatch z) (he:aF e=true:=by rfl) (cQ:es.all aF=true:=by rfl)
  (ht:eval (.Call (.Attribute a m apos) (e::es) [] pos) X.env=(do
   let ov <-eval a X.env
   standAt apos.atName
   let (f,first) <-holding [ov] (getMethod ov m pl)
   callWith pos f first (backTo pos (starEach (e::es) X.env)) (backToKw pos (keywordEach [] X.env))):=by rfl):JE X cA aq aj F EX (.Call (.Attribute a m apos) (e::es) [] pos) (.cm c f A Xs):=⟨PE.weak (zjj (pl:=pl) (n6:=[]) ha.o o.cl D.mt Fo iW hr D.bd .nil zfW hb.o (aY he) (bB cQ) ht) λZ H Q hh=>un hh λU J s hL hS h=>by
 show aV hL hS h λy H1 U1 d1 s1 x1 hL1 aG r1 h1=>?_;let⟨fs,ad,dx,vs,rfl,q1,q2,h2⟩:=zeh r1 h1;show⟨ad,dx,_,rfl,q1,zcd (fG hm),qj hL1 aG h2 λus H2 U2 ds s2 x2 hL2 aM r2 h3=>?_⟩;rw[yQ];let⟨U0,s0,a1,a2,a3⟩:=Y8 (EE:=λ_ _ _ _=>False) aM (.cons (r1.mono x2 aG.lz) r2) (λ_ _ _ _ _ _ z=>z) (h3.qt');show⟨U0,_,s0,a1,a2,?_⟩;unfold Run at a3 ⊢;split at a3
 .exact a3
 .exact λU' H' x r=>(a3 U' H' x r).elim
 .exact a3⟩
end
def KC(K:W.Frag)(cA:Cl)(c:Nat)(m:List Xv->M Xv):Sp:=λvs H Q _=>∃x dx us U H0 xs s,vs=.ref x::us/\H0 x=none/\H0 dx=none/\dx≠x/\H=upd (upd H0 dx (.own x)) x (.ins (cA.b c) dx [])/\aQ K cA U H0 xs us/\aD K cA U H0 s /\
 Run K cA (m (.d .any::xs)) U H0 s (λr _ U' H'=>∀ds ws,r=.d (.tup ds)->aC K cA U' H' ds ws->eY U' H' x (.ins (cA.b c) dx ((cA.g c).zip ws))->(cA.g c).length=ws.length->Q .non H') (λ_ _ _ _ _=>False)
section
variable {K:W.Frag}{cA:Cl}{U:Ph}{H:Hp}{s:S}
def zhJ{xs:List Xv}{vs:List V}(h:locs xs=[])(r:aQ K cA U H xs vs)(l:List Addr):aQ K cA ⟨U.z,l⟩ H xs vs:=by
 induction r with
 |nil=>show .nil|cons a r ih=>cases a with
  |d a=>show .cons (.d (Rep.zl a l)) (ih h)|l a=>cases h
def Ext.made{x dx:Addr}{C:Addr}(hx:H x=none)(hd:H dx=none)(hn:dx≠x):Ext U H (U.mark x) (upd (upd H dx (.own x)) x (.ins C dx [])):=by
 let g:bw H (upd (upd H dx (.own x)) x (.ins C dx [])):=(bw.new hd).trans (bw.new (by rw[bN hn.symm];show hx));show⟨⟨[],by simp[Ph.mark],by simp⟩,λa z=>.inl z,λa z=>z.imp id λe=>by rw[e];show hx,λa o h _ _=>g a o h,λa o h=>⟨o,g a o h⟩⟩
def aD.made{x dx:Addr}{C:Addr}(hS:aD K cA U H s)(hx:H x=none)(hd:H dx=none)(hn:dx≠x):aD K cA (U.mark x) (upd (upd H dx (.own x)) x (.ins C dx [])) s:=by
 let xt:=Ext.made (U:=U) (C:=C) hx hd hn;show⟨hS.len,λn o a e1 e2=>(hS.obj n o a e1 e2).map (λu _ q=>?_) λ_ _ r=>r.mono xt hS.lz,hS.uniq,λa ha=>.inl (hS.lz a ha),λa z=>?_⟩
 .let n1:a≠x:=λy=>by rw[y,hx]at q;cases q
  let n2:a≠dx:=λy=>by rw[y,hd]at q;cases q
  rw[bN n1,bN n2];show q
 .rcases z with z|z
  .obtain⟨o,e⟩:=hS.zt a z;show xt.stay a o e
  .subst z;show⟨_,h_⟩
end
section
variable {X:Cx}{cA:Cl}{aq:Nat->Nat->Bool}{aj:Bool}{F:Fn}{EX:XS}{e:Expr}{es:List Expr}{Xs:Es}{pos p:Pos}{x:Str}
theorem zpM{c f k:Nat}{cm:Bool}{ps:List Str}{fa:Addr}{fd:FuncData}(M:Mk X.K (cA.b c) fa)(Fo:bZ X.prog X.w X.K X.mg X.base (eN X.prog X.w) cm k fa fd ps (KC X.K cA c (F f)))(hr:∀us,aX k (X.A.under (.builtin "type.__call__" ⟨.ref (cA.b c)::us,[]⟩)))(hb:Binds X.K fd ps [])(hm:X.mg x=some (.ref (cA.b c)))(hg:JK X x .globalImplicit)
  (ha:JA X cA aq aj F EX (e::es) Xs) (h:okN x=true:=by kernel_rfl) (iW:cm=true->X.aj=true:=by first|exact λ_=>rfl|exact λz=>nomatch z) (he:aF e=true:=by rfl) (cQ:es.all aF=true:=by rfl):JE X cA aq aj F EX (.Call (.Name x p) (e::es) [] pos) (.mk c f Xs):=⟨PE.weak (zj5 (n6:=[]) M Fo iW hr hg.o hm hb .nil zfW ha.o (yd h).1 (aY he) (bB cQ)) λZ H Q hh=>un hh λU J s hL hS h=>
 qj hL hS h λus H1 U1 ds s1 x1 hL1 aG r1 h1 x dx hx hd hn=>by
  rw[yQ];unfold Run Sg at h1;by_cases hl:locs ds=[]
  .simp only[if_pos hl]at h1;show⟨x,dx,us,⟨U1.z,[]⟩,H1,ds,[],rfl,hx,hd,hn,rfl,zhJ hl r1 [],⟨rfl,(λn o a e=>by simp at e),Al,(λa ha=>by cases ha),aG.zt⟩,?_⟩;unfold Run;cases e:F f (.d .any::ds) [] with
   |none=>simp only[e]at h1|some r=>
    let⟨r,s2⟩:=r;simp only[e]at h1;cases r with
    |er c f=>show h1.elim|ok r=>
     intro U' H' xt aM ts ws er rs kp hlen;subst er;let nx:¬U1.z x:=aG.nz hx;let ne:∀a o,H1 a=some o->a≠x:=λa o q y=>by rw[y,hx]at q;cases q
     let xt2:Ext U1 H1 ⟨λa=>U'.z a/\a≠x,U1.l⟩ H':=by
      show⟨⟨[],by simp,by simp⟩,λa z=>⟨xt.qg a z,λy=>nx (y▸z)⟩,λa z=>xt.j8 a z.1,λa o q t _=>xt.frame a o q t RQ,xt.stay⟩
     show⟨rfl,h1 _ H' xt2 ⟨aG.len,λn o a e1 e2=>(aG.obj n o a e1 e2).map (λu t q=>xt.frame a u q t RQ) λ_ _ r=>r.mono xt2 aG.lz,aG.uniq,λa ha=>⟨xt.qg a (aG.lz a ha),λy=>nx (y▸aG.lz a ha)⟩,λa z=>aM.zt a z.1⟩ _ (.d (.ob ⟨λz=>z.2 rfl,dx,kp.at_,hlen⟩ (rs.kh (U':=⟨λa=>U'.z a/\a≠x,U1.l⟩) λ_ z=>z.1)))⟩
  .simp only[if_neg hl]at h1⟩
end
structure yD(X:Cx)(cA:Cl)(aq:Nat->Nat->Bool)(aj:Bool)(F:Fn)(EX:XS)(c:Nat)(body:List Stmt)(is:Es)(ns:List Str):Prop where
 o:pN X body λD Z H=>∃U0 H0 U J s x dx done vs ys,Ext U0 H0 U H/\aR X.K cA U H Z J/\aD X.K cA U H s/\H0 x=none/\Z[0]?=some (some (.ref x))/\eY U H x (.ins (cA.b c) dx (done.zip vs))/\aQ X.K cA U H ys vs/\done.length=vs.length/\done++ns=cA.g c/\done.length+ns.length<=900 /\
  Run X.K cA (M.bd (evs aq aj F is J) λzs=>cC (ys++zs)) U0 H0 s (λes _ U' H'=>∀ws,aC X.K cA U' H' es ws->eY U' H' x (.ins (cA.b c) dx ((cA.g c).zip ws))->(cA.g c).length=ws.length->D.nx Z H') (eX X.K cA EX Z)
theorem zep{f:Str}{v:V}:∀{fs:List (Str×V)},f∉fs.map (·.1)->fu f v fs=fs++[(f,v)]
 |[],_=>rfl|(g,x)::r,h=>by
  unfold fu;rw[if_neg λe=>h (by simp[e]),zep λz=>h (g_ _ z)];rfl
theorem aQ.out{K:W.Frag}{cA:Cl}{U:Ph}{H H':Hp}(x:cD U H H'):∀{ds:List Xv} {vs:List V},aQ K cA U H ds vs->aQ K cA U H' ds vs
 |_,_,.nil=>.nil|_,_,.cons h r=>.cons (h.out x) (aQ.out x r)
theorem aQ.app{K:W.Frag}{cA:Cl}{U:Ph}{H:Hp}:∀{ds es:List Xv} {vs us:List V},aQ K cA U H ds vs->aQ K cA U H es us->aQ K cA U H (ds++es) (vs++us)
 |_,_,_,_,.nil,s=>s|_,_,_,_,.cons h r,s=>.cons h (aQ.app r s)
def Run.er{K:W.Frag}{cA:Cl}{U:Ph}{H:Hp}{s:S}{α:Type}{m:M α}{P:α->S->Ph->Hp->Prop}{Ee:Nat->List D->S->Ph->Hp->Prop}(h:Run K cA m U H s P λ_ _ _ _ _=>False):Run K cA m U H s P Ee:=by
 unfold Run at *;split at h
 .exact h
 .exact λU' H' x r=>(h U' H' x r).elim
 .exact h
section
variable {X:Cx}{cA:Cl}{aq:Nat->Nat->Bool}{aj:Bool}{F:Fn}{EX:XS}{c:Nat}{a:Expr}{A:E}{is:Es}{ns:List Str}{body:List Stmt}{f:Str}{pos p p2:Pos}
theorem zmD:yD X cA aq aj F EX c [] .nil []:=⟨λao s Z H D I hh=>W7 ao s Z H D I (by
 let⟨U0,H0,U,J,st,x,dx,done,vs,ys,xt,hL,hS,hx,h0,kp,rs,hl,hg,hz,h⟩:=hh;rw[yQ]at hg;subst hg;let h2:Run X.K cA (M.bd (cC ys) M.ret) U H st (λes _ U' H'=>∀ws,aC X.K cA U' H' es ws->eY U' H' x (.ins (cA.b c) dx ((cA.g c).zip ws))->(cA.g c).length=ws.length->D.nx Z H') (eX X.K cA EX Z):=by
  let h3:=h.ext xt;unfold Run at h3 ⊢;let e0:M.bd (evs aq aj F .nil J) (λzs=>cC (ys++zs)) st=cC ys st:=by change cC (ys++[]) st=_;rw[yQ]
  rw[e0]at h3;unfold M.bd;cases e1:cC ys st with
  |none=>rw[e1]at h3;show h3|some r=>
   let⟨r,s2⟩:=r;rw[e1]at h3;cases r with
   |er c f=>show h3|ok ds=>show h3
 let⟨ds,_,rs2,h4⟩:=Ss rs h2;show h4.bF hS vs rs2 kp hl)⟩
def Oi{j:Nat}(ow:Ow X.K cA c)(ha:JE X cA aq aj F EX a A)(hr:yD X cA aq aj F EX c body is ns)(h0:(decide (X.N[0]?=some ("self" : Str))&&yx X.env.scope "self"&&okN "self")=true:=by kernel_rfl)
  (hs:swapsWith a (some (.Attribute (.Name "self" p) f p2)) pos.line X.env=pure false:=by rfl):yD X cA aq aj F EX c (.Assign [.Attribute (.Name "self" p) f p2] a pos::body) (.cons A is) (f::ns):=by
 rw[gA,gA]at h0;let⟨k,e,hv⟩:=zgB h0.1.2;show⟨λao s Z H D I hh=>W8 (zl2 (W2 (i:=0) (fG h0.1.1) (by cases k<;>first|exact .inl e|exact .inr (.inl e)|exact .inr (.inr e)|cases hv) (yd h0.2).1 (yd h0.2).2.1) ha.o hs) hr.o ao s Z H D I ?_⟩;let⟨U0,H0,U,J,st,x,dx,done,vs,ys,xt,hL,hS,hx,Uu,kp,rs,hl,hg,hz,h⟩:=hh;let h:Run X.K cA (M.bd (M.bd (ev aq aj F A J) λy=>M.bd (evs aq aj F is J) λzs=>M.ret (y::zs)) λzs=>cC (ys++zs)) U0 H0 st _ _:=h;simp only[gF]at h;show⟨U,J,st,hL,hS,(h.bd0 xt).imp λy s1 U1 H1 ⟨x1,aG,h1⟩ v rv=>?_⟩;let Oj:=kp.mono x1;let nf:f∈cA.g c:=by rw[<-hg];simp
 let nd:f∉done:=λz=>by
  let:=ow.nd;rw[<-hg,LC]at this;show this.2.2 f z f RQ rfl
 let hk:(done.zip vs).map (·.1)=done:=by rw[List.map_fst_zip];lia
 show⟨.ref x,Uu,x,_,dx,_,rfl,Oj.at_,ow.cl,ow.nf f nf,?_,?_⟩
 .let:(done.zip vs).length<=done.length:=by rw[List.length_zip];lia
  simp at hz
  lia
 rw[zep (by rw[hk];show nd)];let ez:done.zip vs++[(f,v)]=(done++[f]).zip (vs++[v]):=by rw[List.zip_append hl];rfl
 rw[ez];let ox:cD U1 H1 (upd H1 x (.ins (cA.b c) dx ((done++[f]).zip (vs++[v])))):=Oj.ext.1;show⟨U0,H0,U1,J,s1,x,dx,done++[f],vs++[v],ys++[y],Ext.keep (vs:=[]) (xt.trans x1) hx,(hL.mono x1 hS.lz).out ox,aG.keep Oj,hx,Uu,Oj.ext.2,((rs.mono x1 hS.lz).app (.cons rv .nil)).out ox,by simp[hl],by rw[<-hg,Gx];rfl,by simp at hz ⊢;lia,?_⟩;let h1:Run X.K cA (M.bd (evs aq aj F is J) λzs=>M.bd (M.ret (y::zs)) λzs=>cC (ys++zs)) U0 H0 s1 _ _:=h1;let e2:(λzs=>cC (ys++[y]++zs))=λzs=>M.bd (M.ret (y::zs)) λzs=>cC (ys++zs):=by
  funext zs
  rw[Gx];rfl
 rw[e2];show h1
end
def zg0{K:W.Frag}{cA:Cl}{U:Ph}{H:Hp}{s:S}{α:Type}{m m':M α}{P:α->S->Ph->Hp->Prop}{Ee:Nat->List D->S->Ph->Hp->Prop}(e:m s=m' s)(h:Run K cA m U H s P Ee):Run K cA m' U H s P Ee:=by
 unfold Run at *;rw[<-e];show h
def zgA{aq:Nat->Nat->Bool}{T:Nat->Option Df}{k n m p:Nat}{cm:Bool}{is:Es}{xs:List Xv}{s:S}(hT:T n=some ⟨m,p,.cons (.ret (.tup is)) .nil⟩)(hl:xs.length=p) :
  call aq T (k+1) cm n xs s=M.bd (M.bd (evs aq cm (call aq T k cm) is (xs.map some++List.replicate (m-p) none)) cC) (λds=>M.ret (.d (.tup ds))) s:=by
 unfold call;simp only[hT,if_pos hl];change (match cI (ofM (M.bd (evs aq cm (call aq T k cm) is _) λvs=>M.bd (cC vs) λds=>M.ret (.d (.tup ds))) _ λx s=>some (.rt x,s)) _ s with|some (.nx _,s')=>_|some (.rt v,s')=>_|some (.er c fs _,s')=>_|_=>none)=_;rw[gF];unfold cI ofM;cases e:M.bd (evs aq cm (call aq T k cm) is (xs.map some++List.replicate (m-p) none)) (λvs=>M.bd (cC vs) λds=>M.ret (Xv.d (.tup ds))) s with
 |none=>rfl|some r=>
  let⟨r,s1⟩:=r;cases r<;>rfl
def zi2{P:Program}{w:World}{K:W.Frag}{mg:Str->Option Value}{base:Heap}{cA:Cl}{aq:Nat->Nat->Bool}{T:Nat->Option Df}{x qual:Str}{st:Stmt}{f:Addr}{fd:FuncData}{N ps:List Str}{k n c m p:Nat}{cm:Bool}{is:Es}(F:oO K x qual st f fd)(hT:T n=some ⟨m,p,.cons (.ret (.tup is)) .nil⟩)
  (hb:∀(cdv:Value) (A:Around) (outer:List Env) (s:Shared) (H:Hp) (E:XK),aX k (A.deeper (envOfC qual (aA st) s.heap.objs.size f cdv))->
   yD (dh (eN P w) P w K mg base N qual (aA st) f cdv A outer s H E cm) cA aq cm (call aq T k cm) (λ_ C dx H'=>E C dx H') c (aH st) is (cA.g c)) (hg:(cA.g c).length<=900) (S:bR N ps (aA st):=by show⟨rfl,rfl,rfl,dk,rfl,dk,dk⟩) (hp:p=ps.length:=by rfl) (hm:m=N.length:=by rfl) (h0:0<p:=by decide) :
  bZ P w K mg base (eN P w) cm (k+1) f fd ps (KC K cA c (call aq T (k+1) cm n)):=by
 let⟨oc,od,kV,doc,pm,an,cdv,ct,osl,rfl,lk,iu⟩:=F.ex;let hlen:∀{U:Ph} {H:Hp} {s:Mi.S} {xs:List Xv} {P:Xv->Mi.S->Ph->Hp->Prop},Run K cA (call aq T (k+1) cm n (.d .any::xs)) U H s P (λ_ _ _ _ _=>False)->xs.length+1=p:=λ{U H s xs P} h=>by
  unfold call at h;simp only[hT]at h;by_cases hl:(Xv.d D.any::xs).length=p
  .simpa using hl
  .rw[if_neg hl]at h;show h.elim
 show QT lk iu S (λvs H Q E hz=>?_) λA outer s H vs Q E hr hz=>?_
 .obtain⟨x,dx,us,U,H0,xs,s,e,_,_,_,_,r,_,h⟩:=hz;let:=hlen h;rw[e,gw,<-r.len,<-hp]
  lia
 .obtain⟨x,dx,us,U,H0,xs,st',e,hx,hd,hn,eH,r,hS,h⟩:=hz;show⟨_,(hb cdv A outer s H E (hr.deeper _)).o,?_⟩;subst e eH;let hl:=hlen h;let xt:=Ext.made (U:=U) (C:=cA.b c) hx hd hn;show⟨U,H0,U.mark x,(Xv.d .any::xs).map some++List.replicate (m-p) none,st',x,dx,[],[],[],xt,Tj (.cons (.d (.any x)) (r.mono xt hS.lz)) (by simp;lia) hm,hS.made hx hd hn,hx,rfl,⟨h_,λz=>hS.nz hx (hS.lz x z),.inr rfl,trivial⟩,.nil,rfl,rfl,by simpa using hg,?_⟩;let h2:=(zg0 (zgA hT (by simpa using hl)) h).bd0 Ext.refl;show Run.er (Run.imp h2 λds s1 U1 H1 ⟨x1,aG,h4⟩ ws rs kp hl=>h4 U1 H1 x1 aG ds ws rfl rs kp hl)
section
variable {prog:Program}{w:World}{A:Around}{E:Value->Shared->Prop}{s:Shared}
def zdD{r:Addr}{n:Nat}{lo hi:Int}{t u v:Tok}{Q:List Value->Shared->Prop}(hh:A.handled=none)(hr:IsRange s.heap r lo hi 1 t u v)(hs:Builtin.Range.small lo hi 1=true)(hn:Builtin.Range.rangeSize lo hi 1=n)(hl:n<=65536)
  (q:∀(h':Heap) (tk:Nat) (acc:Array Value),(∀b o,s.heap.get? b=some o->h'.get? b=some o)->ItemsOf (λi v=>∃t,v=.int (lo+i*1) t) acc n->Q acc.toList {s with heap:=h',toks:=tk}):wpAny (model prog w) A (collect (.ref r)) Q E s:=by
 unfold collect;show aB (wpAny_runValue (GF F.entry_proto_collect ?_));rw[Gq F.plain_proto_collect _];show aB (m:=newList []) (GK (aJ ⟨GP F.plain_list_iadd _,GF F.entry_list_iadd ?_⟩));rw[Gq F.plain_list_iadd _];let fin:∀{r':Result} {s':Shared},(∃h' tk acc c,r'=.ok (.ret (.ref s.heap.objs.size))/\s'={s with heap:=h',toks:=tk}/\h'.get? s.heap.objs.size=some (seqObj "list" acc c)/\(∀b o,s.heap.get? b=some o->h'.get? b=some o)/\ItemsOf (λi v=>∃t,v=.int (lo+i*1) t) acc n)->(match r' with
   |.ok (.ret v)=>wpAny (model prog w) A (match v with
    |.ref a=>do
     match (<-load a).data with
      |.seq xs _=>pure xs.toList|_=>unsupported "internal:collect"
    |_=>unsupported "internal:collect") Q E s'
   |.ok _=>False|.error e=>E e s'):=λ{r' s'} z=>by
  let⟨h',tk,acc,c,rfl,rfl,hS,kp,sY⟩:=z;show aB (wpAny_load hS (aJ (q h' tk acc kp sY)))
 show fK (wpAny_extend_range (A:=A) (s:={s with heap:=s.heap.push (seqObj "list" #[] 0)}) (R:=λr' s'=>∃h' tk acc c,r'=.ok (.ret (.ref s.heap.objs.size))/\s'={s with heap:=h',toks:=tk}/\h'.get? s.heap.objs.size=some (seqObj "list" acc c)/\(∀b o,s.heap.get? b=some o->h'.get? b=some o)/\ItemsOf (λi v=>∃t,v=.int (lo+i*1) t) acc n)
  hh (bW _ hr) hs hn gV s.heap.objs.size (.ref s.heap.objs.size) 0 (dU _ rfl) λh' tk acc c kp hS sY=>⟨h',tk,acc,c,rfl,rfl,hS,λb o e=>kp b o (cR (bK e)) (bW _ e),sY⟩) (λf s' z=>?_) λe s' z=>?_
 .cases f with
  |done f=>show fin z|again c'=>show⟨z.1,yS z.2 λr s'' hr=>fin hr⟩
 .obtain⟨_,_,_,_,e,_⟩:=z;cases e
end
theorem zfj(r:Addr)(lo hi:Int)(t u v:Tok)(n:Nat)(hs:Builtin.Range.small lo hi 1=true)(hn:Builtin.Range.rangeSize lo hi 1=n)(hl:n<=65536):Meets (Builtin.«tuple.__new__» ⟨[.type "tuple",.ref r],[]⟩)
   (λA R s=>A.handled=none/\IsRange s.heap r lo hi 1 t u v/\∀(h':Heap) (tk:Nat) (acc:Array Value),(∀b o,s.heap.get? b=some o->h'.get? b=some o)->ItemsOf (λi v=>∃t,v=.int (lo+i*1) t) acc n->R (.ok (.ret (.ref h'.objs.size))) {s with heap:=h'.push {cls:=.type "tuple",data:=.seq acc},toks:=tk}):=
 .of_wp λprog w A R s h=>by
  let⟨hh,hr,h⟩:=h;let hsub:=sub_tuple_self;let hinit:=init_tuple_lookup;let hmh:=madeHere_tuple;let hT:s.TypeIs (.ref r) "range":=⟨_,hr,rfl⟩;let UW:A.in1.handled=none:=hh
  wp_walk using GQ hT,Lj hr,zdD UW hr hs hn hl
  intro h' tk acc hk sY;change wpAny _ _ (Builtin.Tuple.tupleExact acc.toList.toArray >>= λv=>ret v) _ _ _;unfold Builtin.Tuple.tupleExact;let e:acc.toList.toArray=acc:=by simp
  rw[e];show aB (o_ (aJ ⟨_,rfl,h h' tk acc hk sY⟩) (show acc.size<=sizeLine by rw[sY.1];show jO hl J0))
section
variable {X:Cx}
def zb6{ao:List (Addr×Obj)}{Z:L2.St}{H:Hp}{s:Shared}{Q:VK}{hi:Int}{t u v:Tok}{tk:Nat}(hc:X.aj=true)(I:Inv X ao Z H s)(hk:okR 0 hi=true)
  (q:∀l,H l=none->Q (.ref l) (upd H l (.tup (FZ 0 (hi-0).toNat)))) :
  wpAny (model X.prog X.w) X.A (PySem.call (.type "tuple") [.ref s.heap.objs.size]) (EP X ao Z Q) X.xe {s with heap:=s.heap.push {cls:=.type "range",data:=.fields #[.int 0 t,.int hi u,.int 1 v]},toks:=tk}:=by
 let⟨h1,h2,h3,h4,h5⟩:=fG hk;let en:Builtin.Range.rangeSize 0 hi 1=((hi-0).toNat:Nat):=by rw[rangeSize_one];split<;>lia
 show callType_new F.called_tuple J0 (F.typeCall_tuple_1 _) (F.newCall_tuple_1 _) (λobj=>F.args_object_init_2 obj _) F.entry_tuple_new (zfj _ 0 hi t u v _ (small_one h1 h2 h3 h4) en h5) ⟨I.ok.hd hc,IsRange.new ..,λh' tk' acc kp ⟨z1,z2⟩=>?_⟩;let hv:Vals (FZ 0 (hi-0).toNat) acc.toList:=by
  let:=zjh (i:=0) (acc:=acc) (n:=(hi-0).toNat) (m:=0) (λk v e=>by
   let⟨t,e⟩:=z2 k v (by simpa using e);show⟨t,by rw[e,Av,Nat.zero_add]⟩) (by rw[pH];show z1)
  simpa [FZ] using this
 let hz:s.heap.objs.size<=h'.objs.size:=rK (bK (kp _ _ (dU s.heap rfl)));let I':=I.laid (a:=h'.objs.size) (o:=.tup (FZ 0 (hi-0).toNat)) (h':=h'.push {cls:=.type "tuple",data:=.seq acc}) (t':=tk') (λb u q=>bW _ (kp b u (bW _ q))) hz (show bC X.prog X.w _ _ _ (.tup (FZ 0 (hi-0).toNat)) from ⟨by
  rw[hv.length,pH,z1];show jO h5 J0,acc.toList,hv,⟨_,dU _ rfl,rfl,0,by simp⟩⟩)
 show⟨⟨_,dU _ rfl,rfl⟩,.ref h'.objs.size,_,I',rfl,q _ (I.hok.fresh hz)⟩
def KD(vs:List V)(H:Hp)(Q:VK):Prop:=∃j:Int,vs=[.int j]/\okR 0 j=true/\∀l,H l=none->Q (.ref l) (upd H l (.tup (FZ 0 (j-0).toNat)))
def zm3{e:Expr}{t:TA}{p p' pos pos':Pos}(hc:X.aj=true)(hg:Gl X "tuple")(hm:X.mg "tuple"=none)(U6:Gl X "range")(Oe:X.mg "range"=none)(ha:PA X [e] t)(he:starEach [e] X.env=(false,eval e X.env)::starEach [] X.env:=by rfl) :
  PE X (.Call (.Name "tuple" p) [.Call (.Name "range" p') [e] [] pos'] [] pos) (QV KD t):=by
 intro ao s Z H Q I h;show Ae (vM I hg hm Tn ?_);show zZ ?_ rfl rfl;change wpAny _ _ (spliced ((false,eval (.Call (.Name "range" p') [e] [] pos') X.env)::backTo pos (starEach [] X.env))) _ _ s;show Calls.spliced_cons ?_;show Ae (vM I U6 Oe boot_range ?_);show zZ (aO (ha pos' ao s Z H _ I h) λus s1 hz=>?_) he rfl;let⟨vs,H1,I1,r1,q1⟩:=hz;let⟨j,rfl,hk,q⟩:=q1;cases r1 with
 |cons r rr=>
  cases rr;let⟨t,rfl⟩:=r;show call_range_1 (Calls.spliced_nil (zb6 hc I1 hk q))
def zm9{e:Expr}{te:TE}(h:PE X e te)(he:∀whole,isTrue e X.env whole=(do let v <-whole;standAt e.pos;holding [v] (truthy v))):PT X e (λZ H Q=>te Z H λx H1=>∃k,Bq X.K x H1 k/\Q k H1):=by
 intro ao s Z H Q I hw;show isTrue_plain (aO (h ao s Z H _ I hw) λv s1 hx=>eF hx λx H1 I1 r1 q1=>zkW ao s1 Z H1 x v Q I1 r1 q1) (he _)
end
section
variable {K:W.Frag}{cA:Cl}{U:Ph}{H:Hp}
def zlN:bA K cA .Fe KD:=by
 intro U H ds vs Q zt rs o;let o:bD K cA U H (Cj ds) Q:=o;unfold Cj at o;split at o
 .rename_i j _;let⟨v,rfl,r1⟩:=rs.one;cases (show Rep K cA U H (.int j) v from r1);by_cases hk:okR 0 j=true
  .rw[if_pos hk]at o;show⟨j,rfl,hk,λl hl=>o.tup zt (zgD _) hl⟩
  .rw[if_neg hk]at o;show o.elim
 .exact o.elim
end
section
variable {X:Cx}{cA:Cl}{aq:Nat->Nat->Bool}{aj:Bool}{F:Fn}{EX:XS}{a e:Expr}{A:E}{pos pos' p p':Pos}{Xs:Es}{fz:Bool}
theorem znJ(hc:X.aj=true)(hm:X.mg "tuple"=none)(hg:JK X "tuple" .globalImplicit)(Oe:X.mg "range"=none)(U6:JK X "range" .globalImplicit)(ha:JA X cA aq aj F EX [e] Xs)(he:aF e=true:=by rfl):JE X cA aq aj F EX (.Call (.Name "tuple" p) [.Call (.Name "range" p') [e] [] pos'] [] pos) (.pr fz .Fe Xs):=⟨PE.weak (zm3 hc hg.o hm U6.o Oe ha.o (aY he)) λZ H Q hh=>un hh λU J s hL hS h=>
 qj hL hS h λvs H1 U1 ds s1 x1 hL1 aG r1 h1=>by
  let⟨ds,rs,h3⟩:=uN aG r1 h1;show zlN U1 H1 ds _ _ aG.zs rs (tM aG h3)⟩
theorem znN(ha:JE X cA aq aj F EX a A)(he:zO a=true:=by rfl):JT X cA aq aj F EX a (.Fg A):=⟨PT.weak (zm9 ha.o (by cases a<;>first|(intro _;rfl)|cases he)) λZ H Q hh=>un (ZS hh) λU J s hL hS h=>by
 show aV hL hS h λx H1 U1 d1 s1 x1 hL1 aG r1 h1=>?_;let⟨dd,rv,h2⟩:=Nm aG r1 h1;let⟨bb,e,h3⟩:=Run.m9 h2;let⟨c,ec,q⟩:=h3.bF aG _ (.d (.bl bb));cases ec;show⟨bb,zli rv e,q⟩⟩
end
def gY(h:Heap)(items:Array Value)(rows:List (List Int))(no:List Addr):Prop:=∀i v,items[i]?=some v->∃a xs,v=.ref a/\IsTup h a xs/\IntsAre xs.toList (rows.getD i [])/\a∉no
theorem gY.keep{h h':Heap}{items:Array Value}{rows:List (List Int)}{no:List Addr}(g:gY h items rows no)(k:∀b o,b∉no->h.get? b=some o->h'.get? b=some o):gY h' items rows no:=λi v e=>by
 let⟨a,xs,e1,⟨o,e2,r⟩,e3,e4⟩:=g i v e;show⟨a,xs,e1,⟨o,k a o e4 e2,r⟩,e3,e4⟩
noncomputable abbrev wz(rows:List (List Int))(i j:Nat):Bool:=HT.lexLt (rows.getD i []) (rows.getD j [])
section
variable {prog:Program}{w:World}{A:Around}{R:Result->Shared->Prop}{I S l:Addr}{items:Array Value}{rows:List (List Int)}
def zj7{s:Shared}{i j:Nat}{u v:Value}{Q:Value->Shared->Prop}{E:Value->Shared->Prop}(hu:A.units<cLine)(g:gY s.heap items rows [I,S])(h1:items[i]?=some u)(h2:items[j]?=some v)(q:Q (.bool (wz rows i j)) s):wpAny (model prog w) A (richCompare .Lt u v) Q E s:=by
 let⟨a,xs,rfl,p1,i1,_⟩:=g i u h1;let⟨b,ys,rfl,p2,i2,_⟩:=g j v h2;show HT.jV p1 p2 i1 i2 hu q
def zfg(hh:A.handled=none)(hu:A.units+1<cLine)(hlI:l≠I)(hS:S∉[I,l]):∀(k j:Nat) (s:Shared) (vb:Value) (c:Nat),items.size-(j+1)=k->j+1<=items.size->(s.heap.IsListIter I l (j+1)/\s.heap.IsList l items)->items[argBest (wz rows) j]?=some vb->gY s.heap items rows [I,S]->
  s.heap.get? S=some (seqObj "list" #[vb,vb] c)->(∀v h' tk,items[argBest (wz rows) (items.size-1)]?=some v->(∀b o,b∉[I,S]->s.heap.get? b=some o->h'.get? b=some o)->R (.ok (.ret v)) {s with heap:=h',toks:=tk})->
  codeAny (model prog w) A (.builtin "min.loop" ⟨[.ref I,.none,.ref S],[]⟩) R s:=by
 let W:=Walks.list (prog:=prog) (w:=w) (A:=A.in1) hh I l hlI items;let nm:(toString "min"++toString ".loop" : String)="min.loop":=by decide
 let SI:S∉[I]:=λz=>hS (by simp at z;simp[z]);intro k
 induction k with
 |zero=>
  intro j s vb c e1 e2 st hb g oS q;show GF F.entry_min_loop ?_;rw[Gq Aj _];show aB (m:=seqItems? (.ref S)) (rJ oS rfl ?_);show aB (m:=tryCatch (pyNext (.ref I)) _) (wpAny_tryCatch (W.done s _ _ ((show j+1=items.size by lia)▸st) λh' tk kp=>?_));show aB (m:=updateSeq S λ_=>#[]) (wpAny_updateSeq (kp S _ SI oS) rfl (aB (yU (aJ (q vb _ tk ?_ λb o hb e=>?_)))))
  .rw[show items.size-1=j by lia];show hb
  .exact(wC _ _ (λz=>hb (by simp[z]))).trans (kp b o (λz=>hb (by simp at z;simp[z])) e)
 |succ k ih=>
  intro j s vb c e1 e2 st hb g oS q;show GF F.entry_min_loop ?_;rw[Gq Aj _];show aB (m:=seqItems? (.ref S)) (rJ oS rfl ?_);show aB (m:=tryCatch (pyNext (.ref I)) _) (wpAny_tryCatch (W.item (j+1) s _ _ gV st λv h' tk hP st' kp=>?_));let U7:=kp S _ SI oS;let g':gY h' items rows [I,S]:=g.keep λb o hb e=>kp b o (λz=>hb (by simp at z;simp[z])) e;show aB (m:=tryCatch (holding [v,v] (richCompare .Lt v vb >>= _)) _) (wpAny_tryCatch (pB (aB (zj7 (A:=A.in1) (s:={s with heap:=h',toks:=tk}) hu g' hP hb ?_))));show aB (pB (vC (aB (yU (aJ ?_)))));cases e3:wz rows (j+1) (argBest (wz rows) j) with
  |true=>
   simp only[if_true];show aB (wpAny_updateSeq U7 rfl (aB (yU ?_)));rw[nm];let Gf:∀b o,b≠S->h'.get? b=some o->(h'.update S (Obj.mapSeq λ_=>#[v,v])).get? b=some o:=λb o hb e=>(wC _ _ (Ne.symm hb)).trans e;show aJ ⟨GP Aj _,ih (j+1) _ v _ gV gV (W.frame _ _ _ st' λb hb o e=>Gf b o (λz=>hS (by rw[<-z];show hb)) e) (by simp only[argBest,e3,if_true];show hP) (g'.keep λb o hb e=>Gf b o (λz=>hb (by simp[z])) e) (Aa _ U7 rfl) λv' h2 tk2 KH KJ=>q v' h2 tk2 KH λb o hb e=>KJ b o hb (Gf b o (λz=>hb (by simp[z])) (kp b o (λz=>hb (by simp at z;simp[z])) e))⟩
  |false=>
   simp only[rH,nO];show aB (yU ?_);rw[nm];show aJ ⟨GP Aj _,ih (j+1) _ vb c gV gV st' (by simp only[argBest,e3,rH,nO];show hb) g' U7 λv' h2 tk2 KH KJ=>q v' h2 tk2 KH λb o hb e=>KJ b o hb (kp b o (λz=>hb (by simp at z;simp[z])) e)⟩
def zeV{s:Shared}{E:Value->Shared->Prop}{Q:Value->Shared->Prop}(hh:A.handled=none)(hu:A.units+2<cLine)(hl:s.heap.IsList l items)(h0:0<items.size)(g:gY s.heap items rows [])
  (q:∀v h' tk,items[argBest (wz rows) (items.size-1)]?=some v->(∀b o,s.heap.get? b=some o->h'.get? b=some o)->Q v {s with heap:=h',toks:=tk}):wpAny (model prog w) A (PySem.call (.builtin "min") [.ref l]) Q E s:=by
 let nm:(toString "min"++toString ".loop" : String)="min.loop":=by decide
 let cj:l<s.heap.objs.size:=by let⟨o,e,_⟩:=hl;show bK e
 show call_function_tree F.kind_min F.plain_min F.entry_min (F.args_min1 _) ?_;show aB (m:=Builtin.Builtins.bindParams "min" ["key","default"] 0 ⟨[],[]⟩) (Em (show Builtin.Builtins.bindParams "min" ["key","default"] 0 ⟨[],[]⟩=pure [none,none] from rfl) (aB (aJ ?_)));show aB (Ly hl (aB (o_ ?_)));rw[nm];let n1:(s.heap.push {cls:=.type "list_iterator",data:=.fields #[.ref l,.int 0 0]}).objs.size=s.heap.objs.size+1:=vD ..;show aJ ⟨GP Aj _,?_⟩;show GF F.entry_min_loop ?_;rw[Gq Aj _];let W:=Walks.list (prog:=prog) (w:=w) (A:=A.in1) hh s.heap.objs.size l (cR cj) items;let oS:((s.heap.push {cls:=.type "list_iterator",data:=.fields #[.ref l,.int 0 0]}).push (seqObj "list" #[] 0)).get? (s.heap.objs.size+1)=some (seqObj "list" #[] 0):=by rw[<-n1];show dU _ rfl
 let k0:∀b o,s.heap.get? b=some o->((s.heap.push {cls:=.type "list_iterator",data:=.fields #[.ref l,.int 0 0]}).push (seqObj "list" #[] 0)).get? b=some o:=λb o e=>bW _ (bW _ e);rw[n1];show aB (m:=seqItems? (.ref (s.heap.objs.size+1))) (rJ oS rfl ?_);show aB (m:=tryCatch (pyNext (.ref s.heap.objs.size)) _) (wpAny_tryCatch (W.item 0 _ _ _ h0 ⟨⟨_,bW _ (dU _ rfl),rfl,rfl⟩,hl.at λo e=>k0 l o e⟩ λv h' tk hP st' kp=>?_));let ne1:s.heap.objs.size+1∉[s.heap.objs.size]:=by simp
 show aB (m:=updateSeq (s.heap.objs.size+1) λ_=>#[v,v]) (wpAny_updateSeq (kp _ _ ne1 oS) rfl ?_);rw[nm];let Gf:∀b o,b≠s.heap.objs.size+1->h'.get? b=some o->(h'.update (s.heap.objs.size+1) (Obj.mapSeq λ_=>#[v,v])).get? b=some o:=λb o hb e=>(wC _ _ (Ne.symm hb)).trans e;let KN:∀b o,s.heap.get? b=some o->(h'.update (s.heap.objs.size+1) (Obj.mapSeq λ_=>#[v,v])).get? b=some o:=λb o e=>Gf b o (cR (tG (bK e))) (kp b o (by simpa using cR (bK e)) (k0 b o e));let out:∀b o,s.heap.get? b=some o->b∉[s.heap.objs.size,s.heap.objs.size+1]:=λb o e z=>by
  rcases iG.mp z with z|z
  .exact absurd z (cR (bK e))
  .exact absurd (Ag.mp z) (cR (tG (bK e)))
 show aJ ⟨GP Aj _,zfg (A:=A) (rows:=rows) hh gV (cR cj) (λz=>by
  rcases iG.mp z with z|z
  .exact absurd z (Nat.succ_ne_self _)
  .exact absurd (Ag.mp z) (pL (tG cj))) _ 0 _ v _ rfl h0 (W.frame _ _ _ st' λb hb o e=>Gf b o (λz=>by
  rcases iG.mp hb with y|y
  .exact absurd (z.symm.trans y) (Nat.succ_ne_self _)
  .exact absurd (z.symm.trans (Ag.mp y)) (pL (tG cj))) e) hP ?_ (Aa _ (kp _ _ ne1 oS) rfl) λv' h2 tk2 KH KJ=>q v' h2 tk2 KH λb o e=>KJ b o (out b o e) (KN b o e)⟩
 intro i u e;let⟨a,xs,e1,⟨o,e2,r⟩,e3,_⟩:=g i u e;show⟨a,xs,e1,⟨o,KN a o e2,r⟩,e3,out a o e2⟩
end
theorem zd7{x:List Int}{rs:List (List Int)}:∀k,k<=rs.length->(x::rs).getD (argBest (wz (x::rs)) k) []=fU x (rs.take k)
 |0,_=>rfl|k+1,hk=>by
  let ih:=zd7 (x:=x) (rs:=rs) k gV;let app:∀(a b:List (List Int)) (y:List Int),fU y (a++b)=fU (fU y a) b:=λa=>by
   induction a with
   |nil=>intro b y;rfl|cons z a ih=>intro b y;show ih b _
  let ht:rs.take (k+1)=rs.take k++[rs[k]' gV]:=Wx gV;let hv:(x::rs).getD (k+1) []=rs[k]' gV:=by
   rw[lq,DP,dz gV];rfl
  rw[ht,app,<-ih];change _=(if ltI (rs[k]' gV) _=true then _ else _);rw[argBest.eq_2,SN];unfold wz;rw[hv]
  split
  .exact hv
  .rfl
theorem zcg{K:W.Frag}{cA:Cl}{U:Ph}{H:Hp}:∀{xs:List D} {rs:List (List Int)} {vs:List V},jX xs=some rs->aC K cA U H xs vs->rs.length=vs.length/\∀(i:Nat) v,vs[i]?=some v->∃a,v=.ref a/\TupAt K U H a ((rs.getD i []).map .int)
 |[],rs,vs,h,r=>by cases h;cases r;show⟨rfl,λi v e=>by simp at e⟩|d::xs,rs,vs,h,r=>by
  cases r with
  |cons q r=>cases q with
   |@tup a ys us t ts=>
    unfold jX at h;cases e1:cB ys with
    |none=>simp only[e1]at h;cases h|some is=>cases e2:jX xs with
     |none=>simp only[e1,e2]at h;cases h|some rr=>
      simp only[e1,e2]at h;cases h;let⟨l,k⟩:=zcg e2 r;show⟨by simp[l],λi v e=>?_⟩;cases i with
      |zero=>
       simp at e;subst e;show⟨a,rfl,?_⟩;change TupAt K U H a (is.map V.int);rw[<-show _=is.map V.int from Nt e1 ts];show t
      |succ i=>show k i v (by simpa using e)
   |_=>cases h
section
variable {X:Cx}{cA:Cl}{aq:Nat->Nat->Bool}{aj:Bool}{F:Fn}{EX:XS}{e:Expr}{pos p:Pos}{es:List Expr}{Xs:Es}{fz:Bool}
def vo(K:W.Frag)(vs:List V)(H:Hp)(Q:VK):Prop:=∃(l:Addr) (x:List Int) (rs:List (List Int)) (us:List V),vs=[.ref l]/\cP K H l us/\(x::rs).length=us.length/\(∀(i:Nat) v,us[i]?=some v->∃a,v=.ref a/\gD K H a (((x::rs).getD i []).map V.int))/\∀(i:Nat) a,us[i]?=some (.ref a)->(x::rs).getD i []=fU x rs->Q (.ref a) H
theorem zgs:∀{is:List Int} {us:List Value},Vals (is.map V.int) us->IntsAre us is
 |[],_,.nil=>.nil|_::is,_,.cons ⟨t,e⟩ r=>by subst e;show .cons _ t (zgs r)
def zfu(hc:X.aj=true)(hu:X.A.units+2<cLine):cT X (.builtin "min") (vo X.K):=by
 rintro ao s Z H xs us Q I r ⟨l,x,rs,ws,e,hl,hlen,KQ,q⟩;subst e;let⟨u,rfl,ru⟩:=Vals.one r;cases (show u=Value.ref l from ru);let⟨its,rv,pl,hz⟩:=I.list hl;let hL:=rv.length;let hsz:its.toArray.size=rs.length+1:=by rw[eE,<-hL,<-hlen];rfl
 show zeV (rows:=x::rs) (I.ok.hd hc) hu pl.isList gV (λi v e=>?_) λv h' tk hP hk=>?_
 .let hi:its[i]?=some v:=by simpa using e
  let cj:i<ws.length:=by rw[hL];show(dI.mp hi).1
  let⟨a,ea,ht⟩:=KQ i _ (dz cj);let⟨v',e1,e2⟩:=rv.get (dz cj);rw[hi]at e1;cases e1;rw[ea]at e2;cases (show v=Value.ref a from e2);let⟨xs,rx,p,_⟩:=I.tuple ht;show⟨a,_,rfl,p,by simpa using zgs rx,by simp⟩
 .rw[hsz,Nat.add_sub_cancel]at hP;let hi:its[argBest (wz (x::rs)) rs.length]?=some v:=by simpa using hP
  let cj:argBest (wz (x::rs)) rs.length<ws.length:=by rw[hL];show(dI.mp hi).1
  let⟨a,ea,ht⟩:=KQ _ _ (dz cj);let⟨v',e1,e2⟩:=rv.get (dz cj);rw[hi]at e1;cases e1;rw[ea]at e2;cases (show v=Value.ref a from e2);show⟨.ref a,H,I.kept (h':=h') (t':=tk) hk,rfl,q _ a ((dz cj).trans (by rw[ea])) (by rw[zd7 rs.length (bU _),Ef])⟩
def ziR{K:W.Frag}:bA K cA .rY (vo K):=by
 intro U H ds vs Q zt rs o;let o:bD K cA U H (oG ds) Q:=o;unfold oG at o;split at o
 .rename_i xs _;let⟨v,rfl,rv⟩:=rs.one;obtain⟨a,us,rfl,sq,q⟩ : ∃a us,v=.ref a/\cP K H a us/\aC K cA U H xs us:=rv;split at o
  .rename_i x r e;let⟨l,k⟩:=zcg e q;show⟨a,x,r,us,rfl,sq,l,λi v ei=>?_,λi b ei hb=>?_⟩
   .obtain⟨c,e1,e2⟩:=k i v ei;show⟨c,e1,e2.jk⟩
   .obtain⟨c,e1,e2⟩:=k i _ ei;cases e1;rw[hb]at e2;let rr:∀is:List Int,aC K cA U H (is.map D.int) (is.map V.int):=λis=>by
     induction is with
     |nil=>show .nil|cons j is ih=>show .cons (.int j) ih
    show o.here (.tup e2 (rr _))
  .exact o.elim
 .exact o.elim
theorem znp{k:Nat}(hr:aX k X.A)(hc:X.aj=true)(hm:X.mg "min"=none)(hg:JK X "min" .globalImplicit)(ha:JA X cA aq aj F EX (e::es) Xs)(he:aF e=true:=by rfl)(cQ:es.all aF=true:=by rfl):JE X cA aq aj F EX (.Call (.Name "min" p) (e::es) [] pos) (.pr fz .rY Xs):=⟨zJ (zfu hc (by let:=hr.un;lia)) ziR hg.o hm PyProof.Rows.boot_min ha.o J0 J0 (aY he) (bB cQ)⟩
end
end Mi
namespace Mi
open PySem PySem.Spec PyProof.Rows L2 PySem.W
def gZ(K:Frag)(C:Addr)(m:Str):Addr:=match lN K C m with
 |some p=>p.1|none=>0
def jF(K:Frag)(C:Addr)(m:Str)(st:Stmt):FuncData:=match lN K C m with
 |some p=>p.2|none=>Et m m st
def zjB{fd:FuncData}{m q:Str}{st:Stmt}(h:nQ fd=Et m q st):fd=fnOf m q (aU st) (aH st) (aA st) .none fd.kwdefaults fd.doc fd.pyModule fd.annotations fd.code fd.closureTuple:=by
 cases fd;unfold nQ Et at h;cases h;rfl
def zn5{K:Frag}{C:Addr}{m q:Str}{st:Stmt}(h:(lN K C m).map (λp=>nQ p.2)=some (Et m q st)):oO K m q st (gZ K C m) (jF K C m st)/\Meth K C m (gZ K C m):=by
 cases e:lN K C m with
 |none=>rw[e]at h;cases h|some p=>
  rw[e]at h;let hp:nQ p.2=Et m q st:=cU h;let h1:gZ K C m=p.1:=by unfold gZ;rw[e]
  let h2:jF K C m st=p.2:=by unfold jF;rw[e]
  rw[h1,h2];unfold lN at e;split at e
  .rename_i f hf;split at e
   .rename_i oc od fd sl hl;split at e
    .rename_i hc;cases e;simp only[gA]at hc;let eq:fd=_:=zjB hp;let qn:fd.qualname=q:=by rw[eq]
     show⟨⟨⟨oc,od,_,_,_,_,_,_,sl,eq,hl,by rw[<-qn];show hc.1.1⟩,hc.1.2⟩,hf,hc.2,hc.1.2⟩
    .cases e
   .cases e
  .cases e
structure rC(fs:List (Str×Stmt))(ms:List t_)(xs:List (Nat×Str))(l:Lk)(b:Bd)(K:Frag):Prop where
 i:oV fs ms xs l K
 m:∀p∈b.ms,oO K p.1 p.2.1 p.2.2 (gZ K (dM K b.n) p.1) (jF K (dM K b.n) p.1 p.2.2)/\Meth K (dM K b.n) p.1 (gZ K (dM K b.n) p.1)
 b:yX K b=true
section
variable {K:Frag}{b:Bd}
def zoF{cA:Cl}(h:yX K b=true)(hb:cA.b 0=dM K b.n)(hg:cA.g 0=b.fs)(nd:b.fs.Nodup):Ow K cA 0:=by
 unfold yX at h;simp only[gA,nM,ju]at h;let⟨⟨⟨⟨⟨⟨⟨h1,h2⟩,h3⟩,h4⟩,h5⟩,h6⟩,h7⟩,h8⟩:=h;show⟨by rw[hb];show⟨h2,h3,h4,h5⟩,λf hf=>by rw[hb];rw[hg]at hf;show h8 f hf,by rw[hg];show nd⟩
def znX{f:Addr}(h:yX K b=true)(m:Meth K (dM K b.n) "__init__" f):Mk K (dM K b.n) f:=by
 unfold yX at h;simp only[gA,nM,ju]at h;show⟨h.1.1.2,m.at_,m.fn,h.1.2⟩
def zoN{h:Heap}{mg:Str->Option Value}(z:yX K b=true)(X:K.In h)(G:h.Ns mainGlobals mg):mg b.n=some (.ref (dM K b.n)):=by
 unfold yX at z;simp only[gA]at z;show znS z.1.1.1.1.1.1.1 X G
end
theorem aX.made{k:Nat}{A:Around}(r:aX (k+1) A)(env:Env)(C:Addr)(us:List Value):aX k ((A.deeper env).under (.builtin "type.__call__" ⟨.ref C::us,[]⟩)):=
 ⟨by let:=r.dp;rw[zeO];change A.depth+1+1+3*k+5<_;lia,by let:=r.un;rw[zeM];change A.units+3+1+16*k+200<_;lia,by
  let e:(A.deeper env).guards=some []:=r.gd;rw[<-e];cases h:(A.deeper env).guards<;>simp[Around.under,pushGuards,Code.guards,Code.isGuard,guardIds,h]⟩
section
variable {P:Program}{w:World}{K:Frag}{mg:Str->Option Value}{base:Heap}{cA:Cl}{aq:Nat->Nat->Bool}{T:Nat->Option Df}{x m q:Str}{st:Stmt}{ps:List Str}{k n:Nat}{cm:Bool}{df:Df}{C fa:Addr}{fd:FuncData}
theorem fM(D:Mt K C m q st ps fa fd)(N:List Str)(hT:T n=some df)
  (hb:∀(cdv:Value) (A:Around) (outer:List Env) (s:Shared) (H:Hp) (E:XK),aX k (A.deeper (envOfC q (aA st) s.heap.objs.size fa cdv))->
   JB (dh (eN P w) P w K mg base N q (aA st) fa cdv A outer s H E cm) cA aq cm (λc=>call aq T k c) (λ_ C dx H'=>E C dx H') (aH st) df.body) (S:bR N ps (aA st):=by show⟨rfl,rfl,rfl,dk,rfl,dk,dk⟩) (hp:df.gW=ps.length:=by rfl) (hm:df.many=N.length:=by rfl) :
  bZ P w K mg base (eN P w) cm (k+1) fa fd ps (k_ K cA (call aq T (k+1) cm n)):=ZP D.fn S hT hp hm hb
def zh5{c:Nat}:bZ P w K mg base (eN P w) cm 0 fa fd ps (KC K cA c (call aq T 0 cm n)):=by
 let no:∀vs H Q E,KC K cA c (call aq T 0 cm n) vs H Q E->False:=by
  rintro vs H Q E ⟨_,_,_,_,_,_,_,_,_,_,_,_,_,_,h⟩;show h.elim
 show⟨λvs H Q E h=>(no _ _ _ _ h).elim,λA outer s H args us vs Q E _ _ _ _ _ h=>(no _ _ _ _ h).elim⟩
theorem fR(D:D3 K mg x st ps)(N:List Str)(hT:T n=some df)
  (hb:∀(cdv:Value) (A:Around) (outer:List Env) (s:Shared) (H:Hp) (E:XK),aX (k+1) A->
   JB (dh (eN P w) P w K mg base N x (aA st) (fC K x) cdv A outer s H E cm) cA aq cm (λc=>call aq T k c) (λ_ C dx H'=>E C dx H') (aH st) df.body) (S:bR N ps (aA st):=by show⟨rfl,rfl,rfl,dk,rfl,dk,dk⟩) (hp:df.gW=ps.length:=by rfl) (hm:df.many=N.length:=by rfl) :
  bZ P w K mg base (eN P w) cm (k+1) (fC K x) (fdOf K x st) ps (k_ K cA (call aq T (k+1) cm n)):=Zh D.f S hT hp hm λcdv A outer s H E hr=>(hb cdv A outer s H E hr).o
theorem U8{p p2:Str}(h:oO K m q st fa fd/\Meth K C m fa)(hb:∀(kV doc pm:Value) (an:Option Addr) (cdv ct a b:Value),bindArgs (fnOf m q (aU st) (aH st) (aA st) .none kV doc pm an cdv ct) ⟨[a,b],[]⟩=pure [(p,a),(p2,b)]:=by intros;rfl):Mt K C m q st [p,p2] fa fd:=⟨h.1,h.2,by
 let⟨oc,od,kV,doc,pm,an,cdv,ct,osl,rfl,lk,iu⟩:=h.1.ex;show uZ (hb kV doc pm an cdv ct)⟩
theorem zpe{p p2 p3:Str}(h:oO K m q st fa fd/\Meth K C m fa)(hb:∀(kV doc pm:Value) (an:Option Addr) (cdv ct a b c:Value),bindArgs (fnOf m q (aU st) (aH st) (aA st) .none kV doc pm an cdv ct) ⟨[a,b,c],[]⟩=pure [(p,a),(p2,b),(p3,c)]:=by intros;rfl):Mt K C m q st [p,p2,p3] fa fd:=⟨h.1,h.2,by
 let⟨oc,od,kV,doc,pm,an,cdv,ct,osl,rfl,lk,iu⟩:=h.1.ex;show u5 (hb kV doc pm an cdv ct)⟩
theorem zoT{p p2 p3 p4:Str}(h:oO K m q st fa fd/\Meth K C m fa)(hb:∀(kV doc pm:Value) (an:Option Addr) (cdv ct a b c d:Value),bindArgs (fnOf m q (aU st) (aH st) (aA st) .none kV doc pm an cdv ct) ⟨[a,b,c,d],[]⟩=pure [(p,a),(p2,b),(p3,c),(p4,d)]:=by intros;rfl):Mt K C m q st [p,p2,p3,p4] fa fd:=⟨h.1,h.2,by
 let⟨oc,od,kV,doc,pm,an,cdv,ct,osl,rfl,lk,iu⟩:=h.1.ex;show u6 (hb kV doc pm an cdv ct)⟩
end
def jd(fs:List (Str×Stmt))(ms:List t_)(xs:List (Nat×Str))(l:Lk)(b:Bd):Hook where
 α:=((List (Option FuncData)×List (Option FuncData)×Bool)×(List (Option FuncData)×Bool))×Bool
 obs:=λs=>((jP fs ms xs l s,wJ b s),nR s)
 val:=λw=>((lC fs ms w,wK b),true)
 says:=λ_ h=>∃K:Frag,K.In h/\rC fs ms xs l b K/\kI K h
 of:=λw s e=>by
  let e9:(jP fs ms xs l s,wJ b s)=(lC fs ms w,wK b):=lB Prod.fst e;let el:nR s=true:=lB Prod.snd e;let e0:jP fs ms xs l s=lC fs ms w:=lB Prod.fst e9;let e4:wJ b s=wK b:=lB Prod.snd e9;let e3:(_&&_&&_)=true:=lB (λx=>x.2.2) e0;rw[gA,gA,ju,ju]at e3;show⟨bM s.heap,zg9,⟨⟨λp hp=>?_,Kab e3.1.1,λm hm=>?_,e3.1.2,λx hx=>zoz (e3.2 x hx)⟩,λp hp=>?_,lB Prod.snd e4⟩,zjN el⟩
  .exact zoy (Qa.mp (lB Prod.fst e0) p hp)
  .exact znI (Qa.mp (lB (λx=>x.2.1) e0) m hm)
  .exact zn5 (Qa.mp (lB Prod.fst e4) p hp)
 keeps:=λw h h' ⟨K,X,Y,SX⟩ k=>⟨K,X.keeps k,Y,SX.keeps k⟩
def Du{l:OpenLaw}{k:Nat}{q:Program}{loose:List Str}{XP:(Str->Option Value)->Heap->Prop}{fs:List (Str×Stmt)}{ms:List t_}{xs:List (Nat×Str)}{lk:Lk}{b:Bd}{d:DefRec}{x:Str}(hn:l.most=some 63)(Rh:d.params.defaults=[])(hr:aX k callerA)
  (F:∀(w:World) (K:Frag) (mg:Str->Option Value) (fa:Addr) (h:Heap),rC fs ms xs lk b K->kI K h->K.In h->h.Ns mainGlobals mg->mg d.name=some (.ref fa)->
   ∃fd:FuncData,(∀(s:Shared) (u:Value),BindsTo s fd ⟨[u],[]⟩ [(x,u)])/\∀base:Heap,K.In base->base.Ns mainGlobals mg->bZ l.prog w K mg base (eN l.prog w) true k fa fd [x] (uY K)) :
  WalkO q loose XP (jd fs ms xs lk b).says l.row.toRowW d [] (λf vs=>PySem.call f vs):=by
 show XM.n_ hn Rh λw s₀ s₁ mg mb fa o pm cd doc a vs ns G Y ho hd iu hmg Bw hints hlen hg=>?_;let⟨K,KX,SY,LH⟩:=Y;let⟨fd,hb,hF⟩:=F w K mg fa _ SY LH KX G.T.g hmg;show zfm KX G.T.g G.T.b G.T.builtins G.T.nolimit hg Bw hints (jO hlen J0) hr hF hb (λH hS=>⟨a,ns,rfl,hS,hlen,trivial,λ_=>rfl⟩) (λH e s' h=>by
  let⟨_,_,_,_,_,_,_,_,_,_,z⟩:=h;show z) LH
end Mi
namespace Mi
open PySem
def zmq{r:List Int}{x j:Int}(h0:0<=j)(h:j<(r.length:Int)+1):prim .ix [.fl (r.map .int++[.int x]),.int j]=some (.dat (.int (at' (r++[x]) j))):=by
 let:=zot (fs:=r++[x]) h0 (by rw[dJ];simp;lia)
 rwa [tV]at this
def qw{α:Type}{l:List α}{g:α->Option D}:l.filterMap g=[]↔∀x∈l,g x=none:=by
 rw[List.filterMap_eq_nil_iff]
theorem zc2{α:Type}{q:α->Bool}:∀l:List α,l.length=(l.filter q).length+(l.filter λx=>!q x).length
 |[]=>rfl|x::l=>by
  let:=zc2 (q:=q) l;simp only[GD];cases q x<;>simp<;>lia
def zmF{ps:List (Int×Int)}{n:Int}(h1:1<=n)(h8:n<=8)(ht:∀p∈ps,0<=p.1/\p.1<p.2/\p.2<n)(hi:ps.Pairwise lx):(ps.length:Int)<=7*n:=by
 let key:∀m:Nat,∀qs:List (Int×Int),(∀p∈qs,0<=p.1/\p.1<(m:Int)/\p.1<p.2/\p.2<n)->qs.Nodup->(qs.length:Int)<=7*m:=by
  intro m
  induction m with
  |zero=>
   intro qs hq _;cases qs with
   |nil=>simp|cons p r=>have:=hq p RQ;lia
  |succ m ih=>
   intro qs hq nd;let h1:=ih (qs.filter λp=>decide (p.1<(m:Int))) (λp hp=>by
    let⟨a,b⟩:=gB.mp hp;let:=hq p a;let:=fG b
    lia) (nd.filter _)
   let h2:(qs.filter λp=>!decide (p.1<(m:Int))).length<=(([1,2,3,4,5,6,7]:List Int).map λx=>((m:Int),x)).length:=zdb (nd.filter _) (λp hp=>by
    let⟨a,b⟩:=gB.mp hp;let:=hq p a;let b:¬p.1<(m:Int):=by simpa using b
    let⟨p1,p2⟩:=p;dsimp only at *;let e:p1=(m:Int):=by lia
    subst e;show lu.mpr ⟨p2,?_,rfl⟩;let:p2=1\/p2=2\/p2=3\/p2=4\/p2=5\/p2=6\/p2=7:=by lia
    simpa using this)
   let h3:=zc2 (q:=λp=>decide (p.1<(m:Int))) qs;simp only[cO,gw,Ej]at h2
   lia
 let:=key n.toNat ps (λp hp=>by let:=ht p hp;lia) (zeE hi)
 lia
theorem W.c0{F:List Xv->M Xv}{xs:List Xv}{s:S}{e:D}{P:Xv->S->Prop}(h:W (F (dD 0 xs)) [] λv _=>v=.d e)(k:P (.d e) s)(hl:locs xs=[]:=by rfl):W (cH F xs) s P:=jo hl (h.imp λ_ _ q=>⟨_,q,k⟩)
theorem W.c1{F:List Xv->M Xv}{xs:List Xv}{s:S}{P:Xv->S->Prop}(h:W (F (dD 0 xs)) [] λv _=>∃d,v=.d d)(k:∀d,P (.d d) s)(hl:locs xs=[]:=by rfl):W (cH F xs) s P:=jo hl (h.imp λ_ _ ⟨d,q⟩=>⟨d,q,k d⟩)
section
variable {s:S}{o o' L L':SO}
def g1_:(s++[o]++[L])[s.length]?=some o:=by simp
def znZ:(s++[o]++[L]).set s.length o'=s++[o']++[L]:=by simp
def Kap{F:List Xv->M Xv}{xs:List Xv}{P:Xv->S->Prop}(hl:locs xs=[s.length])(h:W (F (dD 0 xs)) [o] λv s1=>∃d o',v=.d d/\s1=[o']/\P (.d d) (s++[o']++[L])):W (cH F xs) (s++[o]++[L]) P:=by
 show Ug (n:=s.length) (o:=o) hl g1_ (h.imp λv s1=>?_);rintro⟨d,o',rfl,rfl,hp⟩;show⟨d,o',rfl,rfl,by rw[znZ];show hp⟩
end
def zeK{k d k2 d2 a b:Int}(hk:1<=k)(zX:0<=k2)(Ez:k*d2<=k2*d)(h1:d<=a-b)(h2:a-b<=k-d):d2<=a*k2/k-b*k2/k/\a*k2/k-b*k2/k<=k2-d2:=by
 let Dv:0<k:=by lia
 let e1:b*k2/k*k<=b*k2:=Int.ediv_mul_le _ gV;let e2:b*k2<(b*k2/k+1)*k:=Int.lt_ediv_add_one_mul_self _ Dv;let f1:0<=(a-b-d)*k2:=Am gV zX;let f2:0<=(k-d-(a-b))*k2:=Am gV zX;rw[qG,qG]at f1;rw[qG,qG,qG]at f2;rw[vI,En]at e2;rw[lA k2 d]at Ez;let g1:b*k2/k+d2<=a*k2/k:=PB Dv (by rw[vI,lA d2 k];lia);let g2:a*k2/k<b*k2/k+k2-d2+1:=Ls Dv (by rw[vI,qG,vI,lA d2 k,lA k2 k,En];lia)
 lia
def U9{n k d k2 d2:Int}{ps:List (Int×Int)}{hs:List Int}(h:Web n ps)(hh:bx n k d ps hs)(hk:1<=k)(hd:1<=d)(zX:1<=k2)(hd2:1<=d2)(Ez:k*d2<=k2*d):bx n k2 d2 ps (hs.map λx=>x*k2/k):=by
 let hl:=hh.len;show⟨by rw[cO];show hl,λx hx=>?_,λp hp=>?_⟩
 .obtain⟨y,hy,rfl⟩:=lu.mp hx;let:=hh.lo y hy;show⟨Int.ediv_nonneg (Am this.1 gV) gV,Ls gV ?_⟩;rw[lA k2 k];show Lf this.2 gV
 .let ht:=h.tie p hp;rw[Ga gV gV,Ga gV gV];rcases(mC hd).mp (hh.fit p hp) with ⟨a,b⟩|⟨a,b⟩
  .exact(mC hd2).mpr (.inl (zeK hk gV Ez a b))
  .exact(mC hd2).mpr (.inr (zeK hk gV Ez a b))
noncomputable abbrev Fr:=List (Option (List Int))
def bH:Option (List Int)->D
 |none=>.non|some l=>.tup (l.map .int)
def cellK:Option (List Int)->Kx
 |none=>.non|some l=>.row l
def jr(F:Fr):D:=.tup (F.map bH)
theorem U_:∀l:List Int,cB (l.map .int)=some l
 |[]=>rfl|i::l=>by change Option.map _ (cB (l.map .int))=_;rw[U_ l];rfl
def Ol(F:Fr):kOf (jr F)=some (F.map cellK):=by
 change Cu (F.map bH)=_
 induction F with
 |nil=>rfl|cons c F ih=>
  let e:uK (bH c)=some (cellK c):=by
   cases c with
   |none=>rfl|some l=>change Option.map _ (cB (l.map .int))=_;rw[U_];rfl
  simp only[iH,Cu,e,ih]
theorem zgy:∀{F G:Fr},F.map cellK=G.map cellK->F=G
 |[],[],_=>rfl|[],_::_,h=>by cases h|_::_,[],h=>by cases h|c::F,e::G,h=>by
  simp only[iH,List.cons.injEq]at h;rw[zgy h.2]
  congr 1
  let h1:=h.1;cases c with
  |none=>cases e with
   |none=>rfl|some _=>cases h1
  |some l=>cases e with
   |none=>cases h1|some m=>cases h1;rfl
structure Bo(n k:Nat)(es:Nat->List Int)(A:Int->Int->Bool):Prop where
 hn:n<=8
 hk:k<=24
 mem:∀i,i<n->∀e∈es i,0<=e/\e<n/\e≠i
 sym:∀i e:Nat,i<n->e<n->(e:Int)∈es i->(i:Int)∈es e
 len:∀i,i<n->(es i).length<=8
 asy:∀a b:Int,0<=a->a<k->0<=b->b<k->A a b=A b a
structure Fv(n k:Nat)(F:Fr):Prop where
 len:F.length=n
 lo:∀(i:Nat) L,F[i]?=some (some L)->∀x∈L,0<=x/\x<k
 ll:∀(i:Nat) L,F[i]?=some (some L)->L.length<=24
 so:∀(i:Nat) L,F[i]?=some (some L)->L.Pairwise (·<·)
structure qx(es:Nat->List Int)(A:Int->Int->Bool)(F:Fr)(g:Nat->Int):Prop where
 mem:∀(i:Nat) L,F[i]?=some (some L)->g i∈L
 fit:∀(i e:Nat) L M,F[i]?=some (some L)->F[e]?=some (some M)->(e:Int)∈es i->A (g i) (g e)=true
def Sat(es:Nat->List Int)(A:Int->Int->Bool)(F:Fr):Prop:=∃g,qx es A F g
def gb(f:Int->Bool)(F:Fr)(e:Int):Fr:=F.set e.toNat ((F[e.toNat]?.join).map (·.filter f))
def settle(es:Nat->List Int)(A:Int->Int->Bool)(F:Fr)(p:Nat)(x:Int):Fr:=(es p).foldl (gb (A x)) (F.set p none)
theorem zd0{f:Int->Bool}{F:Fr}{e:Int}:(gb f F e).length=F.length:=pJ ..
theorem Va{f:Int->Bool}:∀{l:List Int} {F:Fr},(l.foldl (gb f) F).length=F.length
 |[],F=>rfl|e::l,F=>by rw[List.foldl_cons,Va,zd0]
def ziH{f:Int->Bool}{F:Fr}{e:Int}(h0:0<=e)(i:Nat)(hi:i<F.length):(gb f F e)[i]?=if (i:Int)=e then F[i]?.map (Option.map (·.filter f)) else F[i]?:=by
 unfold gb;by_cases z:(i:Int)=e
 .let:e.toNat=i:=by lia
  rw[if_pos z,this,yJ hi,dz hi];rfl
 .rw[if_neg z,qF gV]
theorem Vb{f:Int->Bool}:∀{l:List Int} {F:Fr} (i:Nat),(∀e∈l,0<=e)->i<F.length->(l.foldl (gb f) F)[i]?=if (i:Int)∈l then F[i]?.map (Option.map (·.filter f)) else F[i]?
 |[],F,i,_,hi=>by simp|e::l,F,i,h,hi=>by
  rw[List.foldl_cons,Vb i (λx hx=>h x (by simp[hx])) (by rw[zd0];show hi),ziH (h e RQ) i hi];let ff:∀c:Option (Option (List Int)),(c.map (Option.map (·.filter f))).map (Option.map (·.filter f))=c.map (Option.map (·.filter f)):=λc=>by
   cases c with
   |none=>rfl|some c=>cases c with
    |none=>rfl|some L=>simp
  by_cases a:(i:Int)=e
  .by_cases b:(i:Int)∈l
   .rw[if_pos b,if_pos a,if_pos (by simp[b]),ff]
   .rw[if_neg b,if_pos a,if_pos (by simp[a])]
  .by_cases b:(i:Int)∈l
   .rw[if_pos b,if_neg a,if_pos (by simp[b])]
   .rw[if_neg b,if_neg a,if_neg (by simp[a,b])]
section
variable {n k:Nat}{es:Nat->List Int}{A:Int->Int->Bool}{F:Fr}{p:Nat}{x:Int}{g:Nat->Int}
def zb7:(settle es A F p x).length=F.length:=by unfold settle;rw[Va,pJ]
def zcJ(B:Bo n k es A)(hF:F.length=n)(hp:p<n)(i:Nat)(hi:i<n):(settle es A F p x)[i]?=if i=p then some none else if (i:Int)∈es p then F[i]?.map (Option.map (·.filter (A x))) else F[i]?:=by
 unfold settle;rw[Vb i (λe he=>(B.mem p hp e he).1) (by rw[pJ,hF];show hi)];by_cases e:i=p
 .subst e;rw[if_pos rfl,if_neg (λz=>(B.mem i hp _ z).2.2 rfl),yJ (by rw[hF];show hi)]
 .rw[if_neg e,qF (Ne.symm e)]
def rE{i:Nat}{c:Option (List Int)}(hF:F.length=n)(h:F[i]?=some c):i<n:=by rw[<-hF];show(dI.mp h).1
def Om(B:Bo n k es A)(hF:F.length=n)(hp:p<n){i:Nat}{M:List Int}(h:(settle es A F p x)[i]?=some (some M)):i≠p/\∃L,F[i]?=some (some L)/\M=if (i:Int)∈es p then L.filter (A x) else L:=by
 let hi:i<n:=rE (by rw[zb7];show hF) h;rw[zcJ B hF hp i hi]at h;by_cases e:i=p
 .rw[if_pos e]at h;cases h
 .rw[if_neg e]at h;show⟨e,?_⟩;by_cases m:(i:Int)∈es p
  .rw[if_pos m]at h;let⟨c,e1,e2⟩:=mF.mp h;cases c with
   |none=>cases e2|some L=>cases e2;show⟨L,e1,by rw[if_pos m]⟩
  .rw[if_neg m]at h;show⟨M,h,by rw[if_neg m]⟩
def KR(B:Bo n k es A)(hF:F.length=n)(hp:p<n){i:Nat}{L:List Int}(hi:i≠p)(h:F[i]?=some (some L)):(settle es A F p x)[i]?=some (some (if (i:Int)∈es p then L.filter (A x) else L)):=by
 rw[zcJ B hF hp i (rE hF h),if_neg hi,h]
 split<;>rfl
def KY(B:Bo n k es A)(v:Fv n k F)(hp:p<n):Fv n k (settle es A F p x):=by
 show⟨by rw[zb7];show v.len,λi M h=>?_,λi M h=>?_,λi M h=>?_⟩<;>let⟨_,L,e,rfl⟩:=Om B v.len hp h
 .intro y hy;show v.lo i L e y ?_;split at hy
  .exact(gB.mp hy).1
  .exact hy
 .split
  .exact jO (Ab _ _) (v.ll i L e)
  .exact v.ll i L e
 .split
  .exact(v.so i L e).filter _
  .exact v.so i L e
def Oo(B:Bo n k es A)(v:Fv n k F)(hp:p<n){L:List Int}(hL:F[p]?=some (some L))(s:qx es A F g):qx es A (settle es A F p (g p)) g:=by
 show⟨λi M h=>?_,λi e M N h1 h2 he=>?_⟩
 .obtain⟨_,L',e,rfl⟩:=Om B v.len hp h;let:=s.mem i L' e
  split
  .exact gB.mpr ⟨this,s.fit p i L L' hL e (by assumption)⟩
  .exact this
 .obtain⟨_,L',e1,_⟩:=Om B v.len hp h1;let⟨_,L2,e2,_⟩:=Om B v.len hp h2;show s.fit i e L' L2 e1 e2 he
def zeJ(B:Bo n k es A)(v:Fv n k F)(hp:p<n){L:List Int}(hL:F[p]?=some (some L))(hx:x∈L)(s:qx es A (settle es A F p x) g):qx es A F λi=>if i=p then x else g i:=by
 let ap:∀(i:Nat) M,i≠p->F[i]?=some (some M)->(i:Int)∈es p->A x (g i)=true/\(0<=g i/\g i<k):=λi M ni h m=>by
  let h2:=KR (x:=x) B v.len hp ni h;let:=s.mem i _ h2;rw[if_pos m]at this;show⟨(gB.mp this).2,v.lo i M h _ (gB.mp this).1⟩
 let hxk:=v.lo p L hL x hx;show⟨λi M h=>?_,λi e M N h1 h2 he=>?_⟩
 .by_cases z:i=p
  .subst z;rw[if_pos rfl];rw[hL]at h;cases h;show hx
  .rw[if_neg z];let:=s.mem i _ (KR (x:=x) B v.len hp z h);split at this
   .exact(gB.mp this).1
   .exact this
 .let li:=rE v.len h1;let le:=rE v.len h2;by_cases z:i=p
  .subst z;let ne:e≠i:=λq=>(B.mem i li _ he).2.2 (by rw[q]);rw[if_pos rfl,if_neg ne];show(ap e N ne h2 he).1
  .by_cases y:e=p
   .subst y;rw[if_neg z,if_pos rfl];let m:=B.sym i e li le he;let⟨q1,q2⟩:=ap i M z h1 m;rw[B.asy _ _ q2.1 q2.2 hxk.1 hxk.2];show q1
   .rw[if_neg z,if_neg y];show s.fit i e _ _ (KR (x:=x) B v.len hp z h1) (KR (x:=x) B v.len hp y h2) he
theorem Gg(B:Bo n k es A)(v:Fv n k F)(hp:p<n){L:List Int}(hL:F[p]?=some (some L)):Sat es A F↔∃x∈L,Sat es A (settle es A F p x):=
 ⟨λ⟨g,s⟩=>⟨g p,s.mem p L hL,g,Oo B v hp hL s⟩,λ⟨x,hx,g,s⟩=>⟨_,zeJ B v hp hL hx s⟩⟩
def dG(es:Nat->List Int)(F:Fr)(p:Nat):Nat:=((es p).filter λe=>(F[e.toNat]?.join).isSome).length
def bnd(es:Nat->List Int)(F:Fr):Fr:=F.mapIdx λi c=>if 0<dG es F i then c else none
def zif{i:Nat}:(bnd es F)[i]?=F[i]?.map λc=>if 0<dG es F i then c else none:=by unfold bnd;rw[List.getElem?_mapIdx]
def Dw{i:Nat}{L:List Int}(h:(bnd es F)[i]?=some (some L)):F[i]?=some (some L)/\0<dG es F i:=by
 rw[zif]at h;let⟨c,e1,e2⟩:=mF.mp h;split at e2
 .subst e2;show⟨e1,by assumption⟩
 .cases e2
theorem zii(v:Fv n k F):Fv n k (bnd es F):=⟨by unfold bnd;rw[List.length_mapIdx];show v.len,λi L h=>v.lo i L (Dw h).1,λi L h=>v.ll i L (Dw h).1,λi L h=>v.so i L (Dw h).1⟩
def zez{i e:Nat}{L:List Int}(hm:(e:Int)∈es i)(h:F[e]?=some (some L)):0<dG es F i:=by
 unfold dG;show List.length_pos_of_mem (a:=(e:Int)) (gB.mpr ⟨hm,?_⟩);rw[pq,h];rfl
def ziX(B:Bo n k es A)(v:Fv n k F)(ne:∀(i:Nat) L,F[i]?=some (some L)->L≠[]):Sat es A (bnd es F)↔Sat es A F:=by
 constructor
 .rintro⟨g,s⟩;let to:∀(i:Nat) L,F[i]?=some (some L)->0<dG es F i->(bnd es F)[i]?=some (some L):=λi L h q=>by rw[zif,h];change some (if _ then _ else _)=_;rw[if_pos q]
  show⟨λi=>if 0<dG es F i then g i else ((F[i]?.join).getD []).headD 0,λi L h=>?_,λi e L M h1 h2 he=>?_⟩
  .by_cases q:0<dG es F i
   .rw[if_pos q];show s.mem i L (to i L h q)
   .rw[if_neg q,h];change L.headD 0∈L;cases L with
    |nil=>show absurd rfl (ne i [] h)|cons a L=>show kO
  .let q1:=zez he h2;let q2:=zez (B.sym i e (rE v.len h1) (rE v.len h2) he) h1;rw[if_pos q1,if_pos q2];show s.fit i e L M (to i L h1 q1) (to e M h2 q2) he
 .rintro⟨g,s⟩;show⟨g,λi L h=>s.mem i L (Dw h).1,λi e L M h1 h2 he=>s.fit i e L M (Dw h1).1 (Dw h2).1 he⟩
theorem Vc(h:∀(i:Nat) L,F[i]?≠some (some L)):Sat es A F:=⟨λ_=>0,λi L q=>absurd q (h i L),λi _ L _ q=>absurd q (h i L)⟩
theorem zke{i:Nat}(h:F[i]?=some (some [])):¬Sat es A F:=λ⟨g,s⟩=>nomatch s.mem i [] h
def gP(k:Nat):List Int:=(List.range k).map λ(i:Nat)=>(i:Int)
def dY{k:Nat}{y:Int}:y∈gP k↔0<=y/\y<k:=by
 unfold gP;rw[lu]
 constructor
 .rintro⟨i,hi,rfl⟩;let:=pA.mp hi;lia
 .intro h;show⟨y.toNat,pA.mpr gV,by lia⟩
def Vd(B:Bo n k es A)(v:Fv n k F)(hp:p<n)(hk:1<=k)(dw:∀t a b:Int,0<=a->a<k->0<=b->b<k->A ((a+t)%k) ((b+t)%k)=A a b)(all:∀(i:Nat) L,F[i]?=some (some L)->L=gP k)(hL:F[p]?=some (some (gP k))):Sat es A F↔Sat es A (settle es A F p 0):=by
 constructor
 .rintro⟨g,s⟩;let md:∀z:Int,0<=z%(k:Int)/\z%(k:Int)<k:=λz=>⟨yR _ gV,Ah _ gV⟩;let s2:qx es A F λi=>(g i + -(g p))%k:=by
   show⟨λi L h=>?_,λi e L M h1 h2 he=>?_⟩
   .rw[all i L h];show dY.mpr (md _)
   .let a:=dY.mp (all i L h1▸s.mem i L h1);let b:=dY.mp (all e M h2▸s.mem e M h2);change A ((g i + -(g p))%k) ((g e + -(g p))%k)=true;rw[dw _ _ _ a.1 a.2 b.1 b.2];show s.fit i e L M h1 h2 he
  let:=Oo B v hp hL s2;let e0:(g p + -(g p))%(k:Int)=0:=by rw[Int.add_right_neg];rfl
  simp only[e0]at this;show⟨_,this⟩
 .intro h;show(Gg B v hp hL).mpr ⟨0,dY.mpr ⟨by lia,by lia⟩,h⟩
def unset(F:Fr):Nat:=F.countP Option.isSome
def zc1:unset (bnd es F)<=unset F:=by
 unfold unset bnd;generalize dG es F=f
 induction F generalizing f with
 |nil=>simp|cons c F ih=>
  rw[List.mapIdx_cons,Eh,Eh];let:=ih (λi=>f (i+1));let e:(if (if 0<f 0 then c else none).isSome=true then 1 else 0)<=(if c.isSome=true then 1 else 0):=by
   split<;>split<;>simp_all
  lia
def zfC{F:Fr}:∀{p:Nat} {L:List Int},F[p]?=some (some L)->unset (F.set p none)+1=unset F:=by
 unfold unset
 induction F with
 |nil=>intro p L h;simp at h|cons c F ih=>
  intro p L h;cases p with
  |zero=>simp at h;subst h;simp|succ p=>
   let:=ih (p:=p) (L:=L) (by simpa using h);rw[List.set_cons_succ,Eh,Eh]
   lia
def zgv{f:Int->Bool}{F:Fr}{e:Int}:unset (gb f F e)<=unset F:=by
 unfold unset gb;generalize e.toNat=j
 induction F generalizing j with
 |nil=>simp|cons c F ih=>
  cases j with
  |zero=>cases c<;>simp|succ j=>
   rw[List.set_cons_succ,Eh,Eh,DP];let:=ih j
   lia
theorem zcf{f:Int->Bool}:∀{l:List Int} {F:Fr},unset (l.foldl (gb f) F)<=unset F
 |[],F=>bU _|e::l,F=>jO (zcf (l:=l)) zgv
def KZ{L:List Int}(h:F[p]?=some (some L)):unset (settle es A F p x)+1<=unset F:=by
 let:=zcf (f:=A x) (l:=es p) (F:=F.set p none);let:=zfC h;unfold settle
 lia
theorem zeN(h:unset F=0)(i:Nat)(L:List Int):F[i]?≠some (some L):=λe=>by
 let:=List.countP_eq_zero.mp h _ (dZ e);show this rfl
def lH(es:Nat->List Int)(A:Int->Int->Bool)(kvs:iJ):Prop:=∀F d,bY (F.map cellK) kvs=some d->∃b,d=.bl b/\(b=true↔Sat es A F)
def zdU{j q:List Kx}{d:D}:∀{kvs:iJ},bY j (jB q d kvs)=if j=q then some d else bY j kvs:=by
 intro kvs;unfold jB;let app:∀{r:iJ},bY j (r++[(q,d)])=match bY j r with|some e=>some e|none=>if j=q then some d else none:=λ{r}=>by
  induction r with
  |nil=>
   change (if q=j then some d else none)=if j=q then some d else none
   by_cases e:q=j
   .rw[if_pos e,if_pos e.symm]
   .rw[if_neg e,if_neg λz=>e z.symm]
  |cons p r ih=>
   rw[List.cons_append];unfold bY;by_cases e:p.1=j
   .simp[e]
   .simp only[e,nO];show ih
 by_cases h:(bY q kvs).isSome=true
 .rw[if_pos h];by_cases e:j=q
  .subst e;rw[if_pos rfl]
   induction kvs with
   |nil=>simp[bY]at h|cons p r ih=>
    rw[iH];by_cases z:p.1=j
    .rw[if_pos z];unfold bY;rw[if_pos z]
    .rw[if_neg z];unfold bY at h ⊢;rw[if_neg z]at h ⊢;show ih h
  .rw[if_neg e];clear h
   induction kvs with
   |nil=>rfl|cons p r ih=>
    rw[iH];by_cases z:p.1=q
    .rw[if_pos z];unfold bY;rw[if_neg (λy=>e (y.symm.trans z)),if_neg (λy=>e (y.symm.trans z))];show ih
    .rw[if_neg z];unfold bY;by_cases y:p.1=j
     .rw[if_pos y,if_pos y]
     .rw[if_neg y,if_neg y];show ih
 .rw[if_neg h,app];by_cases e:j=q
  .subst e;let:bY j kvs=none:=by simpa using h
   simp[this]
  .rw[if_neg e,if_neg e];cases bY j kvs<;>rfl
def zhd{q:List Kx}{d:D}{kvs:iJ}:(jB q d kvs).length<=kvs.length+1:=by
 unfold jB
 split
 .rw[cO];lia
 .simp
theorem zjY{kvs:iJ}{b:Bool}(h:lH es A kvs)(hb:b=true↔Sat es A F):lH es A (jB (F.map cellK) (.bl b) kvs):=λG d e=>by
 rw[zdU]at e;by_cases z:G.map cellK=F.map cellK
 .rw[if_pos z]at e;cases e;rw[zgy z];show⟨b,rfl,hb⟩
 .rw[if_neg z]at e;show h G d e
end
def cnt(k:Nat):Nat->Nat
 |0=>1|m+1=>1+k*cnt k m
section
variable {aq:Nat->Nat->Bool}{aj:Bool}{F:Fn}{J:Vs}{s:S}{P:Xv->S->Prop}
def W.sG{c:Nat}{fs:List D}{P:List D->S->Prop}(h:P fs s):W (Mi.sG c (.d (.ob c fs))) s P:=by
 change W (if c=c then M.ret fs else M.no) s P;rw[if_pos rfl];show W.ret h
theorem W.cm{c f:Nat}{o:E}{xs:Es}{fs:List D}{vs:List Xv}(h1:cY aq o J=some (.d (.ob c fs)))(h2:oX aq xs J=some vs)(k:W (cH (F f) (.d (.ob c fs)::vs)) s P):W (ev aq aj F (.cm c f o xs) J) s P:=
 W.bd (W.eq (f9 o _ h1) (W.bd (W.sG (W.bd (W.eq (jL xs h2) (W.qt k))))))
theorem W.sy(h:P (.l s.length) (s++[.dct []])):W (ev aq aj F .sy J) s P:=⟨_,_,rfl,h⟩
theorem W.key{x:D}{kx:List Kx}{P:List Kx->S->Prop}(e:kOf x=some kx)(h:P kx s):W (Mi.key (.d x)) s P:=W.opt e h
theorem W.fV{n:Nat}{kvs:iJ}{P:Nat×iJ->S->Prop}(e:s[n]?=some (.dct kvs))(h:P (n,kvs) s):W (Mi.fV (.l n)) s P:=⟨_,s,by unfold Mi.fV;simp only[e],h⟩
theorem W.B_{b:Bool}{k d:E}{x:D}{n:Nat}{kx:List Kx}{kvs:iJ}(h1:cY aq k J=some (.d x))(h2:cY aq d J=some (.l n))(e:kOf x=some kx)(hn:s[n]?=some (.dct kvs))(h:P (.d (.bl ((bY kx kvs).isSome==b))) s):W (ev aq aj F (.B_ b k d) J) s P:=
 W.bd (W.eq (f9 k _ h1) (W.bd (W.eq (f9 d _ h2) (W.bd (W.key e (W.bd (W.fV hn (W.ret h))))))))
theorem W.p7{d k:E}{x v:D}{n:Nat}{kx:List Kx}{kvs:iJ}(h1:cY aq d J=some (.l n))(h2:cY aq k J=some (.d x))(e:kOf x=some kx)(hn:s[n]?=some (.dct kvs))(hv:bY kx kvs=some v)(h:P (.d v) s):W (ev aq aj F (.p7 d k) J) s P:=
 W.bd (W.eq (f9 d _ h1) (W.bd (W.eq (f9 k _ h2) (W.bd (W.key e (W.bd (W.fV hn (W.opt (a:=.d v) (by change Option.map _ (bY kx kvs)=_;rw[hv];rfl) h))))))))
theorem W.Fg{a:E}(h:W (ev aq aj F a J) s λx s1=>W (rd x) s1 λd s2=>∃b,xP d=some b/\P (.d (.bl b)) s2):W (ev aq aj F (.Fg a) J) s P:=
 W.bd (h.imp λ_ _ h=>W.bd (h.imp λ_ _ ⟨_,e,h⟩=>W.bd (W.opt e (W.ret h))))
theorem KaK{xs:List D}{P:Src×Nat->S->Prop}(h:P (.fix (enumFrom 0 xs),(enumFrom 0 xs).length) s):W (oH (.d (.tup xs))) s P:=⟨_,s,rfl,h⟩
def W.mk{c f:Nat}{xs:Es}{vs:List Xv}{ds:List D}(h:W (evs aq aj F xs J) s λus s1=>us=vs/\P (.d (.ob c ds)) s1)(hl:locs vs=[])(k:W (F f (.d .any::vs)) [] λv _=>v=.d (.tup ds)):W (ev aq aj F (.mk c f xs) J) s P:=by
 show W.bd (h.imp λus s1 ⟨e,hp⟩=>?_);subst e;let⟨v,s2,e1,rfl⟩:=k;show⟨_,s1,?_,hp⟩;unfold Sg;rw[if_pos hl];simp only[e1]
end
def WS.dput{aq:Nat->Nat->Bool}{aj:Bool}{F:Bool->Fn}{J:Vs}{s:S}{Q:Out->S->Prop}{d k v:E}{x:D}{n:Nat}{kx:List Kx}(h1:cY aq d J=some (.l n))(h2:cY aq k J=some (.d x))(e:kOf x=some kx)
  (h:W (ev aq aj (F aj) v J) s λz s1=>∃w kvs,z=.d w/\s1[n]?=some (.dct kvs)/\kvs.length<sizeLine/\Q (.nx J) (s1.set n (.dct (jB kx w kvs)))):WS (ex aq aj F (.dput d k v) J) s Q:=by
 show WS.ofM (W.bd (h.imp λz s1 hz=>?_));let⟨w,kvs,ez,hn,hl,q⟩:=hz;subst ez;show W.bd (W.dat (W.bd (W.eq (f9 d _ h1) (W.bd (W.eq (f9 k _ h2) (W.bd (W.key e (W.bd (W.fV hn ?_)))))))));rw[if_pos hl];show⟨_,_,rfl,WS.nx q⟩
theorem zbq{α:Type}{f:α->D}:∀(l:List α) (j:Nat),enumFrom j (l.map f)=(l.zipIdx j).map λp=>.tup [.int p.2,f p.1]
 |[],j=>rfl|a::l,j=>by rw[iH,List.zipIdx_cons,iH,<-zbq l (j+1)];rfl
def KaV{o:Option Rz}{xs:List D}{s:S}{P:Xv->S->Prop}(e:o=some (.nw xs))(h:P (.l s.length) (s++[.lst xs])):W (cg false o) s P:=by subst e;show⟨_,_,rfl,h⟩
def zie{n:Nat}{j:Int}(h0:0<=j)(h:j<n):L2.pD n j=some j.toNat:=by
 unfold L2.pD;rw[if_pos h0,if_pos h]
def zjJ{n:Nat}{j:Int}(h0:j<0)(h : -(n:Int)<=j):L2.pD n j=some (j+n).toNat:=by
 unfold L2.pD;rw[if_neg gV,if_pos h]
def zoi{xs:List D}{j:Int}{x:D}(h0:j<0)(h1 : -(xs.length:Int)<=j)(h:xs[(j+xs.length).toNat]?=some x):prim .ix [.fl xs,.int j]=some (.dat x):=by
 change Option.map Rz.dat (L2.n8 xs j)=_;let:L2.n8 xs j=some x:=by
  unfold L2.n8;rw[zjJ h0 h1];show h
 rw[this];rfl
def zhB(F:Fr):memD (.tup []) (F.map bH)=some (decide (some []∈F)):=by
 induction F with
 |nil=>rfl|cons c F ih=>
  simp only[iH,memD,ih];cases c with
  |none=>
   let e:bQ 50 (bH none) (.tup [])=some false:=rfl;simp[e]
  |some l=>
   cases l with
   |nil=>
    let:bQ 50 (bH (some [])) (.tup [])=some true:=rfl;rw[this];simp
   |cons a l=>
    let:bQ 50 (bH (some (a::l))) (.tup [])=some false:=rfl;rw[this];simp
def zob{f:Bool->Bool}{F:Fr}:vQ f [.tup [],jr F]=some (.dat (.bl (f (decide (some []∈F))))):=by
 change Option.map _ (memD (.tup []) (F.map bH))=_;rw[zhB];rfl
theorem zfD{k':Nat}:∀(a b:List Int),b_ (bQ k') (a.map D.int) (b.map D.int)=some (decide (a=b))
 |[],[]=>by simp[b_]|[],_::_=>by simp[b_]|_::_,[]=>by simp[b_]|x::a,y::b=>by
  let hi:bQ k' (.int x) (.int y)=some (x==y):=by cases k'<;>rfl
  simp only[iH,b_,zfD a b,hi]
  congr 1
  by_cases e:x=y<;>by_cases e2:a=b<;>simp[e,e2]
def zoj{f:Bool->Bool}{a b:List Int}:xO f [.tup (a.map .int),.tup (b.map .int)]=some (.dat (.bl (f (decide (a=b))))):=by
 change Option.map _ (b_ (bQ 49) (a.map D.int) (b.map D.int))=_;rw[zfD];rfl
theorem zcK:∀rs:List (List Int),jX (rs.map λr=>D.tup (r.map .int))=some rs
 |[]=>rfl|r::rs=>by simp only[iH,jX,U_,zcK rs]
theorem Ve:∀(rs:List (List Int)) (b:List Int),fU b rs=b\/fU b rs∈rs
 |[],b=>.inl rfl|x::r,b=>by
  unfold fU
  split
  .rcases Ve r x with h|h
   .rw[h];show .inr kO
   .exact .inr (g_ _ h)
  .rcases Ve r b with h|h
   .exact .inl h
   .exact .inr (g_ _ h)
def zne{rs:List (List Int)}(h:rs≠[]):∃r∈rs,prim .rY [.fl (rs.map λr=>D.tup (r.map .int))]=some (.dat (.tup (r.map .int))):=by
 cases rs with
 |nil=>show absurd rfl h|cons x r=>
  show⟨fU x r,?_,?_⟩
  .rcases Ve r x with h|h
   .rw[h];show kO
   .exact g_ _ h
  .show oG [.fl ((x::r).map λr=>D.tup (r.map .int))]=_;unfold oG;simp only[zcK]
def zny{n:Nat}(h:n<=65536):prim .Fe [.int n]=some (.dat (.tup ((gP n).map .int))):=by
 change (if okR 0 (n:Int)=true then some (Rz.dat (.tup (Jp 0 ((n:Int)-0).toNat))) else none)=_;rw[if_pos (show okR 0 (n:Int)=true from fH gV)];unfold Jp gP;rw[Ar,show ((n:Int)-0).toNat=n by lia]
 congr 4
 funext i
 simp
def Dy(n:Nat)(es:Nat->List Int):List D:=(List.range n).map λi=>.tup ((es i).map .int)
def wA(k:Nat)(A:Int->Int->Bool):List D:=(List.range k).map λ(a:Nat)=>.fl ((List.range k).map λ(b:Nat)=>.bl (A a b))
def jt(al:Bool)(n k:Nat)(es:Nat->List Int)(A:Int->Int->Bool):D:=.ob 0 [.fl (Dy n es),.tup ((gP k).map .int),.fl (wA k A),.bl al]
noncomputable abbrev boD(n k:Nat)(es:Nat->List Int)(A:Int->Int->Bool):D:=jt true n k es A
def zlQ{n:Nat}{es:Nat->List Int}{i:Nat}(h:i<n):(Dy n es)[i]?=some (.tup ((es i).map .int)):=by
 unfold Dy;rw[gq,yM h];rfl
def znC{k:Nat}{A:Int->Int->Bool}{a:Int}(h0:0<=a)(h:a<k):(wA k A)[a.toNat]?=some (.fl ((List.range k).map λ(b:Nat)=>.bl (A a b))):=by
 unfold wA;rw[gq,yM gV];let:((a.toNat:Nat):Int)=a:=by lia
 simp[this]
def Vf{k:Nat}{f:Int->Bool}{b:Int}(h0:0<=b)(h:b<k):((List.range k).map λ(b:Nat)=>D.bl (f b))[b.toNat]?=some (.bl (f b)):=by
 rw[gq,yM gV];let:((b.toNat:Nat):Int)=b:=by lia
 simp[this]
def K1{F:Fr}{i:Nat}{c:Option (List Int)}(h:F[i]?=some c):(F.map bH)[i]?=some (bH c):=by rw[gq,h];rfl
def ziQ{f:Int->Bool}{F:Fr}{e:Int}:(gb f F e).map bH=(F.map bH).set e.toNat (bH ((F[e.toNat]?.join).map (·.filter f))):=by
 unfold gb;rw[List.map_set]
def zg1{f:Int->Bool}{F:Fr}{e:Int}(h:F[e.toNat]?=some none):gb f F e=F:=by
 unfold gb;rw[h];let⟨hl,e2⟩:=dI.mp h;change F.set e.toNat none=F;rw[<-e2,List.set_getElem_self]
def zde{α:Type}{p:Int->Bool}(l:List Int):l.filterMap (λy=>if p y=true then some (D.int y) else none)=(l.filter p).map .int:=by
 induction l with
 |nil=>rfl|cons a l ih=>
  rw[vB,GD];by_cases q:p a=true
  .simp[q,ih]
  .simp[q,ih]
def tot(k:Nat):Nat->Nat
 |0=>0|m+1=>k*cnt k m+tot k m
def zih{k:Nat}{L:List Int}(h:L.Pairwise (·<·))(hb:∀x∈L,0<=x/\x<k):L.length<=k:=by
 let key:∀(L:List Int) (a:Int),L.Pairwise (·<·)->(∀x∈L,a<=x/\x<k)->a<=k->(L.length:Int)<=k-a:=by
  intro L
  induction L with
  |nil=>intro a _ _ ha;simp;lia|cons x r ih=>
   intro a h hb ha;rw[Af]at h;let hx:=hb x RQ;let:=ih (x+1) h.2 (λy hy=>by let:=h.1 y hy;let:=hb y (by simp[hy]);lia) gV;rw[gw]
   lia
 let:=key L 0 h hb gV
 lia
def cZ(k d:Int)(a b:Int):Bool:=decide (d<=iC k a b)
section
variable {n k d:Int}{ps:List (Int×Int)}{ls:List Int}
def zf1(hd:1<=d){a b:Int}:cZ k d a b=cZ k d b a:=by
 unfold cZ;rw[yP,mC hd,mC hd]
 lia
def zfq(hd:1<=d)(t a b:Int)(a0:0<=a)(ak:a<k)(b0:0<=b)(bk:b<k):cZ k d ((a+t)%k) ((b+t)%k)=cZ k d a b:=by
 unfold cZ;rw[yP,mC hd,mC hd];let e1:=Int.emod_add_mul_ediv (a+t) k;let e2:=Int.emod_add_mul_ediv (b+t) k;let u0:=yR (a+t) (b:=k) gV;let w0:=yR (b+t) (b:=k) gV;let uk:=Ah (a+t) (b:=k) gV;let wk:=Ah (b+t) (b:=k) gV;generalize (a+t)%k=u at *;generalize (b+t)%k=w at *;generalize (a+t)/k=q1 at *;generalize (b+t)/k=q2 at *;let e3:k*(q1-q2)=(a-b)-(u-w):=by rw[zs2];lia
 let c:q1-q2 = -1\/q1-q2=0\/q1-q2=1:=by
  let h1:q1-q2<2:=Int.not_le.mp λz=>by
   let:=yH z (show 0<=k by lia)
   lia
  let h2 : -2<q1-q2:=Int.not_le.mp λz=>by
   let:=yH z (show 0<=k by lia)
   lia
  lia
 rcases c with c|c|c<;>rw[c]at e3<;>lia
def K3(w:Web n ps){i e:Int}:e∈bJ i ps↔(i,e)∈ps\/(e,i)∈ps:=by
 unfold bJ;rw[Ad]
 constructor
 .rintro⟨p,hp,h⟩;let⟨a,b⟩:=p;unfold endOf at h;dsimp only at h;split at h
  .cases h;subst_vars;show .inl hp
  .split at h
   .cases h;subst_vars;show .inr hp
   .cases h
 .rintro(hp|hp)
  .exact⟨_,hp,by simp[endOf]⟩
  .let:=w.tie _ hp;dsimp only at this;show⟨_,hp,by unfold endOf;dsimp only;rw[if_neg gV,if_pos rfl]⟩
def zlp(w:Web n ps)(hd:1<=d)(hk:k<=24):Bo n.toNat k.toNat (λi=>bJ i ps) (cZ k d) where
 hn:=by let:=w.h8;lia
 hk:=by lia
 mem:=λi hi e he=>by
  let:=zdX w he;show⟨this.1,by lia,λz=>?_⟩;subst z;rcases(K3 w).mp he with h|h<;>have:=w.tie _ h<;>dsimp only at this<;>lia
 sym:=λi e _ _ he=>(K3 w).mpr ((K3 w).mp he).symm
 len:=λi hi=>by
  let:=zih (k:=n.toNat) (zev w i) (λx hx=>by let:=zdX w hx;let:=w.h1;lia);let:=w.h8
  lia
 asy:=λa b _ _ _ _=>zf1 hd
def je(n k:Int):Fr:=List.replicate n.toNat (some (gP k.toNat))
def K4{i:Nat}{L:List Int}(h:(je n k)[i]?=some (some L)):i<n.toNat/\L=gP k.toNat:=by
 unfold je at h;rw[z_]at h;split at h
 .cases h;show⟨by assumption,rfl⟩
 .cases h
def Oq{i:Nat}(h:i<n.toNat):(je n k)[i]?=some (some (gP k.toNat)):=by
 unfold je;rw[z_,if_pos h]
def Ot(hk:k<=24):Fv n.toNat k.toNat (je n k) where
 len:=by unfold je;simp
 lo:=λi L h x hx=>by rw[(K4 h).2]at hx;show dY.mp hx
 ll:=λi L h=>by rw[(K4 h).2];unfold gP;simp;lia
 so:=λi L h=>by
  rw[(K4 h).2];unfold gP;rw[zs1];show List.pairwise_lt_range.imp (by intro a b h;lia)
theorem zec(w:Web n ps)(hd:1<=d){hs:List Int}(h:bx n k d ps hs):qx (λi=>bJ i ps) (cZ k d) (je n k) λj=>at' hs j where
 mem:=λi L e=>by
  let⟨h1,rfl⟩:=K4 e;let:=h.len;let:=h.lo _ (yt (fs:=hs) (j:=i) gV gV);show dY.mpr gV
 fit:=λi e L M _ _ he=>by
  rcases(K3 w).mp he with q|q
  .let:=h.fit _ q;change cZ k d (at' hs i) (at' hs e)=true;unfold cZ;rw[Gv];show this
  .let:=h.fit _ q;rw[zf1 hd];change cZ k d (at' hs e) (at' hs i)=true;unfold cZ;rw[Gv];show this
def zhF(w:Web n ps){hs:List Int}(hl:hs.length=n.toNat)(s:qx (λi=>bJ i ps) (cZ k d) (je n k) λj=>at' hs j):bx n k d ps hs where
 len:=by let:=w.h1;lia
 lo:=λx hx=>by
  let⟨j,hj,e⟩:=yL hx;let:=s.mem j _ (Oq gV);let e2:at' hs (j:Int)=x:=by
   unfold at';rw[pq,lq,dz hj,e];rfl
  rw[e2]at this;let:=dY.mp this
  lia
 fit:=λp hp=>by
  let ht:=w.tie p hp;let⟨a,b⟩:=p;dsimp only at ht;let⟨i,rfl⟩:=o9 ht.1;let⟨e,rfl⟩:=o9 (show 0<=b by lia);let:=s.fit i e _ _ (Oq gV) (Oq gV) ((K3 w).mpr (.inl hp));unfold cZ at this;rw[Gv]at this;show this
end
def zeC{k k2 m m2:Nat}(hk:k<=k2)(hm:m<=m2):cnt k m<=cnt k2 m2:=by
 let h1:∀m,cnt k m<=cnt k2 m:=by
  intro m
  induction m with
  |zero=>show bU _|succ m ih=>show Nat.add_le_add_left (Nat.mul_le_mul hk ih) 1
 let h3:∀m,1<=cnt k2 m:=λm=>by cases m<;>unfold cnt<;>lia
 by_cases c:k2=0
 .subst c;let:k=0:=by lia
  subst this;cases m<;>cases m2<;>simp[cnt]
 .let h2:∀j,cnt k2 m<=cnt k2 (m+j):=by
   intro j
   induction j with
   |zero=>show bU _|succ j ih=>
    let:1*cnt k2 (m+j)<=k2*cnt k2 (m+j):=DR _ gV;change _<=1+k2*cnt k2 (m+j)
    lia
  let:=h2 (m2-m);rw[show m+(m2-m)=m2 by lia]at this;show jO (h1 m) this
def zhs{k k2 m m2:Nat}(hk:k<=k2)(hm:m<=m2):tot k m<=tot k2 m2:=by
 let h1:∀m,tot k m<=tot k2 m:=by
  intro m
  induction m with
  |zero=>show bU _|succ m ih=>show Nat.add_le_add (Nat.mul_le_mul hk (zeC hk (bU _))) ih
 let h2:∀j,tot k2 m<=tot k2 (m+j):=by
  intro j
  induction j with
  |zero=>show bU _|succ j ih=>change _<=k2*cnt k2 (m+j)+tot k2 (m+j);lia
 let:=h2 (m2-m);rw[show m+(m2-m)=m2 by lia]at this;show jO (h1 m) this
theorem WS.aug{aq:Nat->Nat->Bool}{aj:Bool}{F:Bool->Fn}{J:Vs}{s:S}{Q:Out->S->Prop}{i:Nat}{e:E}{p q:Int}(h1:J[i]?.join=some (.d (.int p)))(h2:cY aq e J=some (.d (.int q)))(h:Q (.nx (J.set i (some (.d (.int (p+q)))))) s):WS (ex aq aj F (.aug i e) J) s Q:=
 WS.ofM (W.bd (W.opt h1 (W.bd (W.eq (f9 e _ h2) (W.bd (W.int (W.bd (W.int (W.ret (WS.nx h))))))))))
theorem zm7{a k:Int}(h:0<k):0<=a%k/\a%k<k:=⟨yR _ gV,Ah _ h⟩
def oZ(k m:Int)(hs:List Int):List Int:=hs.map λx=>(x+m)%k
section
variable {n k d m:Int}{ps:List (Int×Int)}{hs:List Int}
def zfz(w:Web n ps)(hd:1<=d)(hk:1<=k)(h:bx n k d ps hs):bx n k d ps (oZ k m hs) where
 len:=by unfold oZ;rw[cO];show h.len
 lo:=λx hx=>by
  let⟨y,_,rfl⟩:=lu.mp hx;show zm7 gV
 fit:=λp hp=>by
  let ht:=w.tie p hp;let hl:=h.len;let a:=h.lo _ (yt (fs:=hs) (j:=p.1) gV gV);let b:=h.lo _ (yt (fs:=hs) (j:=p.2) gV gV);unfold oZ;rw[Ga gV gV,Ga gV gV];let:=zfq (k:=k) hd m _ _ a.1 a.2 b.1 b.2;unfold cZ at this;rw[yP]at this;show this.mpr (h.fit p hp)
end
section
variable {n k d q:Int}{ps qs:List (Int×Int)}{hs:List Int}
theorem zcO(h1:1<=n)(hk:1<=k):bx n k d [] (List.replicate n.toNat 0):=⟨by simp;lia,λx hx=>by rw[List.eq_of_mem_replicate hx];lia,λp hp=>by cases hp⟩
end
def Ou{a b a2 b2 k d:Int}(h1:a*b2<=a2*b)(h2:a2*d<=k*b2)(hb:1<=b2)(hd:0<=d)(Vg:0<=b):a*d<=k*b:=by
 show Int.le_of_mul_le_mul_left (a:=b2) ?_ (by omega);let p1:=DN h1 hd;let p2:=DN h2 Vg;rw[Gw a b2 d,Gw a2 b d]at p1;rw[Gw k b2 b]at p2;rw[lA b2,lA b2];omega
def Vh{k t b:Int}(h:k*t=b)(h1 : -k<b)(h2:b<k):b=0:=by
 let hk:0<k:=by omega
 rcases Int.lt_trichotomy t 0 with c|c|c
 .let:=yH (show t<=-1 by omega) (Int.le_of_lt hk);rw[Int.mul_neg,Av]at this;omega
 .rw[c,Int.mul_zero]at h;omega
 .let:=yH (show 1<=t by omega) (Int.le_of_lt hk);rw[Av]at this;omega
def zcV{k d k2 d2 a b:Int}(hd:1<=d)(nq:d<=k)(zX:1<=k2)(hf:k*d2=d*k2+1)(hak:a<k)(hb:0<b)(hbk:b<k)(h1:d<=a-b)(h2:a-b<=k-d):d2<=a*k2/k-b*k2/k/\a*k2/k-b*k2/k<=k2-d2:=by
 let Dv:0<k:=by omega
 let e1:b*k2/k*k<=b*k2:=Int.ediv_mul_le _ (by omega);let e2:b*k2<(b*k2/k+1)*k:=Int.lt_ediv_add_one_mul_self _ Dv;generalize b*k2/k=q at e1 e2 ⊢;let f1:0<=(a-b-d)*k2:=Am (by omega) (by omega);let f2:0<=(k-d-(a-b))*k2:=Am (by omega) (by omega);rw[qG,qG]at f1;rw[qG,qG,qG]at f2;rw[vI,En]at e2;let hfb:k*(d2*b)=d*(b*k2)+b:=by rw[<-vG,hf,vI,En,vG,lA k2 b]
 let n1:q*k≠b*k2:=λe=>by
  let g:k*(d2*b-d*q)=b:=by
   rw[zs2,hfb,<-e,LQ k d q,lA k q];omega
  let:=Vh g (by omega) hbk;omega
 let g1:q+d2<=a*k2/k:=PB Dv (by rw[vI,lA d2 k];omega);let g2:a*k2/k<q+k2-d2+1:=Ls Dv (by
  rw[vI,qG,vI,lA d2 k,lA k2 k,En];by_cases c:b*k2+1=q*k+k
  .let g:k*(d2*b-d*(q+1))=b-d:=by
    let:d*(b*k2)+d=k*(d*(q+1)):=by
     rw[LQ k d,GZ k,Av,lA k q,<-c,GZ,Av]
    rw[zs2,hfb,<-this];omega
   let e:=Vh g (by omega) (by omega);let eb:b=d:=by omega
   subst eb;let f3:0<=(k-1-a)*k2:=Am (by omega) (by omega);rw[qG,qG,En]at f3;omega
  .omega)
 omega
section
variable {n k d k2 d2:Int}{ps:List (Int×Int)}{hs:List Int}
def ze0(w:Web n ps)(hh:bx n k d ps hs)(hd:1<=d)(nq:d<=k)(zX:1<=k2)(hd2:1<=d2)(hf:k*d2=d*k2+1)(h0:∀x∈hs,x≠0):bx n k2 d2 ps (hs.map λx=>x*k2/k):=by
 let hl:=hh.len;show⟨by rw[cO];show hl,λx hx=>?_,λp hp=>?_⟩
 .obtain⟨y,hy,rfl⟩:=lu.mp hx;let:=hh.lo y hy;show⟨Int.ediv_nonneg (Am this.1 (by omega)) (by omega),Ls (by omega) ?_⟩;rw[lA k2 k];show Lf this.2 (by omega)
 .let ht:=w.tie p hp;rw[Ga (by omega) (by omega),Ga (by omega) (by omega)];let m1:=yt (fs:=hs) (j:=p.1) (by omega) (by omega);let m2:=yt (fs:=hs) (j:=p.2) (by omega) (by omega);let a1:=hh.lo _ m1;let a2:=hh.lo _ m2;let b1:=h0 _ m1;let b2:=h0 _ m2;rcases(mC hd).mp (hh.fit p hp) with ⟨a,b⟩|⟨a,b⟩
  .exact(mC hd2).mpr (.inl (zcV hd nq zX hf (by omega) (by omega) (by omega) a b))
  .exact(mC hd2).mpr (.inr (zcV hd nq zX hf (by omega) (by omega) (by omega) a b))
theorem spare:∀(m:Nat) (hs:List Int),hs.length<m->∃x:Int,0<=x/\x<m/\x∉hs
 |0,hs,h=>absurd h (Mg _)|m+1,hs,h=>by
  by_cases c:(m:Int)∈hs
  .let hl:(hs.filter λx=>decide (x≠(m:Int))).length<hs.length:=by
    rcases PX (Ab (λx=>decide (x≠(m:Int))) hs) with z|z
    .exact z
    .let:=List.length_filter_eq_length_iff.mp z _ c;simp at this
   let⟨x,h0,h1,h2⟩:=spare m (hs.filter λx=>decide (x≠(m:Int))) (by omega);show⟨x,h0,by omega,λz=>h2 (gB.mpr ⟨z,fH (by omega)⟩)⟩
  .exact⟨m,by omega,by omega,c⟩
def K5:∀(d:Nat) (k:Int),1<=d->(d:Int)<=k->(∃g k' d':Int,2<=g/\1<=d'/\k=g*k'/\(d:Int)=g*d')\/k=1\/∃k2 d2:Int,1<=k2/\k2<k/\1<=d2/\d2<=d/\k*d2=d*k2+1:=by
 intro d
 induction d using Nat.strongRecOn with
 |_ d ih=>
  intro k h1 hk;by_cases c1:d=1
  .subst c1;by_cases c2:k=1
   .exact .inr (.inl c2)
   .exact .inr (.inr ⟨k-1,1,by omega,by omega,by omega,by omega,by omega⟩)
  .let hd0:(0:Int)<d:=by omega
   let er:=Int.mul_ediv_add_emod k d;let r0:=yR k (b:=(d:Int)) (by omega);let r1:=Ah k hd0;let q1:1<=k/d:=PB hd0 (by omega);generalize k/(d:Int)=q at er q1;by_cases c3:k%(d:Int)=0
   .exact .inl ⟨d,q,1,by omega,by omega,by rw[c3]at er;omega,by omega⟩
   .obtain⟨r,hr⟩:=o9 r0;rw[hr]at er r1 c3;rcases ih r (by omega) d (by omega) (by omega) with ⟨g,k',d',hg,wR,e1,e2⟩|z|⟨K2,D2,a1,a2,a3,a4,a5⟩
    .refine .inl ⟨g,k'*q+d',k',hg,?_,?_,e1⟩
     .refine G3.mp λz=>?_;let:=yH (show k'<=0 by omega) (show 0<=g by omega);rw[Int.mul_zero]at this;omega
     .rw[GZ,<-vG,<-e1,<-e2];omega
    .omega
    .let e3:k*(d-K2)=d*(r-D2+q*(d-K2))+1:=by
      rw[<-er,vI,GZ,zs2 (d:Int) r D2,zs2 (r:Int) d K2,a5,vG,lA (r:Int) d];omega
     let p1:1*1<=q*(d-K2):=Int.mul_le_mul q1 (by omega) (by omega) (by omega);show .inr (.inr ⟨r-D2+q*(d-K2),d-K2,by omega,?_,by omega,by omega,e3⟩);show Pb (a:=(d:Int)) ?_ (by omega);let:k*(d-K2)<=k*d:=yH (by omega) (by omega);rw[lA (d:Int) k];omega
def zeQ(w:Web n ps):∀(m:Nat) (d:Int) (hs:List Int),1<=d->d<=m->bx n m d ps hs->∃(k' d':Int) (h':List Int),1<=d'/\d'<=k'/\k'<=n/\k'*d<=m*d'/\bx n k' d' ps h':=by
 intro m;let hn:=w.h1
 induction m using Nat.strongRecOn with
 |_ m ih=>
  intro d hs hd Ov hh;by_cases c:(m:Int)<=n
  .exact⟨m,d,hs,hd,Ov,c,Aw _,hh⟩
  let⟨dn,rfl⟩:=o9 (show 0<=d by omega);rcases K5 dn m (by omega) Ov with ⟨g,k',d',hg,wR,e1,e2⟩|z|⟨k2,d2,a1,a2,a3,a4,a5⟩
  .let FW:d'<=k':=Int.le_of_mul_le_mul_left (a:=g) (by omega) (by omega);let cj:k'<m:=by
    let:=DN hg (show 0<=k' by omega);omega
   let hm:=U9 (k2:=k') (d2:=d') w hh (by omega) hd (by omega) wR (by
    rw[e1,e2,vG,LQ k' g d'];show Aw _)
   let⟨kn,rfl⟩:=o9 (show 0<=k' by omega);let⟨k3,d3,h3,b1,b2,b3,b4,b5⟩:=ih kn (by omega) d' _ wR FW hm;show⟨k3,d3,h3,b1,b2,b3,?_,b5⟩;rw[e1,e2,LQ k3 g d',vG];show yH b4 (by omega)
  .omega
  .let hl:=hh.len;let⟨x,x0,x1,x2⟩:=spare m hs (by omega);let ht:=zfz (m:=-x) w hd (by omega) hh;let jJ:∀y∈oZ m (-x) hs,y≠0:=λy hy e=>by
    unfold oZ at hy;let⟨z,hz,rfl⟩:=lu.mp hy;let hz2:=hh.lo z hz;let⟨t,ht⟩:=Int.dvd_of_emod_eq_zero e;let:=Vh ht.symm (by omega) (by omega);show x2 (by rw[show x=z by omega];show hz)
   let hm:=ze0 w ht hd Ov a1 a3 a5 jJ;let nq:d2<=k2:=by
    show G3.mp λz=>?_;let p1:=yH (show k2+1<=d2 by omega) (show (0:Int)<=m by omega);let p2:=DN Ov (show 0<=k2 by omega);rw[GZ,Av]at p1;omega
   let⟨kn,rfl⟩:=o9 (show 0<=k2 by omega);let⟨k3,d3,h3,b1,b2,b3,b4,b5⟩:=ih kn (by omega) d2 _ a3 nq hm;show⟨k3,d3,h3,b1,b2,b3,?_,b5⟩;show Ou b4 (by rw[lA];omega) a3 (by omega) (by omega)
def zdp(hd:1<=d)(hh:bx n k d ps hs)(hk:k<2*d):ps=[]:=by
 cases ps with
 |nil=>rfl|cons p r=>
  let:=(mC hd).mp (hh.fit p kO);omega
def Gh:List (Int×Int):=[(1,1),(2,1),(7,3),(5,2),(8,3),(3,1),(7,2),(4,1),(5,1),(6,1),(7,1),(8,1)]
def gj(n:Int):List (Int×Int):=Gh.filter λr=>decide (r.1<=n)
theorem ziV(n:Int):(gj n).Pairwise λr q=>r.1*q.2<q.1*r.2:=List.Pairwise.filter _ J0
def qy{n:Int}{r:Int×Int}(h:r∈gj n):1<=r.2/\r.2<=r.1/\r.1<=n/\r.1<=8:=by
 let⟨a,b⟩:=gB.mp h;let key:∀r∈Gh,1<=r.2/\r.2<=r.1/\r.1<=8:=by decide
 let:=key r a;let:=fG b;omega
def zim{n:Int}{r q:Int×Int}(hr:r∈gj n)(hq:q∈gj n)(e:r.1*q.2=q.1*r.2):r=q:=by
 let key:∀r∈Gh,∀q∈Gh,r.1*q.2=q.1*r.2->r=q:=by decide
 show key r (gB.mp hr).1 q (gB.mp hq).1 e
def zh9{k d:Int}(hn:n<=8)(hk:k<=n)(hd:1<=d)(h2:2*d<=k):∃r∈gj n,r.1<=k/\r.1*d=k*r.2:=by
 let key:∀k∈([2,3,4,5,6,7,8]:List Int),∀d∈([1,2,3,4]:List Int),2*d<=k->∃r∈Gh,r.1<=k/\r.1*d=k*r.2:=by decide
 let⟨r,a,b,c⟩:=key k (by simp;omega) d (by simp;omega) h2;show⟨r,gB.mpr ⟨a,fH (by omega)⟩,b,c⟩
theorem zgi(h1:1<=n):(1,1)∈gj n:=gB.mpr ⟨by decide,fH h1⟩
def zhH(h1:1<=n)(h8:n<=8):(n,1)∈gj n:=by
 let:n=1\/n=2\/n=3\/n=4\/n=5\/n=6\/n=7\/n=8:=by omega
 rcases this with rfl|rfl|rfl|rfl|rfl|rfl|rfl|rfl<;>decide
structure Short(n:Int)(ps:List (Int×Int))(r:Int×Int):Prop where
 mem:r∈gj n
 sZ:∃hs,bx n r.1 r.2 ps hs
 least:∀(k d:Int) (hs:List Int),1<=d->d<=k->bx n k d ps hs->r.1*d<=k*r.2
def zbR(w:Web n ps)(hd:1<=d)(nq:d<=k)(hh:bx n k d ps hs):∃r∈gj n,(∃h,bx n r.1 r.2 ps h)/\r.1*d<=k*r.2:=by
 let h1:=w.h1;let h8:=w.h8;let⟨m,rfl⟩:=o9 (show 0<=k by omega);let⟨k',d',h',a1,a2,a3,a4,a5⟩:=zeQ w m d hs hd nq hh;by_cases c:2*d'<=k'
 .obtain⟨r,hr,_,e⟩:=zh9 (n:=n) h8 a3 a1 c;let hr2:=qy hr;show⟨r,hr,⟨_,U9 w a5 (by omega) a1 (by omega) hr2.1 (by omega)⟩,?_⟩;show Ou (Int.le_of_eq e) a4 a1 (by omega) (by omega)
 .let e:=zdp a1 a5 (by omega);subst e;show⟨(1,1),zgi h1,⟨_,zcO h1 J0⟩,by dsimp only;omega⟩
def Vj(n:Int)(ps:List (Int×Int))(r:Int×Int):Prop:=∃i:Nat,(gj n)[i]?=some r/\(∃hs,bx n r.1 r.2 ps hs)/\∀(j:Nat) q,j<i->(gj n)[j]?=some q->∀hs,¬bx n q.1 q.2 ps hs
def Vj.short(w:Web n ps){r:Int×Int}(f:Vj n ps r):Short n ps r:=by
 let⟨i,hr,hh,kY⟩:=f;show⟨dZ hr,hh,λk d hs hd nq h=>?_⟩;let⟨q,hq,⟨h',Vk⟩,e⟩:=zbR w hd nq h;let⟨j,hj⟩:=List.getElem?_of_mem hq;let hq2:=qy hq;let le:r.1*q.2<=q.1*r.2:=by
  rcases Nat.lt_trichotomy j i with z|z|z
  .exact absurd Vk (kY j q z hj h')
  .subst z;rw[hr]at hj;cases hj;show Aw _
  .obtain⟨hi,e1⟩:=dI.mp hr;let⟨hj',e2⟩:=dI.mp hj;let:=Lh.mp (ziV n) i j hi hj' z;rw[e1,e2]at this;omega
 show Ou le e hq2.1 (by omega) (by let:=qy (dZ hr);omega)
def Short.uniq{r q:Int×Int}(a:Short n ps r)(b:Short n ps q):r=q:=by
 let hr:=qy a.mem;let hq:=qy b.mem;let⟨h1,UW⟩:=a.sZ;let⟨h2,Ox⟩:=b.sZ;let:=a.least _ _ _ hq.1 hq.2.1 Ox;let:=b.least _ _ _ hr.1 hr.2.1 UW;show zim a.mem b.mem (by omega)
end
end Mi
namespace Mi
open PySem PySem.Spec PyProof.Rows L2 PySem.W
def lJ(XN:List Str)(fr:List Nat):List Str:=fr.map λj=>XN.getD j ""
section
variable {X:Cx}{cA:Cl}{aq:Nat->Nat->Bool}{aj:Bool}{F:Fn}{EX:XS}{elt iter:Expr}{ifs:List Expr}{scope:Scope}{cond:Eo}{w:Wk}{B:E}{fr:List Nat}{fz:Bool}{x y:Str}{tp px py pos:Pos}{kt:Nat}
def rF(hc:X.aj=true)(hi:JI X cA aq aj F EX (.Name x tp) iter w)
  (ht:∀cl C s3 H3 fp ao,JC (X.blk scope cl ([x]++lJ X.N fr) C s3 H3 fp ao) cA aq aj F (λ_ _ _ _=>False) ifs cond) (he:∀cl C s3 H3 fp ao,JE (X.blk scope cl ([x]++lJ X.N fr) C s3 H3 fp ao) cA aq aj F (λ_ _ _ _=>False) elt B)
  (hk:(oR X.env.scope scope&&frB scope X.N (lJ X.N fr) fr&&decide (([x]++lJ X.N fr).Nodup)&&zP scope x)=true:=by kernel_rfl)
  (hs:∀x,foldedSetIterable iter X.env x=pure x:=by intro _;rfl):JE X cA aq aj F EX (.ListComp elt [⟨.Name x tp,iter,ifs,0⟩] scope pos) (.comp fz B [0] w fr 1 cond):=by
 simp only[gA,Ai]at hk;let⟨⟨⟨h1,h2⟩,h3⟩,h4⟩:=hk;show ZJ X.env.scope X.N [x] (lJ X.N fr) fr hc rfl rfl h1 h2 (sO 0) rfl hi (λ_ _ _ _ _ _=>sS 0 h3 rfl h4) ht he hs
def Oz(hc:X.aj=true)(hi:JI X cA aq aj F EX (.Tuple [.Name x px,.Name y py] kt tp) iter w)
  (ht:∀cl C s3 H3 fp ao,JC (X.blk scope cl ([x,y]++lJ X.N fr) C s3 H3 fp ao) cA aq aj F (λ_ _ _ _=>False) ifs cond) (he:∀cl C s3 H3 fp ao,JE (X.blk scope cl ([x,y]++lJ X.N fr) C s3 H3 fp ao) cA aq aj F (λ_ _ _ _=>False) elt B)
  (hk:(oR X.env.scope scope&&frB scope X.N (lJ X.N fr) fr&&decide (([x,y]++lJ X.N fr).Nodup)&&zP scope x&&zP scope y)=true:=by kernel_rfl)
  (hs:∀x,foldedSetIterable iter X.env x=pure x:=by intro _;rfl):JE X cA aq aj F EX (.ListComp elt [⟨.Tuple [.Name x px,.Name y py] kt tp,iter,ifs,0⟩] scope pos) (.comp fz B [0,1] w fr 2 cond):=by
 simp only[gA,Ai]at hk;let⟨⟨⟨⟨h1,h2⟩,h3⟩,h4⟩,h5⟩:=hk;show ZJ X.env.scope X.N [x,y] (lJ X.N fr) fr hc rfl rfl h1 h2 (Ny 0 1) rfl hi (λ_ _ _ _ _ _=>Tz 0 1 hc h3 rfl rfl h4 h5) ht he hs
end
theorem au{Q:Prop}(h:Q:=by
 repeat' first
  |exact gv _|exact gvb _|exact znP|exact zpG|exact zom|exact zoH|exact zn6|exact zmW|exact zpH
  |refine qm ?_ ?_|refine bI ?_ ?_|refine rz ?_|refine zpX ?_|refine v7 _ nd rfl jl rfl ?_|refine J9 ?_ ?_ ?_
  |refine gc (by assumption) (by assumption) (by assumption) ZL gk ?_|refine gc (by assumption) (by assumption) (by assumption) zpT Gb ?_
  |refine zoK ?_|refine zn7 ?_|refine Zz ?_ ?_|refine Tr ?_ ?_|refine zpQ ?_ ?_|refine Zm ?_|refine zn2 ?_|refine znG ?_|refine zop ?_|refine zmk ?_|refine Zy ?_ ?_ ?_
  |refine CP Zk ?_ ?_|refine CP znK ?_ ?_|refine CP znU ?_ ?_|refine CP zkP ?_ ?_|refine CP zon ?_ ?_|refine CP zoQ ?_ ?_
  |refine zN NP ?_ ?_|refine zN Zq ?_ ?_|refine zN Zr ?_ ?_|refine zN (Zo (by assumption)) ?_ ?_|refine zN (Tt (by assumption)) ?_ ?_|refine zN (Zn (by assumption)) ?_ ?_|refine zN (Zu (by assumption)) ?_ ?_|refine zN (Zv (by assumption)) ?_ ?_
  |refine znL NP NP ?_ ?_ ?_
  |refine zoq ?_|refine zmE ?_|refine Zx ?_|refine zpY ?_ ?_|refine zog ?_|refine znF ?_ ?_|refine zls ?_
  |refine yh NP ?_ ?_|refine yh Zq ?_ ?_|refine yh Zr ?_ ?_|refine yh (Zo (by assumption)) ?_ ?_|refine yh (Tt (by assumption)) ?_ ?_|refine yh (Zn (by assumption)) ?_ ?_|refine yh (Zu (by assumption)) ?_ ?_|refine yh (Zv (by assumption)) ?_ ?_
  |refine Zw ?_
  |refine Tv (by assumption) gk ?_|refine Tv (by assumption) Gb ?_|refine FP (by assumption) gk ?_|refine FP (by assumption) Gb ?_|refine zno (by assumption) gk ?_|refine ZC (by assumption) gk ?_|refine ZC (by assumption) Gb ?_|refine zlG (by assumption) gk ?_|refine FN rfl (by assumption) gk ?_|refine ZD rfl (by assumption) gk ?_|refine ZD rfl (by assumption) Gb ?_|refine zmK rfl (by assumption) gk ?_
  |refine zpE (by assumption) (by assumption) (by assumption) (by assumption) ?_ ?_|refine zpN (by assumption) ?_|refine ZM ?_ ?_ ?_|refine znE _ nd rfl jl rfl ?_|refine FT vX rfl rfl ?_ ?_ ?_|refine NZ vX ?_ ?_|refine ZG (by assumption) gk ?_|refine ZG (by assumption) Gb ?_|refine zpV (by assumption) gk ?_ ?_|refine zlz (by assumption) gk ?_|refine zox ?_|exact TX _ nd rfl jl rfl|exact zpS|refine ZF ?_|refine zkZ (by assumption) ?_ ?_|refine zlh (by assumption) ?_ ?_|refine aac (by assumption) ?_ ?_|refine zhR (by assumption) gk ?_|refine zoe ?_|refine znk (by assumption) ?_ ?_ ?_
  |refine rF rfl ?_ (λ_ _ _ _ _ _=>?_) (λ_ _ _ _ _ _=>?_)|refine Oz rfl ?_ (λ_ _ _ _ _ _=>?_) (λ_ _ _ _ _ _=>?_)|refine zoB (by assumption) gk ?_ ?_|refine znh ?_ ?_|refine zpK ?_ ?_ ?_|exact zpJ|refine znO ?_|refine zoD ?_|exact zpL (by assumption) gk dk|refine zl1 rfl (by assumption) gk ?_ ?_|exact NQ rfl (by assumption) zlT gk dk|exact NQ rfl (by assumption) ziL gk dk|exact NQ rfl (by assumption) Tn gk dk|exact NQ rfl (by assumption) Zj gk dk|refine t_w ?_
  ):Q:=h
end Mi
namespace dR
open PySem Mi
def b0:bL:=(.cons (.ret (.and (.lF (.v 0) .int) (.not (.lF (.v 0) .bool)))) .nil)
def b1:bL:=(.cons (.ret (.and (.call 0 (Ea (.v 0))) (.zA .le .le (.v 1) (.v 0) (.v 2)))) .nil)
def b2:bL:=(.cons (.ret (.and (.lF (.v 0) .tuple) (.pr true .eq (Eb (.pr true .len (Ea (.v 0))) (.v 1))))) .nil)
def b3:bL:=(.cons (.iff (.not (.call 2 (Eb (.v 0) (Ci 2)))) (.cons (.ret (.c (.bl false))) .nil) .nil) (.cons (.asg (.tp [1,2]) (.v 0)) (.cons (.iff (.or (.not (.call 5 (Ea (.v 1)))) (.not (.lF (.v 2) .tuple))) (.cons (.ret (.c (.bl false))) .nil) .nil) (.cons (.iff (.not (.pr true .all (Ea (.comp true (.call 7 (Eb (.v 1) (.v 0))) [0] (.seq (.v 2)) [1] 1 .no)))) (.cons (.ret (.c (.bl false))) .nil) .nil) (.cons (.ret (.pr true .all (Ea (.comp true (.pr true .lt (Eb (.v 0) (.v 1))) [0,1] (.zip (.v 2) (.sl true (.v 2) (.yes (Ci 1)) .no)) [] 2 .no)))) .nil)))))
def b4:bL:=(.cons (.iff (.not (.call 5 (Ea (.v 0)))) (.cons .no .nil) .nil) (.cons (.asg (.nm 2) (.lst false .nil)) (.cons (.fr (.tp [3,4]) (.enum (.v 1)) (.cons (.asg (.nm 5) (.call 8 (Eb (.v 0) (.v 4)))) (.cons (.iff (.or (.pr true .tL (Ea (.v 5))) (.pr true .inn (Eb (.v 5) (.v 2)))) (.cons .no .nil) .nil) (.cons (.ex (.push (.v 2) (.v 5))) .nil)))) (.cons (.ret (.tup (Eb (.v 0) (.pr true .tuple (Ea (.pr true .sorted (Ea (.v 2)))))))) .nil))))
def b5:bL:=(.cons (.ret (.call 1 (Ec (.v 0) (Ci 1) (Ci 8)))) .nil)
def b6:bL:=(.cons (.ret (.call 1 (Ec (.v 1) (Ci 0) (.pr true .aq (Eb (.v 0) (Ci 1)))))) .nil)
def b7:bL:=(.cons (.iff (.not (.call 2 (Eb (.v 1) (Ci 2)))) (.cons (.ret (.c (.bl false))) .nil) .nil) (.cons (.asg (.tp [2,3]) (.v 1)) (.cons (.ret (.and (.call 6 (Eb (.v 0) (.v 2))) (.and (.call 6 (Eb (.v 0) (.v 3))) (.pr true .lt (Eb (.v 2) (.v 3)))))) .nil)))
def b8:bL:=(.cons (.iff (.call 7 (Eb (.v 0) (.v 1))) (.cons (.ret (.v 1)) .nil) .nil) (.cons (.iff (.and (.call 2 (Eb (.v 1) (Ci 2))) (.call 7 (Eb (.v 0) (.pr true .rev (Ea (.v 1)))))) (.cons (.ret (.pr true .rev (Ea (.v 1)))) .nil) .nil) (.cons (.ret (.c .non)) .nil)))
def b9:bL:=(.cons (.iff (.not (.call 3 (Ea (.v 0)))) (.cons .no .nil) .nil) .nil)
def b10:bL:=(.cons (.iff (.not (.call 6 (Eb (Ei (.v 0) (Ci 0)) (.v 1)))) (.cons .no .nil) .nil) .nil)
def Vl:bL:=(.cons (.asg (.nm 2) (.comp true (.ite (.pr true .eq (Eb (.v 0) (.v 2))) (.v 1) (.v 0)) [0,1] (.seq (Ei (.v 0) (Ci 1))) [1] 2 (.yes (.pr true .inn (Eb (.v 2) (.tup (Eb (.v 0) (.v 1)))))))) (.cons (.ret (.pr true .tuple (Ea (.pr true .sorted (Ea (.v 2)))))) .nil))
def Vm:bL:=(.cons (.ret (.comp true (.call 11 (Eb (.v 1) (.v 0))) [0] (.rg (Ci 0) (Ei (.v 0) (Ci 0))) [0] 1 .no)) .nil)
def Vn:bL:=(.cons (.ex (.call 9 (Ea (.v 0)))) (.cons (.ex (.call 10 (Eb (.v 0) (.v 1)))) (.cons (.iff (.pr true .eq (Eb (Ei (.v 0) (Ci 0)) (Ci 1))) (.cons .no .nil) .nil) (.cons (.asg (.nm 2) (.comp true (.v 0) [0] (.seq (Ei (.v 0) (Ci 1))) [1] 1 (.yes (.pr true .nin (Eb (.v 1) (.v 0)))))) (.cons (.ret (.call 4 (Eb (.pr true .aq (Eb (Ei (.v 0) (Ci 0)) (Ci 1))) (.call 15 (Eb (.v 2) (.call 14 (.cons (.v 0) (Ec (.v 1) (.c .non) (Ci 0))))))))) .nil)))))
def Vo:bL:=(.cons (.asg (.nm 4) (.comp true (.pr true .add (Eb (.v 1) (.v 0))) [0] (.rg (Ci 0) (.pr true .aq (Eb (Ei (.v 0) (Ci 0)) (Ci 1)))) [3] 1 .no)) (.cons (.ret (.pr true .add (Eb (.pr true .add (Eb (.sl true (.v 4) .no (.yes (.v 1))) (.lst true (Ea (.v 2))))) (.sl true (.v 4) (.yes (.v 1)) .no)))) .nil))
def Vp:bL:=(.cons (.ret (.comp true (.tup (Eb (Ei (.v 2) (.v 0)) (Ei (.v 2) (.v 1)))) [0,1] (.seq (.v 0)) [1] 2 .no)) .nil)
def Vq:bL:=(.cons (.ret (.tup (.cons (.call 12 (Ea (.v 1))) (Ec (.pr true .Fe (Ea (.pr true .len (Ea (.v 2))))) (.v 2) (.v 3))))) .nil)
def Vr:bL:=(.cons (.ret (Ei (Ei (.of (.v 0) 0 2) (.v 1)) (.v 2))) .nil)
def Vt:bL:=(.cons (.asg (.nm 4) (.pr false .list (Ea (.v 1)))) (.cons (.asg (.aq (.v 4) (.v 2)) (.c .non)) (.cons (.fr (.nm 5) (.seq (Ei (.of (.v 0) 0 0) (.v 2))) (.cons (.iff (.pr true .qQ (Ea (Ei (.v 4) (.v 5)))) (.cons (.asg (.aq (.v 4) (.v 5)) (.pr true .tuple (Ea (.comp true (.v 0) [0] (.seq (Ei (.v 4) (.v 5))) [0,3] 1 (.yes (.cm 0 17 (.v 1) (Eb (.v 2) (.v 0)))))))) .nil) .nil) .nil)) (.cons (.ret (.pr true .tuple (Ea (.v 4)))) .nil))))
def Vu:bL:=(.cons (.ret (.pr true .len (Ea (.comp true (.v 0) [0] (.seq (Ei (.of (.v 0) 0 0) (.v 2))) [1] 1 (.yes (.pr true .qQ (Ea (Ei (.v 1) (.v 0))))))))) .nil)
def Vv:bL:=(.cons (.ret (.pr true .tuple (Ea (.comp true (.ite (.pr true .gt (Eb (.cm 0 19 (.v 2) (Eb (.v 3) (.v 0))) (Ci 0))) (.v 1) (.c .non)) [0,1] (.enum (.v 1)) [0,1] 2 .no)))) .nil)
def Vw:bL:=(.cons (.asg (.nm 2) (.lst false .nil)) (.cons (.fr (.tp [3,4]) (.enum (.v 1)) (.cons (.iff (.pr true .qQ (Ea (.v 4))) (.cons (.ex (.push (.v 2) (.tup (Ec (.pr true .len (Ea (.v 4))) (.pr true .neg (Ea (.cm 0 19 (.v 0) (Eb (.v 1) (.v 3))))) (.v 3))))) .nil) .nil) .nil)) (.cons (.ret (.ite (.Fg (.v 2)) (Ei (.pr true .rY (Ea (.v 2))) (Ci 2)) (.c .non))) .nil)))
def Vx:bL:=(.cons (.ret (.pr true .all (Ea (.comp true (.or (.pr true .tL (Ea (.v 0))) (.pr true .eq (Eb (.v 0) (.of (.v 1) 0 1)))) [0] (.seq (.v 1)) [0] 1 .no)))) .nil)
def Vy:bL:=(.cons (.asg (.tp [2,3]) (.v 1)) (.cons (.asg (.nm 4) (.comp true (.pr true .ge (Eb (.pr true .min2 (Eb (.v 0) (.pr true .aq (Eb (.v 1) (.v 0))))) (.v 2))) [0] (.rg (Ci 0) (.v 2)) [2,3] 1 .no)) (.cons (.ret (.mk 0 16 (Ec (.v 0) (.comp true (.comp true (Ei (.v 1) (.pr true .aq (Eb (.v 2) (.v 0)))) [0] (.rg (Ci 0) (.v 1)) [2,0] 1 .no) [0] (.rg (Ci 0) (.v 2)) [2,4] 1 .no) (.c (.bl true))))) .nil)))
def Vz:bL:=(.cons (.iff (.not (.call 2 (Eb (.v 0) (Ci 2)))) (.cons (.ret (.c (.bl false))) .nil) .nil) (.cons (.asg (.tp [1,2]) (.v 0)) (.cons (.ret (.and (.call 1 (Ec (.v 1) (Ci 1) (Ci 24))) (.call 1 (Ec (.v 2) (Ci 1) (.v 1))))) .nil)))
def VB:bL:=(.cons (.iff (.not (.call 24 (Ea (.v 0)))) (.cons .no .nil) .nil) .nil)
def b26:bL:=(.cons (.par 2 3 (.v 0) (.v 1)) (.cons (.wh (.pr true .gt (Eb (.v 3) (Ci 0))) (.cons (.par 2 3 (.v 3) (.pr true .mod (Eb (.v 2) (.v 3)))) .nil)) (.cons (.ret (.tup (Eb (.pr true .fdiv (Eb (.v 0) (.v 2))) (.pr true .fdiv (Eb (.v 1) (.v 2)))))) .nil)))
def VD:bL:=(.cons (.ex (.call 9 (Ea (.v 0)))) (.cons (.ex (.call 25 (Ea (.v 1)))) (.cons (.asg (.nm 2) (.call 23 (Eb (.v 0) (.v 1)))) (.cons (.ret (.call 28 (Eb (.v 2) (.comp true (.of (.v 1) 0 1) [0] (.rg (Ci 0) (Ei (.v 0) (Ci 0))) [2] 1 .no)))) .nil))))
def VF:bL:=(.cons (.asg (.nm 2) (.pr true .tuple (Ea (.v 1)))) (.cons (.asg (.nm 3) .sy) (.cons (.iff (.not (.call 30 (Ec (.v 0) (.v 3) (.v 2)))) (.cons (.ret (.c .non)) .nil) .nil) (.cons (.asg (.nm 4) (.lst false .nil)) (.cons (.fr (.nm 5) (.rg (Ci 0) (.pr true .len (Ea (.v 1)))) (.cons (.asg (.nm 6) (.call 29 (.cons (.v 0) (Ec (.v 3) (.v 2) (.v 5))))) (.cons (.asg (.nm 2) (.cm 0 18 (.v 0) (Ec (.v 2) (.v 5) (.v 6)))) (.cons (.ex (.push (.v 4) (.v 6))) .nil)))) (.cons (.ret (.pr true .tuple (Ea (.v 4)))) .nil))))))
def OD:bL:=(.cons (.fr (.nm 4) (.seq (Ei (.v 2) (.v 3))) (.cons (.iff (.call 30 (Ec (.v 0) (.v 1) (.cm 0 18 (.v 0) (Ec (.v 2) (.v 3) (.v 4))))) (.cons (.ret (.v 4)) .nil) .nil) .nil)) (.cons (.ret (.c .non)) .nil))
def VG:bL:=(.cons (.iff (.pr true .inn (Eb (.tup .nil) (.v 2))) (.cons (.ret (.c (.bl false))) .nil) .nil) (.cons (.asg (.nm 3) (.cm 0 20 (.v 0) (Ea (.v 2)))) (.cons (.iff (.B_ false (.v 3) (.v 1)) (.cons (.dput (.v 1) (.v 3) (.call 31 (Ec (.v 0) (.v 1) (.v 3)))) .nil) .nil) (.cons (.ret (.p7 (.v 1) (.v 3))) .nil))))
def K6:bL:=(.cons (.asg (.nm 3) (.cm 0 21 (.v 0) (Ea (.v 2)))) (.cons (.iff (.pr true .tL (Ea (.v 3))) (.cons (.ret (.c (.bl true))) .nil) .nil) (.cons (.iff (.and (.of (.v 0) 0 3) (.cm 0 22 (.v 0) (Ea (.v 2)))) (.cons (.ret (.call 30 (Ec (.v 0) (.v 1) (.cm 0 18 (.v 0) (Ec (.v 2) (.v 3) (Ci 0)))))) .nil) .nil) (.cons (.ret (.pr true .qQ (Ea (.call 29 (.cons (.v 0) (Ec (.v 1) (.v 2) (.v 3))))))) .nil))))
def b32:bL:=(.cons (.asg (.nm 1) (.pr true .min2 (Eb (.v 0) (Ci 24)))) (.cons (.asg (.nm 2) (.oE true (.tup (Eb (.v 0) (.v 1))) [0] (.rg (Ci 1) (.pr true .add (Eb (.v 1) (Ci 1)))) [1] (.rg (Ci 1) (.pr true .add (Eb (.v 0) (Ci 1)))) [] 2 (.yes (.call 35 (Eb (.v 0) (.v 1)))))) (.cons (.ret (.qT true (.v 2) (.pr true .fdiv (Eb (.pr true .mul (Eb (Ei (.v 0) (Ci 0)) (Ci 27720))) (Ei (.v 0) (Ci 1)))))) .nil)))
def VH:bL:=(.cons (.ret (.pr true .qQ (Ea (.call 27 (Eb (.v 0) (.v 1)))))) .nil)
def VJ:bL:=(.cons (.ex (.call 9 (Ea (.v 0)))) (.cons (.asg (.nm 1) (.call 32 (Ea (Ei (.v 0) (Ci 0))))) (.cons (.asg (.nm 2) (Ci 0)) (.cons (.wh (.not (.call 33 (Eb (.v 0) (Ei (.v 1) (.v 2))))) (.cons (.aug 2 (Ci 1)) .nil)) (.cons (.ret (Ei (.v 1) (.v 2))) .nil)))))
def b35:bL:=(.cons (.ret (.and (.pr true .eq (Eb (.call 26 (Eb (.v 0) (.v 1))) (.tup (Eb (.v 0) (.v 1))))) (.or (.pr true .eq (Eb (.v 0) (Ci 1))) (.pr true .ge (Eb (.v 0) (.pr true .mul (Eb (Ci 2) (.v 1)))))))) .nil)
def VL:bL:=(.cons (.asg (.nm 1) (.call 34 (Ea (.v 0)))) (.cons (.ret (.pr true .tuple (Ea (.comp true (.v 0) [0] (.rg (Ci 0) (Ei (.v 0) (Ci 0))) [0,1] 1 (.yes (.call 38 (Ec (.v 1) (.v 2) (.v 0)))))))) .nil))
def VN:bL:=(.cons (.asg (.nm 1) (.call 34 (Ea (.v 0)))) (.cons (.asg (.nm 2) (Ci 0)) (.cons (.wh (.pr true .lt (Eb (.v 2) (Ei (.v 0) (Ci 0)))) (.cons (.iff (.call 38 (Ec (.v 0) (.v 1) (.v 2))) (.cons (.aug 2 (Ci 1)) .nil) (.cons (.asg (.nm 0) (.call 13 (Eb (.v 0) (.v 2)))) .nil)) .nil)) (.cons (.ret (.v 0)) .nil))))
def VP:bL:=(.cons (.ret (.or (.pr true .eq (Eb (Ei (.v 0) (Ci 0)) (Ci 1))) (.pr true .ne (Eb (.call 34 (Ea (.call 13 (Eb (.v 0) (.v 2))))) (.v 1))))) .nil)
def VR:bL:=(.cons (.iff (.pr true .lt (Eb (.v 1) (.pr true .len (Ea (.v 0))))) (.cons (.ret (Ei (.v 0) (.v 1))) .nil) .nil) (.cons (.ret (Ci 0)) .nil))
def V0:bL:=(.cons (.asg (.nm 1) (.pr true .max2 (Eb (.v 0) (.pr true .aq (Eb (Ci 0) (.v 0)))))) (.cons (.ret (.lst false (Eb (.v 1) (.pr true .rZ (Ea (.pr true .ge (Eb (.v 1) (.pr true .pow (Eb (Ci 10) (Ci 18)))))))))) .nil))
def V1:bL:=(.cons (.iff (.pr true .eq (Eb (Ei (.v 0) (Ci 1)) (Ci 1))) (.cons (.asg (.tp [2,3]) (.pr true .divmod (Eb (Ei (.v 0) (Ci 0)) (.v 1)))) (.cons (.asg (.aq (.v 0) (Ci 0)) (.v 2)) (.cons (.ret (.v 3)) .nil))) .nil) (.cons (.asg (.nm 4) (.pr true .mod (Eb (.pr true .mul (Eb (.pr true .add (Eb (.pr true .mod (Eb (Ei (.v 0) (Ci 0)) (Ci 2147483647))) (Ci 40503))) (Ci 69621))) (Ci 2147483629)))) (.cons (.asg (.nm 4) (.pr true .mod (Eb (.pr true .add (Eb (.pr true .mul (Eb (.v 4) (.v 4))) (Ci 7817))) (Ci 2147483587)))) (.cons (.asg (.aq (.v 0) (Ci 0)) (.pr true .mod (Eb (.pr true .add (Eb (.pr true .mul (Eb (.v 4) (Ci 48271))) (Ci 11))) (Ci 2147483629)))) (.cons (.ret (.pr true .mod (Eb (.pr true .fdiv (Eb (Ei (.v 0) (Ci 0)) (Ci 32))) (.v 1)))) .nil)))))
def b42:bL:=(.cons (.ret (.and (.lF (.v 0) .int) (.not (.lF (.v 0) .bool)))) .nil)
def V2:bL:=(.cons (.asg (.nm 2) (Ei (.lst true (Ec (Ci 2) (Ci 4) (Ci 6))) (.call 41 (Eb (.v 0) (Ci 3))))) (.cons (.asg (.nm 3) (.lst true .nil)) (.cons (.fr (.nm 4) (.rg (Ci 0) (.v 1)) (.cons (.asg (.nm 3) (.pr true .add (Eb (.v 3) (.comp true (.tup (Eb (.v 1) (.v 0))) [0] (.rg (.pr true .add (Eb (.v 4) (Ci 1))) (.v 1)) [4,0,2] 1 (.yes (.pr true .lt (Eb (.call 41 (Eb (.v 2) (Ci 8))) (.v 3)))))))) .nil)) (.cons (.ret (.tup (Eb (.v 1) (.pr true .tuple (Ea (.v 3)))))) .nil))))
def V3:bL:=(.cons (.iff (.or (.not (.lF (.v 0) .tuple)) (.or (.pr true .ne (Eb (.v 0) (.v 1))) (.or (.not (.call 42 (Ea (Ei (.v 0) (Ci 0))))) (.not (.lF (Ei (.v 0) (Ci 1)) .tuple))))) (.cons (.ret (.c (.bl false))) .nil) .nil) (.cons (.ret (.pr true .all (Ea (.comp true (.and (.lF (.v 0) .tuple) (.and (.call 42 (Ea (Ei (.v 0) (Ci 0)))) (.call 42 (Ea (Ei (.v 0) (Ci 1)))))) [0] (.seq (Ei (.v 0) (Ci 1))) [] 1 .no)))) .nil))
def b45:bL:=(.cons (.asg (.nm 3) (.pr true .abs (Ea (.pr true .aq (Eb (.v 1) (.v 2)))))) (.cons (.ret (.pr true .min2 (Eb (.v 3) (.pr true .aq (Eb (.v 0) (.v 3)))))) .nil))
def V4:bL:=(.cons (.iff (.and (.pr true .ne (Eb (Ei (.v 0) (Ci 1)) (.tup .nil))) (.pr true .lt (Eb (Ei (.v 1) (Ci 0)) (.pr true .mul (Eb (Ci 2) (Ei (.v 1) (Ci 1))))))) (.cons (.ret (.c .non)) .nil) .nil) (.cons (.asg (.nm 2) (.lst true .nil)) (.cons (.fr (.tp [3,4]) (.seq (Ei (.v 0) (Ci 1))) (.cons (.asg (.nm 5) (.comp true (.v 0) [0] (.rg (Ci 0) (Ei (.v 0) (Ci 0))) [3,0,4] 1 (.yes (.and (.pr true .inn (Eb (.tup (Eb (.v 1) (.v 0))) (Ei (.v 2) (Ci 1)))) (.pr true .inn (Eb (.tup (Eb (.v 3) (.v 0))) (Ei (.v 2) (Ci 1)))))))) (.cons (.asg (.nm 2) (.pr true .add (Eb (.v 2) (.v 5)))) .nil))) (.cons (.iff (.and (.pr true .ne (Eb (.v 2) (.lst true .nil))) (.pr true .lt (Eb (Ei (.v 1) (Ci 0)) (.pr true .mul (Eb (Ci 3) (Ei (.v 1) (Ci 1))))))) (.cons (.ret (.c .non)) .nil) .nil) (.cons (.asg (.nm 6) (.comp true (.v 0) [0] (.rg (Ci 0) (Ei (.v 0) (Ci 0))) [0] 1 (.yes (.pr true .eq (Eb (.comp true (.v 0) [0] (.seq (Ei (.v 1) (Ci 1))) [0] 1 (.yes (.pr true .inn (Eb (.v 1) (.v 0))))) (.lst true .nil)))))) (.cons (.asg (.nm 7) (.lst false (Ea (Ci 0)))) (.cons (.wh (.pr true .eq (Eb (Ei (.v 7) (Ci 0)) (Ci 0))) (.cons (.iff (.or (.pr true .eq (Eb (Ei (.v 7) (.pr true .neg (Ea (Ci 1)))) (Ei (.v 1) (Ci 0)))) (.and (.pr true .gt (Eb (Ei (.v 7) (.pr true .neg (Ea (Ci 1)))) (Ci 0))) (.pr true .inn (Eb (.pr true .aq (Eb (.pr true .len (Ea (.v 7))) (Ci 1))) (.v 6))))) (.cons (.ex (.pop (.v 7))) (.cons (.iff (.pr true .eq (Eb (.v 7) (.lst true .nil))) (.cons (.ret (.c .non)) .nil) .nil) (.cons (.asg (.aq (.v 7) (.pr true .neg (Ea (Ci 1)))) (.pr true .add (Eb (Ei (.v 7) (.pr true .neg (Ea (Ci 1)))) (Ci 1)))) .nil))) (.cons (.asg (.nm 8) (.comp true (.v 0) [0] (.seq (Ei (.v 0) (Ci 1))) [7] 1 (.yes (.pr true .eq (Eb (Ei (.v 0) (Ci 1)) (.pr true .aq (Eb (.pr true .len (Ea (.v 1))) (Ci 1)))))))) (.cons (.asg (.nm 9) (.comp true (.v 0) [0] (.seq (.v 8)) [1,7] 1 (.yes (.pr true .lt (Eb (.call 45 (Ec (Ei (.v 1) (Ci 0)) (Ei (.v 2) (Ei (.v 0) (Ci 0))) (Ei (.v 2) (.pr true .neg (Ea (Ci 1)))))) (Ei (.v 1) (Ci 1))))))) (.cons (.iff (.pr true .ne (Eb (.v 9) (.lst true .nil))) (.cons (.asg (.aq (.v 7) (.pr true .neg (Ea (Ci 1)))) (.pr true .add (Eb (Ei (.v 7) (.pr true .neg (Ea (Ci 1)))) (Ci 1)))) .nil) (.cons (.iff (.pr true .eq (Eb (.pr true .len (Ea (.v 7))) (Ei (.v 0) (Ci 0)))) (.cons (.ret (.pr true .tuple (Ea (.v 7)))) .nil) (.cons (.ex (.push (.v 7) (Ci 0))) .nil)) .nil)) .nil)))) .nil)) (.cons (.ret (.c .non)) .nil))))))))
def V5:bL:=(.cons (.iff (.pr true .eq (Eb (Ei (.v 0) (Ci 1)) (.tup .nil))) (.cons (.ret (.tup (Eb (Ci 1) (Ci 1)))) .nil) .nil) (.cons (.asg (.nm 1) (.c .non)) (.cons (.fr (.nm 2) (.rg (Ci 2) (.pr true .add (Eb (Ei (.v 0) (Ci 0)) (Ci 1)))) (.cons (.fr (.nm 3) (.rg (Ci 1) (.pr true .add (Eb (.pr true .fdiv (Eb (.v 2) (Ci 2))) (Ci 1)))) (.cons (.asg (.nm 4) (.and (.pr true .qQ (Ea (.v 1))) (.pr true .ge (Eb (.pr true .mul (Eb (.v 2) (Ei (.v 1) (Ci 1)))) (.pr true .mul (Eb (Ei (.v 1) (Ci 0)) (.v 3))))))) (.cons (.iff (.and (.not (.v 4)) (.pr true .qQ (Ea (.call 46 (Eb (.v 0) (.tup (Eb (.v 2) (.v 3)))))))) (.cons (.asg (.nm 1) (.tup (Eb (.v 2) (.v 3)))) .nil) .nil) .nil))) .nil)) (.cons (.ret (.v 1)) .nil))))
def V6:bL:=(.cons (.asg (.nm 2) (.comp true (.tup (Eb (.pr true .aq (Eb (.v 0) (.pr true .rZ (Ea (.pr true .gt (Eb (.v 0) (.v 2))))))) (.pr true .aq (Eb (.v 1) (.pr true .rZ (Ea (.pr true .gt (Eb (.v 1) (.v 2))))))))) [0,1] (.seq (Ei (.v 0) (Ci 1))) [1] 2 (.yes (.pr true .nin (Eb (.v 2) (.tup (Eb (.v 0) (.v 1)))))))) (.cons (.ret (.tup (Eb (.pr true .aq (Eb (Ei (.v 0) (Ci 0)) (Ci 1))) (.pr true .tuple (Ea (.v 2)))))) .nil))
def V7:bL:=(.cons (.iff (.pr true .eq (Eb (Ei (.v 0) (Ci 0)) (Ci 1))) (.cons (.ret (.c (.bl true))) .nil) .nil) (.cons (.par 2 3 (.call 47 (Ea (.call 48 (Eb (.v 0) (.v 1))))) (.call 47 (Ea (.v 0)))) (.cons (.ret (.pr true .lt (Eb (.pr true .mul (Eb (Ei (.v 2) (Ci 0)) (Ei (.v 3) (Ci 1)))) (.pr true .mul (Eb (Ei (.v 3) (Ci 0)) (Ei (.v 2) (Ci 1))))))) .nil)))
def V8:bL:=(.cons (.iff (.pr true .tL (Ea (.v 1))) (.cons (.ret (.pr true .tL (Ea (.v 0)))) .nil) .nil) (.cons (.ret (.and (.lF (.v 0) .tuple) (.and (.pr true .eq (Eb (.v 0) (.v 1))) (.pr true .all (Ea (.comp true (.call 42 (Ea (.v 0))) [0] (.seq (.v 0)) [] 1 .no)))))) .nil))
def V9:bL:=(.cons (.asg (.nm 1) (.v 0)) (.cons (.asg (.nm 2) (.comp true (.v 0) [0] (.rg (Ci 0) (Ei (.v 1) (Ci 0))) [1] 1 (.yes (.not (.call 49 (Eb (.v 1) (.v 0))))))) (.cons (.wh (.pr true .ne (Eb (.v 2) (.lst true .nil))) (.cons (.asg (.nm 1) (.call 48 (Eb (.v 1) (Ei (.v 2) (Ci 0))))) (.cons (.asg (.nm 2) (.comp true (.v 0) [0] (.rg (Ci 0) (Ei (.v 1) (Ci 0))) [1] 1 (.yes (.not (.call 49 (Eb (.v 1) (.v 0))))))) .nil))) (.cons (.ret (.v 1)) .nil))))
def V_:bL:=(.cons (.asg (.nm 1) (.pr true .tuple (Ea (.comp true (.v 0) [0] (.rg (Ci 0) (Ei (.v 0) (Ci 0))) [0] 1 (.yes (.call 49 (Eb (.v 1) (.v 0)))))))) (.cons (.asg (.nm 2) (.call 51 (Ea (.v 0)))) (.cons (.fr (.nm 3) (.rg (Ci 0) (Ci 2)) (.cons (.iff (.or (.not (.call 50 (Eb (.call 36 (Ea (.v 0))) (.v 1)))) (.not (.call 44 (Eb (.call 37 (Ea (.v 0))) (.v 2))))) (.cons (.ret (.c (.bl false))) .nil) .nil) .nil)) (.cons (.ret (.c (.bl true))) .nil))))
def Wa:bL:=(.cons (.fr (.nm 1) (.seq (.lst true (.cons (.tup (Eb (Ci 1) (.tup .nil))) (Ec (.tup (Eb (Ci 3) (.tup .nil))) (.tup (Eb (Ci 3) (.tup (Ea (.tup (Eb (Ci 0) (Ci 2))))))) (.tup (Eb (Ci 4) (.tup (.cons (.tup (Eb (Ci 0) (Ci 1))) (Ec (.tup (Eb (Ci 0) (Ci 2))) (.tup (Eb (Ci 1) (Ci 2))) (.tup (Eb (Ci 2) (Ci 3)))))))))))) (.cons (.iff (.not (.call 52 (Ea (.v 1)))) (.cons (.ret (.c (.bl false))) .nil) .nil) .nil)) (.cons (.fr (.nm 2) (.seq (.pr true .add (Eb (.lst true (Ea (.call 39 (Eb (.v 0) (Ci 0))))) (.sl true (.v 0) (.yes (Ci 1)) (.yes (Ci 3)))))) (.cons (.asg (.nm 3) (.call 40 (Ea (.v 2)))) (.cons (.iff (.not (.call 52 (Ea (.call 43 (Eb (.v 3) (Ei (.lst true (.cons (Ci 1) (.cons (Ci 2) (.cons (Ci 3) (.cons (Ci 4) (Ec (Ci 5) (Ci 4) (Ci 5))))))) (.call 41 (Eb (.v 3) (Ci 7))))))))) (.cons (.ret (.c (.bl false))) .nil) .nil) .nil))) (.cons (.ret (.c (.bl true))) .nil)))
def T(n:Nat):Option Df:=([⟨1,1,b0⟩,⟨3,3,b1⟩,⟨2,2,b2⟩,⟨3,1,b3⟩,⟨6,2,b4⟩,⟨1,1,b5⟩,⟨2,2,b6⟩,⟨4,2,b7⟩,⟨2,2,b8⟩,⟨1,1,b9⟩,⟨2,2,b10⟩,⟨3,2,Vl⟩,⟨1,1,Vm⟩,⟨3,2,Vn⟩,⟨5,4,Vo⟩,⟨2,2,Vp⟩,⟨4,4,Vq⟩,⟨3,3,Vr⟩,⟨6,4,Vt⟩,⟨3,3,Vu⟩,⟨2,2,Vv⟩,⟨5,2,Vw⟩,⟨2,2,Vx⟩,⟨5,2,Vy⟩,⟨3,1,Vz⟩,⟨1,1,VB⟩,⟨4,2,b26⟩,⟨3,2,VD⟩,⟨7,2,VF⟩,⟨5,4,OD⟩,⟨4,3,VG⟩,⟨4,3,K6⟩,⟨3,1,b32⟩,⟨2,2,VH⟩,⟨3,1,VJ⟩,⟨2,2,b35⟩,⟨2,1,VL⟩,⟨3,1,VN⟩,⟨3,3,VP⟩,⟨2,2,VR⟩,⟨2,1,V0⟩,⟨5,2,V1⟩,⟨1,1,b42⟩,⟨5,2,V2⟩,⟨2,2,V3⟩,⟨4,3,b45⟩,⟨10,2,V4⟩,⟨5,1,V5⟩,⟨3,2,V6⟩,⟨4,2,V7⟩,⟨2,2,V8⟩,⟨3,1,V9⟩,⟨4,1,V_⟩,⟨4,1,Wa⟩]:List Df)[n]?
theorem T_0:T 0=some ⟨1,1,b0⟩:=rfl
theorem T_1:T 1=some ⟨3,3,b1⟩:=rfl
theorem T_2:T 2=some ⟨2,2,b2⟩:=rfl
theorem T_3:T 3=some ⟨3,1,b3⟩:=rfl
theorem T_4:T 4=some ⟨6,2,b4⟩:=rfl
theorem T_5:T 5=some ⟨1,1,b5⟩:=rfl
theorem T_6:T 6=some ⟨2,2,b6⟩:=rfl
theorem T_7:T 7=some ⟨4,2,b7⟩:=rfl
theorem T_8:T 8=some ⟨2,2,b8⟩:=rfl
theorem T_9:T 9=some ⟨1,1,b9⟩:=rfl
theorem zpa:T 10=some ⟨2,2,b10⟩:=rfl
theorem zpn:T 11=some ⟨3,2,Vl⟩:=rfl
theorem zpx:T 12=some ⟨1,1,Vm⟩:=rfl
theorem zpq:T 13=some ⟨3,2,Vn⟩:=rfl
theorem zo7:T 14=some ⟨5,4,Vo⟩:=rfl
theorem zpw:T 15=some ⟨2,2,Vp⟩:=rfl
theorem zpo:T 16=some ⟨4,4,Vq⟩:=rfl
theorem zpd:T 17=some ⟨3,3,Vr⟩:=rfl
theorem zpf:T 18=some ⟨6,4,Vt⟩:=rfl
theorem zo9:T 19=some ⟨3,3,Vu⟩:=rfl
theorem zoU:T 20=some ⟨2,2,Vv⟩:=rfl
theorem zoY:T 21=some ⟨5,2,Vw⟩:=rfl
theorem zpp:T 22=some ⟨2,2,Vx⟩:=rfl
theorem zpr:T 23=some ⟨5,2,Vy⟩:=rfl
theorem zoX:T 24=some ⟨3,1,Vz⟩:=rfl
theorem zo1:T 25=some ⟨1,1,VB⟩:=rfl
theorem zpP:T 26=some ⟨4,2,b26⟩:=rfl
theorem zo0:T 27=some ⟨3,2,VD⟩:=rfl
theorem zpA:T 28=some ⟨7,2,VF⟩:=rfl
theorem Wb:T 29=some ⟨5,4,OD⟩:=rfl
theorem zo8:T 30=some ⟨4,3,VG⟩:=rfl
theorem OJ:T 31=some ⟨4,3,K6⟩:=rfl
theorem zpR:T 32=some ⟨3,1,b32⟩:=rfl
theorem zpl:T 33=some ⟨2,2,VH⟩:=rfl
theorem zpu:T 34=some ⟨3,1,VJ⟩:=rfl
theorem zpW:T 35=some ⟨2,2,b35⟩:=rfl
theorem zo2:T 36=some ⟨2,1,VL⟩:=rfl
theorem zo3:T 37=some ⟨3,1,VN⟩:=rfl
theorem zph:T 38=some ⟨3,3,VP⟩:=rfl
theorem zpk:T 39=some ⟨2,2,VR⟩:=rfl
theorem zo5:T 40=some ⟨2,1,V0⟩:=rfl
theorem zpi:T 41=some ⟨5,2,V1⟩:=rfl
theorem zpD:T 42=some ⟨1,1,b42⟩:=rfl
theorem zpm:T 43=some ⟨5,2,V2⟩:=rfl
theorem zpv:T 44=some ⟨2,2,V3⟩:=rfl
theorem zpU:T 45=some ⟨4,3,b45⟩:=rfl
theorem zpb:T 46=some ⟨10,2,V4⟩:=rfl
theorem zoZ:T 47=some ⟨5,1,V5⟩:=rfl
theorem zpc:T 48=some ⟨3,2,V6⟩:=rfl
theorem zpg:T 49=some ⟨4,2,V7⟩:=rfl
theorem zpj:T 50=some ⟨2,2,V8⟩:=rfl
theorem zpB:T 51=some ⟨3,1,V9⟩:=rfl
theorem zoV:T 52=some ⟨4,1,V_⟩:=rfl
theorem zps:T 53=some ⟨4,1,Wa⟩:=rfl
def aq:Nat->Nat->Bool:=λc e=>(let n:=λc=>if c<0 then c else 0;n e==0||n c==n e)
end dR
namespace dR
open PySem PySem.Spec PyProof.Rows L2 Mi
abbrev LK(i:Nat)(x:Str)(k:NameKind):Prop:=(aA (top i)).names.lookup x=some k
noncomputable abbrev gI:NameKind:=.globalImplicit
abbrev N3:List Str:=["thing","many","ties"]
abbrev N11:List Str:=["web","place","ends"]
abbrev N12:List Str:=["web"]
abbrev N13:List Str:=["web","place","kept"]
abbrev N14:List Str:=["web","place","name","start","behind"]
abbrev N15:List Str:=["ties","names"]
abbrev N18:List Str:=["self","free","place","spot","left","end"]
abbrev N19:List Str:=["self","free","place"]
abbrev N20:List Str:=["self","free"]
abbrev N22:List Str:=["self","free"]
abbrev N23:List Str:=["web","ring","k","d","wide"]
abbrev N27:List Str:=["web","ring","board"]
abbrev N32:List Str:=["most","limit","rings"]
abbrev N36:List Str:=["web","least"]
abbrev N43:List Str:=["_law_pen_here","_law_many","_law_often","_law_ties","_law_one"]
abbrev N44:List Str:=["_law_found","_law_due"]
abbrev K7:List Str:=["_law_web_here","_law_ring","_law_threes","_law_one","_law_other","_law_both_near","_law_loose","_law_row","_law_ties","_law_near"]
abbrev N48:List Str:=["_law_web_here","_law_place","_law_ties"]
abbrev N50:List Str:=["_law_found","_law_due"]
abbrev Wc:List Str:=["_law_web_here","_law_here","_law_some"]
abbrev N52:List Str:=["_law_web_here","_law_due","_law_part_here","_law_turn"]
def cl(K:W.Frag):Cl:=⟨iM (lk.L K),λ_=>[],λ_=>dM K "Board",λ_=>["ends","spots","apart","alike"]⟩
structure Top(K:W.Frag)(mg:Str->Option Value):Prop where
 d0:D3 K mg "is_whole" (top 6) ["thing"]
 d1:D3 K mg "is_within" (top 7) ["thing","least","most"]
 d2:D3 K mg "is_row" (top 8) ["thing","many"]
 d3:D3 K mg "is_web" (top 11) ["thing"]
 d4:D3 K mg "web_of" (top 12) ["many","things"]
 d5:D3 K mg "is_many" (top 13) ["thing"]
 d6:D3 K mg "is_place" (top 14) ["many","thing"]
 d7:D3 K mg "is_tie" (top 15) ["many","thing"]
 d8:D3 K mg "tie_by" (top 16) ["many","thing"]
 d9:D3 K mg "check_web" (top 17) ["thing"]
 d10:D3 K mg "check_place" (top 18) ["web","thing"]
 d11:D3 K mg "tied_to" (top 19) ["web","place"]
 d12:D3 K mg "all_ends" (top 20) ["web"]
 d13:D3 K mg "without" (top 22) ["web","place"]
 d14:D3 K mg "names_but" (top 23) ["web","place","name","start"]
 d15:D3 K mg "renamed" (top 24) ["ties","names"]
 d23:D3 K mg "ring_board" (top 27) ["web","ring"]
 d24:D3 K mg "is_ring" (top 30) ["thing"]
 d25:D3 K mg "check_ring" (top 31) ["thing"]
 d26:D3 K mg "lowest_terms" (top 32) ["top","bottom"]
 d27:D3 K mg "first_hues" (top 34) ["web","ring"]
 Wd:D3 K mg "first_among" (top 35) ["board","choices"]
 d29:D3 K mg "first_spot" (top 36) ["board","answers","free","place"]
 d30:D3 K mg "can_settle" (top 37) ["board","answers","free"]
 d31:D3 K mg "search" (top 38) ["board","answers","free"]
 d32:D3 K mg "plain_rings" (top 41) ["most"]
 d33:D3 K mg "has_room" (top 42) ["web","ring"]
 d34:D3 K mg "shortest" (top 43) ["web"]
 d35:D3 K mg "is_plain" (top 44) ["k","d"]
 d36:D3 K mg "needed_places" (top 46) ["web"]
 d37:D3 K mg "needed_part" (top 47) ["web"]
 d38:D3 K mg "is_needed" (top 48) ["web","least","place"]
 d39:D3 K mg "_law_cell" (top 50) ["_law_script","_law_k"]
 d40:D3 K mg "_law_pen" (top 51) ["_law_cell_here"]
 d41:D3 K mg "_law_draw" (top 52) ["_law_pen_here","_law_many"]
 d42:D3 K mg "_law_whole" (top 53) ["_law_thing"]
 d43:D3 K mg "_law_web" (top 54) ["_law_pen_here","_law_many"]
 d44:D3 K mg "_law_web_is" (top 55) ["_law_found","_law_due"]
 d45:D3 K mg "_law_apart" (top 56) ["_law_k","_law_one","_law_other"]
 d46:D3 K mg "_law_first" (top 57) ["_law_web_here","_law_ring"]
 d47:D3 K mg "_law_shortest" (top 58) ["_law_web_here"]
 d48:D3 K mg "_law_bare" (top 59) ["_law_web_here","_law_place"]
 d49:D3 K mg "_law_needs" (top 60) ["_law_web_here","_law_place"]
 d50:D3 K mg "_law_told_as" (top 61) ["_law_found","_law_due"]
 d51:D3 K mg "_law_part" (top 62) ["_law_web_here"]
 d52:D3 K mg "_law_right" (top 63) ["_law_web_here"]
 O1:D3 K mg "law" (top 64) ["_law_script"]
 lK:∃t,mg "MOST_PLACES"=some (.int 8 t)
 nu:∃t,mg "MOST_SPOTS"=some (.int 24 t)
 qz:∃t,mg "SO_OFTEN"=some (.int 27720 t)
 z14:mg "abs"=none
 z6:mg "all"=none
 z2:mg "bool"=none
 z13:mg "divmod"=none
 z8:mg "enumerate"=none
 z1:mg "int"=none
 z0:mg "isinstance"=none
 z4:mg "len"=none
 z10:mg "list"=none
 z12:mg "max"=none
 z11:mg "min"=none
 z9:mg "range"=none
 z7:mg "sorted"=none
 z3:mg "tuple"=none
 z5:mg "zip"=none
 ow:Ow K (cl K) 0
 mq:Mk K ((cl K).b 0) (gZ K ((cl K).b 0) "__init__")
 mc:mg "Board"=some (.ref ((cl K).b 0))
 Wf:Mt K ((cl K).b 0) "__init__" "Board.__init__" Eu ["self","web","apart","alike"] (gZ K ((cl K).b 0) "__init__") (jF K ((cl K).b 0) "__init__" Eu)
 m17:Mt K ((cl K).b 0) "far_apart" "Board.far_apart" Hj ["self","spot","other"] (gZ K ((cl K).b 0) "far_apart") (jF K ((cl K).b 0) "far_apart" Hj)
 m18:Mt K ((cl K).b 0) "settled" "Board.settled" Hl ["self","free","place","spot"] (gZ K ((cl K).b 0) "settled") (jF K ((cl K).b 0) "settled" Hl)
 m19:Mt K ((cl K).b 0) "ties_left" "Board.ties_left" Ho ["self","free","place"] (gZ K ((cl K).b 0) "ties_left") (jF K ((cl K).b 0) "ties_left" Ho)
 m20:Mt K ((cl K).b 0) "bound" "Board.bound" Hq ["self","free"] (gZ K ((cl K).b 0) "bound") (jF K ((cl K).b 0) "bound" Hq)
 m21:Mt K ((cl K).b 0) "narrowest" "Board.narrowest" Hr ["self","free"] (gZ K ((cl K).b 0) "narrowest") (jF K ((cl K).b 0) "narrowest" Hr)
 m22:Mt K ((cl K).b 0) "all_free" "Board.all_free" Hs ["self","free"] (gZ K ((cl K).b 0) "all_free") (jF K ((cl K).b 0) "all_free" Hs)
 lam:Dt K mg (fdOf K "plain_rings" (top 41))
theorem zlB{K:W.Frag}{h:Heap}{mg:Str->Option Value}(Sb:rC fs ms xs lk bd K)(LH:kI K h)(X:K.In h)(G:h.Ns mainGlobals mg):Top K mg where
 d0:=oW Sb.i X G 0
 d1:=Ke Sb.i X G 1
 d2:=kj Sb.i X G 2
 d3:=oW Sb.i X G 3
 d4:=kj Sb.i X G 4
 d5:=oW Sb.i X G 5
 d6:=kj Sb.i X G 6
 d7:=kj Sb.i X G 7
 d8:=kj Sb.i X G 8
 d9:=oW Sb.i X G 9
 d10:=kj Sb.i X G 10
 d11:=kj Sb.i X G 11
 d12:=oW Sb.i X G 12
 d13:=kj Sb.i X G 13
 d14:=zo4 Sb.i X G 14
 d15:=kj Sb.i X G 15
 d23:=kj Sb.i X G 16
 d24:=oW Sb.i X G 17
 d25:=oW Sb.i X G 18
 d26:=kj Sb.i X G 19
 d27:=kj Sb.i X G 20
 Wd:=kj Sb.i X G 21
 d29:=zo4 Sb.i X G 22
 d30:=Ke Sb.i X G 23
 d31:=Ke Sb.i X G 24
 d32:=oW Sb.i X G 25
 d33:=kj Sb.i X G 26
 d34:=oW Sb.i X G 27
 d35:=kj Sb.i X G 28
 d36:=oW Sb.i X G 29
 d37:=oW Sb.i X G 30
 d38:=Ke Sb.i X G 31
 d39:=kj Sb.i X G 32
 d40:=oW Sb.i X G 33
 d41:=kj Sb.i X G 34
 d42:=oW Sb.i X G 35
 d43:=kj Sb.i X G 36
 d44:=kj Sb.i X G 37
 d45:=Ke Sb.i X G 38
 d46:=kj Sb.i X G 39
 d47:=oW Sb.i X G 40
 d48:=kj Sb.i X G 41
 d49:=kj Sb.i X G 42
 d50:=kj Sb.i X G 43
 d51:=oW Sb.i X G 44
 d52:=oW Sb.i X G 45
 O1:=oW Sb.i X G 46
 lK:=T7 (Sb.i.gd.it ("MOST_PLACES",8) (mG 0)) X G
 nu:=T7 (Sb.i.gd.it ("MOST_SPOTS",24) (mG 1)) X G
 qz:=T7 (Sb.i.gd.it ("SO_OFTEN",27720) (mG 2)) X G
 z14:=qp (Sb.i.gd.no "abs" (mG 0)) X G
 z6:=qp (Sb.i.gd.no "all" (mG 1)) X G
 z2:=qp (Sb.i.gd.no "bool" (mG 2)) X G
 z13:=qp (Sb.i.gd.no "divmod" (mG 3)) X G
 z8:=qp (Sb.i.gd.no "enumerate" (mG 4)) X G
 z1:=qp (Sb.i.gd.no "int" (mG 5)) X G
 z0:=qp (Sb.i.gd.no "isinstance" (mG 6)) X G
 z4:=qp (Sb.i.gd.no "len" (mG 7)) X G
 z10:=qp (Sb.i.gd.no "list" (mG 8)) X G
 z12:=qp (Sb.i.gd.no "max" (mG 9)) X G
 z11:=qp (Sb.i.gd.no "min" (mG 10)) X G
 z9:=qp (Sb.i.gd.no "range" (mG 11)) X G
 z7:=qp (Sb.i.gd.no "sorted" (mG 12)) X G
 z3:=qp (Sb.i.gd.no "tuple" (mG 13)) X G
 z5:=qp (Sb.i.gd.no "zip" (mG 14)) X G
 ow:=zoF Sb.b rfl rfl Dc
 mq:=znX Sb.b (Sb.m ("__init__","Board.__init__",Eu) (mG 0)).2
 mc:=zoN Sb.b X G
 Wf:=zoT (Sb.m ("__init__","Board.__init__",Eu) (mG 0))
 m17:=zpe (Sb.m ("far_apart","Board.far_apart",Hj) (mG 1))
 m18:=zoT (Sb.m ("settled","Board.settled",Hl) (mG 2))
 m19:=zpe (Sb.m ("ties_left","Board.ties_left",Ho) (mG 3))
 m20:=U8 (Sb.m ("bound","Board.bound",Hq) (mG 4))
 m21:=U8 (Sb.m ("narrowest","Board.narrowest",Hr) (mG 5))
 m22:=U8 (Sb.m ("all_free","Board.all_free",Hs) (mG 6))
 lam:=LH.lk X G (top 41)
abbrev FO(P:Program)(w:World)(K:W.Frag)(mg:Str->Option Value)(base:Heap)(k:Nat)(c:Bool)(x:Str)(i:Nat)(ps:List Str)(n:Nat):Prop:=bZ P w K mg base (eN P w) c k (fC K x) (fdOf K x (top i)) ps (k_ K (cl K) (call aq T k c n))
abbrev FM(P:Program)(w:World)(K:W.Frag)(mg:Str->Option Value)(base:Heap)(k:Nat)(m:Str)(st:Stmt)(ps:List Str)(sp:Sp):Prop:=bZ P w K mg base (eN P w) true k (gZ K ((cl K).b 0) m) (jF K ((cl K).b 0) m st) ps sp
structure Fs(P:Program)(w:World)(K:W.Frag)(mg:Str->Option Value)(base:Heap)(k:Nat):Prop where
 t0:FO P w K mg base k true "is_whole" 6 ["thing"] 0
 t1:FO P w K mg base k true "is_within" 7 ["thing","least","most"] 1
 t2:FO P w K mg base k true "is_row" 8 ["thing","many"] 2
 t3:FO P w K mg base k true "is_web" 11 ["thing"] 3
 t4:FO P w K mg base k true "web_of" 12 ["many","things"] 4
 t5:FO P w K mg base k true "is_many" 13 ["thing"] 5
 t6:FO P w K mg base k true "is_place" 14 ["many","thing"] 6
 t7:FO P w K mg base k true "is_tie" 15 ["many","thing"] 7
 t8:FO P w K mg base k true "tie_by" 16 ["many","thing"] 8
 t9:FO P w K mg base k true "check_web" 17 ["thing"] 9
 t10:FO P w K mg base k true "check_place" 18 ["web","thing"] 10
 t11:FO P w K mg base k true "tied_to" 19 ["web","place"] 11
 t12:FO P w K mg base k true "all_ends" 20 ["web"] 12
 t13:FO P w K mg base k true "without" 22 ["web","place"] 13
 t14:FO P w K mg base k true "names_but" 23 ["web","place","name","start"] 14
 t15:FO P w K mg base k true "renamed" 24 ["ties","names"] 15
 t16:FM P w K mg base k "__init__" Eu ["self","web","apart","alike"] (KC K (cl K) 0 (call aq T k true 16))
 t17:FM P w K mg base k "far_apart" Hj ["self","spot","other"] (k_ K (cl K) (call aq T k true 17))
 t18:FM P w K mg base k "settled" Hl ["self","free","place","spot"] (k_ K (cl K) (call aq T k true 18))
 t19:FM P w K mg base k "ties_left" Ho ["self","free","place"] (k_ K (cl K) (call aq T k true 19))
 t20:FM P w K mg base k "bound" Hq ["self","free"] (k_ K (cl K) (call aq T k true 20))
 t21:FM P w K mg base k "narrowest" Hr ["self","free"] (k_ K (cl K) (call aq T k true 21))
 t22:FM P w K mg base k "all_free" Hs ["self","free"] (k_ K (cl K) (call aq T k true 22))
 t23:FO P w K mg base k true "ring_board" 27 ["web","ring"] 23
 t24:FO P w K mg base k true "is_ring" 30 ["thing"] 24
 t25:FO P w K mg base k true "check_ring" 31 ["thing"] 25
 t26:FO P w K mg base k true "lowest_terms" 32 ["top","bottom"] 26
 t27:FO P w K mg base k true "first_hues" 34 ["web","ring"] 27
 t28:FO P w K mg base k true "first_among" 35 ["board","choices"] 28
 t29:FO P w K mg base k true "first_spot" 36 ["board","answers","free","place"] 29
 t30:FO P w K mg base k true "can_settle" 37 ["board","answers","free"] 30
 t31:FO P w K mg base k true "search" 38 ["board","answers","free"] 31
 t32:FO P w K mg base k true "plain_rings" 41 ["most"] 32
 t33:FO P w K mg base k true "has_room" 42 ["web","ring"] 33
 t34:FO P w K mg base k true "shortest" 43 ["web"] 34
 t35:FO P w K mg base k true "is_plain" 44 ["k","d"] 35
 t36:FO P w K mg base k true "needed_places" 46 ["web"] 36
 t37:FO P w K mg base k true "needed_part" 47 ["web"] 37
 t38:FO P w K mg base k true "is_needed" 48 ["web","least","place"] 38
 t39:FO P w K mg base k true "_law_cell" 50 ["_law_script","_law_k"] 39
 t40:FO P w K mg base k true "_law_pen" 51 ["_law_cell_here"] 40
 t41:FO P w K mg base k true "_law_draw" 52 ["_law_pen_here","_law_many"] 41
 t42:FO P w K mg base k true "_law_whole" 53 ["_law_thing"] 42
 t43:FO P w K mg base k true "_law_web" 54 ["_law_pen_here","_law_many"] 43
 t44:FO P w K mg base k true "_law_web_is" 55 ["_law_found","_law_due"] 44
 t45:FO P w K mg base k true "_law_apart" 56 ["_law_k","_law_one","_law_other"] 45
 t46:FO P w K mg base k true "_law_first" 57 ["_law_web_here","_law_ring"] 46
 t47:FO P w K mg base k true "_law_shortest" 58 ["_law_web_here"] 47
 t48:FO P w K mg base k true "_law_bare" 59 ["_law_web_here","_law_place"] 48
 t49:FO P w K mg base k true "_law_needs" 60 ["_law_web_here","_law_place"] 49
 t50:FO P w K mg base k true "_law_told_as" 61 ["_law_found","_law_due"] 50
 t51:FO P w K mg base k true "_law_part" 62 ["_law_web_here"] 51
 t52:FO P w K mg base k true "_law_right" 63 ["_law_web_here"] 52
 t53:FO P w K mg base k true "law" 64 ["_law_script"] 53
section
variable {P:Program}{w:World}{K:W.Frag}{mg:Str->Option Value}{base:Heap}{k:Nat}
def ziF(Tq:Top K mg)(Fq:Fs P w K mg base k):Fs P w K mg base (k+1):=by
 let Tp:=Tq;let Fk:=Fq;cases Fq;cases Tq;show {
 t0:=fJ Tp.d0 ["thing"] T_0 λ_ _ _ _ _ _ hr=>au,
 t1:=fJ Tp.d1 ["thing","least","most"] T_1 λ_ _ _ _ _ _ hr=>au,
 t2:=fJ Tp.d2 ["thing","many"] T_2 λ_ _ _ _ _ _ hr=>au,
 t3:=fJ Tp.d3 N3 T_3 λ_ _ _ _ _ _ hr=>(bI au (bI (J8 1 2 rfl rfl nd rfl rfl jc jl rfl rfl au) (bI au (bI (J9 (Zx (Zw (FN rfl Tp.z6 gk (qm (rF rfl au (λ_ _ _ _ _ _=>au) (λ_ _ _ _ _ _=>au)) au)))) au au) (bI (rz (FN rfl Tp.z6 gk (qm (Oz rfl au (λ_ _ _ _ _ _=>au) (λ_ _ _ _ _ _=>au)) au))) au))))),
 t4:=fJ Tp.d4 ["many","things","ties","at","thing","tie"] T_4 λ_ _ _ _ _ _ hr=>(bI au (bI au (bI (FT vX rfl rfl au (TY 3 4 rfl rfl nd rfl rfl jl jl rfl rfl) au) au))),
 t5:=fJ Tp.d5 ["thing"] T_5 λ_ _ _ _ _ _ hr=>au,
 t6:=fJ Tp.d6 ["many","thing"] T_6 λ_ _ _ _ _ _ hr=>au,
 t7:=fJ Tp.d7 ["many","thing","one","other"] T_7 λ_ _ _ _ _ _ hr=>(bI au (bI (J8 2 3 rfl rfl nd rfl rfl jl jl rfl rfl au) au)),
 t8:=fJ Tp.d8 ["many","thing"] T_8 λ_ _ _ _ _ _ hr=>au,
 t9:=fJ Tp.d9 ["thing"] T_9 λ_ _ _ _ _ _ hr=>au,
 t10:=fJ Tp.d10 ["web","thing"] zpa λ_ _ _ _ _ _ hr=>au,
 t11:=fJ Tp.d11 N11 zpn λ_ _ _ _ _ _ hr=>(bI (v8 2 (aA (top 19)) N11 ["one","other"] ["place"] [1] nd rfl jl rfl rfl rfl rfl Dc Dc (Ny 0 1) Dc au (λ_ _ _ _ _ _=>(Tz 0 1 rfl Dc rfl rfl Dc Dc)) (λ_ _ _ _ _ _=>au) (λ_ _ _ _ _ _=>au)) au),
 t12:=fJ Tp.d12 N12 zpx λ_ _ _ _ _ _ hr=>(bI (rz (rF rfl au (λ_ _ _ _ _ _=>au) (λ_ _ _ _ _ _=>au))) au),
 t13:=fJ Tp.d13 N13 zpq λ_ _ _ _ _ _ hr=>(bI au (bI au (bI au (bI (v8 2 (aA (top 22)) N13 ["tie"] ["place"] [1] nd rfl jl rfl rfl rfl rfl Dc Dc (sO 0) Dc au (λ_ _ _ _ _ _=>(sS 0 Dc rfl Dc)) (λ_ _ _ _ _ _=>au) (λ_ _ _ _ _ _=>au)) au)))),
 t14:=fJ Tp.d14 N14 zo7 λ_ _ _ _ _ _ hr=>(bI (v8 4 (aA (top 23)) N14 ["other"] ["start"] [3] nd rfl jl rfl rfl rfl rfl Dc Dc (sO 0) Dc au (λ_ _ _ _ _ _=>(sS 0 Dc rfl Dc)) (λ_ _ _ _ _ _=>au) (λ_ _ _ _ _ _=>au)) au),
 t15:=fJ Tp.d15 N15 zpw λ_ _ _ _ _ _ hr=>(bI (rz (Oz rfl au (λ_ _ _ _ _ _=>au) (λ_ _ _ _ _ _=>au))) au),
 t16:=zi2 (N:=["self","web","apart","alike"]) Tp.Wf.fn zpo (λ_ _ _ _ _ _ hr=>(Oi (j:=0) Tp.ow au (Oi (j:=0) Tp.ow (znJ rfl Tp.z3 gk Tp.z9 gk au) (Oi (j:=0) Tp.ow au (Oi (j:=0) Tp.ow au zmD))))) (by change (4:Nat)<=900;decide),
 t17:=fM Tp.m17 ["self","spot","other"] zpd λ_ _ _ _ _ _ hr=>au,
 t18:=fM Tp.m18 N18 zpf λ_ _ _ _ _ _ hr=>(bI au (bI au (bI (FT vX rfl rfl au (TX 5 nd rfl jl rfl) (bI (J9 au (bI (ZM au au (FP Tp.z3 gk (qm (rF rfl au (λ_ _ _ _ _ _=>au) (λ_ _ _ _ _ _=>au)) au))) au) au) au)) au))),
 t19:=fM Tp.m19 N19 zo9 λ_ _ _ _ _ _ hr=>(bI (rz (Tv Tp.z4 gk (qm (rF rfl au (λ_ _ _ _ _ _=>au) (λ_ _ _ _ _ _=>au)) au))) au),
 t20:=fM Tp.m20 N20 zoU λ_ _ _ _ _ _ hr=>(bI (rz (FP Tp.z3 gk (qm (Oz rfl au (λ_ _ _ _ _ _=>au) (λ_ _ _ _ _ _=>au)) au))) au),
 t21:=fM Tp.m21 ["self","free","ranks","place","spots"] zoY λ_ _ _ _ _ _ hr=>(bI au (bI (FT vX rfl rfl au (TY 3 4 rfl rfl nd rfl rfl jl jl rfl rfl) au) (bI (rz (Zy (znN au) (Zz (znp hr rfl Tp.z11 gk au) au) au)) au))),
 t22:=fM Tp.m22 N22 zpp λ_ _ _ _ _ _ hr=>(bI (rz (FN rfl Tp.z6 gk (qm (rF rfl au (λ_ _ _ _ _ _=>au) (λ_ _ _ _ _ _=>au)) au))) au),
 t23:=fR Tp.d23 N23 zpr λ_ _ _ _ _ _ hr=>(bI (J8 2 3 rfl rfl nd rfl rfl jc jc rfl rfl au) (bI (v7 4 nd rfl jc rfl (rF rfl au (λ_ _ _ _ _ _=>au) (λ_ _ _ _ _ _=>au))) (bI (rz (zpM Tp.mq Fk.t16 (Mi.aX.made hr _ _) Tp.Wf.bd Tp.mc gk (qm au (qm (rF rfl au (λ_ _ _ _ _ _=>au) (λ_ _ _ _ _ _=>(ZK ["spot","k","wide"] ["other"] ["wide","spot"] [2,0] rfl rfl Dc Dc (sO 0) Dc au (λ_ _ _ _ _ _=>(sS 0 Dc rfl Dc)) (λ_ _ _ _ _ _=>au) (λ_ _ _ _ _ _=>au)))) au)))) au))),
 t24:=fJ Tp.d24 ["thing","k","d"] zoX λ_ _ _ _ _ _ hr=>(bI au (bI (J8 1 2 rfl rfl nd rfl rfl jl jl rfl rfl au) au)),
 t25:=fJ Tp.d25 ["thing"] zo1 λ_ _ _ _ _ _ hr=>au,
 t26:=fJ Tp.d26 ["top","bottom","common","rest"] zpP λ_ _ _ _ _ _ hr=>(bI (TV 2 3 rfl rfl nd rfl rfl J0 jl jl au au rfl) (bI (NZ vX au (bI (TV 2 3 rfl rfl nd rfl rfl J0 jl jl au au rfl) au)) au)),
 t27:=fJ Tp.d27 N27 zo0 λ_ _ _ _ _ _ hr=>(bI au (bI au (bI (v7 2 nd rfl jc rfl au) (bI (rz (gc Fk.t28 Tp.Wd hr ZL gk (qm au (qm (rF rfl au (λ_ _ _ _ _ _=>au) (λ_ _ _ _ _ _=>au)) au)))) au)))),
 t28:=fJ Tp.Wd ["board","choices","free","answers","row","place","spot"] zpA λ_ _ _ _ _ _ hr=>au,
 t29:=fJ Tp.d29 ["board","answers","free","place","spot"] Wb λ_ _ _ _ _ _ hr=>au,
 t30:=fJ Tp.d30 ["board","answers","free","rest"] zo8 λ_ _ _ _ _ _ hr=>au,
 t31:=fJ Tp.d31 ["board","answers","free","place"] OJ λ_ _ _ _ _ _ hr=>au,
 t32:=fJL Tp.d32 Tp.lam N32 zpR λ_ _ _ _ _ _ hr hL=>(bI au (bI (zi4 2 (aA (top 41)) N32 ["k","d"] [] [] nd rfl jl rfl rfl rfl rfl Dc Dc (sO 0) (sO 1) Dc au (λ_ _ _ _ _ _=>(sS 0 Dc rfl Dc)) (λ_ _ _ _ _ _=>au) (λ_ _ _ _ _ _=>(sS 1 Dc rfl Dc)) (λ_ _ _ _ _ _=>au) (λ_ _ _ _ _ _=>au)) (bI (rz (ziY "ring" hL hr rfl Tp.z7 gk au (λ_ _ _ _=>au))) au))),
 t33:=fJ Tp.d33 ["web","ring"] zpl λ_ _ _ _ _ _ hr=>au,
 t34:=fJ Tp.d34 ["web","rings","at"] zpu λ_ _ _ _ _ _ hr=>au,
 t35:=fJ Tp.d35 ["k","d"] zpW λ_ _ _ _ _ _ hr=>au,
 t36:=fJ Tp.d36 N36 zo2 λ_ _ _ _ _ _ hr=>(bI (v7 1 nd rfl jc rfl au) (bI (rz (FP Tp.z3 gk (qm (rF rfl au (λ_ _ _ _ _ _=>au) (λ_ _ _ _ _ _=>au)) au))) au)),
 t37:=fJ Tp.d37 ["web","least","place"] zo3 λ_ _ _ _ _ _ hr=>au,
 t38:=fJ Tp.d38 ["web","least","place"] zph λ_ _ _ _ _ _ hr=>au,
 t39:=fJ Tp.d39 ["_law_script","_law_k"] zpk λ_ _ _ _ _ _ hr=>au,
 t40:=fJ Tp.d40 ["_law_cell_here","_law_left"] zo5 λ_ _ _ _ _ _ hr=>au,
 t41:=fJ Tp.d41 ["_law_pen_here","_law_many","_law_left","_law_found","_law_stir"] zpi λ_ _ _ _ _ _ hr=>(bI (J9 au (bI (J8 2 3 rfl rfl nd rfl rfl jl jl rfl rfl (zhP Tp.z13 gk au)) au) au) au),
 t42:=fJ Tp.d42 ["_law_thing"] zpD λ_ _ _ _ _ _ hr=>au,
 t43:=fJ Tp.d43 N43 zpm λ_ _ _ _ _ _ hr=>(bI (v7 2 nd rfl jc rfl au) (bI au (bI (FT vX rfl rfl au (TX 4 nd rfl jc rfl) (bI (v7 3 nd rfl jl rfl (CP Zk au (rF rfl au (λ_ _ _ _ _ _=>au) (λ_ _ _ _ _ _=>au)))) au)) au))),
 t44:=fJ Tp.d44 N44 zpv λ_ _ _ _ _ _ hr=>(bI au (bI (rz (FN rfl Tp.z6 gk (qm (rF rfl au (λ_ _ _ _ _ _=>au) (λ_ _ _ _ _ _=>au)) au))) au)),
 t45:=fJ Tp.d45 ["_law_k","_law_one","_law_other","_law_there"] zpU λ_ _ _ _ _ _ hr=>au,
 t46:=fJ Tp.d46 K7 zpb λ_ _ _ _ _ _ hr=>(bI au (bI au (bI (FT vX rfl rfl au (TY 3 4 rfl rfl nd rfl rfl jc jc rfl rfl) (bI (v8 5 (aA (top 57)) K7 ["_law_place"] ["_law_one","_law_web_here","_law_other"] [3,0,4] nd rfl jl rfl rfl rfl rfl Dc Dc (sO 0) Dc au (λ_ _ _ _ _ _=>(sS 0 Dc rfl Dc)) (λ_ _ _ _ _ _=>au) (λ_ _ _ _ _ _=>au)) au)) (bI au (bI (v8 6 (aA (top 57)) K7 ["_law_place"] ["_law_web_here"] [0] nd rfl jl rfl rfl rfl rfl Dc Dc (sO 0) Dc au (λ_ _ _ _ _ _=>(sS 0 Dc rfl Dc)) (λ_ _ _ _ _ _=>(ZF (yh (Tt hr) (ZK ["_law_place","_law_web_here"] ["_law_tie"] ["_law_place"] [0] rfl rfl Dc Dc (sO 0) Dc au (λ_ _ _ _ _ _=>(sS 0 Dc rfl Dc)) (λ_ _ _ _ _ _=>au) (λ_ _ _ _ _ _=>au)) au))) (λ_ _ _ _ _ _=>au)) (bI (v7 7 nd rfl jc rfl au) (bI (NZ vX au (bI (J9 au au (bI (v8 8 (aA (top 57)) K7 ["_law_tie"] ["_law_row"] [7] nd rfl jl rfl rfl rfl rfl Dc Dc (sO 0) Dc au (λ_ _ _ _ _ _=>(sS 0 Dc rfl Dc)) (λ_ _ _ _ _ _=>au) (λ_ _ _ _ _ _=>au)) (bI (v8 9 (aA (top 57)) K7 ["_law_tie"] ["_law_ring","_law_row"] [1,7] nd rfl jl rfl rfl rfl rfl Dc Dc (sO 0) Dc au (λ_ _ _ _ _ _=>(sS 0 Dc rfl Dc)) (λ_ _ _ _ _ _=>au) (λ_ _ _ _ _ _=>au)) au))) au)) au))))))),
 t47:=fJ Tp.d47 ["_law_web_here","_law_best","_law_k","_law_d","_law_longer"] zoZ λ_ _ _ _ _ _ hr=>au,
 t48:=fJ Tp.d48 N48 zpc λ_ _ _ _ _ _ hr=>(bI (v8 2 (aA (top 59)) N48 ["_law_one","_law_other"] ["_law_place"] [1] nd rfl jl rfl rfl rfl rfl Dc Dc (Ny 0 1) Dc au (λ_ _ _ _ _ _=>(Tz 0 1 rfl Dc rfl rfl Dc Dc)) (λ_ _ _ _ _ _=>au) (λ_ _ _ _ _ _=>au)) au),
 t49:=fJ Tp.d49 ["_law_web_here","_law_place","_law_one","_law_other"] zpg λ_ _ _ _ _ _ hr=>(bI au (bI (TV 2 3 rfl rfl nd rfl rfl J0 jl jl au au rfl) au)),
 t50:=fJ Tp.d50 N50 zpj λ_ _ _ _ _ _ hr=>(bI au (bI (rz (Tr au (Tr au (Zm (FN rfl Tp.z6 gk (qm (rF rfl au (λ_ _ _ _ _ _=>au) (λ_ _ _ _ _ _=>au)) au)))))) au)),
 t51:=fJ Tp.d51 Wc zpB λ_ _ _ _ _ _ hr=>(bI (v7 1 nd rfl jc rfl au) (bI (v8 2 (aA (top 62)) Wc ["_law_place"] ["_law_here"] [1] nd rfl jl rfl rfl rfl rfl Dc Dc (sO 0) Dc au (λ_ _ _ _ _ _=>(sS 0 Dc rfl Dc)) (λ_ _ _ _ _ _=>au) (λ_ _ _ _ _ _=>au)) (bI (NZ vX au (bI (v7 1 nd rfl jc rfl au) (bI (v8 2 (aA (top 62)) Wc ["_law_place"] ["_law_here"] [1] nd rfl jl rfl rfl rfl rfl Dc Dc (sO 0) Dc au (λ_ _ _ _ _ _=>(sS 0 Dc rfl Dc)) (λ_ _ _ _ _ _=>au) (λ_ _ _ _ _ _=>au)) au))) au))),
 t52:=fJ Tp.d52 N52 zoV λ_ _ _ _ _ _ hr=>(bI (v7 1 nd rfl jl rfl (FP Tp.z3 gk (qm (rF rfl au (λ_ _ _ _ _ _=>au) (λ_ _ _ _ _ _=>au)) au))) au),
 t53:=fJ Tp.O1 ["_law_script","_law_web_here","_law_cell_here","_law_pen_here"] zps λ_ _ _ _ _ _ hr=>au,}
theorem ziz(Tp:Top K mg):∀k,Fs P w K mg base k
 |0=>⟨cM,cM,cM,cM,cM,cM,cM,cM,cM,cM,cM,cM,cM,cM,cM,cM,zh5,cM,cM,cM,cM,cM,cM,cM,cM,cM,cM,cM,cM,cM,cM,cM,cM,cM,cM,cM,cM,cM,cM,cM,cM,cM,cM,cM,cM,cM,cM,cM,cM,cM,cM,cM,cM,cM⟩|k+1=>ziF Tp (ziz Tp k)
end
def all_mk{l:PySem.W.OpenLaw}{w:World}{K:W.Frag}{h:Heap}{mg:Str->Option Value}{fa:Addr}(hm:∀ns:List Int,ns.length<=63->∃s',call aq T 60 true 53 [.d (.fl (ns.map D.int))] []=some (.ok (.d (.bl true)),s'))
  (S:rC fs ms xs lk bd K) (LH:kI K h) (X:K.In h) (G:h.Ns mainGlobals mg) (Ds:mg "law"=some (.ref fa)) :
  ∃fd:FuncData,(∀(s:Shared) (u:Value),BindsTo s fd ⟨[u],[]⟩ [("_law_script",u)])/\∀base:Heap,K.In base->base.Ns mainGlobals mg->bZ l.prog w K mg base (eN l.prog w) true 60 fa fd ["_law_script"] (uY K):=by
 let Tp:Top K mg:=zlB S LH X G;let e:=Ds.symm.trans Tp.O1.m;cases e;show⟨_,CQ Tp.O1.f (λ_ _ _ _ _ _ _=>rfl),λbase _ _=>(ziz Tp 60).t53.imp (zjW hm)⟩
end dR
namespace dR
open PySem Mi
def zha{k:Nat}{n i:Int}{ps:List (Int×Int)}(h:Web n ps):W (call aq T (k+1) true 11 [.d (aK n ps),.d (.int i)]) [] λv s=>v=.d (.tup ((bJ i ps).map .int)):=by
 show W.call zpn rfl ?_;unfold Vl aK;let hl:(ps.map aZ).length<=100:=by rw[cO];let:=h.len;let:=h.h8;lia
 let hs:(100:Nat)<=sizeLine:=by decide
 ext;show jM (l:=ps) (f:=aZ) (λp=>(endOf i p).map .int) (by rw[cO]at hl;lia) ?_ (λp hp=>?_) ?_
 .refine Y ?_;show⟨rfl,rfl⟩
 .obtain⟨a,b⟩:=p;ext;show⟨rfl,λhb=>?_,λhb=>?_⟩
  .refine Y ?_;show W.ite (λh1=>?_) (λh1=>?_)
   .refine Y ?_;show⟨rfl,_,rfl,?_⟩;let h1:a=i:=by simpa using h1
    simp[endOf,h1]
   .refine Y ?_;show⟨rfl,_,rfl,?_⟩;simp[nM]at h1 hb;rcases hb with hb|hb
    .exact absurd hb h1
    .simp[endOf,h1,hb]
  .simp[nM]at hb;simp[endOf,hb]
 .let he:ps.filterMap (λp=>(endOf i p).map D.int)=(bJ i ps).map D.int:=by unfold bJ;rw[List.map_filterMap]
  rw[he];ext;show zU (zcQ (zhS ?_ (zev h i))) ?_
  .let:=Ln (endOf i) ps;let:=h.len;let:=h.h8;unfold bJ
   lia
  show Y trivial
section
variable {al:Bool}{n k:Nat}{es:Nat->List Int}{A:Int->Int->Bool}{F:Fr}{p:Nat}{x y:Int}
def znD{k':Nat}(hx:0<=x/\x<k)(hy:0<=y/\y<k):W (call aq T (k'+1) true 17 [.d (jt al n k es A),.d (.int x),.d (.int y)]) [] λv s=>v=.d (.bl (A x y)):=by
 show W.call zpd rfl ?_;unfold Vr jt;ext;show cJ (pG hx.1 (znC hx.1 hx.2)) ?_;ext;show cJ (pG hy.1 (Vf hy.1 hy.2)) ?_;show Y trivial
def K8{k':Nat}(B:Bo n k es A)(v:Fv n k F)(hp:p<n)(hx:0<=x/\x<k):W (call aq T (k'+2) true 18 [.d (jt al n k es A),.d (jr F),.d (.int p),.d (.int x)]) [] λv s=>v=.d (jr (settle es A F p x)):=by
 show W.call zpf rfl ?_;unfold Vt jr;let vp:(100:Nat)<=sizeLine:=by decide
 let hn:=B.hn;let hv:=v.len;let ebo:jt al n k es A=.ob 0 [.fl (Dy n es),.tup ((gP k).map .int),.fl (wA k A),.bl al]:=rfl;ext;show KaV rfl ?_;ext;show⟨_,zie gV (by rw[cO];lia),?_⟩;ext;show cJ (pG gV (zlQ gV)) ?_;ext;show vd (λi J s=>s=[.lst ((((es p).take i).foldl (gb (A x)) (F.set p none)).map bH)]/\∃a5:Option Xv,J=[some (.d (jt al n k es A)),some (.d (.tup (F.map bH))),some (.d (.int p)),some (.d (.int x)),some (.l 0),a5]) ⟨?_,_,rfl⟩ (λi z J s e hI=>?_) (λJ s hI=>?_)
 .show [SO.lst ((F.map bH).set p .non)]=_;rw[List.take_zero,List.foldl_nil,List.map_set];rfl
 .obtain⟨rfl,a5,rfl⟩:=hI;rw[gq]at e;cases ei:(es p)[i]? with
  |none=>
   rw[pq,ei]at e;cases e
  |some q=>
   rw[pq,ei]at e;cases e;let hq:=B.mem p hp q (dZ ei);let ht:(es p).take (i+1)=(es p).take i++[q]:=by rw[Mj,ei];rfl
   rw[ht,List.foldl_append,List.foldl_cons,List.foldl_nil];let hG:(((es p).take i).foldl (gb (A x)) (F.set p none)).length=n:=by rw[Va,pJ,hv]
   let lo:∀L,(((es p).take i).foldl (gb (A x)) (F.set p none))[q.toNat]?=some (some L)->(∀y∈L,0<=y/\y<k)/\L.length<=24:=λL hL=>by
    rw[Vb q.toNat (λe he=>(B.mem p hp e (List.mem_of_mem_take he)).1) (by rw[pJ];lia),qF gV]at hL;let hz:∀L',F[q.toNat]?=some (some L')->(∀y∈L',0<=y/\y<k)/\L'.length<=24:=λL' h=>⟨v.lo _ L' h,v.ll _ L' h⟩;split at hL
    .obtain⟨c,e1,e2⟩:=mF.mp hL;cases c with
     |none=>cases e2|some L'=>
      cases e2;show⟨λy hy=>(hz L' e1).1 y (gB.mp hy).1,jO (Ab _ _) (hz L' e1).2⟩
    .exact hz L hL
   generalize ((es p).take i).foldl (gb (A x)) (F.set p none)=G at hG lo ⊢;obtain⟨c,ec⟩ : ∃c,G[q.toNat]?=some c:=⟨_,dz gV⟩;ext;show cJ (pG hq.1 (K1 ec)) ?_;ext;cases c with
   |none=>
    ext;show⟨_,rfl,by rw[zg1 ec],_,rfl⟩
   |some L=>
    let⟨l1,l2⟩:=lo L ec;ext;show jM (l:=L) (f:=D.int) (λy=>if A x y=true then some (.int y) else none) gV ?_ (λy hy=>?_) ?_
    .refine Y ?_;show cJ (pG hq.1 (K1 ec)) ?_;change W (src (.d (.tup (L.map .int)))) _ _;ext;show⟨rfl,rfl⟩
    .refine Y ?_;show W.cm rfl rfl (W.c0 (znD hx (l1 y hy)) ?_);ext;show⟨rfl,λhb=>?_,λhb=>?_⟩
     .refine Y ?_;show⟨rfl,_,rfl,by rw[if_pos hb]⟩
     .rw[if_neg (by rw[hb];decide)]
    .rw[zde (α:=Unit)];ext;show⟨_,zie hq.1 (by rw[cO];lia),?_⟩;ext;show⟨_,rfl,?_,_,rfl⟩;rw[ziQ,ec];rfl
 .obtain⟨rfl,a5,rfl⟩:=hI;rw[cO,pq,Ef];ext;rfl
def ziA{k':Nat}(B:Bo n k es A)(v:Fv n k F)(hp:p<n):W (call aq T (k'+1) true 19 [.d (jt al n k es A),.d (jr F),.d (.int p)]) [] λv s=>v=.d (.int (dG es F p)):=by
 show W.call zo9 rfl ?_;unfold Vu jr jt;let vp:(100:Nat)<=sizeLine:=by decide
 let hn:=B.hn;let hv:=v.len;let hl:=B.len p hp;ext;show jM (l:=es p) (f:=D.int) (λe=>if ((λe:Int=>(F[e.toNat]?.join).isSome) e)=true then some (.int e) else none) gV ?_ (λe he=>?_) ?_
 .refine Y ?_;show cJ (pG gV (zlQ gV)) ?_;rw[pq];ext;show⟨rfl,rfl⟩
 .let hq:=B.mem p hp e he;obtain⟨c,ec⟩ : ∃c,F[e.toNat]?=some c:=⟨_,dz gV⟩;ext;show cJ (pG hq.1 (K1 ec)) ?_;ext;let hc:(F[e.toNat]?.join).isSome=c.isSome:=by rw[ec];rfl
  let hd:(!(bH c).uJ)=c.isSome:=by cases c<;>rfl
  rw[hd];show⟨rfl,λhb=>?_,λhb=>?_⟩
  .refine Y ?_;show⟨rfl,_,rfl,if_pos (hc.trans hb)⟩
  .exact if_neg (λz=>by rw[hc.symm.trans z]at hb;cases hb)
 .rw[zde (α:=Unit)];ext;change Xv.d (.int (((((es p).filter _).map D.int).length:Nat):Int))=_;rw[cO];rfl
def zjp{k':Nat}(B:Bo n k es A)(v:Fv n k F):W (call aq T (k'+2) true 20 [.d (jt al n k es A),.d (jr F)]) [] λv s=>v=.d (jr (bnd es F)):=by
 show W.call zoU rfl ?_;unfold Vv;let vp:(100:Nat)<=sizeLine:=by decide
 let hn:=B.hn;let hv:=v.len;ext;show jM (l:=F.zipIdx 0) (f:=λq=>.tup [.int q.2,bH q.1]) (λq=>some (bH (if 0<dG es F q.2 then q.1 else none))) (by rw[List.length_zipIdx];lia) ?_ (λq hq=>?_) ?_
 .refine KaL ?_;ext;show KaK ?_;rw[zbq];show⟨rfl,rfl⟩
 .obtain⟨c,i⟩:=q;let hi:i<n:=by
   let:=List.mem_zipIdx hq
   lia
  ext;show⟨rfl,λ_=>?_,λhb=>by cases hb⟩;ext;show W.cm rfl rfl (W.c0 (ziA B v hi) ?_);ext;show W.ite (λh1=>?_) (λh1=>?_)
  .refine Y ?_;let h1:0<dG es F i:=by simpa using h1
   show⟨rfl,_,rfl,by rw[if_pos h1]⟩
  .refine Y ?_;let h1:¬0<dG es F i:=by simpa using h1
   show⟨rfl,_,rfl,by rw[if_neg h1];rfl⟩
 .rw[Dn];ext;change Xv.d (.tup _)=_;unfold jr bnd;rw[List.mapIdx_eq_zipIdx_map,Ar];rfl
end
section
variable {al:Bool}{n k:Nat}{es:Nat->List Int}{A:Int->Int->Bool}{F:Fr}{p:Nat}{x y:Int}
def Wg{k':Nat}(B:Bo n k es A)(v:Fv n k F):W (call aq T (k'+2) true 21 [.d (jt al n k es A),.d (jr F)]) [] λv s=>(v=.d .non/\∀(i:Nat) L,F[i]?≠some (some L))\/∃(p:Nat) (L:List Int),v=.d (.int p)/\F[p]?=some (some L):=by
 show W.call zoY rfl ?_;unfold Vw;let vp:(100:Nat)<=sizeLine:=by decide
 let hn:=B.hn;let hv:=v.len;ext;show KaK ?_;show vd (λi J s=>∃(rs:List (List Int)) (a3 a4:Option Xv),s=[.lst (rs.map λr=>D.tup (r.map .int))]/\J=[some (.d (jt al n k es A)),some (.d (jr F)),some (.l 0),a3,a4]/\rs.length<=i/\(∀r∈rs,∃(a b:Int) (p:Nat) (L:List Int),r=[a,b,(p:Int)]/\F[p]?=some (some L))/\(rs=[]->∀j,j<i->∀L,F[j]?≠some (some L))) ⟨[],_,_,rfl,rfl,bU _,by simp,λ_ j hj=>absurd hj gV⟩ (λi z J s e hI=>?_) (λJ s hI=>?_)
 .obtain⟨rs,a3,a4,rfl,rfl,hl,h1,h2⟩:=hI;rw[Uo,gq]at e;cases ei:F[i]? with
  |none=>rw[ei]at e;cases e|some c=>
   rw[ei]at e;cases e;let hi:i<n:=by let:=(dI.mp ei).1;lia
   cases c with
   |none=>
    ext;show⟨_,rfl,rs,_,_,rfl,rfl,by lia,h1,λer j hj L=>?_⟩;by_cases z:j=i
    .rw[z,ei];show λq=>by cases q
    .exact h2 er j gV L
   |some L=>
    ext;show W.cm rfl rfl (W.c0 (ziA (p:=0+i) B v gV) ?_);ext;show⟨by rw[cO];lia,?_⟩;ext;show⟨_,rfl,rs++[[(((L.map D.int).length:Nat):Int),-(dG es F (0+i):Int),((0+i:Nat):Int)]],_,_,?_,rfl,by simp;lia,λr hr=>?_,λer=>by simp at er⟩
    .rw[tV];rfl
    .rcases jN.mp hr with hr|hr
     .exact h1 r hr
     .rw[Ag.mp hr];show⟨_,_,i,L,by rw[Nat.zero_add],ei⟩
 .obtain⟨rs,a3,a4,rfl,rfl,hl,h1,h2⟩:=hI;rw[Uq,cO]at h2;ext;show W.Fg ?_;ext;show⟨_,rfl,?_⟩;by_cases er:rs=[]
  .subst er;ext;show .inl ⟨rfl,λi L e=>?_⟩;show h2 rfl i (dI.mp e).1 L e
  .let et:(!(rs.map λr=>D.tup (r.map .int)).isEmpty)=true:=by
    cases rs with
    |nil=>show absurd rfl er|cons=>rfl
   rw[et];let⟨r,hr,em⟩:=zne er;ext;show cJ em ?_;let⟨a,b,p,L,rfl,ep⟩:=h1 r hr;ext;show .inr ⟨p,L,rfl,ep⟩
def Gi(k:Nat):Option (List Int)->Bool
 |none=>true|some L=>decide (L=gP k)
def zc3{k':Nat}(B:Bo n k es A)(v:Fv n k F):W (call aq T (k'+1) true 22 [.d (jt al n k es A),.d (jr F)]) [] λv s=>v=.d (.bl (F.all (Gi k))):=by
 show W.call zpp rfl ?_;unfold Vx;let vp:(100:Nat)<=sizeLine:=by decide
 let hn:=B.hn;let hv:=v.len;ext;show jM (l:=F) (f:=bH) (λc=>some (.bl (Gi k c))) gV ?_ (λc hc=>?_) ?_
 .refine Y ?_;change W (src (.d (.tup (F.map bH)))) _ _;ext;show⟨rfl,rfl⟩
 .cases c with
  |none=>
   ext;show⟨rfl,λ_=>?_,λhb=>by cases hb⟩;ext;show⟨rfl,_,rfl,rfl⟩
  |some L=>
   ext;show⟨rfl,λ_=>?_,λhb=>by cases hb⟩;ext;show cJ (zoj (f:=id)) ?_;show⟨rfl,_,rfl,rfl⟩
 .rw[Dn];ext;show cJ zk3 ?_;rfl
end
section
variable {n k d:Int}{ps:List (Int×Int)}
def zgE{k':Nat}(h:Web n ps):W (call aq T (k'+2) true 12 [.d (aK n ps)]) [] λv s=>v=.d (.fl (Dy n.toNat λi=>bJ i ps)):=by
 show W.call zpx rfl ?_;unfold Vm;let vp:(100:Nat)<=sizeLine:=by decide
 let h1:=h.h1;let h8:=h.h8;ext;show jM (l:=List.range (n-0).toNat) (f:=λ(j:Nat)=>.int (0+j)) (λ(i:Nat)=>some (.tup ((bJ i ps).map .int))) (by rw[lM];lia) ?_ (λj hj=>?_) ?_
 .unfold aK;ext;show⟨by rw[gO gV gV,gO gV gV];rfl,?_⟩;show⟨rfl,rfl⟩
 .refine Y ?_;show⟨rfl,λ_=>?_,λhb=>by cases hb⟩;ext;show W.c0 (zha h) ?_;show⟨rfl,_,rfl,by rw[show (0:Int)+j=j by lia]⟩
 .rw[show (List.range (n-0).toNat).filterMap (λ(i:Nat)=>some (D.tup ((bJ i ps).map .int)))=Dy n.toNat λi=>bJ i ps by rw[Dn,show n-0=n by lia];rfl];show Y trivial
def zl0{k':Nat}{al:Bool}{A:Int->Int->Bool}(h:Web n ps){m:Nat}(hm:m<=24):W (call aq T (k'+3) true 16 [.d .any,.d (aK n ps),.d (.fl (wA m A)),.d (.bl al)]) [] λv s=>v=.d (.tup [.fl (Dy n.toNat λi=>bJ i ps),.tup ((gP m).map .int),.fl (wA m A),.bl al]):=by
 show W.call zpo rfl ?_;unfold Vq;ext;show W.c0 (zgE h) ?_;let em:(wA m A).length=m:=by unfold wA;simp
 show N_ (KaZ (ds:=[.int ((wA m A).length:Nat)]) rfl (cJ (d:=.tup ((gP m).map .int)) (by rw[em];show zny gV) ?_));show Y trivial
def zkb{k':Nat}(h:Web n ps)(hd:1<=d)(nq:d<=k)(hk:k<=24):W (call aq T (k'+4) true 23 [.d (aK n ps),.d (dO k d)]) [] λv s=>v=.d (boD n.toNat k.toNat (λi=>bJ i ps) (cZ k d)):=by
 show W.call zpr rfl ?_;unfold Vy dO;let vp:(100:Nat)<=sizeLine:=by decide
 let e0:(k-0).toNat=k.toNat:=by lia
 ext;show jM (l:=List.range (k-0).toNat) (f:=λ(j:Nat)=>.int (0+j)) (λ(j:Nat)=>some (.bl ((λj:Int=>decide (d<=j/\d<=k-j)) j))) (by rw[lM];lia) ?_ (λj hj=>?_) ?_
 .refine Y ?_;show⟨by rw[gO gV gV,gO gV gV];rfl,?_⟩;show⟨rfl,rfl⟩
 .refine Y ?_;show⟨rfl,λ_=>?_,λhb=>by cases hb⟩;ext;show⟨rfl,_,rfl,?_⟩
  congr 2
  rw[yP]
  split<;>lia
 .rw[Dn,e0];ext;show W.mk (vs:=[.d (aK n ps),.d (.fl (wA k.toNat (cZ k d))),.d (.bl true)]) ?_ rfl (zl0 h gV);ext;show jM (l:=List.range (k-0).toNat) (f:=λ(j:Nat)=>.int (0+j)) (λ(a:Nat)=>some (.fl ((List.range k.toNat).map λ(b:Nat)=>.bl (cZ k d a b)))) (by rw[lM];lia) ?_ (λa ha=>?_) ?_
  .refine Y ?_;show⟨by rw[gO gV gV,gO gV gV];rfl,?_⟩;show⟨rfl,rfl⟩
  .let ha:=pA.mp ha;ext;show⟨rfl,λ_=>?_,λhb=>by cases hb⟩;ext;show jM (l:=List.range (k-0).toNat) (f:=λ(j:Nat)=>.int (0+j)) (λ(b:Nat)=>some (.bl (cZ k d a b))) (by rw[lM];lia) ?_ (λb hb=>?_) ?_
   .refine Y ?_;show⟨by rw[gO gV gV,gO gV gV];rfl,?_⟩;show⟨rfl,rfl⟩
   .let hb:=pA.mp hb;ext;show⟨rfl,λ_=>?_,λhb=>by cases hb⟩;ext;by_cases c:(0:Int)<=(0+a:Int)-(0+b)
    .refine cJ (pG c (Vf (f:=λj=>decide (d<=j/\d<=k-j)) c gV)) ?_;show⟨rfl,_,rfl,?_⟩;unfold cZ
     congr 2
     rw[yP,mC hd]
     lia
    .refine cJ (zoi (x:=.bl (decide (d<=a-b+k/\d<=k-(a-b+k)))) gV (by rw[cO,lM];lia) ?_) ?_
     .rw[cO,lM];show(Vf (f:=λj=>decide (d<=j/\d<=k-j)) gV gV).trans ?_
      congr 3
      simp
      lia
     .refine⟨rfl,_,rfl,?_⟩;unfold cZ
      congr 2
      rw[yP,mC hd]
      lia
   .rw[Dn,e0];ext;show⟨rfl,_,rfl,rfl⟩
  .rw[Dn,e0];ext;show⟨rfl,rfl⟩
end
theorem zjb{k:Nat}{i:Int}:W (call aq T (k+1) true 0 [.d (.int i)]) [] λv s=>v=.d (.bl true):=W.eq (a:=.d (.bl true)) (s':=[]) rfl rfl
theorem Wh{k:Nat}{a b:D}:W (call aq T (k+1) true 2 [.d (.tup [a,b]),.d (.int 2)]) [] λv s=>v=.d (.bl true):=W.eq (a:=.d (.bl true)) (s':=[]) rfl rfl
def iD{k:Nat}{i a b:Int}:W (call aq T (k+2) true 1 [.d (.int i),.d (.int a),.d (.int b)]) [] λv s=>v=.d (.bl (decide (a<=i/\i<=b))):=by
 show W.call T_1 rfl ?_;unfold b1;ext;show W.c0 zjb ?_;ext;show W.ite (λh1=>?_) (λh1=>?_)
 .refine Y ?_;let:=fG h1;simp[this]
 .refine Y ?_;simp at h1;let:¬(a<=i/\i<=b):=by lia
  simp[this]
def ziv{k:Nat}{i:Int}(h1:1<=i)(h2:i<=8):W (call aq T (k+3) true 5 [.d (.int i)]) [] λv s=>v=.d (.bl true):=by
 show W.call T_5 rfl ?_;unfold b5;ext;show jo rfl (iD.imp λv s e=>⟨_,e,by rw[fH (And.intro h1 h2)]⟩)
def Wi{k:Nat}{n i:Int}:W (call aq T (k+3) true 6 [.d (.int n),.d (.int i)]) [] λv s=>v=.d (.bl (decide (0<=i/\i<n))):=by
 show W.call T_6 rfl ?_;unfold b6;ext;show jo rfl (iD.imp λv s e=>⟨_,e,by rw[yP.mpr (show 0<=i/\i<=n-1↔0<=i/\i<n by lia)]⟩)
def zlu{k:Nat}{n:Int}{p:Int×Int}(h:0<=p.1/\p.1<p.2/\p.2<n):W (call aq T (k+4) true 7 [.d (.int n),.d (aZ p)]) [] λv s=>v=.d (.bl true):=by
 let⟨a,b⟩:=p;let⟨h1,h2,h3⟩:=h;unfold aZ;dsimp only at h1 h2 h3 ⊢;show W.call T_7 rfl ?_;unfold b7;ext;show W.c0 Wh ?_;ext;show W.c0 Wi ?_;rw[fH (show 0<=a/\a<n by lia)];ext;show W.c0 Wi ?_;rw[fH (show 0<=b/\b<n by lia)];ext;rw[fH h2]
def zja{k:Nat}{n:Int}{p:Int×Int}(h:0<=p.1/\p.1<p.2/\p.2<n):W (call aq T (k+5) true 8 [.d (.int n),.d (aZ p)]) [] λv s=>v=.d (aZ p):=by
 show W.call T_8 rfl ?_;unfold b8;ext;show W.c0 (zlu h) ?_;show W.bool ?_;show WS.v9 ?_;show⟨_,_,rfl,rfl⟩
def zjD{k:Nat}{n:Int}{ps:List (Int×Int)}(h:Web n ps):W (call aq T (k+5) true 3 [.d (aK n ps)]) [] λv s=>v=.d (.bl true):=by
 show W.call T_3 rfl ?_;unfold b3 aK;let hl:(ps.map aZ).length<=100:=by rw[cO];let:=h.len;let:=h.h8;lia
 let hs:(100:Nat)<=sizeLine:=by decide
 ext;show W.c0 Wh ?_;ext;show W.c0 (ziv h.h1 h.h8) ?_;ext;show Kas (c:=ps.map aZ) (λ_=>.bl true) gV ?_ (λx hx=>?_) ?_
 .refine Y ?_;show⟨rfl,rfl⟩
 .obtain⟨p,hp,rfl⟩:=lu.mp hx;ext;show jo rfl ((zlu (h.tie p hp)).imp λv s e=>⟨_,e,rfl,rfl⟩)
 .refine Y ?_;show cJ (Oa ?_) ?_
  .intro x hx;let⟨_,_,e⟩:=lu.mp hx;show e.symm
  ext;show Kas (c:=List.zipWith (λ(p q:D)=>D.tup [p,q]) (ps.map aZ) ((ps.map aZ).drop 1)) (λ_=>.bl true) (by rw[List.length_zipWith];lia) ?_ (λx hx=>?_) ?_
  .refine Y ?_;rw[Um];show⟨rfl,rfl⟩
  .obtain⟨p,q,rfl,hpq⟩:=zil h.inc x hx;ext;rw[znM hpq];show⟨rfl,rfl⟩
  .refine Y ?_;show cJ (Oa ?_) ?_
   .intro x hx;let⟨_,_,e⟩:=lu.mp hx;show e.symm
   rfl
def Wj{k:Nat}{n:Int}{ps:List (Int×Int)}(h:Web n ps):W (call aq T (k+6) true 9 [.d (aK n ps)]) [] λv s=>∃d,v=.d d:=by
 show W.call T_9 rfl ?_;unfold b9;ext;show W.c0 (zjD h) ?_;ext;show⟨_,rfl⟩
def zj4{k:Nat}{n:Int}{ps qs:List (Int×Int)}(h1:1<=n)(h8:n<=8)(ht:∀p∈ps,0<=p.1/\p.1<p.2/\p.2<n)(nd:ps.Nodup)(hl:ps.length<64)(hs:vU (ps.map aZ)=some (qs.map aZ)):W (call aq T (k+6) true 4 [.d (.int n),.d (.fl (ps.map aZ))]) [] λv s=>v=.d (aK n qs):=by
 show W.call T_4 rfl ?_;unfold b4;ext;show W.c0 (ziv h1 h8) ?_;ext;show vd (λi J s=>(∃a b c,J=[some (.d (.int n)),some (.d (.fl (ps.map aZ))),some (.l 0),a,b,c])/\s=[.lst ((ps.take i).map aZ)]) ⟨⟨_,_,_,rfl⟩,rfl⟩ (λi x J s e hI=>?_) (λJ s hI=>?_)
 .obtain⟨⟨a,b,c,rfl⟩,rfl⟩:=hI;rw[Uo,gq]at e;cases ep:ps[i]? with
  |none=>rw[ep]at e;cases e|some p=>
   rw[ep]at e;cases e;let hp:=dZ ep;let hi:i<ps.length:=(dI.mp ep).1;ext;show W.c0 (zja (ht p hp)) ?_;ext;let hni:p∉ps.take i:=by
    intro hm;let⟨j,hj,ej⟩:=List.mem_iff_getElem.mp hm;rw[tH]at hj;rw[List.getElem_take]at ej;let e2:ps[i]=p:=by let:=dz hi;rw[ep]at this;show(cU this).symm
    let:=(List.getElem_inj nd).mp (ej.trans e2.symm)
    lia
   show cJ (zoG (f:=id)) ?_;rw[jw hni];ext;show⟨?_,?_⟩
   .rw[cO,tH];let:(64:Nat)<=sizeLine:=by decide
    lia
   ext;show⟨_,rfl,⟨_,_,_,rfl⟩,?_⟩;rw[Mj,ep];simp
 .obtain⟨⟨a,b,c,rfl⟩,rfl⟩:=hI;rw[Uq,cO,Ef];ext;show zU (zcQ hs) ?_;ext;rfl
def zeW{k:Nat}{n i:Int}{ps:List (Int×Int)}(h:0<=i/\i<n):W (call aq T (k+4) true 10 [.d (aK n ps),.d (.int i)]) [] λv s=>∃d,v=.d d:=by
 show W.call zpa rfl ?_;unfold b10 aK;ext;show W.c0 Wi ?_;rw[fH h];ext;show⟨_,rfl⟩
def zhM{k':Nat}{k d:Int}(hd:1<=d)(nq:d<=k)(hk:k<=24):W (call aq T (k'+3) true 24 [.d (dO k d)]) [] λv s=>v=.d (.bl true):=by
 show W.call zoX rfl ?_;unfold Vz dO;ext;show W.c0 Wh ?_;ext;show W.c0 iD ?_;rw[fH (show 1<=k/\k<=24 by lia)];ext;show W.c0 iD ?_;rw[fH (show 1<=d/\d<=k by lia)]
def zfx{k':Nat}{k d:Int}(hd:1<=d)(nq:d<=k)(hk:k<=24):W (call aq T (k'+4) true 25 [.d (dO k d)]) [] λv s=>∃d,v=.d d:=by
 show W.call zo1 rfl ?_;unfold VB;ext;show W.c0 (zhM hd nq hk) ?_;ext;show⟨_,rfl⟩
section
variable {al:Bool}{n k:Nat}{es:Nat->List Int}{A:Int->Int->Bool}
def Told(al:Bool)(n k:Nat)(es:Nat->List Int)(A:Int->Int->Bool)(f l m c:Nat):Prop:=∀F kvs,Fv n k F->unset F<=m->lH es A kvs->kvs.length+c<sizeLine->
 W (call aq T l true f [.d (jt al n k es A),.l 0,.d (jr F)]) [.dct kvs] λv s=>∃b kvs',v=.d (.bl b)/\(b=true↔Sat es A F)/\s=[.dct kvs']/\lH es A kvs'/\kvs'.length<=kvs.length+c
def Wm{l m c:Nat}(B:Bo n k es A)(H:Told al n k es A 30 (l+2) m c){F:Fr}{p:Nat}{L:List Int}{kvs:iJ}(v:Fv n k F)(hu:unset F<=m+1)(hL:F[p]?=some (some L))(ha:lH es A kvs)(hl:kvs.length+k*c<sizeLine) :
  W (call aq T (l+3) true 29 [.d (jt al n k es A),.l 0,.d (jr F),.d (.int p)]) [.dct kvs] λv s=>∃kvs',s=[.dct kvs']/\lH es A kvs'/\kvs'.length<=kvs.length+k*c /\
   ((v=.d .non/\∀x∈L,¬Sat es A (settle es A F p x))\/∃x∈L,v=.d (.int x)/\Sat es A (settle es A F p x)/\∀y∈L,y<x->¬Sat es A (settle es A F p y)):=by
 show W.call Wb rfl ?_;unfold OD;let vp:(100:Nat)<=sizeLine:=by decide
 let hp:=rE v.len hL;let hLk:L.length<=k:=zih (v.so p L hL) (v.lo p L hL);ext;show cJ (zm5 gV (K1 hL)) ?_;change W (src (.d (.tup (L.map .int)))) _ _;ext;show Ka8 (λi J s=>∃(kvs':iJ) (a4:Option Xv),s=[.dct kvs']/\J=[some (.d (jt al n k es A)),some (.l 0),some (.d (jr F)),some (.d (.int p)),a4]/\lH es A kvs'/\kvs'.length<=kvs.length+i*c/\∀j y,j<i->L[j]?=some y->¬Sat es A (settle es A F p y)) ⟨kvs,_,rfl,rfl,ha,by lia,λj _ hj=>absurd hj gV⟩ (λi z J s e hI=>?_) (λJ s hI=>?_)
 .obtain⟨kvs',a4,rfl,rfl,h1,h2,h3⟩:=hI;rw[gq]at e;cases ei:L[i]? with
  |none=>rw[ei]at e;cases e|some x=>
   rw[ei]at e;cases e;let hi:i<L.length:=(dI.mp ei).1;let hx:=dZ ei;let hc:(i+1)*c<=k*c:=DR _ gV;let nG:(i+1)*c=i*c+c:=GX ..;ext;show W.cm rfl rfl (W.c0 (K8 B v hp (v.lo p L hL x hx)) ?_);ext;let hu2:=KZ (es:=es) (A:=A) (x:=x) hL;show wg (s:=[]) rfl ((H _ kvs' (KY B v hp) gV h1 gV).imp λv1 s1=>?_);rintro⟨b,c7,rfl,hb,rfl,g1,g2⟩;show⟨_,_,rfl,rfl,?_⟩;ext;cases b with
   |true=>
    ext;show .inr ⟨_,rfl,?_⟩;show⟨c7,rfl,g1,by lia,.inr ⟨x,hx,rfl,hb.mp rfl,λy hy cj=>?_⟩⟩;let⟨j,hj,ej⟩:=yL hy;show h3 j y ?_ (by rw[dz hj,ej]);let⟨_,ex⟩:=dI.mp ei;show Nat.lt_of_not_le λq=>by
     rcases PX q with q|q
     .let:=Lh.mp (v.so p L hL) i j hi hj q
      lia
     .subst q;lia
   |false=>
    ext;show .inl ⟨_,rfl,c7,_,rfl,rfl,g1,by lia,λj y hj ej=>?_⟩;by_cases q:j=i
    .subst q;rw[ei]at ej;cases ej;show λz=>by cases hb.mpr z
    .exact h3 j y gV ej
 .obtain⟨kvs',a4,rfl,rfl,h1,h2,h3⟩:=hI;rw[cO]at h2 h3;let hc:L.length*c<=k*c:=DR _ hLk;ext;show⟨kvs',rfl,h1,by lia,.inl ⟨rfl,λx hx=>?_⟩⟩;let⟨j,hj,ej⟩:=yL hx;show h3 j x hj (by rw[dz hj,ej])
def zh4{l:Nat}(B:Bo n k es A):Told al n k es A 31 (l+3) 0 0:=by
 intro F kvs v hu ha hl;show W.call OJ rfl ?_;unfold K6;ext;show W.cm rfl rfl (jo rfl ((Wg B v).imp λx s=>?_));rintro(⟨rfl,hz⟩|⟨p,L,rfl,hL⟩)
 .refine⟨_,rfl,?_⟩;ext;show⟨true,kvs,rfl,⟨λ_=>Vc hz,λ_=>rfl⟩,rfl,ha,by lia⟩
 .exact absurd hL (zeN gV p L)
def zhr{l m c:Nat}(B:Bo n k es A)(nA:1<=k)(dw:al=true->∀t a b:Int,0<=a->a<k->0<=b->b<k->A ((a+t)%k) ((b+t)%k)=A a b)(H:∀j,Told al n k es A 30 (l+2+j) m c):Told al n k es A 31 (l+4) (m+1) (k*c):=by
 intro F kvs v hu ha hl;show W.call OJ rfl ?_;unfold K6;let hkc:1*c<=k*c:=DR _ nA;ext;show W.cm rfl rfl (jo rfl ((Wg B v).imp λx s=>?_));rintro(⟨rfl,hz⟩|⟨p,L,rfl,hL⟩)
 .refine⟨_,rfl,?_⟩;ext;show⟨true,kvs,rfl,⟨λ_=>Vc hz,λ_=>rfl⟩,rfl,ha,by lia⟩
 .refine⟨_,rfl,?_⟩;let hp:=rE v.len hL;cases al with
  |false=>
   ext;show wg (s:=[]) rfl ((Wm B (H 0) v hu hL ha gV).imp λv1 s1=>?_);rintro⟨c7,rfl,g1,g2,h⟩;rcases h with ⟨rfl,kY⟩|⟨x,hx,rfl,hs,_⟩
   .refine⟨_,_,rfl,rfl,?_⟩;ext;show⟨false,c7,rfl,⟨λz=>(by cases z),λz=>?_⟩,rfl,g1,g2⟩;let⟨x,hx,q⟩:=(Gg B v hp hL).mp z;show absurd q (kY x hx)
   .refine⟨_,_,rfl,rfl,?_⟩;ext;show⟨true,c7,rfl,⟨λ_=>(Gg B v hp hL).mpr ⟨x,hx,hs⟩,λ_=>rfl⟩,rfl,g1,g2⟩
  |true=>
  let dw:=dw rfl;ext;show W.cm rfl rfl (W.c0 (zc3 B v) ?_);ext;cases eb:F.all (Gi k) with
  |true=>
   let all:∀(i:Nat) L,F[i]?=some (some L)->L=gP k:=λi L h=>fG (ju.mp eb _ (dZ h));ext;show W.cm rfl rfl (W.c0 (K8 B v hp ⟨by lia,by lia⟩) ?_);ext;let hu2:=KZ (es:=es) (A:=A) (x:=0) hL;show wg (s:=[]) rfl ((H 1 _ kvs (KY B v hp) gV ha gV).imp λv1 s1=>?_);rintro⟨b,c7,rfl,hb,rfl,g1,g2⟩;show⟨_,_,rfl,rfl,?_⟩;ext;show⟨b,c7,rfl,hb.trans (Vd B v hp nA dw all (all p L hL▸hL)).symm,rfl,g1,by lia⟩
  |false=>
   ext;show wg (s:=[]) rfl ((Wm B (H 0) v hu hL ha gV).imp λv1 s1=>?_);rintro⟨c7,rfl,g1,g2,h⟩;rcases h with ⟨rfl,kY⟩|⟨x,hx,rfl,hs,_⟩
   .refine⟨_,_,rfl,rfl,?_⟩;ext;show⟨false,c7,rfl,⟨λz=>(by cases z),λz=>?_⟩,rfl,g1,g2⟩;let⟨x,hx,q⟩:=(Gg B v hp hL).mp z;show absurd q (kY x hx)
   .refine⟨_,_,rfl,rfl,?_⟩;ext;show⟨true,c7,rfl,⟨λ_=>(Gg B v hp hL).mpr ⟨x,hx,hs⟩,λ_=>rfl⟩,rfl,g1,g2⟩
def zhC{l m c:Nat}(B:Bo n k es A)(nA:1<=k)(dw:∀t a b:Int,0<=a->a<k->0<=b->b<k->A ((a+t)%k) ((b+t)%k)=A a b)(H:Told true n k es A 30 (l+3) m c){F:Fr}{kvs:iJ}(v:Fv n k F)(hu:unset F<=m+1)(eb:F.all (Gi k)=true)(ha:lH es A kvs)(hl:kvs.length+c<sizeLine) :
  W (call aq T (l+4) true 31 [.d (jt true n k es A),.l 0,.d (jr F)]) [.dct kvs] λv s=>∃b kvs',v=.d (.bl b)/\(b=true↔Sat es A F)/\s=[.dct kvs']/\lH es A kvs'/\kvs'.length<=kvs.length+c:=by
 show W.call OJ rfl ?_;unfold K6;ext;show W.cm rfl rfl (jo rfl ((Wg B v).imp λx s=>?_));rintro(⟨rfl,hz⟩|⟨p,L,rfl,hL⟩)
 .refine⟨_,rfl,?_⟩;ext;show⟨true,kvs,rfl,⟨λ_=>Vc hz,λ_=>rfl⟩,rfl,ha,by lia⟩
 .refine⟨_,rfl,?_⟩;let hp:=rE v.len hL;ext;show W.cm rfl rfl (W.c0 (zc3 B v) ?_);ext;let all:∀(i:Nat) L,F[i]?=some (some L)->L=gP k:=λi L h=>fG (ju.mp eb _ (dZ h));rw[eb];ext;show W.cm rfl rfl (W.c0 (K8 B v hp ⟨by lia,by lia⟩) ?_);ext;let hu2:=KZ (es:=es) (A:=A) (x:=0) hL;show wg (s:=[]) rfl ((H _ kvs (KY B v hp) gV ha gV).imp λv1 s1=>?_);rintro⟨b,c7,rfl,hb,rfl,g1,g2⟩;show⟨_,_,rfl,rfl,?_⟩;ext;show⟨b,c7,rfl,hb.trans (Vd B v hp nA dw all (all p L hL▸hL)).symm,rfl,g1,by lia⟩
def zlX{l c:Nat}(B:Bo n k es A){F:Fr}{kvs:iJ}(v:Fv n k F)(ha:lH es A kvs)(hl:kvs.length+(1+c)<sizeLine)(H:W (call aq T (l+3) true 31 [.d (jt al n k es A),.l 0,.d (jr (bnd es F))]) [.dct kvs] λv s=>∃b kvs',v=.d (.bl b)/\(b=true↔Sat es A (bnd es F))/\s=[.dct kvs']/\lH es A kvs'/\kvs'.length<=kvs.length+c) :
  W (call aq T (l+4) true 30 [.d (jt al n k es A),.l 0,.d (jr F)]) [.dct kvs] λv s=>∃b kvs',v=.d (.bl b)/\(b=true↔Sat es A F)/\s=[.dct kvs']/\lH es A kvs'/\kvs'.length<=kvs.length+(1+c):=by
 show W.call zo8 rfl ?_;unfold VG;ext;show cJ (zob (f:=id)) ?_;by_cases e0:some []∈F
 .rw[fH e0];ext;let⟨i,hi,ei⟩:=yL e0;show⟨false,kvs,rfl,⟨λz=>(by cases z),λz=>absurd z (zke (i:=i) (by rw[dz hi,ei]))⟩,rfl,ha,by lia⟩
 .rw[jw e0];let ne:∀(i:Nat) L,F[i]?=some (some L)->L≠[]:=λi L h q=>by subst q;show e0 (dZ h)
  let sb:=ziX B v ne;ext;show W.cm rfl rfl (W.c0 (zjp B v) ?_);ext;show W.B_ rfl rfl (Ol _) rfl ?_;cases eg:bY ((bnd es F).map cellK) kvs with
  |some d=>
   let⟨b,rfl,hb⟩:=ha _ _ eg;ext;show W.p7 rfl rfl (Ol _) rfl eg ?_;ext;show⟨b,kvs,rfl,hb.trans sb,rfl,ha,by lia⟩
  |none=>
   ext;show WS.dput rfl rfl (Ol _) ?_;ext;show wg (s:=[]) rfl (H.imp λv1 s1=>?_);rintro⟨b,c7,rfl,hb,rfl,g1,g2⟩;show⟨_,_,rfl,rfl,?_⟩;show⟨_,c7,rfl,rfl,by lia,?_⟩;ext;show W.p7 (v:=.bl b) rfl rfl (Ol _) rfl (by rw[zdU,if_pos rfl]) ?_;ext;let:=zhd (q:=(bnd es F).map cellK) (d:=.bl b) (kvs:=c7);show⟨b,_,rfl,hb.trans sb,rfl,zjY g1 hb,by lia⟩
def zm8{l m c:Nat}(B:Bo n k es A)(H:Told al n k es A 31 (l+3) m c):Told al n k es A 30 (l+4) m (1+c):=by
 intro F kvs v hu ha hl;let hu2:=zc1 (es:=es) (F:=F);show zlX B v ha hl (H _ kvs (zii v) gV ha gV)
theorem O2(B:Bo n k es A)(nA:1<=k)(dw:al=true->∀t a b:Int,0<=a->a<k->0<=b->b<k->A ((a+t)%k) ((b+t)%k)=A a b):∀m j,Told al n k es A 30 (3*m+4+j) m (cnt k m)
 |0,j=>by
  rw[show 3*0+4+j=j+4 by lia];show zm8 (c:=0) B (zh4 B)
 |m+1,j=>by
  rw[show 3*(m+1)+4+j=(3*m+3+j)+4 by lia];show zm8 B ?_;rw[show 3*m+3+j+3=(3*m+2+j)+4 by lia];show zhr B nA dw λi=>?_;rw[show 3*m+2+j+2+i=3*m+4+(j+i) by lia];show O2 B nA dw m (j+i)
def zhW{m j:Nat}(B:Bo n k es A)(nA:1<=k)(dw:∀t a b:Int,0<=a->a<k->0<=b->b<k->A ((a+t)%k) ((b+t)%k)=A a b){F:Fr}{kvs:iJ}(v:Fv n k F)(hu:unset F<=m+1)(eb:F.all (Gi k)=true)(ha:lH es A kvs)(hl:kvs.length+(1+cnt k m)<sizeLine) :
  W (call aq T (3*(m+1)+4+j) true 30 [.d (jt true n k es A),.l 0,.d (jr F)]) [.dct kvs] λv s=>∃b kvs',v=.d (.bl b)/\(b=true↔Sat es A F)/\s=[.dct kvs']/\lH es A kvs'/\kvs'.length<=kvs.length+(1+cnt k m):=by
 rw[show 3*(m+1)+4+j=(3*m+3+j)+4 by lia];show zlX B v ha hl ?_;rw[show 3*m+3+j+3=(3*m+2+j)+4 by lia];let hu2:=zc1 (es:=es) (F:=F);show zhC B nA dw ?_ (zii v) (jO hu2 hu) ?_ ha gV
 .rw[show 3*m+2+j+3=3*m+4+(j+1) by lia];show O2 B nA (λ_=>dw) m (j+1)
 .refine ju.mpr λc hc=>?_;cases c with
  |none=>rfl|some L=>
   let⟨i,hi,ei⟩:=yL hc;let:=Dw (es:=es) (F:=F) (i:=i) (L:=L) (by rw[dz hi,ei]);show ju.mp eb _ (dZ this.1)
def zlH{l m c:Nat}(B:Bo n k es A)(nA:1<=k)(dw:∀t a b:Int,0<=a->a<k->0<=b->b<k->A ((a+t)%k) ((b+t)%k)=A a b)(H:Told true n k es A 30 (l+2) m c){F:Fr}{p:Nat}{kvs:iJ}(v:Fv n k F)(hu:unset F<=m+1)(all:∀(i:Nat) L,F[i]?=some (some L)->L=gP k)(hL:F[p]?=some (some (gP k)))(tD:Sat es A F)(ha:lH es A kvs)(hl:kvs.length+c<sizeLine) :
  W (call aq T (l+3) true 29 [.d (jt true n k es A),.l 0,.d (jr F),.d (.int p)]) [.dct kvs] λv s=>∃kvs',s=[.dct kvs']/\lH es A kvs'/\kvs'.length<=kvs.length+c /\
   ((v=.d .non/\∀x∈gP k,¬Sat es A (settle es A F p x))\/∃x∈gP k,v=.d (.int x)/\Sat es A (settle es A F p x)/\∀y∈gP k,y<x->¬Sat es A (settle es A F p y)):=by
 show W.call Wb rfl ?_;unfold OD;let hp:=rE v.len hL;let h0:=(Vd B v hp nA dw all hL).mp tD;ext;show cJ (zm5 gV (K1 hL)) ?_;change W (src (.d (.tup ((gP k).map .int)))) _ _;ext;show Ka8 (λi J s=>i=0/\∃a4:Option Xv,s=[.dct kvs]/\J=[some (.d (jt true n k es A)),some (.l 0),some (.d (jr F)),some (.d (.int p)),a4]) ⟨rfl,_,rfl,rfl⟩ (λi z J s e hI=>?_) (λJ s hI=>?_)
 .obtain⟨rfl,a4,rfl,rfl⟩:=hI;rw[gq]at e;let ei:(gP k)[0]?=some 0:=by unfold gP;rw[gq,yM gV];rfl
  rw[ei]at e;cases e;let hx:(0:Int)∈gP k:=dY.mpr ⟨by lia,by lia⟩;ext;show W.cm rfl rfl (W.c0 (K8 B v hp ⟨by lia,by lia⟩) ?_);ext;let hu2:=KZ (es:=es) (A:=A) (x:=0) hL;show wg (s:=[]) rfl ((H _ kvs (KY B v hp) gV ha gV).imp λv1 s1=>?_);rintro⟨b,c7,rfl,hb,rfl,g1,g2⟩;let eb:b=true:=hb.mpr h0;subst eb;show⟨_,_,rfl,rfl,?_⟩;ext;show .inr ⟨_,rfl,?_⟩;show⟨c7,rfl,g1,g2,.inr ⟨0,hx,rfl,h0,λy hy cj=>absurd (dY.mp hy).1 gV⟩⟩
 .obtain⟨hz,_⟩:=hI;rw[cO]at hz;let:(gP k).length=k:=by unfold gP;simp
  lia
end
section
variable {al:Bool}{n k:Nat}{es:Nat->List Int}{A:Int->Int->Bool}
def zjx{k':Nat}(B:Bo n k es A)(nA:1<=k)(dw:al=true->∀t a b:Int,0<=a->a<k->0<=b->b<k->A ((a+t)%k) ((b+t)%k)=A a b){F0:Fr}(v0:Fv n k F0)(all:∀i,i<n->∃L,F0[i]?=some (some L)){c0 c1:Nat}(hz:c0+c1+tot k (n-1)<sizeLine)
  (Hc:W (call aq T (3*n+4+k') true 30 [.d (jt al n k es A),.l 0,.d (jr F0)]) [.dct []] λv s=>∃b kvs',v=.d (.bl b)/\(b=true↔Sat es A F0)/\s=[.dct kvs']/\lH es A kvs'/\kvs'.length<=c0)
  (Hf:∀kvs L,F0[0]?=some (some L)->Sat es A F0->lH es A kvs->kvs.length<=c0->W (call aq T (3*n+1+k'+3) true 29 [.d (jt al n k es A),.l 0,.d (jr F0),.d (.int (0:Nat))]) [.dct kvs] λv s=>∃kvs',s=[.dct kvs']/\lH es A kvs'/\kvs'.length<=kvs.length+c1 /\
   ((v=.d .non/\∀x∈L,¬Sat es A (settle es A F0 0 x))\/∃x∈L,v=.d (.int x)/\Sat es A (settle es A F0 0 x)/\∀y∈L,y<x->¬Sat es A (settle es A F0 0 y))) :
  W (call aq T (3*n+5+k') true 28 [.d (jt al n k es A),.d (.fl (F0.map bH))]) [] λv s=>(v=.d .non/\¬Sat es A F0)\/∃hs:List Int,v=.d (.tup (hs.map .int))/\hs.length=n/\qx es A F0 (λj=>at' hs j)/\∀g,qx es A F0 g->∀j,j<n->(∀t,t<j->g t=at' hs t)->at' hs j<=g j:=by
 let hn:=B.hn;let hl:=v0.len;rw[show 3*n+5+k'=(3*n+4+k')+1 by lia];show W.call zpA rfl ?_;unfold VF;let vp:(100:Nat)<=sizeLine:=by decide
 let Jz:unset F0<=n:=by unfold unset;rw[<-hl];show List.countP_le_length
 ext;show W.sy ?_;ext;show wg (s:=[]) rfl (Hc.imp λv1 s1=>?_);rintro⟨b,kvs,rfl,hb,rfl,g1,g2⟩;show⟨_,_,rfl,rfl,?_⟩;ext;cases b with
 |false=>
  ext;show .inl ⟨rfl,λz=>by cases hb.mpr z⟩
 |true=>
  let tD:=hb.mp rfl;ext;let K9:((F0.map bH).length:Int)=n:=by rw[cO,hl]
  show⟨by rw[K9,gO gV gV,gO gV gV];rfl,?_⟩;rw[K9];show vd (c:=(List.range ((n:Int)-0).toNat).map λ(j:Nat)=>.int (0+j)) (λi J s=>∃(kvs':iJ) (Fi:Fr) (hs:List Int) (a5 a6:Option Xv),s=[.dct kvs',.lst (hs.map .int)]/\J=[some (.d (jt al n k es A)),some (.d (.fl (F0.map bH))),some (.d (jr Fi)),some (.l 0),some (.l 1),a5,a6]/\lH es A kvs'/\(i=0->Fi=F0/\kvs'.length<=c0)/\(1<=i->kvs'.length+tot k (n-i)<=c0+c1+tot k (n-1))/\hs.length=i/\Fv n k Fi/\unset Fi<=n-i/\(∀j,i<=j->j<n->∃L,Fi[j]?=some (some L))/\Sat es A Fi /\
   (∀g,qx es A Fi g->qx es A F0 λj=>if j<i then at' hs j else g j)/\(∀g,qx es A F0 g->(∀t,t<i->g t=at' hs t)->qx es A Fi g)/\(∀g,qx es A F0 g->∀j,j<i->(∀t,t<j->g t=at' hs t)->at' hs j<=g j)) ?_ (λi z J s e hI=>?_) (λJ s hI=>?_)
  .exact⟨kvs,F0,[],_,_,rfl,rfl,g1,λ_=>⟨rfl,g2⟩,λz=>absurd z gV,rfl,v0,by lia,λj _ hj=>all j hj,tD,λg s=>by simpa using s,λg s _=>s,λg _ j hj=>absurd hj gV⟩
  .obtain⟨kvs',Fi,hs,a5,a6,rfl,rfl,i1,i0,i2,i3,i4,i5,i6,i7,i8,i9,O4⟩:=hI;rw[gq]at e;cases ei:(List.range ((n:Int)-0).toNat)[i]? with
   |none=>rw[ei]at e;cases e|some j=>
    rw[ei]at e;cases e;let⟨hil,ej⟩:=dI.mp ei;rw[List.getElem_range]at ej;rw[lM]at hil;subst ej;let⟨L,hL⟩:=i6 i (bU _) gV;let ez:((0:Int)+(i:Nat))=(i:Int):=by lia
    dsimp only;rw[ez];let hp:=rE i4.len hL;obtain⟨m,hm⟩ : ∃m,n-i=m+1:=⟨n-i-1,by lia⟩;rw[hm]at i2 i5;let et:tot k (m+1)=k*cnt k m+tot k m:=rfl;ext;let lv:3*n+4+k'=(3*n+1+k')+3:=by lia
    show Kap (s:=[]) rfl ?_;rw[lv];let H:Told al n k es A 30 (3*n+1+k'+2) m (cnt k m):=by
     rw[show 3*n+1+k'+2=3*m+4+(3*n-3*m+k'-1) by lia];show O2 B nA dw m _
    obtain⟨c2,nG,hW⟩ : ∃c2,(kvs'.length+c2+tot k m<=c0+c1+tot k (n-1))/\W (call aq T (3*n+1+k'+3) true 29 [.d (jt al n k es A),.l 0,.d (jr Fi),.d (.int i)]) [.dct kvs'] λv s=>∃c7,s=[.dct c7]/\lH es A c7/\c7.length<=kvs'.length+c2 /\
      ((v=.d .non/\∀x∈L,¬Sat es A (settle es A Fi i x))\/∃x∈L,v=.d (.int x)/\Sat es A (settle es A Fi i x)/\∀y∈L,y<x->¬Sat es A (settle es A Fi i y)):=by
     by_cases c:i=0
     .subst c;let⟨rfl,q⟩:=i0 rfl;let em:n-1=m:=by lia
      rw[em];show⟨c1,by lia,Hf kvs' L hL tD i1 q⟩
     .let i2:=i2 gV;show⟨k*cnt k m,by lia,Wm B H i4 i5 hL i1 gV⟩
    clear i2;show hW.imp λv1 s1=>?_;rintro⟨c7,rfl,q1,q2,h⟩;rcases h with ⟨rfl,kY⟩|⟨x,hx,rfl,Bj,cj⟩
    .obtain⟨x,hx,q⟩:=(Gg B i4 hp hL).mp i7;show absurd q (kY x hx)
    .refine⟨_,_,rfl,rfl,?_⟩;ext;show W.cm rfl rfl (W.c0 (K8 (k':=3*n+2+k') B i4 hp (i4.lo i L hL x hx)) ?_);ext;show⟨by rw[cO];lia,?_⟩;ext;let ag:∀j:Nat,j<i->at' (hs++[x]) j=at' hs j:=λj hj=>mz gV gV;let ai:at' (hs++[x]) (i:Int)=x:=by rw[<-i3];show yu
     show⟨_,rfl,c7,settle es A Fi i x,hs++[x],_,_,?_,rfl,q1,λz=>absurd z gV,λ_=>by rw[show n-(i+1)=m by lia];lia,by simp[i3],KY B i4 hp,?_,λj hj hjn=>?_,Bj,λg s=>?_,λg s hg=>?_,λg s j hj hg=>?_⟩
     .rw[tV];rfl
     .let:=KZ (es:=es) (A:=A) (x:=x) hL
      lia
     .obtain⟨M,hM⟩:=i6 j gV hjn;show⟨_,KR B i4.len hp gV hM⟩
     .let s2:=i8 _ (zeJ B i4 hp hL hx s);show⟨λj M hM=>?_,λj e M N h1 h2 he=>?_⟩
      .let:=s2.mem j M hM
       try dsimp only at this ⊢
       by_cases c1:j<i
       .rw[if_pos c1]at this;rw[if_pos gV,ag j c1];show this
       .rw[if_neg c1]at this;by_cases c2:j=i
        .rw[if_pos c2]at this;rw[if_pos gV,c2,ai];show this
        .rw[if_neg c2]at this;rw[if_neg gV];show this
      .let ff:∀j:Nat,(if j<i then at' hs j else if j=i then x else g j)=if j<i+1 then at' (hs++[x]) j else g j:=λj=>by
        by_cases c1:j<i
        .rw[if_pos c1,if_pos gV,ag j c1]
        .rw[if_neg c1];by_cases c2:j=i
         .rw[if_pos c2,if_pos gV,c2,ai]
         .rw[if_neg c2,if_neg gV]
       let:=s2.fit j e M N h1 h2 he
       try dsimp only at this ⊢
       rw[<-ff,<-ff];show this
     .let s2:=i9 g s λt ht=>by rw[hg t gV,ag t ht]
      let s3:=Oo B i4 hp hL s2;rw[hg i gV,ai]at s3;show s3
     .by_cases c1:j<i
      .rw[ag j c1];show O4 g s j c1 λt ht=>by rw[hg t ht,ag t gV]
      .let:j=i:=by lia
       subst this;rw[ai];let s2:=i9 g s λt ht=>by rw[hg t ht,ag t ht]
       let s3:=Oo B i4 hp hL s2;show G3.mp λq=>cj (g j) (s2.mem j L hL) q ⟨g,s3⟩
  .obtain⟨kvs',Fi,hs,a5,a6,rfl,rfl,i1,i0,i2,i3,i4,i5,i6,i7,i8,i9,O4⟩:=hI;rw[cO,lM,show ((n:Int)-0).toNat=n by lia]at i3 i8 O4;ext;show .inr ⟨hs,rfl,i3,?_,O4⟩;let⟨g,sg⟩:=i7;let s2:=i8 g sg;show⟨λj M hM=>?_,λj e M N h1 h2 he=>?_⟩
   .let:=s2.mem j M hM;rw[if_pos (rE hl hM)]at this;show this
   .let:=s2.fit j e M N h1 h2 he;rw[if_pos (rE hl h1),if_pos (rE hl h2)]at this;show this
end
section
variable {n k d:Int}{ps:List (Int×Int)}
def zdC{k':Nat}(h:Web n ps)(hd:1<=d)(nq:d<=k)(hk:k<=24)(hz:1+cnt k.toNat (n.toNat-1)+cnt k.toNat (n.toNat-1)+tot k.toNat (n.toNat-1)<sizeLine):W (call aq T (k'+40) true 27 [.d (aK n ps),.d (dO k d)]) [] λv s=>(v=.d .non/\∀hs,¬bx n k d ps hs)\/∃hs,v=.d (.tup (hs.map .int))/\bx n k d ps hs/\∀g,bx n k d ps g->Ge g hs:=by
 show W.call zo0 rfl ?_;unfold VD;let vp:(100:Nat)<=sizeLine:=by decide
 let h1:=h.h1;let h8:=h.h8;ext;show W.c1 (Wj h) λ_=>?_;ext;show W.c1 (zfx hd nq hk) λ_=>?_;ext;show W.c0 (zkb h hd nq hk) ?_;ext;show jM (l:=List.range (n-0).toNat) (f:=λ(j:Nat)=>.int (0+j)) (λ(_:Nat)=>some (bH (some (gP k.toNat)))) (by rw[lM];lia) ?_ (λj hj=>?_) ?_
 .unfold aK;ext;show⟨by rw[gO gV gV,gO gV gV];rfl,?_⟩;show⟨rfl,rfl⟩
 .refine Y ?_;show⟨rfl,λ_=>?_,λhb=>by cases hb⟩;ext;show⟨rfl,_,rfl,rfl⟩
 .let ef:(List.range (n-0).toNat).filterMap (λ(_:Nat)=>some (bH (some (gP k.toNat))))=(je n k).map bH:=by
   rw[Dn,show n-0=n by lia];unfold je;rw[List.map_replicate];rw[List.map_const',lM]
  rw[ef];ext;let lv:k'+39=3*n.toNat+5+(k'+34-3*n.toNat):=by lia
  show jo rfl ?_;change W (Mi.call aq T (k'+39) true _ _) _ _;rw[lv];let B:=zlp h hd hk;let nA:1<=k.toNat:=by lia
  let dw:∀t a b:Int,0<=a->a<(k.toNat:Nat)->0<=b->b<(k.toNat:Nat)->cZ k d ((a+t)%(k.toNat:Nat)) ((b+t)%(k.toNat:Nat))=cZ k d a b:=λt a b a0 ak b0 bk=>by rw[show ((k.toNat:Nat):Int)=k by lia]at *;show zfq hd t a b a0 ak b0 bk
  obtain⟨m,hm⟩ : ∃m,n.toNat=m+1:=⟨n.toNat-1,by lia⟩;let em:n.toNat-1=m:=by lia
  let Jz:unset (je n k)<=m+1:=by
   let:=(Ot (n:=n) hk).len;rw[<-hm,<-this];show List.countP_le_length
  let al:∀(i:Nat) L,(je n k)[i]?=some (some L)->L=gP k.toNat:=λi L e=>(K4 e).2;let eb:(je n k).all (Gi k.toNat)=true:=ju.mpr λc hc=>by rw[List.eq_of_mem_replicate hc];show fH rfl
  rw[em]at hz;show(zjx (c0:=1+cnt k.toNat m) (c1:=cnt k.toNat m) B nA (λ_=>dw) (Ot hk) (λi hi=>⟨_,Oq hi⟩) (by rw[em];show hz) ?_ (λkvs L hL tD ha hl=>?_)).imp λv s=>?_
  .rw[hm];let:=zhW (m:=m) (j:=k'+34-3*(m+1)) (kvs:=[]) B nA dw (Ot hk) Jz eb (λF d e=>by cases e) (by simp;lia);rw[hm]at this;simpa using this
  .let e:=al 0 L hL;subst e;show zlH B nA dw ?_ (Ot hk) Jz al hL tD ha gV;rw[show 3*n.toNat+1+(k'+34-3*n.toNat)+2=3*m+4+(k'+33-3*m) by lia];show O2 B nA (λ_=>dw) m _
  rintro(⟨rfl,kY⟩|⟨hs,rfl,hl,Wn,hge⟩)
  .refine⟨_,rfl,?_⟩;ext;show .inl ⟨rfl,λhs hh=>kY ⟨_,zec h hd hh⟩⟩
  .refine⟨_,rfl,?_⟩;ext;show .inr ⟨hs,rfl,zhF h hl Wn,λg hg j hj ha=>?_⟩;show hge _ (zec h hd hg) j gV ha
end
def small{n k:Int}(hn:n<=8)(hk:k<=8):1+cnt k.toNat (n.toNat-1)+cnt k.toNat (n.toNat-1)+tot k.toNat (n.toNat-1)<sizeLine:=by
 let:=zeC (k:=k.toNat) (k2:=8) (m:=n.toNat-1) (m2:=7) gV gV;let:=zhs (k:=k.toNat) (k2:=8) (m:=n.toNat-1) (m2:=7) gV gV;let e:1+cnt 8 7+cnt 8 7+tot 8 7<sizeLine:=by decide
 lia
section
variable {n k d:Int}{ps:List (Int×Int)}
def zjf{k':Nat}(h:Web n ps)(hr:1<=d/\d<=k/\k<=24)(hz:1+cnt k.toNat (n.toNat-1)+cnt k.toNat (n.toNat-1)+tot k.toNat (n.toNat-1)<sizeLine):W (call aq T (k'+41) true 33 [.d (aK n ps),.d (dO k d)]) [] λv s=>∃b,v=.d (.bl b)/\(b=true↔∃g,bx n k d ps g):=by
 show W.call zpl rfl ?_;unfold VH;ext;show jo rfl ((zdC (k':=k') h hr.1 hr.2.1 hr.2.2 hz).imp λv s hv=>?_);rcases hv with ⟨rfl,kY⟩|⟨hs,rfl,hh,hg⟩
 .refine⟨_,rfl,?_⟩;ext;show⟨false,rfl,⟨λe=>(by cases e),λ⟨g,hg⟩=>absurd hg (kY g)⟩⟩
 .refine⟨_,rfl,?_⟩;ext;show⟨true,rfl,⟨λ_=>⟨hs,hh⟩,λ_=>rfl⟩⟩
def rD(r:Int×Int):D:=dO r.1 r.2
def zhe{k':Nat}(h1:1<=n)(h8:n<=8):W (call aq T (k'+4) true 32 [.d (.int n)]) [] λv s=>v=.d (.fl ((gj n).map rD)):=by
 let:n=1\/n=2\/n=3\/n=4\/n=5\/n=6\/n=7\/n=8:=by lia
 rcases this with rfl|rfl|rfl|rfl|rfl|rfl|rfl|rfl
 .exact W.eq (a:=.d (.fl ((gj 1).map rD))) (s':=[]) (by kernel_rfl) rfl
 .exact W.eq (a:=.d (.fl ((gj 2).map rD))) (s':=[]) (by kernel_rfl) rfl
 .exact W.eq (a:=.d (.fl ((gj 3).map rD))) (s':=[]) (by kernel_rfl) rfl
 .exact W.eq (a:=.d (.fl ((gj 4).map rD))) (s':=[]) (by kernel_rfl) rfl
 .exact W.eq (a:=.d (.fl ((gj 5).map rD))) (s':=[]) (by kernel_rfl) rfl
 .exact W.eq (a:=.d (.fl ((gj 6).map rD))) (s':=[]) (by kernel_rfl) rfl
 .exact W.eq (a:=.d (.fl ((gj 7).map rD))) (s':=[]) (by kernel_rfl) rfl
 .exact W.eq (a:=.d (.fl ((gj 8).map rD))) (s':=[]) (by kernel_rfl) rfl
def zio{j:Nat}{r:Int×Int}(e:(gj n)[j]?=some r):((gj n).map rD)[((j:Int)).toNat]?=some (rD r):=by
 rw[show ((j:Int)).toNat=j by lia,gq,e];rfl
def O5{k':Nat}(h:Web n ps):W (call aq T (k'+42) true 34 [.d (aK n ps)]) [] λv s=>∃r,v=.d (rD r)/\Vj n ps r:=by
 let h8:=h.h8;let h1:=h.h1;let Wo:jh=1000000000000:=rfl;let ew:aK n ps=.tup [.int n,.tup (ps.map aZ)]:=rfl;let hlen:(gj n).length<=12:=Ab _ Gh;let⟨jl,ejl⟩:=List.getElem?_of_mem (zhH h1 h8);let hjl:=(dI.mp ejl).1;show W.call zpu rfl ?_;unfold VJ;ext;show W.c1 (Wj h) λ_=>?_;unfold aK;ext;show W.c0 (zhe h1 h8) ?_;ext;show WS.wh (λq J s'=>∃j:Nat,J=[some (.d (aK n ps)),some (.d (.fl ((gj n).map rD))),some (.d (.int j))]/\j<(gj n).length/\(∀(i:Nat) q,i<j->(gj n)[i]?=some q->∀hs,¬bx n q.1 q.2 ps hs)/\q=(gj n).length-j) (m:=(gj n).length) gV ⟨0,rfl,by lia,λi q hi=>absurd hi (Mg _),rfl⟩ λq J s' hI=>?_;let⟨j,rfl,hj,kY,rfl⟩:=hI;obtain⟨r,er⟩ : ∃r,(gj n)[j]?=some r:=⟨_,dz hj⟩;let hr:=qy (dZ er);ext;show cJ (pG gV (zio er)) ?_;ext;show jo rfl ((zjf (k':=k') (k:=r.1) (d:=r.2) h gV (small h8 gV)).imp λv s hv=>?_);let⟨b,rfl,hb⟩:=hv;show⟨_,rfl,?_⟩;ext;show⟨λe=>?_,λe=>?_⟩
 .let tR:b=false:=by cases b<;>simp_all
  let M4:∀hs,¬bx n r.1 r.2 ps hs:=λhs hh=>by rw[hb.mpr ⟨hs,hh⟩]at tR;cases tR
  let K_:∀(i:Nat) q,i<j+1->(gj n)[i]?=some q->∀hs,¬bx n q.1 q.2 ps hs:=λi q hi e'=>by
   rcases PX (Nat.le_of_lt_succ hi) with z|z
   .exact kY i q z e'
   .subst z;rw[er]at e';cases e';show M4
  let hj2:j+1<(gj n).length:=by
   show Nat.not_le.mp λz=>?_;show K_ jl _ gV ejl _ (zi1 h (Aw _))
  ext;show WS.aug rfl rfl ?_;ext;show .inl ⟨_,(gj n).length-(j+1),rfl,by lia,j+1,by rfl,hj2,K_,rfl⟩
 .let tR:b=true:=by cases b<;>simp_all
  ext;show cJ (pG gV (zio er)) ?_;ext;show⟨r,rfl,j,er,hb.mp tR,kY⟩
end
def yE(o:SO):Prop:=∃a b:Int,o=.lst [.int a,.int b]/\0<=a/\(b=0\/b=1)
def zit{k:Nat}{o:SO}{m:Int}(ho:yE o)(hm:0<m)(hm2:m<1073741824):W (call aq T (k+1) true 41 [.l 0,.d (.int m)]) [o] λv s=>∃d o',v=.d d/\s=[o']/\(∃r:Int,d=.int r/\0<=r/\r<m)/\yE o':=by
 let⟨a,b,rfl,ha,hb⟩:=ho;show W.call zpi rfl ?_;unfold V1;rcases hb with rfl|rfl
 .refine Y ?_;show⟨_,_,rfl,rfl,⟨_,rfl,yR _ gV,Ah _ hm⟩,⟨_,_,rfl,yR _ J0,.inl rfl⟩⟩
 .refine Y ?_;show⟨_,_,rfl,rfl,⟨_,rfl,yR _ gV,Ah _ hm⟩,⟨_,_,rfl,Int.ediv_nonneg ha gV,.inr rfl⟩⟩
def zoM{k:Nat}{n:Int}:W (call aq T (k+1) true 40 [.d (.int n)]) [] λv s=>∃i o,v=.l i/\s[i]?=some o/\yE o:=by
 show W.call zo5 rfl ?_;unfold V0;ext;show⟨0,_,rfl,rfl,⟨_,_,rfl,?_,?_⟩⟩
 .split<;>lia
 .let:∀c:Bool,(if c=true then (1:Int) else 0)=0\/(if c=true then (1:Int) else 0)=1:=by intro c;cases c<;>simp
  show this _
def Kaw{k:Nat}{o:SO}{m:Int}{P:Xv->S->Prop}(ho:yE o)(hm:0<m)(hm2:m<1073741824)(h:∀(r:Nat) o',(r:Int)<m->yE o'->P (.d (.int r)) [o']):W (cH (call aq T (k+1) true 41) [.l 0,.d (.int m)]) [o] P:=by
 show Ug (n:=0) (o:=o) rfl rfl ((zit ho hm hm2).imp λv s=>?_);rintro⟨d,o',rfl,rfl,⟨r,rfl,h0,h1⟩,hp⟩;let⟨n,rfl⟩:=o9 h0;show⟨_,_,rfl,rfl,h n o' h1 hp⟩
def zlm{k:Nat}{ns:List Int}:W (call aq T (k+1) true 39 [.d (.fl (ns.map D.int)),.d (.int 0)]) [] λv _=>∃n,v=.d (.int n):=by
 show W.call zpk rfl ?_;unfold VR;cases ns with
 |nil=>
  ext;show⟨_,rfl⟩
 |cons n r=>
  ext;show WS.ite (λ_=>?_) (λ_=>?_)
  .refine Y ?_;show cJ (Kf (i:=0) (x:=.int n) rfl) ?_;ext;show⟨_,rfl⟩
  .refine Y ?_;show⟨_,rfl⟩
def zg3{k:Nat}{o:SO}{n:Int}(ho:yE o)(h1:1<=n)(h8:n<=8):W (call aq T (k+2) true 43 [.l 0,.d (.int n)]) [o] λv s=>∃ps o',v=.d (aK n ps)/\s=[o']/\Web n ps/\yE o':=by
 show W.call zpm rfl ?_;unfold V2;let hs:(100:Nat)<=sizeLine:=by decide
 ext;show Kaw ho J0 J0 λr o' hr hp=>?_;ext;let vV:r<3:=by lia
 show cJ (Kf (x:=.int (([2,4,6]:List Int)[r]'vV)) ?_) ?_
 .revert vV;revert r;intro r _ vV;show match r,vV with
  |0,_=>rfl|1,_=>rfl|2,_=>rfl|n+3,h=>absurd h gV
 generalize ([2,4,6]:List Int)[r]=often;ext;show⟨by rw[gO gV gV,gO gV gV];rfl,?_⟩;show vd (λ(i:Nat) J s=>∃(ps:List (Int×Int)) (a:Option Xv) (o':SO),J=[some (.l 0),some (.d (.int n)),some (.d (.int often)),some (.d (.fl (ps.map aZ))),a]/\s=[o']/\yE o'/\(∀p∈ps,0<=p.1/\p.1<(i:Int)/\p.1<p.2/\p.2<n)/\ps.Pairwise lx/\ps.length<=7*i)
  ⟨[],_,_,rfl,rfl,hp,by simp,by simp,by simp⟩ (λi x J s e hI=>?_) (λJ s hI=>?_)
 .obtain⟨ps,a,o',rfl,rfl,hp,ht,Dz,hlen⟩:=hI;let⟨rfl,hi⟩:=Ob e;let hi8:i<8:=by lia
  ext;show Kar (c:=jC (0+(i:Int)+1) n) (λ(j:Nat) acc s=>∃(es:List Int) (o':SO),acc=es.map (λe=>aZ (0+(i:Int),e))/\es.Pairwise (·<·)/\(∀e∈es,(i:Int)<e/\e<(i:Int)+1+j)/\s=[o']/\yE o') ?_ (λj x acc s e hJ=>?_) (λacc s hJ=>?_)
  .refine Y ?_;show⟨by rw[gO gV gV,gO gV gV];rfl,?_⟩;show⟨rfl,[],_,rfl,by simp,by simp,rfl,hp⟩
  .obtain⟨es,o',rfl,Gj,zY,rfl,hp⟩:=hJ;let⟨rfl,hj⟩:=Ob e;let hel:(es.length:Int)<=(i:Int)+1+j-((i:Int)+1):=Ur Gj (λe he=>by let:=zY e he;lia) gV;ext;show Kaw hp J0 J0 λr o' hr hp=>?_;ext;show⟨λhb=>?_,λhb=>?_⟩
   .refine Y ?_;show⟨_,rfl,by rw[cO];lia,es++[0+(i:Int)+1+j],o',?_,?_,?_,rfl,hp⟩
    .rw[tV];rfl
    .rw[List.pairwise_append];show⟨Gj,by simp,λa ha b hb=>?_⟩;simp at hb;let:=zY a ha
     lia
    .intro e he;rcases jN.mp he with he|he
     .let:=zY e he;lia
     .simp at he;lia
   .exact⟨es,o',rfl,Gj,λe he=>by let:=zY e he;lia,rfl,hp⟩
  .obtain⟨es,o',rfl,Gj,zY,rfl,hp⟩:=hJ;rw[Oc]at zY;let hel:(es.length:Int)<=n-((i:Int)+1):=Ur Gj (λe he=>by let:=zY e he;lia) gV;ext;show zU (Kg ?_) ?_
   .rw[cO,cO];lia
   ext;show⟨_,rfl,ps++es.map (λe=>(0+(i:Int),e)),some (.d (.int (0+(i:Int)))),o',?_,rfl,hp,?_,?_,?_⟩
   .rw[tV,Ar];rfl
   .intro p hp;rcases jN.mp hp with hp|hp
    .let:=ht p hp;lia
    .obtain⟨e,he,rfl⟩:=lu.mp hp;let:=zY e he;dsimp only
     lia
   .rw[List.pairwise_append,zs1];show⟨Dz,Gj.imp λh=>.inr ⟨rfl,h⟩,λp hp q hq=>?_⟩;let⟨e,he,rfl⟩:=lu.mp hq;let:=ht p hp;show .inl (by dsimp only;lia)
   .rw[dJ,cO];lia
 .obtain⟨ps,a,o',rfl,rfl,hp,ht,Dz,hlen⟩:=hI;rw[Oc]at ht hlen;ext;show⟨ps,o',rfl,rfl,⟨h1,h8,λp hp=>?_,Dz,by lia⟩,hp⟩;let:=ht p hp
  lia
theorem O6{k:Nat}{c:Bool}{i:Int}:W (call aq T (k+1) c 42 [.d (.int i)]) [] λv s=>v=.d (.bl true):=W.eq (a:=.d (.bl true)) (s':=[]) rfl rfl
def zkq{k:Nat}{n:Int}{ps:List (Int×Int)}(hl:ps.length<64):W (call aq T (k+2) true 44 [.d (aK n ps),.d (aK n ps)]) [] λv s=>v=.d (.bl true):=by
 show W.call zpv rfl ?_;unfold V3;let hs:(100:Nat)<=sizeLine:=by decide
 show WS.cons (Dh ?_);show Ui ?_;show KaE (W.lF (W.eV rfl (N7 (sW.mk (a:=true) rfl ?_))));show W.bool (W.bool (W.Dg ?_));show Ui (Uh (N_ (W.eV rfl (N_ (W.eV rfl (Kai ?_))))));show Ue (N7 (Ue (N7 (Ka3 ?_))));show cJ (d:=.bl false) ?_ ?_
 .show Option.map _ (bQ 50 (aK n ps) (aK n ps))=_;rw[zkE];rfl
 unfold aK;ext;show W.c0 O6 ?_;ext;show jM (l:=ps) (f:=aZ) (λp=>some (.bl true)) gV ?_ (λp hp=>?_) ?_
 .refine Y ?_;show⟨rfl,rfl⟩
 .refine Y ?_;show⟨rfl,λ_=>?_,λhb=>by cases hb⟩;ext;show W.c0 O6 ?_;ext;show W.c0 O6 ?_;show⟨rfl,_,rfl,rfl⟩
 .refine Y ?_;show cJ (Oa ?_) ?_
  .intro x hx;let⟨_,_,e⟩:=Ad.mp hx;show(cU e).symm
  show Y trivial
theorem La{xs:List Int}{r:Nat}{B:Int}(hb:∀z∈xs,1<=z/\z<=B)(hr:r<xs.length):∃z:Int,prim .ix [.fl (xs.map .int),.int r]=some (.dat (.int z))/\1<=z/\z<=B:=
 ⟨xs[r],Kf (by rw[gq,dz hr];rfl),hb _ (List.getElem_mem _)⟩
def zf4{k':Nat}(hs:List Int):b_ (bQ k') (hs.map D.int) (hs.map D.int)=some true:=by
 let hi:∀a:Int,bQ k' (.int a) (.int a)=some (a==a):=by intro a;cases k'<;>rfl
 induction hs with
 |nil=>rfl|cons x r ih=>simp only[iH,b_,ih,hi];simp
theorem zg8(hs:List Int):bQ 50 (.tup (hs.map D.int)) (.tup (hs.map D.int))=some true:=zf4 hs
def zgX{k':Nat}{hs:List Int}(hl:hs.length<=100):W (call aq T (k'+2) true 50 [.d (.tup (hs.map .int)),.d (.tup (hs.map .int))]) [] λv s=>v=.d (.bl true):=by
 show W.call zpj rfl ?_;unfold V8;let vp:(100:Nat)<=sizeLine:=by decide
 ext;show cJ (d:=.bl true) ?_ ?_
 .show Option.map _ (bQ 50 (.tup (hs.map D.int)) (.tup (hs.map D.int)))=_;rw[zg8];rfl
 ext;show jM (l:=hs) (f:=D.int) (λ_=>some (.bl true)) gV ?_ (λx hx=>?_) ?_
 .refine Y ?_;show⟨rfl,rfl⟩
 .refine Y ?_;show⟨rfl,λ_=>?_,λhb=>by cases hb⟩;ext;show W.c0 O6 ?_;show⟨rfl,_,rfl,rfl⟩
 .refine Y ?_;show cJ (Oa ?_) ?_
  .intro x hx;let⟨_,_,e⟩:=Ad.mp hx;show(cU e).symm
  show Y trivial
theorem zi0{k':Nat}{k a b:Int}:W (call aq T (k'+1) true 45 [.d (.int k),.d (.int a),.d (.int b)]) [] λv s=>v=.d (.int (iC k a b)):=W.eq (a:=.d (.int (iC k a b))) (s':=[]) rfl rfl
def O7{r:List Int}{x:Int}:(((r.map D.int++[D.int x]).length:Nat):Int)=(r.length:Int)+1:=by simp
def nF(n:Int)(ps:List (Int×Int)):List Int:=((List.range n.toNat).filter λ(i:Nat)=>ps.all λp=>decide (p.1≠(i:Int)/\p.2≠(i:Int))).map λ(i:Nat)=>(i:Int)
def zg7{n:Int}{ps:List (Int×Int)}:∀j∈nF n ps,(0<=j/\j<n)/\∀p∈ps,p.1≠j/\p.2≠j:=by
 intro j hj;let⟨i,hi,rfl⟩:=lu.mp hj;let⟨h1,h2⟩:=gB.mp hi;let:=pA.mp h1;show⟨by lia,λp hp=>fG (ju.mp h2 p hp)⟩
def zjT{k':Nat}{n k d:Int}{ps:List (Int×Int)}(h:Web n ps)(hk:1<=k)(hd:1<=d)(hB:(n.toNat+1)*(k.toNat+1)^n.toNat+n.toNat<1000000000)(hd2:d<1000) :
  W (call aq T (k'+2) true 46 [.d (aK n ps),.d (dO k d)]) [] λv s=>(v=.d .non/\∀hs,¬bx n k d ps hs)\/∃hs,v=.d (.tup (hs.map .int))/\bx n k d ps hs:=by
 show W.call zpb rfl ?_;unfold V4;let vp:(1000:Nat)<=sizeLine:=by decide
 let h1:=h.h1;let h8:=h.h8;let hlen:=h.len;let Wo:jh=1000000000000:=rfl;let DG:ps.map aZ=[]↔ps=[]:=List.map_eq_nil_iff;unfold aK dO;by_cases c1:ps≠[]/\k<2*d
 .refine Y ?_;show cJ (zlk (f:=not)) ?_;rw[jw (λe=>c1.1 (DG.mp e))];ext;rw[fH c1.2];ext;show .inl ⟨rfl,zng hd c1.1 c1.2⟩
 show WS.cons (Dh ?_);show W.imp (P:=λx s1=>x=.d (.bl false)/\s1=[]) ?_ λx s1 hx=>?_
 .refine Y ?_;show cJ (zlk (f:=not)) ?_;by_cases e:ps=[]
  .rw[fH (DG.mpr e)];ext;show⟨rfl,rfl⟩
  .rw[jw (λz=>e (DG.mp z))];ext;rw[jw (λz=>c1 ⟨e,z⟩)];show⟨rfl,rfl⟩
 let⟨rfl,rfl⟩:=hx;show W.bool (WS.Dg ?_);ext;show vd (λi J s=>s=[]/\∃(ts:List Int) (a3 a4 a5:Option Xv),J=[some (.d (.tup [.int n,.tup (ps.map aZ)])),some (.d (.tup [.int k,.int d])),some (.d (.fl (ts.map .int))),a3,a4,a5,none,none,none,none]/\ts.length<=8*i/\(ts≠[]->∃x y z,(x,y)∈ps/\(x,z)∈ps/\(y,z)∈ps)) ⟨rfl,[],_,_,_,rfl,by simp,λe=>absurd rfl e⟩ (λi x J s e hI=>?_) (λJ s hI=>?_)
 .obtain⟨rfl,ts,a3,a4,a5,rfl,hl,Wq⟩:=hI;rw[gq]at e;cases ep:ps[i]? with
  |none=>rw[ep]at e;cases e|some p=>
   rw[ep]at e;cases e;let⟨a,b⟩:=p;let hp:=dZ ep;let hi:i<ps.length:=(dI.mp ep).1;ext;show jM (l:=List.range (n-0).toNat) (f:=λ(j:Nat)=>.int (0+j)) (λ(j:Nat)=>if (a,0+(j:Int))∈ps/\(b,0+(j:Int))∈ps then some (.int (0+j)) else none) (by rw[lM];lia) ?_ (λj hj=>?_) ?_
   .refine Y ?_;show⟨by rw[gO gV gV,gO gV gV];rfl,?_⟩;show⟨rfl,rfl⟩
   .refine Y ?_;show cJ (zl7 (f:=id) (p:=(a,0+(j:Int)))) ?_;by_cases q1:(a,0+(j:Int))∈ps
    .rw[fH q1];ext;show cJ (zl7 (f:=id) (p:=(b,0+(j:Int)))) ?_;ext;show⟨rfl,λhb=>?_,λhb=>?_⟩
     .refine Y ?_;show⟨rfl,_,rfl,by rw[if_pos ⟨q1,fG hb⟩]⟩
     .rw[if_neg (λz=>absurd z.2 (Lx hb))]
    .rw[jw q1];ext;show⟨rfl,?_,λ_=>?_⟩
     .intro hb;cases hb
     .rw[if_neg (λz=>q1 z.1)]
   .refine Y ?_;let e1:∀l:List Nat,∃us:List Int,l.filterMap (λ(j:Nat)=>if (a,0+(j:Int))∈ps/\(b,0+(j:Int))∈ps then some (D.int (0+j)) else none)=us.map .int/\us.length<=l.length/\(us≠[]->∃j:Int,(a,j)∈ps/\(b,j)∈ps):=by
     intro l
     induction l with
     |nil=>show⟨[],rfl,bU _,λe=>absurd rfl e⟩|cons j r ih=>
      let⟨us,q1,q2,q3⟩:=ih;rw[vB];by_cases z:(a,0+(j:Int))∈ps/\(b,0+(j:Int))∈ps
      .rw[if_pos z,q1];show⟨(0+(j:Int))::us,rfl,by simp;lia,λ_=>⟨_,z⟩⟩
      .rw[if_neg z,q1];show⟨us,rfl,by simp;lia,q3⟩
    let⟨us,q1,q2,q3⟩:=e1 (List.range (n-0).toNat);rw[q1];rw[lM]at q2;show zU (Kg ?_) ?_
    .rw[cO,cO];lia
    ext;show⟨_,rfl,rfl,ts++us,_,_,some (.d (.fl (us.map .int))),by rw[tV];rfl,by rw[dJ];lia,λjJ=>?_⟩;by_cases t0:ts=[]
    .subst t0;let⟨j,w1,w2⟩:=q3 (by simpa using jJ);show⟨a,b,j,hp,w1,w2⟩
    .exact Wq t0
 .obtain⟨rfl,ts,a3,a4,a5,rfl,hl,Wq⟩:=hI;let Wr:ts.map D.int=[]↔ts=[]:=List.map_eq_nil_iff;by_cases c2:ts≠[]/\k<3*d
  .refine Y ?_;show cJ (Dm (f:=not)) ?_;rw[jw (λe=>c2.1 (Wr.mp e))];ext;rw[fH c2.2];ext;show .inl ⟨rfl,zgS hd (Wq c2.1) c2.2⟩
  show WS.cons (Dh ?_);show W.imp (P:=λx s1=>x=.d (.bl false)/\s1=[]) ?_ λx s1 hx=>?_
  .refine Y ?_;show cJ (Dm (f:=not)) ?_;by_cases e:ts=[]
   .rw[fH (Wr.mpr e)];ext;show⟨rfl,rfl⟩
   .rw[jw (λz=>e (Wr.mp z))];ext;rw[jw (λz=>c2 ⟨e,z⟩)];show⟨rfl,rfl⟩
  let⟨rfl,rfl⟩:=hx;show W.bool (WS.Dg ?_);ext;show jM (l:=List.range (n-0).toNat) (f:=λ(j:Nat)=>.int (0+j)) (λ(j:Nat)=>if (ps.all λp=>decide (p.1≠(j:Int)/\p.2≠(j:Int)))=true then some (.int j) else none) (by rw[lM];lia) ?_ (λj hj=>?_) ?_
  .refine Y ?_;show⟨by rw[gO gV gV,gO gV gV];rfl,?_⟩;show⟨rfl,rfl⟩
  .refine Y ?_;show jM (l:=ps) (f:=aZ) (λp=>if p.1=(j:Int)\/p.2=(j:Int) then some (aZ p) else none) gV ?_ (λp hp=>?_) ?_
   .refine Y ?_;show⟨rfl,rfl⟩
   .obtain⟨a,b⟩:=p;ext;show⟨rfl,λhb=>?_,λhb=>?_⟩
    .refine Y ?_;simp at hb;show⟨rfl,_,rfl,by rw[if_pos hb]⟩
    .simp at hb;rw[if_neg (by simp;lia)]
   .refine Y ?_;show cJ (Dm (f:=id)) ?_;ext;let ur:(ps.filterMap (λp=>if p.1=(j:Int)\/p.2=(j:Int) then some (aZ p) else none)=[])↔(ps.all λp=>decide (p.1≠(j:Int)/\p.2≠(j:Int)))=true:=by
     rw[qw,ju]
     constructor
     .intro h p hp;let:=h p hp;apply fH;split at this
      .cases this
      .lia
     .intro h p hp;let:=fG (h p hp);rw[if_neg gV]
    show⟨rfl,λhb=>?_,λhb=>?_⟩
    .refine Y ?_;rw[if_pos (ur.mp (fG hb))];show⟨rfl,_,rfl,by congr 2;lia⟩
    .rw[if_neg (λz=>absurd (ur.mpr z) (Lx hb))]
  .let el:(List.range (n-0).toNat).filterMap (λ(j:Nat)=>if (ps.all λp=>decide (p.1≠(j:Int)/\p.2≠(j:Int)))=true then some (D.int j) else none)=(nF n ps).map .int:=by
    unfold nF;rw[Ar,show n-0=n by lia];generalize List.range n.toNat=l
    induction l with
    |nil=>rfl|cons j r ih=>
     rw[vB,GD];cases q:(ps.all λp=>decide (p.1≠(j:Int)/\p.2≠(j:Int)))
     .simp[ih]
     .simp[ih]
   rw[el];let hls:=zg7 (n:=n) (ps:=ps);generalize nF n ps=ls at hls;ext;let hB0:left' (k.toNat+1) n.toNat [0]<=(n.toNat+1)*(k.toNat+1)^n.toNat+n.toNat:=by
    unfold left';let:=Nat.mul_le_mul_left (n.toNat+1) (Nat.sub_le ((k.toNat+1)^n.toNat) (val (k.toNat+1) [0] n.toNat))
    lia
   show WS.wh (λm J s=>∃(r:List Int) (x:Int) (a8 a9:Option Xv),J=[some (.d (.tup [.int n,.tup (ps.map aZ)])),some (.d (.tup [.int k,.int d])),some (.d (.fl (ts.map .int))),a3,a4,a5,some (.d (.fl (ls.map .int))),some (.l 0),a8,a9]/\s=[.lst (r.map .int++[.int x])]/\yw n k d ps ls r x/\m=left' (k.toNat+1) n.toNat (r++[x])) (m:=left' (k.toNat+1) n.toNat [0]) gV ⟨[],0,none,none,rfl,rfl,Uv h1 hk (λp hp=>⟨(h.tie p hp).1,(h.tie p hp).2.1⟩),rfl⟩ λm J s hI=>?_;let⟨r,x,a8,a9,rfl,rfl,St,rfl⟩:=hI;let g1:=St.len;let g2:=St.x0;let g3:=St.xk;let Lb:∀z∈r,z<((k.toNat+1:Nat):Int):=λz hz=>by let:=St.lo z hz;lia
   ext;show cJ (zmq gV gV) ?_;ext;show⟨λh0=>?_,λh0=>?_⟩
   .let h0:at' (r++[x]) 0=0:=by simpa using h0
    by_cases cA:x=k\/(0<x/\(r.length:Int)∈ls)
    .-- back
     let jJ:r≠[]:=by
      rintro rfl;let:at' ([]++[x]) ((([]:List Int).length:Nat):Int)=x:=yu;let e0:at' ([]++[x]) 0=x:=this;rw[e0]at h0;rcases cA with e|e
      .lia
      .lia
     obtain⟨r',y,rfl⟩ : ∃r' y,r=r'++[y]:=⟨r.dropLast,r.getLast jJ,(List.dropLast_concat_getLast jJ).symm⟩;let hy:=St.lo y RQ;let tQ:(r'.length:Int)+1<n:=by rw[dJ]at g1;simpa using g1
     show WS.cons (Dh ?_);show W.imp (P:=λv s1=>v=.d (.bl true)/\s1=[.lst ((r'++[y]).map .int++[.int x])]) ?_ λv s1 hv=>?_
     .refine Y ?_;show cJ Dk ?_;ext;by_cases e:x=k
      .subst e;show W.Kh RQ ?_;ext;show⟨rfl,rfl⟩
      .rcases cA with cA|cA
       .exact absurd cA e
       show W.C_ (by simp;show e) ?_;ext;show cJ Dk ?_;ext;rw[fH cA.1];ext;show cJ (znl (f:=id)) ?_;rw[O7,show ((r'++[y]).length:Int)+1-1=((r'++[y]).length:Int) by lia,fH cA.2];show⟨rfl,rfl⟩
     let⟨rfl,rfl⟩:=hv;show W.bool (WS.v9 ?_);show WS.cons (Kbc ?_);show W.pop (n:=0) (xs:=(r'++[y]).map .int) (x:=.int x) ?_;ext;show⟨rfl,rfl,?_⟩;rw[show [SO.lst ((r'++[y]).map D.int++[D.int x])].set 0 (.lst ((r'++[y]).map .int))=[.lst (r'.map .int++[.int y])] by rw[tV];rfl];ext;show cJ (Dm (f:=id)) ?_;rw[jw RQ];ext;show cJ Dk ?_;ext;show sW.mk (a:=r'.length) ?_ ?_
     .rw[dJ,cO];show Us
     ext;show .inl ⟨_,left' (k.toNat+1) n.toNat (r'++[y+1]),rfl,?_,r',y+1,a8,a9,rfl,?_,zjy h St cA,rfl⟩
     .exact zh3 hy.1 gV g2 gV (λz hz=>Lb z (Ac _ hz)) gV
     .let:(r'.map D.int++[D.int y]).set r'.length (.int (y+1))=r'.map .int++[.int (y+1)]:=by
       rw[List.set_append_right _ _ RQ];simp
      change [SO.lst ((r'.map D.int++[D.int y]).set r'.length (.int (y+1)))]=_;rw[this]
    .-- on
     let hxk:x≠k:=λe=>cA (.inl e);show WS.cons (Dh ?_);show W.imp (P:=λv s1=>v=.d (.bl false)/\s1=[.lst (r.map .int++[.int x])]) ?_ λv s1 hv=>?_
     .refine Y ?_;show cJ Dk ?_;ext;show W.C_ (by simp;show hxk) ?_;ext;show cJ Dk ?_;ext;by_cases e:0<x
      .rw[fH e];ext;show cJ (znl (f:=id)) ?_;rw[O7,show (r.length:Int)+1-1=(r.length:Int) by lia,jw (λz=>cA (.inr ⟨e,z⟩))];show⟨rfl,rfl⟩
      .rw[jw e];ext;show⟨rfl,rfl⟩
     let⟨rfl,rfl⟩:=hv;show W.bool (WS.Dg ?_);ext;show jM (l:=ps) (f:=aZ) (λp=>if p.2=(r.length:Int) then some (aZ p) else none) gV ?_ (λp hp=>?_) ?_
     .refine Y ?_;show⟨rfl,rfl⟩
     .obtain⟨a,b⟩:=p;ext;rw[O7,show (r.length:Int)+1-1=(r.length:Int) by lia];show⟨rfl,λhb=>?_,λhb=>?_⟩
      .refine Y ?_;show⟨rfl,_,rfl,by rw[if_pos (by simpa using hb)]⟩
      .rw[if_neg (by simpa using hb)]
     .let ef:ps.filterMap (λp=>if p.2=(r.length:Int) then some (aZ p) else none)=(ps.filter λp=>decide (p.2=(r.length:Int))).map aZ:=by
       generalize ps=l
       induction l with
       |nil=>rfl|cons p q ih=>
        rw[vB,GD];by_cases e:p.2=(r.length:Int)
        .simp[e,ih]
        .simp[e,ih]
      rw[ef];let hfl:(ps.filter λp=>decide (p.2=(r.length:Int))).length<=ps.length:=Ab _ _;ext;show jM (l:=ps.filter λp=>decide (p.2=(r.length:Int))) (f:=aZ) (λp=>if iC k (at' (r++[x]) p.1) x<d then some (aZ p) else none) gV ?_ (λp hp=>?_) ?_
      .refine Y ?_;show⟨rfl,rfl⟩
      .obtain⟨Ws,hp2⟩:=gB.mp hp;let hp2:=fG hp2;let ht:=h.tie p Ws;let⟨a,b⟩:=p;dsimp only at hp2 ht;ext;show cJ (zmq gV gV) ?_;ext;show cJ Dk ?_;ext;show W.c0 zi0 ?_;ext;show⟨rfl,λhb=>?_,λhb=>?_⟩
       .refine Y ?_;show⟨rfl,_,rfl,by rw[if_pos (fG hb)]⟩
       .rw[if_neg (Lx hb)]
      .refine Y ?_;show cJ (Dm (f:=not)) ?_;by_cases cN:∃p∈ps,p.2=(r.length:Int)/\iC k (at' (r++[x]) p.1) x<d
       .rw[jw (λz=>by
         let⟨p,hp,e1,e2⟩:=cN;let:=qw.mp z p (gB.mpr ⟨hp,fH e1⟩);rw[if_pos e2]at this;cases this)]
        ext;show cJ Dk ?_;ext;show sW.mk (a:=r.length) ?_ ?_
        .rw[dJ,cO];show Us
        ext;show .inl ⟨_,left' (k.toNat+1) n.toNat (r++[x+1]),rfl,?_,r,x+1,_,_,rfl,?_,zj2 h St hxk cN,rfl⟩
        .exact zg4 g2 gV Lb gV
        .let:(r.map D.int++[D.int x]).set r.length (.int (x+1))=r.map .int++[.int (x+1)]:=by
          rw[List.set_append_right _ _ RQ];simp
         change [SO.lst ((r.map D.int++[D.int x]).set r.length (.int (x+1)))]=_;rw[this]
       .let hN:∀p∈ps,p.2=(r.length:Int)->d<=iC k (at' (r++[x]) p.1) x:=λp hp e=>by
         by_cases z:iC k (at' (r++[x]) p.1) x<d
         .exact absurd ⟨p,hp,e,z⟩ cN
         .lia
        rw[fH (qw.mpr λp hp=>by
         let⟨Ws,hp2⟩:=gB.mp hp;let:=hN p Ws (fG hp2);rw[if_neg gV])]
        ext;rw[O7];by_cases cF:(r.length:Int)+1=n
        .refine WS.Kh (by simp;show cF) ?_;ext;show .inr ⟨_,rfl,.inr ⟨r++[x],by rw[tV];rfl,zh2 St hxk cF h.tie hN⟩⟩
        .refine WS.C_ (by simp;show cF) ?_;ext;show⟨by rw[dJ,cO];simp;lia,?_⟩;ext;show .inl ⟨_,left' (k.toNat+1) n.toNat (r++[x]++[0]),rfl,zgK (by rw[dJ];simp;lia),r++[x],0,_,_,rfl,?_,zhE St hk hxk gV (λp hp=>⟨(h.tie p hp).1,(h.tie p hp).2.1⟩) hN,rfl⟩;rw[tV];rfl
   .let h0:at' (r++[x]) 0≠0:=by simpa using h0
    ext;show .inl ⟨rfl,λhs hh=>?_⟩;let⟨g,hg⟩:=zi5 h hd hk hls hh;let:=St.ge g hg 0 (by rw[dJ];simp) (λi hi=>absurd hi (Mg _));let e1:at' (r++[x]) ((0:Nat):Int)=at' (r++[x]) 0:=rfl;let e2:at' g ((0:Nat):Int)=at' g 0:=rfl;rw[e1,e2,hg.z]at this;let Rm:0<=at' (r++[x]) 0:=by
     let hm:=yt (fs:=r++[x]) (j:=0) gV (by rw[dJ];simp);rcases jN.mp hm with z|z
     .exact(St.lo _ z).1
     .let:at' (r++[x]) 0=x:=by simpa using z
      lia
    lia
def ziK{ps:List (Int×Int)}(hl:ps.length<64)(h:ps.Pairwise lx):vU (ps.map aZ)=some (ps.map aZ):=by
 show zeD (zmG ps) (by rw[cO];show hl) λk hk=>?_;rw[cO]at hk;rw[zmN (dz hk) (dz (show k<ps.length by lia))]
 congr 1
 apply jw;let:=Lh.mp h k (k+1) gV hk gV;unfold lx at this
 lia
def O8{n:Int}{ps:List (Int×Int)}(h:Web n ps):ps.length<64:=by let:=h.len;let:=h.h8;lia
def Wt{α:Type}(ps:List α)(f:α->D)(q:α->Bool):ps.filterMap (λp=>if q p=true then some (f p) else none)=(ps.filter q).map f:=by
 induction ps with
 |nil=>rfl|cons p r ih=>
  rw[vB,GD];cases e:q p
  .simp[ih]
  .simp[ih]
def dn(i j:Int):Int:=if j<i then j else j-1
def tU(i:Int)(p:Int×Int):Int×Int:=(dn i p.1,dn i p.2)
def o7(i:Int)(p:Int×Int):Bool:=decide (p.1≠i/\p.2≠i)
def fewer(i:Int)(ps:List (Int×Int)):List (Int×Int):=(ps.filter (o7 i)).map (tU i)
def Wu{n i:Int}{ps:List (Int×Int)}(h:Web n ps)(hi:0<=i/\i<n):∀p∈fewer i ps,0<=p.1/\p.1<p.2/\p.2<n-1:=by
 intro p hp;let⟨q,hq,rfl⟩:=lu.mp hp;let⟨hm,hd⟩:=gB.mp hq;let:=h.tie q hm;let hd:=fG hd;unfold tU dn;dsimp only
 split<;>split<;>lia
def O9{n i:Int}{ps:List (Int×Int)}(h:Web n ps):(fewer i ps).Pairwise lx:=by
 unfold fewer;rw[zs1];show List.Pairwise.imp_of_mem (λ{p q} hp hq hl=>?_) (h.inc.filter _);let h1:=fG (gB.mp hp).2;let h2:=fG (gB.mp hq).2;unfold lx at hl ⊢;unfold tU dn;dsimp only
 split<;>split<;>split<;>split<;>lia
def zcR{n i:Int}{ps:List (Int×Int)}(h:Web n ps):(fewer i ps).length<64:=by
 unfold fewer;rw[cO];show yO (Ab _ _) (O8 h)
def pG{xs:List D}{j:Int}{x:D}(h0:0<=j)(h:xs[j.toNat]?=some x):prim .ix [.fl xs,.int j]=some (.dat x):=by
 let⟨k,rfl⟩:=o9 h0;show Kf h
def mD(m:Nat):List D:=(List.range m).map λ(k:Nat)=>D.int k
def Ld(L:List D)(i n:Int):Prop:=∀j:Int,0<=j->j<n->j≠i->L[j.toNat]?=some (.int (dn i j))
def zmZ{A B:List D}{z:D}{i m:Nat}(hA:A.length=i)(h1:∀j:Nat,j<i->A[j]?=some (.int j))(h2:∀j:Nat,i+j<m->B[j]?=some (.int ((i+j:Nat):Int))):Ld (A++[z]++B) i (m+1:Nat):=by
 intro j h0 hj jJ;let⟨k,rfl⟩:=o9 h0;rw[pq];unfold dn;by_cases hk:k<i
 .rw[if_pos gV,Gx,nJ gV];show h1 k hk
 .rw[if_neg gV,o8 (by simp;lia)];let:=h2 (k-i-1) gV;rw[show k-(A++[z]).length=k-i-1 by simp;lia,this]
  congr 2
  lia
def Le{xs:List D}{i:Nat}(h:i<=xs.length):cut xs none (some (i:Int))=xs.take i:=by
 unfold cut;rw[HT.jW,HT.mO,Nat.min_eq_left h];simp
def yF{xs:List D}{i:Nat}(h:i<=xs.length):cut xs (some (i:Int)) none=xs.drop i:=by
 unfold cut;rw[HT.jW,HT.mO,Nat.min_eq_left h];rw[Px];rw[Gz]
 lia
def zjU{k i:Nat}{n:Int}{ps:List (Int×Int)}{z:D}(h:Web n ps)(hi:(i:Int)<n):W (call aq T (k+1) true 14 [.d (aK n ps),.d (.int i),.d z,.d (.int 0)]) [] λv s=>∃L,v=.d (.fl L)/\Ld L i n:=by
 show W.call zo7 rfl ?_;unfold Vo aK;let hs:(100:Nat)<=sizeLine:=by decide
 let h1:=h.h1;let h8:=h.h8;ext;show jM (l:=List.range (n-1-0).toNat) (f:=λ(k:Nat)=>.int (0+k)) (λ(k:Nat)=>some (.int k)) (by rw[lM];lia) ?_ (λk hk=>?_) ?_
 .refine Y ?_;show⟨by rw[gO gV gV,gO gV gV];rfl,?_⟩;show⟨rfl,rfl⟩
 .refine Y ?_;show⟨rfl,λ_=>?_,λhb=>by cases hb⟩;ext;show⟨rfl,_,rfl,by congr 2;lia⟩
 .rw[show (List.range (n-1-0).toNat).filterMap (λ(k:Nat)=>some (D.int k))=mD (n-1-0).toNat by unfold mD;rw[<-Lr];rfl];let hm:(mD (n-1-0).toNat).length=(n-1).toNat:=by unfold mD;simp
  ext;rw[Le gV];show zU (Kg ?_) ?_
  .rw[tH,hm];change _+1<=_;lia
  ext;rw[yF gV];show zU (Kg ?_) ?_
  .rw[dJ,tH,Gz,hm];change _+1+_<=_;lia
  show⟨_,rfl,?_⟩;let key:∀{L:List D} {i:Int},Ld L i (((n-1).toNat+1:Nat):Int)->Ld L i n:=by
   intro L i h
   rwa [show (((n-1).toNat+1:Nat):Int)=n by lia]at h
  show key (zmZ (by rw[tH];lia) (λj hj=>?_) (λj hj=>?_))
  .rw[List.getElem?_take,if_pos hj];unfold mD;rw[gq,yM gV];rfl
  .rw[List.getElem?_drop];unfold mD;rw[gq,yM gV];rfl
def zgp{k:Nat}{n i:Int}{ks:List (Int×Int)}{L:List D}(hL:Ld L i n)(hl:ks.length<64)(ht:∀p∈ks,(0<=p.1/\p.1<p.2/\p.2<n)/\o7 i p=true):W (call aq T (k+1) true 15 [.d (.fl (ks.map aZ)),.d (.fl L)]) [] λv s=>v=.d (.fl ((ks.map (tU i)).map aZ)):=by
 show W.call zpw rfl ?_;unfold Vp;let hs:(100:Nat)<=sizeLine:=by decide
 ext;show jM (l:=ks) (f:=aZ) (λp=>some (aZ (tU i p))) gV ?_ (λp hp=>?_) ?_
 .refine Y ?_;show⟨rfl,rfl⟩
 .obtain⟨a,b⟩:=p;let⟨h1,h2⟩:=ht _ hp;let h2:=fG h2;dsimp only at h1 h2;ext;show⟨rfl,λ_=>?_,λhb=>by cases hb⟩;ext;show cJ (pG gV (hL a gV gV h2.1)) ?_;ext;show cJ (pG gV (hL b gV gV h2.2)) ?_;ext;show⟨rfl,_,rfl,rfl⟩
 .rw[show ks.filterMap (λp=>some (aZ (tU i p)))=(ks.map (tU i)).map aZ by rw[Ar,<-Lr];rfl];show Y trivial
def zc9{k i:Nat}{n:Int}{ps:List (Int×Int)}(h:Web n ps)(h2:2<=n)(hi:(i:Int)<n):W (call aq T (k+7) true 13 [.d (aK n ps),.d (.int i)]) [] λv s=>v=.d (aK (n-1) (fewer i ps)):=by
 show W.call zpq rfl ?_;unfold Vn;let hs:(100:Nat)<=sizeLine:=by decide
 let hl:=O8 h;let h8:=h.h8;ext;show W.c1 (Wj h) λ_=>?_;ext;show W.c1 (zeW ⟨by lia,hi⟩) λ_=>?_;let ew:aK n ps=.tup [.int n,.tup (ps.map aZ)]:=rfl;generalize hw:aK n ps=w at ew;subst ew;ext;show WS.C_ (by simp;lia) ?_;ext;show jM (l:=ps) (f:=aZ) (λp=>if o7 i p=true then some (aZ p) else none) gV ?_ (λp hp=>?_) ?_
 .refine Y ?_;show⟨rfl,rfl⟩
 .obtain⟨a,b⟩:=p;ext;show⟨rfl,λhb=>?_,λhb=>?_⟩
  .refine Y ?_;show⟨rfl,_,rfl,?_⟩;simp at hb;rw[if_pos (by unfold o7;simp[hb])]
  .simp at hb;rw[if_neg (by unfold o7;simp;lia)]
 .rw[Wt];ext;rw[<-hw];show jo rfl ((zjU h hi).imp λv s=>?_);rintro⟨L,rfl,hL⟩;show⟨_,rfl,?_⟩;ext;show W.c0 (zgp hL (yO (Ab _ _) hl) (λp hp=>⟨h.tie p (gB.mp hp).1,(gB.mp hp).2⟩)) ?_;ext;show jo rfl ((zj4 (ps:=fewer i ps) (qs:=fewer i ps) gV gV (Wu h ⟨by lia,hi⟩) (zeE (O9 h)) (zcR h) (ziK (zcR h) (O9 h))).imp λv s e=>⟨_,e,rfl⟩)
section
variable {n k d i j:Int}{ps:List (Int×Int)}{hs:List Int}{r q:Int×Int}
def Gk(w:Web n ps)(h2:2<=n)(hi:0<=i/\i<n):Web (n-1) (fewer i ps):=by
 let h8:=w.h8;show⟨by lia,by lia,Wu w hi,O9 w,zmF gV gV (Wu w hi) (O9 w)⟩
def O_(hi:0<=i)(h0:0<=j)(jJ:j≠i):at' (hs.eraseIdx i.toNat) (dn i j)=at' hs j:=by
 unfold at' dn;rw[lq,lq,List.getElem?_eraseIdx];by_cases c:j<i
 .rw[if_pos c,if_pos gV]
 .rw[if_neg c,if_neg gV,show (j-1).toNat+1=j.toNat by lia]
def zgM(hi:0<=i)(h:i<n)(hl:(hs.length:Int)=n):((hs.eraseIdx i.toNat).length:Int)=n-1:=by
 rw[List.length_eraseIdx,if_pos gV]
 lia
def zfb(w:Web n ps)(hi:0<=i/\i<n)(hh:bx n k d ps hs):bx (n-1) k d (fewer i ps) (hs.eraseIdx i.toNat):=by
 show⟨zgM hi.1 hi.2 hh.len,λx hx=>hh.lo x (List.mem_of_mem_eraseIdx hx),λp hp=>?_⟩;let⟨u,hu,rfl⟩:=lu.mp hp;let⟨hm,ho⟩:=gB.mp hu;let ho:=fG ho;let ht:=w.tie u hm;unfold tU;dsimp only;rw[O_ hi.1 gV ho.1,O_ hi.1 gV ho.2];show hh.fit u hm
def zf6(w:Web n ps)(hi:0<=i)(hj:i<j/\j<n)(hh:bx (n-1) k d (fewer i ps) hs):bx (n-1-1) k d (fewer i (fewer j ps)) (hs.eraseIdx (j-1).toNat):=by
 show⟨zgM gV gV hh.len,λx hx=>hh.lo x (List.mem_of_mem_eraseIdx hx),λp hp=>?_⟩;let⟨u,hu,rfl⟩:=lu.mp hp;let⟨hm,ho⟩:=gB.mp hu;let ho:=fG ho;let⟨v,hv,rfl⟩:=lu.mp hm;let⟨hm,hq⟩:=gB.mp hv;let hq:=fG hq;let ht:=w.tie v hm;let key:∀x:Int,0<=x->x≠j->dn j x≠i->(x≠i/\0<=dn i x/\dn i x≠j-1)/\dn i (dn j x)=dn (j-1) (dn i x):=λx x0 xj xi=>by
  unfold dn at *
  constructor
  .split<;>split at xi<;>lia
  .split at xi<;>repeat' split
   all_goals lia
 unfold tU at ho ⊢;dsimp only at ho ⊢;let k1:=key v.1 gV hq.1 ho.1;let k2:=key v.2 gV hq.2 ho.2;rw[k1.2,k2.2,O_ gV k1.1.2.1 k1.1.2.2,O_ gV k2.1.2.1 k2.1.2.2];show hh.fit (tU i v) (lu.mpr ⟨v,gB.mpr ⟨hm,fH ⟨k1.1.1,k2.1.1⟩⟩,rfl⟩)
def Pa(w:Web n ps):∃r,Short n ps r:=by
 let⟨v,s',e,r,_,hF⟩:=O5 (k':=0) w;show⟨r,hF.short w⟩
def zhw(w:Web n ps)(hi:0<=i/\i<n)(hS:Short n ps r)(hQ:Short (n-1) (fewer i ps) q):q.1*r.2<=r.1*q.2:=by
 let hr:=qy hS.mem;let⟨h,hh⟩:=hS.sZ;show hQ.least _ _ _ hr.1 hr.2.1 (zfb w hi hh)
def zku(h:q∈gj (n-1)):q∈gj n:=by
 let⟨a,b⟩:=gB.mp h;let:=fG b;show gB.mpr ⟨a,fH gV⟩
def Nd(n:Int)(ps:List (Int×Int))(i:Int):Prop:=n=1\/∃r q,Short n ps r/\Short (n-1) (fewer i ps) q/\q.1*r.2<r.1*q.2
def zib(h2:2<=n)(hS:Short n ps r)(hQ:Short (n-1) (fewer i ps) q):Nd n ps i↔q.1*r.2<r.1*q.2:=by
 constructor
 .rintro(z|⟨r',q',a,b,c⟩)
  .lia
  .rw[hS.uniq a,hQ.uniq b];show c
 .exact λz=>.inr ⟨r,q,hS,hQ,z⟩
def Wv(w:Web n ps)(h2:2<=n)(hi:0<=i/\i<n)(hS:Short n ps r)(hQ:Short (n-1) (fewer i ps) q):Nd n ps i↔q≠r:=by
 rw[zib h2 hS hQ];let l:=zhw w hi hS hQ
 constructor
 .intro a e;subst e;show Int.lt_irrefl _ a
 .intro a;rcases Int.lt_or_eq_of_le l with z|z
  .exact z
  .exact absurd (zim (zku hQ.mem) hS.mem z) a
def zmH(w:Web n ps)(hi:0<=i)(hj:i<j/\j<n)(hn:Nd n ps i)(hz:¬Nd n ps j):Nd (n-1) (fewer j ps) i:=by
 let h1:=w.h1;by_cases c:n=2
 .exact .inl gV
 rcases hn with z|⟨r,q,a,b,l⟩
 .lia
 let wj:=Gk w gV ⟨by lia,hj.2⟩;let⟨r',vV⟩:=Pa wj;let e:r'=r:=Li λz=>hz ((Wv w gV ⟨by lia,hj.2⟩ a vV).mpr z);subst e;let w2:=Gk wj gV (i:=i) ⟨hi,by lia⟩;let⟨q2,hq2⟩:=Pa w2;show .inr ⟨r',q2,vV,hq2,?_⟩;let hq:=qy b.mem;let hq3:=qy hq2.mem;let hr:=qy vV.mem;let⟨g,hg⟩:=b.sZ;let l2:=hq2.least _ _ _ hq.1 hq.2.1 (zf6 w hi hj hg);show Pb (a:=q.2) ?_ gV;let p1:=DN l2 (show 0<=r'.2 by lia);let p2:=Lf l (show 0<q2.2 by lia)
 calc q.2*(q2.1*r'.2)=q2.1*q.2*r'.2:=by rw[<-vG,lA q.2]
  _<=q.1*q2.2*r'.2:=p1
  _=q.1*r'.2*q2.2:=by rw[Gw]
  _<r'.1*q.2*q2.2:=p2
  _=q.2*(r'.1*q2.2):=by rw[lA r'.1,vG]
end
inductive Pt:Int->List (Int×Int)->Int->List (Int×Int)->Prop
 |done {n:Int} {ps:List (Int×Int)}:(∀i:Int,0<=i->i<n->Nd n ps i)->Pt n ps n ps
 |step {n m:Int} {ps us:List (Int×Int)} (i:Int):0<=i->i<n->¬Nd n ps i->(∀j:Int,0<=j->j<i->Nd n ps j)->Pt (n-1) (fewer i ps) m us->Pt n ps m us
def Pt.det{n m m2:Int}{ps us us2:List (Int×Int)}(a:Pt n ps m us)(b:Pt n ps m2 us2):m=m2/\us=us2:=by
 induction a with
 |done h=>
  cases b with
  |done _=>show⟨rfl,rfl⟩|step i h0 h1 h2 _ _=>show absurd (h i h0 h1) h2
 |step i h0 h1 h2 h3 _ ih=>
  cases b with
  |done h=>show absurd (h i h0 h1) h2|step j g0 g1 g2 g3 g4=>
   let e:i=j:=by
    rcases Int.lt_trichotomy i j with z|z|z
    .exact absurd (g3 i h0 z) h2
    .exact z
    .exact absurd (h3 j g0 z) g2
   subst e;show ih g4
def zlM{a b a2 b2 k d:Int}(h1:a*b2<a2*b)(h2:a2*d<=k*b2)(hb:1<=b2)(hd:1<=d)(Vg:0<=b):a*d<k*b:=by
 show Pb (a:=b2) ?_ gV;let p1:=Lf h1 (show 0<d by lia);let p2:=DN h2 Vg
 calc b2*(a*d)=a*b2*d:=by rw[<-vG,lA b2 a]
  _<a2*b*d:=p1
  _=a2*d*b:=by rw[Gw]
  _<=k*b2*b:=p2
  _=b2*(k*b):=by rw[lA k b2,vG]
def Vi(k d a b:Int):Prop:=(1<=b/\2*b<=a)/\(a<k\/a=k/\b<d)
def yG(n:Int)(ps:List (Int×Int))(k d:Int):Option (Int×Int)->Prop
 |none=>∀a b hs,Vi k d a b->¬bx n a b ps hs|some r=>Vi k d r.1 r.2/\(∃hs,bx n r.1 r.2 ps hs)/\∀a b hs,Vi k d a b->bx n a b ps hs->r.1*b<=a*r.2/\(r.1*b=a*r.2->r.1<=a)
def rG:Option (Int×Int)->D
 |none=>.non|some r=>dO r.1 r.2
section
variable {n k d i:Int}{ps:List (Int×Int)}{r:Int×Int}{o:Option (Int×Int)}
def Ww{a b:Int}(h:Vi k (d+1) a b):Vi k d a b\/a=k/\b=d:=by
 unfold Vi at *
 lia
def zov{a b:Int}(h:Vi k d a b):Vi k (d+1) a b:=by
 unfold Vi at *
 lia
def zid(B:yG n ps k d o)(h:(∃r,o=some r/\r.1*d<=k*r.2)\/∀hs,¬bx n k d ps hs):yG n ps k (d+1) o:=by
 cases o with
 |none=>
  rcases h with ⟨r,e,_⟩|h
  .cases e
  .intro a b hs v;rcases Ww v with z|⟨rfl,rfl⟩
   .exact B a b hs z
   .exact h hs
 |some r=>
  let⟨v0,hh,l⟩:=B;show⟨zov v0,hh,λa b hs v g=>?_⟩;rcases Ww v with z|⟨rfl,rfl⟩
  .exact l a b hs z g
  .rcases h with ⟨r',e,h⟩|h
   .cases e;show⟨h,λ_=>by unfold Vi at v0;lia⟩
   .exact absurd g (h hs)
def ziJ{hs:List Int}(B:yG n ps k d o)(h2:1<=d/\2*d<=k)(h:∀r,o=some r->k*r.2<r.1*d)(g:bx n k d ps hs):yG n ps k (d+1) (some (k,d)):=by
 show⟨by unfold Vi;dsimp only;lia,⟨hs,g⟩,λa b N5 v g'=>?_⟩;rcases Ww v with z|⟨rfl,rfl⟩
 .cases o with
  |none=>show absurd g' (B a b N5 z)|some r=>
   let⟨v0,_,l⟩:=B;let l2:=(l a b N5 z g').1;let:=zlM (h r rfl) l2 (by unfold Vi at v0;lia) (by unfold Vi at z;lia) gV;show⟨Int.le_of_lt this,λe=>by dsimp only at e;lia⟩
 .exact⟨Aw _,λ_=>Aw _⟩
def zjd{d':Int}(B:yG n ps k d' o)(h:k<2*d'):yG n ps (k+1) 1 o:=by
 let e:∀a b:Int,Vi (k+1) 1 a b↔Vi k d' a b:=λa b=>by unfold Vi;lia
 cases o with
 |none=>show λa b hs v=>B a b hs ((e a b).mp v)|some r=>show⟨(e _ _).mpr B.1,B.2.1,λa b hs v=>B.2.2 a b hs ((e a b).mp v)⟩
def zjz(w:Web n ps)(jJ:ps≠[])(B:yG n ps (n+1) 1 o):∃r,o=some r/\Short n ps r:=by
 let vis:∀q∈gj n,(∃hs,bx n q.1 q.2 ps hs)->Vi (n+1) 1 q.1 q.2:=λq hq ⟨hs,hh⟩=>by
  let h2:=qy hq;let:¬q.1<2*q.2:=λz=>jJ (zdp h2.1 hh z);unfold Vi
  lia
 let h1:=w.h1;let h8:=w.h8;cases o with
 |none=>
  let⟨q,hq⟩:=Pa w;let⟨hs,hh⟩:=hq.sZ;show absurd hh (B _ _ hs (vis q hq.mem hq.sZ))
 |some r=>
  let⟨v0,hh,l⟩:=B;let v1:=v0;unfold Vi at v1;show⟨r,rfl,?_,hh,λk d hs hd nq g=>?_⟩
  .obtain⟨q,hq,hqk,e⟩:=zh9 (n:=n) (k:=r.1) (d:=r.2) h8 gV gV gV;let hq2:=qy hq;let⟨h,hh⟩:=hh;let hm:=U9 (k2:=q.1) (d2:=q.2) w hh gV gV gV hq2.1 gV;let:=(l _ _ _ (vis q hq ⟨_,hm⟩) hm).2 gV;let e1:q.1=r.1:=by lia
   rw[e1]at e;let e2:q.2=r.2:=(Int.eq_of_mul_eq_mul_left gV e).symm;let:q=r:=Prod.ext e1 e2;rw[<-this];show hq
  .obtain⟨q,hq,Vk,e⟩:=zbR w hd nq g;let⟨h',Ox⟩:=Vk;show Ou (l _ _ _ (vis q hq ⟨_,Ox⟩) Ox).1 e (qy hq).1 gV gV
theorem zfc(h1:1<=n):Short n [] (1,1):=⟨zgi h1,⟨_,zcO h1 J0⟩,λk d hs hd nq g=>by dsimp only;lia⟩
def Dm{ps:List (Int×Int)}:prim .eq [.tup (ps.map aZ),.tup []]=some (.dat (.bl ps.isEmpty)):=by
 cases ps with
 |nil=>rfl|cons p r=>rfl
def zbF{k':Nat}(w:Web n ps)(hn:n<=5):W (call aq T (k'+3) true 47 [.d (aK n ps)]) [] λv s=>∃r,v=.d (rD r)/\Short n ps r:=by
 let h1:=w.h1;let ew:aK n ps=.tup [.int n,.tup (ps.map aZ)]:=rfl;show W.call zoZ rfl ?_;unfold V5;ext;show cJ Dm ?_;cases eb:ps.isEmpty
 .let jJ:ps≠[]:=λe=>by rw[e]at eb;cases eb
  ext;show⟨by rw[gO gV gV,gO gV gV];rfl,?_⟩;show vd (λi J s=>s=[]/\∃(o:Option (Int×Int)) (a b c:Option Xv),yG n ps (2+(i:Int)) 1 o/\J=[some (.d (aK n ps)),some (.d (rG o)),a,b,c]) ⟨rfl,none,_,_,_,?_,rfl⟩ (λi x J s e hI=>?_) (λJ s hI=>?_)
  .intro a b hs v;unfold Vi at v
   lia
  .obtain⟨rfl,o,a,b,c,B,rfl⟩:=hI;let⟨rfl,hi⟩:=Ob e;let zX:2<=2+(i:Int):=by lia
   rw[show (2:Int)+((i+1:Nat):Int)=2+(i:Int)+1 by lia];generalize 2+(i:Int)=k at *;ext;show⟨by rw[gO gV gV,gO gV gV];rfl,?_⟩;show vd (λj J s=>s=[]/\∃(o:Option (Int×Int)) (b c:Option Xv),yG n ps k (1+(j:Int)) o/\J=[some (.d (aK n ps)),some (.d (rG o)),some (.d (.int k)),b,c]) ⟨rfl,o,_,_,by rw[show (1:Int)+((0:Nat):Int)=1 by lia];show B,rfl⟩ (λj x J s e hI=>?_) (λJ s hI=>?_)
   .obtain⟨rfl,o,b,c,B,rfl⟩:=hI;let⟨rfl,hj⟩:=Ob e;let Nf:1<=1+(j:Int):=by lia
    rw[show (1:Int)+((j+1:Nat):Int)=1+(j:Int)+1 by lia];generalize 1+(j:Int)=d at *;show Kbn ?_;show Kbl ?_;show Ka6 (λJ s=>s=[]/\∃lg:Bool,(lg=true↔∃r,o=some r/\r.1*d<=k*r.2)/\J=[some (.d (aK n ps)),some (.d (rG o)),some (.d (.int k)),some (.d (.int d)),some (.d (.bl lg))]) ?_ (λJ s hR=>?_)
    .cases o with
     |none=>
      ext;show⟨_,rfl,rfl,false,⟨λz=>(by cases z),λ⟨r,e,_⟩=>(by cases e)⟩,rfl⟩
     |some r=>
      let v:=B.1;unfold Vi at v;unfold rG dO;ext;show⟨_,rfl,rfl,_,?_,rfl⟩;rw[Gv];show⟨λz=>⟨r,rfl,z⟩,λ⟨r',e,z⟩=>by cases e;show z⟩
    let⟨rfl,lg,hlg,rfl⟩:=hR;cases lg
    .refine Y ?_;show jo rfl ((zjT (k':=k') (k:=k) (d:=d) w gV Nf (Uw gV gV) gV).imp λv s1 hv=>?_);rcases hv with ⟨rfl,kY⟩|⟨hs,rfl,hh⟩
     .refine⟨_,rfl,?_⟩;ext;show⟨_,rfl,rfl,o,_,_,zid B (.inr kY),rfl⟩
     .refine⟨_,rfl,?_⟩;ext;show⟨_,rfl,rfl,some (k,d),_,_,ziJ B ⟨Nf,by lia⟩ (λr e=>Int.not_le.mp λz=>by let:=hlg.mpr ⟨r,e,z⟩;cases this) hh,rfl⟩
    .refine Y ?_;show⟨_,rfl,rfl,o,_,_,zid B (.inl (hlg.mp rfl)),rfl⟩
   .obtain⟨rfl,o,b,c,B,rfl⟩:=hI;rw[Oc]at B;ext;show⟨_,rfl,rfl,o,_,_,_,zjd B gV,rfl⟩
  .obtain⟨rfl,o,a,b,c,B,rfl⟩:=hI;rw[Oc]at B;rw[show (2:Int)+((n+1-2).toNat:Nat)=n+1 by lia]at B;let⟨r,rfl,hS⟩:=zjz w jJ B;ext;show⟨r,rfl,hS⟩
 .let e:ps=[]:=List.isEmpty_iff.mp eb;subst e;ext;show⟨(1,1),rfl,zfc h1⟩
end
section
variable {n:Int}{ps:List (Int×Int)}{r:Int×Int}
def zgN{k' i:Nat}(w:Web n ps)(h2:2<=n)(hi:(i:Int)<n):W (call aq T (k'+1) true 48 [.d (aK n ps),.d (.int i)]) [] λv s=>v=.d (aK (n-1) (fewer i ps)):=by
 let hs:(100:Nat)<=sizeLine:=by decide
 let hl:=O8 w;show W.call zpc rfl ?_;unfold V6 aK;ext;show jM (l:=ps) (f:=aZ) (λp=>if o7 i p=true then some (aZ (tU i p)) else none) gV ?_ (λp hp=>?_) ?_
 .refine Y ?_;show⟨rfl,rfl⟩
 .obtain⟨a,b⟩:=p;let h1:=w.tie _ hp;dsimp only at h1;ext;show⟨rfl,λhb=>?_,λhb=>?_⟩
  .simp at hb;ext;show⟨rfl,_,rfl,?_⟩;rw[if_pos (by unfold o7;simp[hb])];let key:∀x:Int,x≠i->dn i x=x-(if decide (x>(i:Int))=true then 1 else 0):=λx hx=>by
    unfold dn;by_cases c:x>(i:Int)
    .rw[if_neg (show ¬x<(i:Int) by lia),if_pos (fH c)]
    .rw[if_pos (show x<(i:Int) by lia),if_neg (by rw[jw c];decide)]
     lia
   unfold tU aZ;rw[key a gV,key b gV]
  .simp at hb;rw[if_neg (by unfold o7;simp;lia)]
 .rw[Wt];ext;unfold fewer;rw[Ar];rfl
def zee{k' i:Nat}(w:Web n ps)(hn:n<=5)(hi:(i:Int)<n):W (call aq T (k'+4) true 49 [.d (aK n ps),.d (.int i)]) [] λv s=>∃b:Bool,v=.d (.bl b)/\(b=true↔Nd n ps i):=by
 let h1:=w.h1;let ew:aK n ps=.tup [.int n,.tup (ps.map aZ)]:=rfl;show W.call zpg rfl ?_;unfold V7;ext;show WS.ite (λc=>?_) (λc=>?_)
 .refine Y ?_;show⟨true,rfl,⟨λ_=>.inl (by simpa using c),λ_=>rfl⟩⟩
 .let c:n≠1:=by simpa using c
  let w1:=Gk w gV (i:=i) ⟨by lia,hi⟩;ext;show W.c0 (zgN (k':=k'+2) w gV hi) ?_;ext;show jo rfl ((zbF (k':=k') w1 gV).imp λv s1 hv=>?_);let⟨q,rfl,hQ⟩:=hv;show⟨_,rfl,?_⟩;ext;show jo rfl ((zbF (k':=k') w hn).imp λv s1 hv=>?_);let⟨r,rfl,hS⟩:=hv;show⟨_,rfl,?_⟩;let hq:=qy hQ.mem;let hr:=qy hS.mem;unfold rD dO;ext;show⟨_,rfl,?_⟩;rw[Gv];show(zib gV hS hQ).symm
def zef{k' i:Nat}(w:Web n ps)(hi:(i:Int)<n)(hS:Short n ps r):W (call aq T (k'+43) true 38 [.d (aK n ps),.d (rD r),.d (.int i)]) [] λv s=>∃b:Bool,v=.d (.bl b)/\(b=true↔Nd n ps i):=by
 let h1:=w.h1;let ew:aK n ps=.tup [.int n,.tup (ps.map aZ)]:=rfl;show W.call zph rfl ?_;unfold VP;ext;show W.ite (λc=>?_) (λc=>?_)
 .refine Y ?_;show⟨true,rfl,⟨λ_=>.inl (by simpa using c),λ_=>rfl⟩⟩
 .let c:n≠1:=by simpa using c
  let w1:=Gk w gV (i:=i) ⟨by lia,hi⟩;ext;show W.c0 (zc9 (k:=k'+35) w gV hi) ?_;ext;show jo rfl ((O5 (k':=k') w1).imp λv s1 hv=>?_);let⟨q,rfl,hF⟩:=hv;show⟨_,rfl,?_⟩;ext;show⟨_,rfl,?_⟩;rw[Wv w gV ⟨by lia,hi⟩ hS (hF.short w1)];let⟨q1,q2⟩:=q;let⟨r1,r2⟩:=r;simp
  lia
open Classical in
def Gm(n:Int)(ps:List (Int×Int)):List Int:=(List.range n.toNat).filterMap λ(j:Nat)=>if Nd n ps j then some (j:Int) else none
open Classical in
def zjo:(Gm n ps).length<=n.toNat:=by
 unfold Gm;let:=Ln (λ(j:Nat)=>if Nd n ps j then some (j:Int) else none) (List.range n.toNat);rw[lM]at this;show this
open Classical in
def zml:(List.range (n-0).toNat).filterMap (λ(j:Nat)=>if Nd n ps j then some (D.int (0+(j:Int))) else none)=(Gm n ps).map .int:=by
 unfold Gm;rw[List.map_filterMap,show n-0=n by lia]
 congr 1
 funext j
 split
 .rw[show (0:Int)+(j:Int)=j by lia];rfl
 .rfl
open Classical in
def zfT{k':Nat}(w:Web n ps):W (call aq T (k'+44) true 36 [.d (aK n ps)]) [] λv s=>v=.d (.tup ((Gm n ps).map .int)):=by
 let h1:=w.h1;let h8:=w.h8;let hs:(100:Nat)<=sizeLine:=by decide
 let ew:aK n ps=.tup [.int n,.tup (ps.map aZ)]:=rfl;show W.call zo2 rfl ?_;unfold VL;ext;show jo rfl ((O5 (k':=k'+1) w).imp λv s1 hv=>?_);let⟨r,rfl,hF⟩:=hv;show⟨_,rfl,?_⟩;ext;show jM (l:=List.range (n-0).toNat) (f:=λ(j:Nat)=>.int (0+(j:Int))) (λ(j:Nat)=>if Nd n ps j then some (D.int (0+(j:Int))) else none) (by rw[lM];lia) ?_ (λj hj=>?_) ?_
 .refine Y ?_;show⟨by rw[gO gV gV,gO gV gV];rfl,?_⟩;show⟨rfl,rfl⟩
 .let hj:=pA.mp hj;rw[show (0:Int)+(j:Int)=(j:Int) by lia];ext;show jo rfl ((zef (k':=k') (i:=j) w gV (hF.short w)).imp λv s1 hv=>?_);let⟨b,rfl,hb⟩:=hv;show⟨_,rfl,?_⟩;ext;show⟨rfl,λz=>?_,λz=>?_⟩
  .refine Y ?_;show⟨rfl,_,rfl,if_pos (hb.mp z)⟩
  .exact if_neg λy=>by rw[hb.mpr y]at z;cases z
 .rw[zml];show Y trivial
def zjq{k':Nat}(w:Web n ps):W (call aq T (k'+44) true 37 [.d (aK n ps)]) [] λv s=>∃m us,v=.d (aK m us)/\Web m us/\Pt n ps m us:=by
 let h1:=w.h1;let h8:=w.h8;let Wo:jh=1000000000000:=rfl;show W.call zo3 rfl ?_;unfold VN;ext;show jo rfl ((O5 (k':=k'+1) w).imp λv s1 hv=>?_);let⟨r,rfl,hF⟩:=hv;show⟨_,rfl,?_⟩;ext;show WS.wh (λq J s'=>∃(m:Int) (us:List (Int×Int)) (j:Nat),s'=[]/\J=[some (.d (aK m us)),some (.d (rD r)),some (.d (.int j))]/\Web m us/\Short m us r/\(j:Int)<=m/\(∀i:Int,0<=i->i<j->Nd m us i)/\(∀m' us',Pt m us m' us'->Pt n ps m' us')/\q=(2*m-j).toNat) (m:=(2*n-0).toNat) gV ⟨n,ps,0,rfl,rfl,w,hF.short w,by lia,λi a b=>by lia,λ_ _ z=>z,rfl⟩ λq J s' hI=>?_;let⟨m,us,j,rfl,rfl,wu,hS,hj,hN,hP,rfl⟩:=hI;let ew:aK m us=.tup [.int m,.tup (us.map aZ)]:=rfl;let m1:=wu.h1;ext;show⟨λc=>?_,λc=>?_⟩
 .let c:(j:Int)<m:=fG c;ext;show jo rfl ((zef (k':=k') (i:=j) wu c hS).imp λv s1 hv=>?_);let⟨b,rfl,hb⟩:=hv;show⟨_,rfl,?_⟩;cases b
  .let hz:¬Nd m us j:=λz=>by let:=hb.mpr z;cases this
   let h2:2<=m:=G3.mp λz=>hz (.inl gV);let w1:=Gk wu h2 (i:=j) ⟨by lia,c⟩;ext;show W.c0 (zc9 (k:=k'+36) wu h2 c) ?_;ext;let⟨q,hQ⟩:=Pa w1;let e:q=r:=Li λz=>hz ((Wv wu h2 ⟨by lia,c⟩ hS hQ).mpr z);subst e;show .inl ⟨_,(2*(m-1)-j).toNat,rfl,by lia,m-1,fewer j us,j,rfl,rfl,w1,hQ,by lia,λi a b=>zmH wu a ⟨b,c⟩ (hN i a b) hz,λm' us' z=>hP m' us' (.step j gV c hz hN z),rfl⟩
  .refine Y ?_;show WS.aug rfl rfl ?_;ext;show .inl ⟨_,(2*m-(j+1:Nat)).toNat,rfl,by lia,m,us,j+1,rfl,by rfl,wu,hS,by lia,λi a b=>?_,hP,rfl⟩;by_cases z:i<j
   .exact hN i a z
   .rw[show i=j by lia];show hb.mp rfl
 .let c:¬(j:Int)<m:=Lx c;ext;show⟨m,us,rfl,wu,hP m us (.done λi a b=>hN i a gV)⟩
end
open Classical in
def DK(n:Int)(ps:List (Int×Int)):List Nat:=(List.range (n-0).toNat).filter λj=>decide (¬Nd n ps j)
def Gn(n:Int)(ps:List (Int×Int)):List D:=(DK n ps).map λ(j:Nat)=>D.int (0+(j:Int))
def znw{xs:List D}:prim .ne [.fl xs,.fl []]=some (.dat (.bl (!xs.isEmpty))):=by
 cases xs with
 |nil=>rfl|cons p r=>rfl
section
variable {n:Int}{ps:List (Int×Int)}
def zkK(h:DK n ps=[])(i:Int)(h0:0<=i)(hi:i<n):Nd n ps i:=by
 classical
 let⟨j,rfl⟩:=o9 h0;let:=List.filter_eq_nil_iff.mp h j (pA.mpr gV);show Li λz=>this (fH z)
def zi7{x:Nat}{t:List Nat}(h:DK n ps=x::t):(x:Int)<n/\¬Nd n ps x/\∀j:Int,0<=j->j<x->Nd n ps j:=by
 classical
 let hx:x∈DK n ps:=by rw[h];show kO
 let⟨a,b⟩:=gB.mp hx;let a:=pA.mp a;show⟨by lia,fG b,λj j0 jx=>Li λz=>?_⟩;let⟨y,rfl⟩:=o9 j0;let hy:y∈DK n ps:=gB.mpr ⟨pA.mpr gV,fH z⟩;let hp:(DK n ps).Pairwise (·<·):=List.Pairwise.filter _ List.pairwise_lt_range;rw[h]at hy hp;rcases iG.mp hy with e|e
 .lia
 .let:=(Af.mp hp).1 y e
  lia
def zgP{k':Nat}{a c:Option Xv}{P:Xv->S->Prop}(w:Web n ps)(hn:n<=5)(h:P (.d (.fl (Gn n ps))) []):W (ev aq true (call aq T (k'+4) true) (.comp true (.v 0) [0] (.rg (Ci 0) (Ei (.v 1) (Ci 0))) [1] 1 (.yes (.not (.call 49 (Eb (.v 1) (.v 0)))))) [a,some (.d (aK n ps)),c]) [] P:=by
 classical
 let h1:=w.h1;let hs:(100:Nat)<=sizeLine:=by decide
 let ew:aK n ps=.tup [.int n,.tup (ps.map aZ)]:=rfl;show jM (l:=List.range (n-0).toNat) (f:=λ(j:Nat)=>.int (0+(j:Int))) (λ(j:Nat)=>if decide (¬Nd n ps j)=true then some (D.int (0+(j:Int))) else none) (by rw[lM];lia) ?_ (λj hj=>?_) ?_
 .refine Y ?_;show⟨by rw[gO gV gV,gO gV gV];rfl,?_⟩;show⟨rfl,rfl⟩
 .let hj:=pA.mp hj;rw[show (0:Int)+(j:Int)=(j:Int) by lia];ext;show jo rfl ((zee (k':=k') (i:=j) w hn gV).imp λv s1 hv=>?_);let⟨b,rfl,hb⟩:=hv;show⟨_,rfl,?_⟩;ext;show⟨rfl,λz=>?_,λz=>?_⟩
  .refine Y ?_;let z2:¬Nd n ps j:=λy=>by rw[hb.mpr y]at z;cases z
   show⟨rfl,_,rfl,if_pos (fH z2)⟩
  .let z2:Nd n ps j:=hb.mp (by cases b<;>simp_all);show if_neg λy=>absurd z2 (fG y)
 .rw[Wt];ext;show h
def zkw{k':Nat}(w:Web n ps)(hn:n<=5):W (call aq T (k'+5) true 51 [.d (aK n ps)]) [] λv s=>∃m us,v=.d (aK m us)/\Web m us/\Pt n ps m us:=by
 let h1:=w.h1;let Wo:jh=1000000000000:=rfl;show W.call zpB rfl ?_;unfold V9;ext;show zgP (k':=k') w hn ?_;ext;show WS.wh (λq J s'=>∃(m:Int) (us:List (Int×Int)),s'=[]/\J=[some (.d (aK n ps)),some (.d (aK m us)),some (.d (.fl (Gn m us)))]/\Web m us/\m<=5/\(∀m' us',Pt m us m' us'->Pt n ps m' us')/\q=m.toNat) (m:=n.toNat) gV ⟨n,ps,rfl,rfl,w,hn,λ_ _ z=>z,rfl⟩ λq J s' hI=>?_;let⟨m,us,rfl,rfl,wu,m5,hP,rfl⟩:=hI;let m1:=wu.h1;ext;show cJ znw ?_;cases e:DK m us with
 |nil=>
  let e2:Gn m us=[]:=by unfold Gn;rw[e];rfl
  rw[e2];ext;show⟨λc=>(by cases c),λ_=>?_⟩;ext;show⟨m,us,rfl,wu,hP m us (.done (zkK e))⟩
 |cons x t=>
  let e2:Gn m us=D.int x::t.map (λ(j:Nat)=>D.int (0+(j:Int))):=by unfold Gn;rw[e,iH,show (0:Int)+(x:Int)=x by lia]
  let⟨x1,x2,x3⟩:=zi7 e;let h2:2<=m:=G3.mp λz=>x2 (.inl gV);let w1:=Gk wu h2 (i:=x) ⟨by lia,x1⟩;rw[e2];ext;show⟨λ_=>?_,λc=>(by cases c)⟩;ext;show cJ (pG (j:=0) gV rfl) ?_;ext;show W.c0 (zgN (k':=k'+3) wu h2 x1) ?_;ext;show zgP (k':=k') w1 gV ?_;ext;show .inl ⟨_,(m-1).toNat,rfl,by lia,m-1,_,rfl,rfl,w1,by lia,λm' us' z=>hP m' us' (.step x gV x1 x2 x3 z),rfl⟩
open Classical in
def zf2{k':Nat}(w:Web n ps)(hn:n<=5):W (call aq T (k'+45) true 52 [.d (aK n ps)]) [] λv s=>v=.d (.bl true):=by
 let h1:=w.h1;let hs:(100:Nat)<=sizeLine:=by decide
 let ew:aK n ps=.tup [.int n,.tup (ps.map aZ)]:=rfl;let hl:=zjo (n:=n) (ps:=ps);show W.call zoV rfl ?_;unfold V_;ext;show jM (l:=List.range (n-0).toNat) (f:=λ(j:Nat)=>.int (0+(j:Int))) (λ(j:Nat)=>if Nd n ps j then some (D.int (0+(j:Int))) else none) (by rw[lM];lia) ?_ (λj hj=>?_) ?_
 .refine Y ?_;show⟨by rw[gO gV gV,gO gV gV];rfl,?_⟩;show⟨rfl,rfl⟩
 .let hj:=pA.mp hj;rw[show (0:Int)+(j:Int)=(j:Int) by lia];ext;show jo rfl ((zee (k':=k'+40) (i:=j) w hn gV).imp λv s1 hv=>?_);let⟨b,rfl,hb⟩:=hv;show⟨_,rfl,?_⟩;ext;show⟨rfl,λz=>?_,λz=>?_⟩
  .refine Y ?_;show⟨rfl,_,rfl,if_pos (hb.mp z)⟩
  .exact if_neg λy=>by rw[hb.mpr y]at z;cases z
 rw[zml];ext;show jo rfl ((zkw (k':=k'+39) w hn).imp λv s1 hv=>?_);let⟨m,us,rfl,wu,hP⟩:=hv;show⟨_,rfl,?_⟩;ext;show⟨rfl,?_⟩;show vd (λi J s=>s=[]/\∃a:Option Xv,J=[some (.d (aK n ps)),some (.d (.tup ((Gm n ps).map .int))),some (.d (aK m us)),a]) ⟨rfl,_,rfl⟩ (λi x J s e hI=>?_) (λJ s hI=>?_)
 .obtain⟨rfl,a,rfl⟩:=hI;ext;show W.c0 (zfT (k':=k') w) ?_;ext;show W.c0 (zgX (k':=k'+42) gV) ?_;ext;show jo rfl ((zjq (k':=k') w).imp λv s1 hv=>?_);let⟨m',us',rfl,_,hP'⟩:=hv;let⟨rfl,rfl⟩:=hP.det hP';show⟨_,rfl,?_⟩;ext;show W.c0 (zkq (k:=k'+42) (O8 wu)) ?_;ext;show⟨_,rfl,rfl,_,rfl⟩
 .obtain⟨rfl,a,rfl⟩:=hI;show Y trivial
end
def vq(ns:List Int)(hn:ns.length<=63):∃s',call aq T 60 true 53 [.d (.fl (ns.map D.int))] []=some (.ok (.d (.bl true)),s'):=by
 suffices h:W (call aq T 60 true 53 [.d (.fl (ns.map D.int))]) [] λv _=>v=.d (.bl true) by
  let⟨v,s',e,rfl⟩:=h;show⟨s',e⟩
 let hs:(1000:Nat)<=sizeLine:=by decide
 show W.call (k:=59) zps rfl ?_;unfold Wa;ext;show vd (λ_ J s=>s=[]/\∃a:Option Xv,J=[some (.d (.fl (ns.map D.int))),a,none,none]) ⟨rfl,_,rfl⟩ (λi x J s hx qC=>?_) (λJ s qC=>?_)
 .obtain⟨rfl,a,rfl⟩:=qC;obtain⟨n,ps,rfl,w,h5⟩ : ∃n ps,x=aK n ps/\Web n ps/\n<=5:=by
   let:=dZ hx;simp only[iG,List.not_mem_nil,or_false]at this;rcases this with rfl|rfl|rfl|rfl
   .exact⟨1,[],rfl,⟨by lia,by lia,by simp,by simp,by simp⟩,by lia⟩
   .exact⟨3,[],rfl,⟨by lia,by lia,by simp,by simp,by simp⟩,by lia⟩
   .exact⟨3,[(0,2)],rfl,⟨by lia,by lia,by simp,by simp,by simp⟩,by lia⟩
   .exact⟨4,[(0,1),(0,2),(1,2),(2,3)],rfl,⟨by lia,by lia,by simp,by simp[lx],by simp⟩,by lia⟩
  ext;show W.c0 (zf2 (k':=14) w h5) ?_;ext;show⟨_,rfl,rfl,_,rfl⟩
 let⟨rfl,a,rfl⟩:=qC;ext;show jo rfl ((zlm (k:=58)).imp λv _=>?_);rintro⟨n0,rfl⟩;show⟨_,rfl,?_⟩;ext;show zU (Kg ?_) ?_
 .let:=zj1 (ns:=ns) (lo:=some 1) (hi:=some 3);change 1+_<=_
  lia
 ext;show vd (λ_ J s=>∃(a b c:Option Xv),J=[some (.d (.fl (ns.map D.int))),a,b,c]) ⟨_,_,_,rfl⟩ (λi x J s hx qC=>?_) (λJ s qC=>?_)
 .obtain⟨m,rfl⟩ : ∃m,x=.int m:=by
   rcases jN.mp (dZ hx) with z|z
   .rcases iG.mp z with rfl|z
    .exact⟨_,rfl⟩
    .cases z
   .exact zkk z
  let⟨a,b,c,rfl⟩:=qC;ext;show Kam rfl ((zoM (k:=58)).imp λv s1=>?_);rintro⟨j,o,rfl,hj,hp⟩;show⟨j,o,rfl,hj,?_⟩;ext;show wg rfl ((zit (k:=58) hp (m:=7) gV gV).imp λv s1=>?_);rintro⟨_,o1,rfl,rfl,⟨r,rfl,hr0,hr1⟩,hp⟩;show⟨_,_,rfl,rfl,?_⟩;let⟨r,rfl⟩:=o9 hr0;ext;let⟨z,ez,hz1,hz2⟩:=La (xs:=[1,2,3,4,5,4,5]) (r:=r) (B:=5) J0 (by change r<7;lia);show cJ ez ?_;ext;show wg rfl ((zg3 (k:=57) hp (n:=z) hz1 gV).imp λv s1=>?_);rintro⟨ps,o2,rfl,rfl,hw,hp⟩;show⟨_,_,rfl,rfl,?_⟩;ext;show W.c0 (zf2 (k':=14) hw hz2) ?_;ext;show⟨_,rfl,_,_,_,rfl⟩
 .obtain⟨a,b,c,rfl⟩:=qC;show Y trivial
end dR
end Lake
open Lake
open PySem PySem.W PyProof.Rows
set_option maxRecDepth 100000 in
set_option maxHeartbeats 0 in
theorem PySem.Challenge.cw_ringhues_k61_needed_places_holds : PySem.Challenge.rw_ringhues_k61_needed_places.Holds := by
 refine PySem.W.holds_law dR.ws λsaid=>?_;refine holds_open (q:=dR.qv) (loose:=dR.loose) (Xt:=λs=>xlAt dR.qv [] s&&recOk [] s) (XP:=XL dR.qv []) (Yf:=(Mi.jd dR.fs dR.ms dR.xs dR.lk dR.bd).obs) (Ya:=(Mi.jd dR.fs dR.ms dR.xs dR.lk dR.bd).val) (YP:=(Mi.jd dR.fs dR.ms dR.xs dR.lk dR.bd).says) (N:=20000) dR.left (Mi.jd dR.fs dR.ms dR.xs dR.lk dR.bd).of (Mi.jd dR.fs dR.ms dR.xs dR.lk dR.bd).keeps (λs e=>xl_of s (Bool.and_eq_true_iff.mp e).1) XL.keeps (by rfl) (by rfl) (by rfl) (λs e=>recFacts_of (Bool.and_eq_true_iff.mp e).2) (by rfl) (by first|assumption|decide +kernel) dR.wc ⟨rfl,rfl,rfl,rfl,rfl,dR.wt⟩ ?hw ?hc
 case hw=>w_witness2
 case hc=>exact Mi.Du (l:=PySem.Challenge.rw_ringhues_k61_needed_places) (x:="_law_script") (k:=60) rfl rfl ⟨by decide,by decide,rfl⟩ (λw K mg fa h S LH X G Ds=>dR.all_mk dR.vq S LH X G Ds)
