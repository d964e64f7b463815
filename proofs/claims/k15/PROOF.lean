import PyProof.Rows.All
import Wide.All
import KE.KIsAll
import KE.KSortTup
import KE.KRevIter
import KE.KTryDeep
import KE.KDictOf
import KE.KFromBytes
import KE.KIntText
import Wide.FinOn
import PySem.Challenge.RW_ringhues_k15_whole_hues_or_papers
set_option compiler.extract_closed false
set_option Elab.async false
set_option linter.all false
set_option maxRecDepth 100000
set_option maxHeartbeats 4000000
set_option hygiene false
open Lean in
def cv:Nat->Syntax->MacroM (TSyntax `rcasesPat)
 |n+1,s=>match s with
  |`(⟨$xs,*⟩)=>do
   let p<-xs.getElems.mapM λx=>do `(Parser.Tactic.rcasesPatLo|$(<-cv n x):rcasesPat)
   `(rcasesPat|⟨$p,*⟩)
  |`(_)=>`(rcasesPat|_)
  |`($i:ident)=>`(rcasesPat|$i:ident)
  |_=>Macro.throwUnsupported
 |_,_=>Macro.throwUnsupported
local macro_rules(kind:=Lean.Parser.Tactic.tacticLet__)
 |s=>do
  let d:=s[2][0]
  if d.isOfKind `Lean.Parser.Term.letPatDecl then `(tactic|obtain $(<-cv 9 d[0]):rcasesPat:=$(⟨d[4]⟩)) else return s.setKind `Lean.Parser.Tactic.tacticHave__
local macro_rules|`(tactic|show $t)=>`(tactic|refine $t)
local macro_rules|`(tactic|ext)=>`(tactic|refine Y ?_)
local macro_rules(kind:=Lean.Parser.Command.declaration)
 |s=>do
  let d:=s[1]
  if !d.isOfKind `Lean.Parser.Command.definition||s[0].getArgs.any (·.getNumArgs>0) then Lean.Macro.throwUnsupported
  if d[3][1].isOfKind `Lean.Parser.Term.byTactic then return s.setArg 1 (.node .none `Lean.Parser.Command.theorem #[Lean.mkAtom "theorem",d[1],.node .none `Lean.Parser.Command.declSig #[d[2][0],d[2][1][0]],d[3]])
  let m<-`(command|noncomputable def a:=0)
  return s.setArg 0 m.raw[0]
namespace Lake
theorem gV{p:Prop}(h:p:=by lia):p:=h
theorem Dc{p:Prop}(h:p:=by decide +kernel):p:=h
theorem J0{p:Prop}(h:p:=by decide):p:=h
theorem R3{p:Prop}(h:p:=by simp):p:=h
abbrev aC:=@PySem.wpAny_bind
abbrev cB:=@List.getElem?_eq_getElem
abbrev cJ:=@List.getElem?_eq_some_iff
abbrev cR:=@PySem.Heap.get?_push_of_some
abbrev bN:=@List.length_map
abbrev aQ:=@PySem.wpAny_pure
abbrev dG:=@List.mem_of_getElem?
abbrev cT:=@List.all_eq_true
abbrev cP:=@Option.some.inj
abbrev dH:=@List.getElem?_map
abbrev cQ:=@decide_eq_true
abbrev fB:=@PySem.Heap.get?_push_size
abbrev bZ:=@PySem.Heap.lt_size
abbrev bQ:=@Nat.le_refl
abbrev iI:=@Option.map_eq_some_iff
abbrev jL:=@List.getD_eq_getElem?_getD
abbrev eE:=@List.length_cons
abbrev iJ:=@List.mem_cons_of_mem
abbrev gj:=@List.size_toArray
abbrev fH:=@Bool.and_eq_true
abbrev gP:=@of_decide_eq_true
abbrev nG:=@List.getElem?_append_right
abbrev jk:=@List.length_append
abbrev jm:=@Nat.lt_of_lt_of_le
abbrev dN:=@Nat.ne_of_lt
abbrev iU:=@Int.toNat_natCast
abbrev nH:=@List.getElem?_append_left
abbrev jM:=@List.mem_singleton
abbrev lF:=@List.getElem?_set_ne
abbrev iK:=@decide_eq_false
abbrev nj:=@List.mem_append_right
abbrev qm:=@List.getElem?_eq_none_iff
abbrev lG:=@List.mem_cons_self
abbrev lH:=@List.length_range
abbrev jN:=@List.mem_filter
abbrev iV:=@List.map_cons
abbrev qp:=@List.getElem?_set_self
abbrev jo:=@List.mem_cons
abbrev pH:=@List.getElem_of_mem
abbrev mj:=@List.mem_append
abbrev jz:=@Nat.le_trans
abbrev tQ:=@List.getElem?_replicate
abbrev v7:=@PyProof.Rows.callWith_type1
abbrev j9:=@List.mem_map
abbrev iM:=@PySem.wpAny_mono
abbrev pI:=@List.lookup_cons
abbrev pq:=@List.length_set
abbrev pJ:=@List.map_append
abbrev v8:=@Option.bind_eq_some_iff
abbrev v9:=@Int.eq_ofNat_of_zero_le
abbrev rD:=@List.length_take
abbrev DK:=@PyProof.Rows.slot_tuple_getitem
abbrev tR:=@List.mem_filterMap
abbrev tU:=@PySem.wpAny_newObj_type
abbrev tV:=@decide_eq_true_eq
abbrev vD:=@Bool.false_eq_true
abbrev yq:=@List.getElem?_eq_none
abbrev rE:=@PySem.wpAny_seqItems
abbrev tW:=@decide_eq_decide
abbrev vG:=@PySem.wpAny_truthy_bool
abbrev Ab:=@PySem.wpAny_callSpecial?_slot
abbrev vH:=@Nat.lt_succ_of_lt
abbrev Ac:=@List.getElem?_cons_succ
abbrev yr:=@Nat.mul_le_mul_right
abbrev wg:=@List.zip_cons_cons
abbrev rF:=@Nat.lt_irrefl
abbrev yt:=@Array.length_toList
abbrev pA:=@PySem.wpAny_field
abbrev yu:=@List.getElem?_range
abbrev Ad:=@List.length_replicate
abbrev DN:=@List.length_filterMap_le
abbrev wj:=@List.pairwise_map
abbrev vI:=@List.append_nil
abbrev yw:=@Bool.false_ne_true
abbrev vJ:=@List.length_nil
abbrev yx:=@decide_eq_true_iff
abbrev wu:=@List.take_length
abbrev wz:=@List.getElem_mem
abbrev Ae:=@beq_eq_false_iff_ne
abbrev yC:=@List.append_assoc
abbrev yD:=@List.flatMap_cons
abbrev vK:=@List.mem_range
abbrev vL:=@PySem.Heap.size_push
abbrev Af:=@PySem.wpAny_loadPart'
abbrev yE:=@List.length_drop
abbrev yF:=@PySem.wpAny_call_entry
abbrev DP:=@PySem.Around.under_plainId
abbrev vM:=@PySem.wpAny_holding
abbrev vN:=@PySem.wpAny_standAt
abbrev tX:=@List.map_map
abbrev sW:=@Nat.zero_le
abbrev DQ:=@List.filterMap_cons
abbrev yG:=@List.nodup_cons
abbrev DR:=@PySem.mem_of_lookup
abbrev DW:=@List.replicate_succ
abbrev GJ:=@PySem.Heap.get?_update_other
abbrev GK:=@List.pairwise_lt_range
abbrev K9:=@PySem.F.slot_tuple_iterator_next
abbrev rG:=@beq_iff_eq
abbrev Ag:=@beq_self_eq_true
abbrev Ah:=@PySem.F.plain_min_loop
abbrev nq:=@congrArg
abbrev DX:=@PySem.wpAny_Call_Name_kw
abbrev DY:=@PySem.wpAny_setField_rec
abbrev wA:=@List.all_cons
abbrev D_:=@List.pairwise_cons
abbrev GP:=@List.length_filter_le
abbrev Ed:=@Int.emod_lt_of_pos
abbrev GQ:=@List.countP_le_length
abbrev GR:=@PySem.Heap.get?_none_of_le
abbrev Ai:=@PySem.wpAny_passesOwn
abbrev K_:=@PySem.AutoSeq1.wpAny_loadPart'
abbrev Aj:=@Int.emod_nonneg
abbrev wB:=@Nat.le_of_lt
abbrev wC:=@Nat.ne_of_gt
abbrev vO:=@PySem.sizeLine_eq
abbrev Ef:=@PySem.wpAny_forIn_list
abbrev Eh:=@List.countP_cons
abbrev Ej:=@List.filter_cons
abbrev Ak:=@List.take_succ
abbrev GX:=@List.getElem_range
abbrev La:=@PySem.Heap.get?_update_self
abbrev Ek:=@List.forIn_cons
abbrev El:=@PySem.codeAny_builtin
abbrev Lb:=@List.filterMap_append
abbrev yH:=@Nat.succ_mul
abbrev qu:=@if_false
abbrev GZ:=@Nat.lt_trichotomy
abbrev Em:=@List.nodup_nil
abbrev O8:=@List.pairwise_iff_getElem
abbrev En:=@Nat.mul_le_mul
abbrev G3:=@Nat.lt_succ_self
abbrev G4:=@Nat.le_of_not_lt
abbrev yI:=@PySem.wpAny_of_eq
abbrev Al:=@PySem.codeAny_mono
abbrev O9:=@PySem.AutoSeq1.sub_tuple_tuple
abbrev O_:=@PySem.F.args_tuple_add_2
abbrev Pa:=@PySem.wpAny_comprehension_free
abbrev G5:=@Nat.not_lt_zero
abbrev Ld:=@List.zip_nil_right
abbrev Pb:=@PySem.F.entry_tuple_add
abbrev G6:=@Bool.eq_iff_iff
abbrev Ep:=@PySem.plainId_quiet
abbrev G7:=@Option.map_some
abbrev G8:=@PySem.wpAny_ite_false
abbrev zs1:=@PySem.wpAny_pyIter_rangeiter
abbrev zs2:=@PySem.W.cellsFrom_some
abbrev Pg:=@PySem.richCompare_meets_room
abbrev Pj:=@PySem.F.slot_tuple_add
abbrev Pk:=@List.range_succ_eq_map
abbrev Le:=@Bool.eq_false_iff
abbrev yJ:=@PySem.wpAny_rule
abbrev Lf:=@List.zip_nil_left
abbrev Lg:=@PySem.Heap.get?_push_ne
abbrev Am:=@PySem.wpAny_letGo
abbrev Lh:=@PySem.wpAny_pyIter_list
abbrev Li:=@List.nodup_append
abbrev Lj:=@List.ext_getElem?
abbrev Er:=@List.all_map
abbrev Pn:=@PySem.F.slot_range_reversed
abbrev Pq:=@Int.emod_add_mul_ediv
abbrev Ln:=@PySem.wpAny_isInstance
abbrev Lp:=@PySem.F.slot_tuple_mul
abbrev Pu:=@Bool.and_eq_true_iff
abbrev Px:=@List.mem_append_left
abbrev Py:=@PySem.wpAny_updateSeq_pair
abbrev Pz:=@PySem.W.plainGet_of
abbrev Lq:=@PySem.F.slot_zip_next
abbrev Lr:=@PySem.wpAny_specialOf
abbrev PB:=@List.length_reverse
abbrev Ls:=@Nat.min_eq_left
abbrev Lw:=@List.foldl_cons
abbrev PJ:=@List.filter_eq_self
abbrev G9:=@Nat.zero_add
abbrev PK:=@PySem.W.callWith_K
abbrev PL:=@Array.forIn_toList
abbrev PN:=@List.length_mapIdx
abbrev PX:=@of_decide_eq_false
abbrev Lx:=@List.forIn_nil
abbrev Et:=@PySem.call_meets
abbrev Eu:=@Nat.not_lt
abbrev P0:=@List.getElem?_inj
abbrev P_:=@List.flatten_cons
abbrev Qa:=@List.map_inj_left
abbrev Qc:=@List.filter_congr
abbrev Ly:=@Bool.true_and
namespace L2
open PySem PySem.Spec PyProof.Rows PySem.W
def subIn(K:W.Frag)(C D:Addr):Bool:=PySem.W.ktsIn K C "BaseException"&&PySem.W.ktsIn K D "BaseException"&&match K.lookup C with
 |some ⟨_,_,.cls cd,_⟩=>cd.mro.contains (.ref D)|_=>false
def G_:List Value:=[.type "ValueError",.type "Exception",.type "BaseException",.type "object"]
def tY:List Value->Bool
 |.ref _::r=>tY r|l=>l==G_
def tyN:Value->Option String
 |.type n=>some n|_=>none
def Qd:Value->Option Addr
 |.ref a=>some a|_=>none
def Qe:Value->Option String
 |.builtin n=>some n|_=>none
def wD:Data->Option ClassData
 |.cls cd=>some cd|_=>none
def hdV:List Value->Option (Value×List Value)
 |[]=>none|v::r=>some (v,r)
def Hg(K:Frag)(C:Addr)(bmB:List Value)(newId:String)(ini:Option Value):Bool:=(K.lookup C).any λo=>tyN o.cls==some "type"&&(wD o.data).any λcd=>(hdV cd.mro).any λp=>
 Qd p.1==some C&&o.slots.size==6&&(o.slots[4]?.join).bind Qe==some newId && !cd.hasDel&&tailIn K bmB p.2&&nsOkIn K cd.ns&&nsIn K cd.ns "__init__"==some ini
def tZ(K:Frag)(C fI:Addr):Bool:=Hg K C G_ "ValueError.__new__" (some (.ref fI))
def aY(s:Stmt):Arguments:=match s with
 |.FunctionDef _ a _ _ _ _ _ _ _ _=>a|_=>{posonlyargs:=[],args:=[],vararg:=none,kwonlyargs:=[],kw_defaults:=[],kwarg:=none,defaults:=[]}
def aK(s:Stmt):List Stmt:=match s with
 |.FunctionDef _ _ b _ _ _ _ _ _ _=>b|_=>[]
def aB(s:Stmt):Scope:=match s with
 |.FunctionDef _ _ _ _ _ _ sc _ _ _=>sc|_=>{kind:=.function,names:=[],isGenerator:=false,isCoroutine:=false}
end L2
namespace Mi
open PySem PySem.Spec PyProof.Rows L2 PySem.W
def Lz(n c:Nat):Nat:=if c<n then c else 0
def Hj(n c e:Nat):Bool:=Lz n e==0||Lz n c==Lz n e
def iW(L:List Addr)(c:Nat):Addr:=L.getD (Lz L.length c) 0
def xcB(K:W.Frag)(C:Addr):Bool:=
 PySem.W.findIn K (.ref C) "__getattribute__"==some (some (.builtin "BaseException.__getattribute__"))&&PySem.W.findIn K (.ref C) "__getattr__"==some none&&PySem.W.findIn K (.ref C) "__class__"==some (some (.builtin "object.__class__")) &&
 PySem.W.mroIn K C (.type "BaseException")==some true&&PySem.W.mroIn K C (.type "object")==some true&&(PySem.W.clsIn K C).isSome &&
 PySem.W.specialIn K (.builtin "object.__class__") "__get__"==some (some (.builtin "getset_descriptor.__get__"))&&PySem.W.takesIn K (.builtin "object.__class__")==some true
def yK(K:W.Frag)(L:List Addr):Bool:=(List.range L.length).all λc=>xcB K (L.getD c 0)&&PySem.W.kitOne K (.ref (L.getD c 0)) (.type "ValueError")==some true &&
 (List.range L.length).all λe=>PySem.W.kitOne K (.ref (L.getD c 0)) (.ref (L.getD e 0))==some (Hj L.length c e)
def subB(K:W.Frag)(L:List Addr)(d:Nat):Bool:=(List.range L.length).all λc=>!(Hj L.length c d)||L2.subIn K (L.getD c 0) (iW L d)
def nJ(fd:FuncData):FuncData:={fd with kwdefaults:=.none,doc:=.none,pyModule:=.none,annotations:=none,code:=.none,closureTuple:=.none}
def vP(x:Str)(st:Stmt):FuncData:=fnOf x x (aY st) (aK st) (aB st) .none .none .none .none none .none .none
def Ao(K:Frag)(x:Str):Option (Addr×FuncData):=match nsIn K mainGlobals x with
 |some (some (.ref f))=>(match K.lookup f with
  |some ⟨_,_,.func fd,_⟩=>(match codeIn K fd.code x&&keepIn K (.ref f) with
   |true=>some (f,fd)|false=>none)
  |_=>none)
 |_=>none
def dU(K:Frag)(x:Str):Addr:=match nsIn K mainGlobals x with
 |some (some (.ref C))=>C|_=>0
def t_(K:Frag)(x:Str):Bool:=match nsIn K mainGlobals x with
 |some (some (.ref _))=>true|_=>false
def mz(K:Frag)(p:Str×Int):Bool:=match nsIn K mainGlobals p.1 with
 |some (some (.int i _))=>decide (i=p.2)|_=>false
def mC(K:Frag)(p:Str×Str):Bool:=match nsIn K mainGlobals p.1 with
 |some (some (.str x _))=>decide (x=p.2)|_=>false
def qw(K:Frag)(x:Str):Bool:=match nsIn K mainGlobals x with
 |some none=>true|_=>false
def Hl(K:Frag)(C:Addr):Bool:=Hg K C [.type "ValueError",.type "Exception",.type "BaseException",.type "object"] "ValueError.__new__" none
structure Lk where
 Ho:List Str
 yL:List (Str×Int)
 W0:List Str
 W2:List Nat
 W3:List Nat
 W4:List (Str×Str)
def Lk.L(l:Lk)(K:Frag):List Addr:=l.Ho.map (dU K)
def Lk.good(l:Lk)(K:Frag):Bool:=
 l.Ho.all (t_ K)&&(l.Ho.isEmpty||yK K (l.L K))&&l.W2.all (λk=>Hl K (iW (l.L K) k))&&l.W3.all (λk=>subB K (l.L K) k)&&l.yL.all (mz K)&&l.W0.all (qw K)&&l.W4.all (mC K)
def qx(h:Heap):List Addr->Frag
 |[]=>[]|a::r=>match h.get? a with
  |some o=>(a,o)::qx h r|none=>qx h r
def eN(s:Stmt):List Stmt:=match s with
 |.ClassDef _ _ _ b _ _ _ _ _ _ _=>b|_=>[]
def Aq(q:Str)(st:Stmt):FuncData:=fnOf "__init__" q (aY st) (aK st) (aB st) .none .none .none .none none .none .none
def Hq(K:Frag)(C:Addr):Option FuncData:=match clsIn K C with
 |some cd=>(match nsIn K cd.ns "__init__" with
  |some (some (.ref f))=>(match K.lookup f with
   |some ⟨.type "function",_,.func fd,_⟩=>(match codeIn K fd.code fd.qualname&&tZ K C f&&tY cd.mro&&cd.hasDict with
    |true=>some fd|false=>none)
   |_=>none)
  |_=>none)
 |none=>none
def setB(K:Frag)(C:Addr)(fs:List Str):Bool:=findIn K (.ref C) "__setattr__"==some (some (.builtin "object.__setattr__"))&&fs.all (λf=>findIn K (.ref C) f==some none)
def LC(K:Frag)(C:Addr)(f:Str):Bool:=findIn K (.ref C) "__getattribute__"==some (some (.builtin "BaseException.__getattribute__"))&&findIn K (.ref C) "__getattr__"==some none&&mroIn K C (.type "BaseException")==some true&&findIn K (.ref C) f==some none&&hasDictIn K C
structure uc where
 c:Nat
 q:Str
 st:Stmt
 fs:List Str
def Hr:Nat->List Obj->Frag
 |_,[]=>[]|i,o::r=>match o.isFreed with
  |true=>Hr (i+1) r|false=>(i,o)::Hr (i+1) r
def bR(h:Heap):Frag:=qx h [mainGlobals]++(Hr 0 h.objs.toList).reverse
def mD(fs:List (Str×Stmt))(ms:List uc)(xs:List (Nat×Str))(l:Lk)(s:Shared):List (Option FuncData)×List (Option FuncData)×Bool:=
 (fs.map (λp=>(Ao (bR s.heap) p.1).map (λq=>nJ q.2)),ms.map (λm=>(Hq (bR s.heap) (iW (l.L (bR s.heap)) m.c)).map nJ),
  l.good (bR s.heap)&&ms.all (λm=>setB (bR s.heap) (iW (l.L (bR s.heap)) m.c) m.fs)&&xs.all (λx=>LC (bR s.heap) (iW (l.L (bR s.heap)) x.1) x.2))
def nM(fs:List (Str×Stmt))(ms:List uc)(w:World):List (Option FuncData)×List (Option FuncData)×Bool:=(fs.map (λp=>some (vP p.1 p.2)),ms.map (λm=>some (Aq m.q m.st)),true)
def LQ(fs:List (Str×Stmt))(s:Shared):List (Option FuncData):=fs.map (λp=>(Ao (bR s.heap) p.1).map (λq=>nJ q.2))
def W5(ms:List uc)(xs:List (Nat×Str))(l:Lk)(s:Shared):List (Option FuncData)×Bool:=(ms.map (λm=>(Hq (bR s.heap) (iW (l.L (bR s.heap)) m.c)).map nJ),
  l.good (bR s.heap)&&ms.all (λm=>setB (bR s.heap) (iW (l.L (bR s.heap)) m.c) m.fs)&&xs.all (λx=>LC (bR s.heap) (iW (l.L (bR s.heap)) x.1) x.2))
def zfJ{p q:Program}{loose:List Str}{Xt:Shared->Bool}{N:Nat}{fs1 rH:List (Str×Stmt)}{ms:List uc}{xs:List (Nat×Str)}{l:Lk}
  (a:∀w,(openEnds treeTable p w N).map (λs=>openSeen q loose (importedModules p.main.body) Xt true s)=some (openGood q loose))
  (b1:∀w,(openEnds treeTable p w N).map (LQ fs1)=some (fs1.map λp=>some (vP p.1 p.2)))
  (b2:∀w,(openEnds treeTable p w N).map (LQ rH)=some (rH.map λp=>some (vP p.1 p.2)))
  (c:∀w,(openEnds treeTable p w N).map (W5 ms xs l)=some (ms.map (λm=>some (Aq m.q m.st)),true)):LeftO p q loose Xt (mD (fs1++rH) ms xs l) (nM (fs1++rH) ms) N:=by
 intro w;let a:=a w;let b1:=b1 w;let b2:=b2 w;let c:=c w;cases e:openEnds treeTable p w N with
 |none=>rw[e]at a;cases a|some s=>
  rw[e]at a b1 b2 c;let a:openSeen q loose (importedModules p.main.body) Xt true s=openGood q loose:=cP a;let b1:=cP b1;let b2:=cP b2;let c:=cP c;let c1:=nq Prod.fst c;let c2:=nq Prod.snd c;change some (_,mD (fs1++rH) ms xs l s)=_;rw[a];let:mD (fs1++rH) ms xs l s=nM (fs1++rH) ms w:=by
   unfold mD nM;rw[pJ,pJ];let b1:List.map _ fs1=List.map _ fs1:=b1;let b2:List.map _ rH=List.map _ rH:=b2;rw[b1,b2];show Prod.ext rfl (Prod.ext c1 c2)
  rw[this]
inductive Tr where
 |em
 |lv (o:Obj)
 |nd (l r:Tr)
def Tr.lf(t:Tr):Tr:=Tr.rec (motive:=λ_=>Tr) .em (λ_=>.em) (λl _ _ _=>l) t
def Tr.rt(t:Tr):Tr:=Tr.rec (motive:=λ_=>Tr) .em (λ_=>.em) (λ_ r _ _=>r) t
def Tr.get(d:Nat):Tr->Nat->Option Obj:=Nat.rec (motive:=λ_=>Tr->Nat->Option Obj) (λt _=>Tr.rec (motive:=λ_=>Option Obj) none (λo=>some o) (λ_ _ _ _=>none) t)
 (λ_ f t a=>cond (Nat.beq (Nat.mod a 2) 0) (f t.lf (Nat.div a 2)) (f t.rt (Nat.div a 2))) d
def Tr.put(d:Nat):Tr->Nat->Obj->Tr:=Nat.rec (motive:=λ_=>Tr->Nat->Obj->Tr) (λ_ _ o=>.lv o)
 (λ_ f t a o=>cond (Nat.beq (Nat.mod a 2) 0) (.nd (f t.lf (Nat.div a 2) o) t.rt) (.nd t.lf (f t.rt (Nat.div a 2) o))) d
def Qf(a:Nat):(Nat.beq (a%2) 0=true/\a%2=0)\/(Nat.beq (a%2) 0=false/\a%2=1):=by
 rcases(show a%2=0\/a%2=1 by lia) with e|e<;>rw[e]
 .exact .inl ⟨rfl,rfl⟩
 .exact .inr ⟨rfl,rfl⟩
theorem Qg(o:Obj):∀(d:Nat) (t:Tr) (a:Nat),Tr.get d (Tr.put d t a o) a=some o
 |0,_,_=>rfl|d+1,t,a=>by
  let ih:=Qg o d;change cond (Nat.beq (a%2) 0) (Tr.get d (Tr.lf (cond (Nat.beq (a%2) 0) _ _)) (a/2)) (Tr.get d (Tr.rt (cond (Nat.beq (a%2) 0) _ _)) (a/2))=_;rcases Qf a with ⟨e,_⟩|⟨e,_⟩<;>rw[e]
  .exact ih t.lf (a/2)
  .exact ih t.rt (a/2)
theorem Qh(o:Obj):∀(d:Nat) (t:Tr) (a b:Nat),a<2^d->b<2^d->a≠b->Tr.get d (Tr.put d t a o) b=Tr.get d t b
 |0,_,a,b,h1,h2,h=>by lia|d+1,t,a,b,h1,h2,h=>by
  let ih:=Qh o d;change cond (Nat.beq (b%2) 0) (Tr.get d (Tr.lf (cond (Nat.beq (a%2) 0) _ _)) (b/2)) (Tr.get d (Tr.rt (cond (Nat.beq (a%2) 0) _ _)) (b/2))=cond (Nat.beq (b%2) 0) _ _;rw[Nat.pow_succ]at h1 h2;rcases Qf a with ⟨e,x⟩|⟨e,x⟩<;>rw[e]<;>rcases Qf b with ⟨f,y⟩|⟨f,y⟩<;>rw[f]
  .exact ih t.lf (a/2) (b/2) gV gV gV
  .rfl
  .rfl
  .exact ih t.rt (a/2) (b/2) gV gV gV
def ali(o:Option Obj):Option Obj:=match o with
 |some ⟨_,_,.freed,_⟩=>none|o=>o
def pK(t:Tr)(z a:Nat):Option Obj:=cond (Nat.ble (Nat.succ a) z) (ali (t.get 12 a)) none
structure Rl(t:Tr)(z:Nat)(h:Heap):Prop where
 sz:h.objs.size=z
 le:z<=4096
 at_:∀a,a<z->t.get 12 a=h.objs[a]?
def Rl.get{t:Tr}{z:Nat}{h:Heap}(r:Rl t z h)(a:Nat):pK t z a=h.get? a:=by
 unfold pK Heap.get?;by_cases e:a<z
 .rw[show Nat.ble (Nat.succ a) z=true from Nat.ble_eq.mpr e,r.at_ a e];rfl
 .rw[show Nat.ble (Nat.succ a) z=false from Le.mpr λx=>e (Nat.ble_eq.mp x)];let:h.objs[a]?=none:=by simp only[Array.getElem?_eq_none_iff,r.sz];lia
  rw[this];rfl
def Rl.push{t:Tr}{z:Nat}{h:Heap}(r:Rl t z h)(o:Obj)(hz:z<4096):Rl (t.put 12 z o) (z+1) (h.push o):=by
 let⟨objs,l⟩:=h;let⟨sz,le,at_⟩:=r;dsimp only at sz at_;show⟨by change (objs.push o).size=_;rw[Array.size_push,sz],hz,λa ha=>?_⟩;change _=(objs.push o)[a]?;by_cases e:a=z
 .subst e;rw[Qg,Array.getElem?_push,if_pos sz.symm]
 .rw[Qh o 12 t z a hz (by change a<4096;lia) (Ne.symm e),at_ a gV,Array.getElem?_push,if_neg gV]
def Rl.upd{t:Tr}{z:Nat}{h:Heap}(r:Rl t z h){a:Nat}{o:Obj}{f:Obj->Obj}(ho:h.get? a=some o):Rl (t.put 12 a (f o)) z (h.update a f):=by
 let ha:h.objs[a]?=some o:=(Heap.get?_some_iff.mp ho).1;let⟨objs,l⟩:=h;let⟨sz,le,at_⟩:=r;dsimp only at sz at_ ha;let hl:a<objs.size:=(Array.getElem?_eq_some_iff.mp ha).1;show⟨by change (objs.modify a f).size=_;rw[Array.size_modify,sz],le,λb hb=>?_⟩;change _=(objs.modify a f)[b]?;rw[Array.getElem?_modify];by_cases e:a=b
 .subst e;rw[Qg,if_pos rfl,ha];rfl
 .rw[Qh _ 12 t a b (by change a<4096;lia) (by change b<4096;lia) e,at_ b hb,if_neg e]
inductive Hop where
 |ld (a:Addr) (k:Obj->Sem Fin)
 |la (a:Addr) (k:Option Obj->Sem Fin)
 |up (a:Addr) (f:Obj->Obj) (k:Unit->Sem Fin)
 |al (o:Obj) (k:Addr->Sem Fin)
 |st
 |no
def Ar:Sem Fin->Hop
 |.load a _ k=>.ld a k|.loadIfAlive a k=>.la a k|.update a _ f k=>.up a f k|.alloc o k=>.al o k|.pure _=>.st|.at ..=>.st|.rule ..=>.st|.ask _=>.st|.fresh _=>.st|.point ..=>.st|.stack _=>.st|.call ..=>.st|_=>.no
def zir{den:Code->Sem Fin}{p:Program}{w:World}{h:Heap}{s s':Shared}{t t':Thread}(hn:Ar t.cur=.st)(e:step den p w s t=.go s' t'):step den p w {s with heap:=h} t=.go {s' with heap:=h} t':=by
 let⟨cur,code,pos,stack⟩:=t;cases cur with
 |pure a=>
  cases a with
  |again c=>cases e;rfl|done f=>
   cases stack with
   |nil=>
    let e:(if leftWithCleanup s.gens=true then Step.halt _ _ else Step.halt _ _)=.go s' t':=e;split at e<;>cases e
   |cons r l=>cases r<;>cases e<;>rfl
 |«at»=>cases e;rfl|rule=>cases e;rfl|ask=>cases e;rfl|fresh=>cases e;rfl|point=>cases e;rfl|stack=>cases e;rfl|call=>cases e;rfl|_=>cases hn
def znd{c:Sem Fin}{a:Addr}{k:Obj->Sem Fin}(h:Ar c=.ld a k):∃q,c=.load a q k:=by
 cases c<;>cases h;show⟨_,rfl⟩
def zm9{c:Sem Fin}{a:Addr}{k:Option Obj->Sem Fin}(h:Ar c=.la a k):c=.loadIfAlive a k:=by
 cases c<;>cases h;rfl
def zld{c:Sem Fin}{a:Addr}{f:Obj->Obj}{k:Unit->Sem Fin}(h:Ar c=.up a f k):∃q,c=.update a q f k:=by
 cases c<;>cases h;show⟨_,rfl⟩
def zlX{c:Sem Fin}{o:Obj}{k:Addr->Sem Fin}(h:Ar c=.al o k):c=.alloc o k:=by
 cases c<;>cases h;rfl
def nO(tb:String->Option Builtin)(p:Program)(w:World)(n₀:Nat)(ann:Option Value):Nat->Tr->Nat->Shared->Thread->Option (Tr×Nat×Shared)
 |0,_,_,_,_=>none|m+1,t,z,s,th=>match through th with
  |true=>some (t,z,s)|false=>match stepOk n₀ ann th with
   |false=>none|true=>match Ar th.cur with
    |.ld a k=>(match pK t z a with
     |some o=>nO tb p w n₀ ann m t z s ⟨k o,th.code,th.pos,th.stack⟩|none=>none)
    |.la a k=>nO tb p w n₀ ann m t z s ⟨k (pK t z a),th.code,th.pos,th.stack⟩|.up a f k=>(match pK t z a with
     |some o=>nO tb p w n₀ ann m (t.put 12 a (f o)) z s ⟨k (),th.code,th.pos,th.stack⟩|none=>none)
    |.al o k=>(match Nat.succ z with
     |0=>none|n+1=>match Nat.ble n 4095 with
      |true=>nO tb p w n₀ ann m (t.put 12 n o) (n+1) s ⟨k n,th.code,th.pos,th.stack⟩|false=>none)
    |.st=>(match step (denote tb) p w s th with
     |.go s' t'=>nO tb p w n₀ ann m t z s' t'|.halt _ _=>none)
    |.no=>none
def zjR{tb:String->Option Builtin}{p:Program}{w:World}{n₀:Nat}{ann:Option Value}:∀(m:Nat) {t t':Tr} {z z':Nat} {s s':Shared} {th:Thread} {h:Heap},Rl t z h->nO tb p w n₀ ann m t z s th=some (t',z',s')->
  ∃h',Rl t' z' h'/\h'.life=h.life/\topRun tb p w n₀ ann m {s with heap:=h} th=some {s' with heap:=h'}:=by
 intro m
 induction m with
 |zero=>intro t t' z z' s s' th h r e;cases e|succ m ih=>
  intro t t' z z' s s' th h r e;unfold nO at e;unfold topRun;cases ht:through th with
  |true=>
   rw[ht]at e;cases e;show⟨h,r,rfl,rfl⟩
  |false=>
   rw[ht]at e;cases hk:stepOk n₀ ann th with
   |false=>rw[hk]at e;cases e|true=>
    rw[hk]at e;dsimp only at e ⊢;cases ho:Ar th.cur with
    |no=>rw[ho]at e;cases e|st=>
     rw[ho]at e;cases hs:step (denote tb) p w s th with
     |halt _ _=>rw[hs]at e;cases e|go s1 t1=>
      rw[hs]at e;rw[zir (h:=h) ho hs];show ih r e
    |ld a k=>
     rw[ho]at e;dsimp only at e;cases hg:pK t z a with
     |none=>rw[hg]at e;cases e|some o=>
      rw[hg]at e;rw[r.get]at hg;let⟨cur,code,pos,stack⟩:=th;let⟨q,rfl⟩:=znd ho;simp only[step,hg];show ih r e
    |la a k=>
     rw[ho]at e;let⟨cur,code,pos,stack⟩:=th;obtain rfl:=zm9 ho;let⟨h',a1,b,c⟩:=ih r e;rw[r.get]at c;show⟨h',a1,b,c⟩
    |up a f k=>
     rw[ho]at e;dsimp only at e;cases hg:pK t z a with
     |none=>rw[hg]at e;cases e|some o=>
      rw[hg]at e;rw[r.get]at hg;let⟨cur,code,pos,stack⟩:=th;let⟨q,rfl⟩:=zld ho;let⟨h',a1,b,c⟩:=ih (r.upd hg) e;show⟨h',a1,b.trans (by cases h;rfl),?_⟩;simp only[step,hg];show c
    |al o k=>
     rw[ho]at e;cases hb:Nat.ble z 4095 with
     |false=>dsimp only at e;rw[hb]at e;cases e|true=>
      dsimp only at e;rw[hb]at e;let⟨cur,code,pos,stack⟩:=th;obtain rfl:=zlX ho;let⟨h',a1,b,c⟩:=ih (r.push o (by let:=Nat.ble_eq.mp hb;lia)) e;show⟨h',a1,b.trans (by cases h;rfl),?_⟩;simp only[step,r.sz];show c
def lst(g:Nat->Option Obj):Nat->Nat->List Obj
 |0,_=>[]|n+1,i=>match g i with
  |some o=>o::lst g n (i+1)|none=>[]
theorem W6{g:Nat->Option Obj}:∀{l:List Obj} {i:Nat},(∀j,j<l.length->g (i+j)=l[j]?)->lst g l.length i=l
 |[],_,_=>rfl|o::l,i,h=>by
  let h0:=h 0 (Nat.zero_lt_succ _);change (match g i with|some o=>o::lst g l.length (i+1)|none=>[])=_;rw[show g i=some o from h0,W6 (l:=l) λj hj=>by rw[show i+1+j=i+(j+1) by lia];show h (j+1) (Nat.succ_lt_succ hj)]
def yM(t:Tr)(z:Nat)(l:Life):Heap:=⟨⟨lst (t.get 12) z 0⟩,l⟩
def Rl.yM{t:Tr}{z:Nat}{h:Heap}(r:Rl t z h):yM t z h.life=h:=by
 let⟨⟨objs⟩,l⟩:=h;let sz:objs.length=z:=r.sz;subst sz;unfold Mi.yM;rw[W6 λj hj=>by rw[G9];show(r.at_ j hj).trans R3]
def LR:List Obj->Nat->Tr->Tr
 |[],_,t=>t|o::r,i,t=>LR r (i+1) (t.put 12 i o)
theorem W7{l:Life}:∀{r a:List Obj} {t:Tr},(a++r).length<=4096->Rl t a.length ⟨⟨a⟩,l⟩->Rl (LR r a.length t) (a++r).length ⟨⟨a++r⟩,l⟩
 |[],a,t,_,h=>by rw[vI];show h|o::r,a,t,hl,h=>by
  let h2:=h.push o (by rw[jk,eE]at hl;lia);let e:a++o::r=(a++[o])++r:=by simp
  rw[e]at hl ⊢;let h3:=W7 (l:=l) (r:=r) (a:=a++[o]) (t:=t.put 12 a.length o) hl (by
   rw[jk];let e2:(⟨⟨a++[o]⟩,l⟩ : Heap)=Heap.push ⟨⟨a⟩,l⟩ o:=by unfold Heap.push;simp
   rw[e2];show h2)
  rw[jk]at h3;show h3
def ud(p:Program)(w:World)(N:Nat):Option Shared:=(fencedOpening treeTable p w N).bind λs₀=>match s₀.heap.isNs mainGlobals&&s₀.gens.size==0&&Nat.ble s₀.heap.objs.size 4096 with
 |true=>(nO treeTable p w s₀.heap.objs.size (s₀.heap.nsMap mainGlobals "__annotations__") N (LR s₀.heap.objs.toList 0 .em) s₀.heap.objs.size s₀ (topStub p)).bind λr=>
  match staticsOk (importedModules p.main.body) s₀.heap (yM r.1 r.2.1 s₀.heap.life)&&namesBound p (yM r.1 r.2.1 s₀.heap.life)&&gensDone r.2.2&&laidKept s₀.heap (yM r.1 r.2.1 s₀.heap.life) with
   |true=>some {r.2.2 with heap:=yM r.1 r.2.1 s₀.heap.life}
   |false=>none
 |false=>none
def zh6{p:Program}{w:World}{N:Nat}{s:Shared}(e:ud p w N=some s):openEnds treeTable p w N=some s:=by
 unfold ud at e;unfold openEnds;let⟨s₀,h0,e⟩:=v8.mp e;rw[h0];change topFrom treeTable p w N s₀=some s;unfold topFrom;cases hb:(s₀.heap.isNs mainGlobals&&s₀.gens.size==0&&Nat.ble s₀.heap.objs.size 4096) with
 |false=>rw[hb]at e;cases e|true=>
  rw[hb]at e;let⟨h1,h2⟩:=Pu.mp hb;rw[h1];let⟨⟨t,z,s₁⟩,h3,e⟩:=v8.mp e;let r0:Rl (LR s₀.heap.objs.toList 0 .em) s₀.heap.objs.size s₀.heap:=W7 (l:=s₀.heap.life) (r:=s₀.heap.objs.toList) (a:=[]) (t:=.em) (Nat.ble_eq.mp h2) ⟨rfl,sW _,λa ha=>absurd ha (G5 a)⟩;let⟨h',r,l,c⟩:=zjR N r0 h3;dsimp only at e ⊢;rw[show ({s₀ with heap:=s₀.heap}:Shared)=s₀ from rfl]at c;rw[c];rw[<-l,r.yM]at e;show e
def fe{p:Program}{w:World}{N:Nat}{α:Type}{f:Shared->α}{v:α}(e:(ud p w N).map f=some v):(openEnds treeTable p w N).map f=some v:=by
 let⟨s,h,e⟩:=iI.mp e;rw[zh6 h,<-e];rfl
structure Bd where
 n:Str
 fs:List Str
 ms:List (Str×Str×Stmt)
def lJ(K:Frag)(C:Addr)(m:Str):Option (Addr×FuncData):=match findIn K (.ref C) m with
 |some (some (.ref f))=>(match K.lookup f with
  |some ⟨_,_,.func fd,_⟩=>(match codeIn K fd.code fd.qualname&&keepIn K (.ref f)&&isFn K (.ref f) with
   |true=>some (f,fd)|false=>none)
  |_=>none)
 |_=>none
def Ew(m q:Str)(st:Stmt):FuncData:=fnOf m q (aY st) (aK st) (aB st) .none .none .none .none none .none .none
def yN(K:Frag)(b:Bd):Bool:=t_ K b.n&&plainGet K (dU K b.n) Str.empty&&hasDictIn K (dU K b.n)&&plainOver K (dU K b.n)&&findIn K (.ref (dU K b.n)) "__setattr__"==some (some (.builtin "object.__setattr__"))&&makesIn K (dU K b.n)&&keepIn K (.ref (dU K b.n))&&b.fs.all (λf=>findIn K (.ref (dU K b.n)) f==some none)
def Av(b:Bd)(s:Shared):List (Option FuncData)×Bool:=(b.ms.map λp=>(lJ (bR s.heap) (dU (bR s.heap) b.n) p.1).map λq=>nJ q.2,yN (bR s.heap) b)
def Aw(b:Bd):List (Option FuncData)×Bool:=(b.ms.map λp=>some (Ew p.1 p.2.1 p.2.2),true)
def zjS{p q:Program}{loose:List Str}{Xt:Shared->Bool}{N:Nat}{fs:List (Str×Stmt)}{ms:List uc}{xs:List (Nat×Str)}{l:Lk}{b:Bd}(h:LeftO p q loose Xt (mD fs ms xs l) (nM fs ms) N)(e:∀w,(openEnds treeTable p w N).map (Av b)=some (Aw b)) :
  LeftO p q loose Xt (λs=>(mD fs ms xs l s,Av b s)) (λw=>(nM fs ms w,Aw b)) N:=by
 intro w;let h:=h w;let e:=e w;cases z:openEnds treeTable p w N with
 |none=>rw[z]at e;cases e|some s=>
  rw[z]at h e;let e:Av b s=Aw b:=cP e;let h:=cP h;let h1:=nq Prod.fst h;let h2:=nq Prod.snd h;change some (_,_,_)=some (_,_,_);rw[e];show nq some (Prod.ext h1 (Prod.ext h2 rfl))
end Mi
namespace dZ
open PySem PySem.Spec PyProof.Rows PySem.W L2 Mi
def top(i:Nat):Stmt:=PySem.Challenge.pw_ringhues_k15_whole_hues_or_papers.main.body.getD i (.Pass ⟨0,0,0,0⟩)
def Ey:Stmt:=(eN (top 21)).getD 0 (.Pass ⟨0,0,0,0⟩)
def Hs:Stmt:=(eN (top 21)).getD 1 (.Pass ⟨0,0,0,0⟩)
def Ht:Stmt:=(eN (top 21)).getD 2 (.Pass ⟨0,0,0,0⟩)
def Hu:Stmt:=(eN (top 21)).getD 3 (.Pass ⟨0,0,0,0⟩)
def Hv:Stmt:=(eN (top 21)).getD 4 (.Pass ⟨0,0,0,0⟩)
def Hw:Stmt:=(eN (top 21)).getD 5 (.Pass ⟨0,0,0,0⟩)
def Hx:Stmt:=(eN (top 21)).getD 6 (.Pass ⟨0,0,0,0⟩)
def bd:Bd:=⟨"Board",["ends","spots","apart","alike"],[("__init__","Board.__init__",Ey),("far_apart","Board.far_apart",Hs),("settled","Board.settled",Ht),("ties_left","Board.ties_left",Hu),("bound","Board.bound",Hv),("narrowest","Board.narrowest",Hw),("all_free","Board.all_free",Hx)]⟩
def fs1:List (Str×Stmt):=("is_whole",top 7)::("is_within",top 8)::("is_row",top 9)::("check_most",top 10)::("is_web",top 13)::("is_many",top 14)::("is_place",top 15)::("is_tie",top 16)::("check_web",top 17)::("tied_to",top 18)::("all_ends",top 19)::("ring_board",top 22)::("is_ring",top 25)::("is_spot",top 26)::("check_ring",top 27)::("gap_of",top 28)::("hues_hold",top 30)::("are_spots",top 31)::("are_hues",top 32)::("check_hues",top 33)::("clash_of",top 34)::("first_hues",top 36)::("next_hues",top 37)::("first_known",top 38)::("are_known",top 39)::[]
def rH:List (Str×Stmt):=("check_known",top 40)::("first_among",top 41)::("first_spot",top 42)::("can_settle",top 43)::("search",top 44)::("hues_many",top 48)::("fixed_many",top 49)::("check_few",top 50)::("fixed_rows",top 51)::("is_free",top 52)::("none_holds",top 56)::("none_for",top 57)::("paper_holds",top 58)::("case_holds",top 59)::("is_stuck",top 60)::("paper_of",top 61)::("case_of",top 62)::("_law_cell",top 64)::("_law_pen",top 65)::("_law_draw",top 66)::("_law_web",top 67)::("_law_known",top 68)::("_law_row_right",top 69)::("_law_paper_right",top 70)::("law",top 71)::[]
noncomputable abbrev fs:List (Str×Stmt):=fs1++rH
def lk:Lk:=⟨[],[("MOST_PLACES",8),("MOST_SPOTS",24),("FEW_PLACES",6),("FEW_SPOTS",8)],["abs","all","bool","divmod","enumerate","int","isinstance","len","list","max","min","range","reversed","sorted","tuple","zip"],[],[],[("END","end"),("CASE","case")]⟩
def ms:List uc:=[]
def xs:List (Nat×Str):=[]
noncomputable abbrev pv:Program:=PySem.Challenge.pw_ringhues_k15_whole_hues_or_papers
def qv:Program:={pv with main:={pv.main with body:=[pv.main.body.getD 71 (.Pass ⟨0,0,0,0⟩)]}}
def loose:List Str:=(["HueError","NoRing","NoHues","NoWeb","TooGreat","is_whole","is_within","is_row","check_most","MOST_PLACES","is_web","is_many","is_place","is_tie","check_web","tied_to","all_ends","Board","ring_board","MOST_SPOTS","is_ring","is_spot","check_ring","gap_of","hues_hold","are_spots","are_hues","check_hues","clash_of","first_hues","next_hues","first_known","are_known","check_known","first_among","first_spot","can_settle","search","FEW_PLACES","FEW_SPOTS","hues_many","fixed_many","check_few","fixed_rows","is_free","END","CASE","none_holds","none_for","paper_holds","case_holds","is_stuck","paper_of","case_of","_law_cell","_law_pen","_law_draw","_law_web","_law_known","_law_row_right","_law_paper_right"]:List String).map Str.ofString
def zmn(w:World):(openEnds treeTable pv w 20000).map (λs=>openSeen qv loose (importedModules pv.main.body) (λs=>xlAt qv [] s&&recOk [] s) true s)=some (openGood qv loose):=by
 show fe ?_
 kernel_rfl
def zmS(w:World):(openEnds treeTable pv w 20000).map (LQ fs1)=some (fs1.map λp=>some (vP p.1 p.2)):=by
 show fe ?_
 kernel_rfl
def znz(w:World):(openEnds treeTable pv w 20000).map (LQ rH)=some (rH.map λp=>some (vP p.1 p.2)):=by
 show fe ?_
 kernel_rfl
def zmz(w:World):(openEnds treeTable pv w 20000).map (W5 ms xs lk)=some (ms.map (λm=>some (Aq m.q m.st)),true):=by
 show fe ?_
 kernel_rfl
def ws:PySem.Challenge.rw_ringhues_k15_whole_hues_or_papers.wellSaid=true:=by
 kernel_rfl
def wt:PySem.Challenge.rw_ringhues_k15_whole_hues_or_papers.row.prog.tablesWhole=true:=by
 decide +kernel
def wc:(chainsOk qv&&opensWell PySem.Challenge.rw_ringhues_k15_whole_hues_or_papers.row.prog&&(frees PySem.Challenge.rw_ringhues_k15_whole_hues_or_papers.row.toRowW&&PySem.Challenge.rw_ringhues_k15_whole_hues_or_papers.row.within.isEmpty))=true:=by
 decide +kernel
def zmt(w:World):(openEnds treeTable pv w 20000).map (Av bd)=some (Aw bd):=by
 show fe ?_
 kernel_rfl
theorem left:LeftO pv qv loose (λs=>xlAt qv [] s&&recOk [] s) (λs=>(mD fs ms xs lk s,Av bd s)) (λw=>(nM fs ms w,Aw bd)) 20000:=zjS (zfJ zmn zmS znz zmz) zmt
end dZ
namespace L2
open PySem PySem.Spec PyProof.Rows
def eO{α:Sort u}{β:Sort v}{A B C:α->β->Prop}{P:Prop}(h:∃x y,A x y/\B x y/\C x y)(k:∀x y,A x y->B x y->C x y->P):P:=by
 let⟨x,y,a,b,c⟩:=h;show k x y a b c
def Qi{α:Sort u}{β:Sort v}{γ:Sort w}{A B:α->β->Prop}{C D:α->β->γ->Prop}{P:Prop}(h:∃x y,A x y/\B x y/\∃z,C x y z/\D x y z)(k:∀x y,A x y->B x y->∀z,C x y z->D x y z->P):P:=by
 let⟨x,y,a,b,z,c,d⟩:=h;show k x y a b z c d
def vQ{α:Sort u}{A B:α->Prop}{P:Prop}(h:∃x,A x/\B x)(k:∀x,A x->B x->P):P:=by
 let⟨x,a,b⟩:=h;show k x a b
noncomputable abbrev Key:=Sum Int Str
def yO:Key->Value->Bool
 |.inl k,v=>Value.isInt k v|.inr x,v=>Value.isStrOf x v
def Qj(w:World):Key->Int
 |.inl k=>hashInt k|.inr x=>hashStr w x
theorem wF:∀{k:Key} {v:Value},yO k v=true->(∃i t,k=Sum.inl i/\v=Value.int i t)\/(∃x t,k=Sum.inr x/\v=Value.str x t)
 |.inl i,v,h=>by
  let⟨t,e⟩:=Value.isInt_shape (k:=i) (v:=v) h;show .inl ⟨i,t,rfl,e⟩
 |.inr x,v,h=>by
  let⟨t,e⟩:=Value.isStrOf_shape (x:=x) (v:=v) h;show .inr ⟨x,t,rfl,e⟩
def zle(a b:Int):decide ((Sum.inl a:Key)=Sum.inl b)=(a==b):=by
 by_cases e:a=b
 .subst e;simp
 .let h:¬(Sum.inl a:Key)=Sum.inl b:=λq=>e (Sum.inl.inj q);rw[iK h];show(Ae.mpr e).symm
def znb(a b:Str):decide ((Sum.inr a:Key)=Sum.inr b)=decide (a=b):=by
 by_cases e:a=b
 .subst e;simp
 .let h:¬(Sum.inr a:Key)=Sum.inr b:=λq=>e (Sum.inr.inj q);rw[iK h,iK e]
theorem zli(a:Int)(b:Str):decide ((Sum.inl a:Key)=Sum.inr b)=false:=iK (λq=>nomatch q)
theorem zlq(a:Str)(b:Int):decide ((Sum.inr a:Key)=Sum.inl b)=false:=iK (λq=>nomatch q)
def mF(prog:Program)(w:World):PySem.KeyKind prog w Key where
 is:=yO
 hash:=Qj w
 inj:=λv a b ha hb=>by
  rcases wF ha with ⟨i,t,rfl,rfl⟩|⟨x,t,rfl,rfl⟩
  .rcases wF hb with ⟨j,u,rfl,e⟩|⟨y,u,rfl,e⟩
   .injection e with e1 _;rw[e1]
   .exact nomatch e
  .rcases wF hb with ⟨j,u,rfl,e⟩|⟨y,u,rfl,e⟩
   .exact nomatch e
   .injection e with e1 _;rw[e1]
 byValue:=λk v h=>by
  rcases wF h with ⟨i,t,rfl,rfl⟩|⟨x,t,rfl,rfl⟩<;>rfl
 pyHash:=λhv h=>by
  rcases wF hv with ⟨i,t,rfl,rfl⟩|⟨x,t,rfl,rfl⟩
  .exact wpAny_pyHash_int h
  .exact wpAny_pyHash_str h
 eqBool:=λhu hv h=>by
  rcases wF hu with ⟨i,t,rfl,rfl⟩|⟨x,t,rfl,rfl⟩
  .rcases wF hv with ⟨j,u,rfl,rfl⟩|⟨y,u,rfl,rfl⟩
   .rw[zle]at h;show wpAny_eqBool_int h
   .rw[zli]at h;show SeqAt.EqAt.int_str i t y u _ _ _ _ h
  .rcases wF hv with ⟨j,u,rfl,rfl⟩|⟨y,u,rfl,rfl⟩
   .rw[zlq]at h;show SeqAt.EqAt.str_int x t j u _ _ _ _ h
   .rw[znb]at h;show wpAny_eqBool_str h
 «strs»:=λk x t v h=>by
  rcases wF h with ⟨i,u,rfl,e⟩|⟨y,u,rfl,e⟩
  .exact nomatch e
  .injection e with e1 _;subst e1;cases v<;>rfl
inductive V where
 |non|bl (b:Bool)|int (i:Int)|str (x:Str)|Ax (b:Array UInt8)|flt (b:UInt64)|ref (a:Addr)|ty (n:String)
 deriving DecidableEq
def RelV:V->Value->Prop
 |.non,u=>u=Value.none|.bl b,u=>u=Value.bool b|.int i,u=>∃t,u=Value.int i t|.str x,u=>∃t,u=Value.str x t|.Ax b,u=>∃t,u=Value.bytes b t|.flt b,u=>∃t,u=Value.float b t|.ref a,u=>u=Value.ref a|.ty n,u=>u=Value.type n
noncomputable abbrev Vals:List V->List Value->Prop:=Paired RelV
theorem Vals.length{xs:List V}{us:List Value}(r:Vals xs us):xs.length=us.length:=Paired.length r
theorem Vals.get:∀{xs:List V} {us:List Value} {i:Nat} {x:V},Vals xs us->xs[i]?=some x->∃u,us[i]?=some u/\RelV x u
 |_,_,_,_,.nil,e=>by simp at e|_,_,0,_,.cons r _,e=>by simp at e;subst e;show⟨_,rfl,r⟩|_,_,i+1,x,.cons _ t,e=>by
  let⟨u,h1,h2⟩:=Vals.get (i:=i) (x:=x) t (by simpa using e);show⟨u,by simpa using h1,h2⟩
theorem Vals.set{x:V}{u:Value}(r:RelV x u):∀{xs:List V} {us:List Value} (i:Nat),Vals xs us->Vals (xs.set i x) (us.set i u)
 |_,_,_,.nil=>.nil|_,_,0,.cons _ t=>.cons r t|_,_,i+1,.cons q t=>.cons q (Vals.set r i t)
def Vals.append{xs ys:List V}{us ws:List Value}(h:Vals xs us)(s:Vals ys ws):Vals (xs++ys) (us++ws):=by
 induction h with
 |nil=>show s|cons r _ ih=>show .cons r ih
theorem Vals.take:∀{xs:List V} {us:List Value} (n:Nat),Vals xs us->Vals (xs.take n) (us.take n)
 |_,_,0,_=>.nil|_,_,_+1,.nil=>.nil|_,_,n+1,.cons r t=>.cons r (Vals.take n t)
theorem Vals.drop:∀{xs:List V} {us:List Value} (n:Nat),Vals xs us->Vals (xs.drop n) (us.drop n)
 |_,_,0,r=>r|_,_,_+1,.nil=>.nil|_,_,n+1,.cons _ t=>Vals.drop n t
def rJ:Option V->Option Value->Prop
 |some v,some u=>RelV v u|none,none=>True|_,_=>False
def KV{κ:Type}:List (κ×V)->List (κ×Value)->Prop:=Paired λ(p:κ×V) (q:κ×Value)=>p.1=q.1/\RelV p.2 q.2
def kV:Key->V
 |.inl i=>.int i|.inr x=>.str x
inductive HO where
 |lst (xs:List V)
 |tup (xs:List V)
 |dK (kvs:List (Key×V))|dT (kvs:List (List Key×V))
 |set (S:Int->Bool) (n:Nat)
 |ins (C dx:Addr) (fs:List (Str×V))
 |own (x:Addr)
 |xd (fs:List (Str×V))
 |met (f x:Addr)
 |rng (lo hi:Int)
 |vR (o:Obj) (u:HO)
 |Ay (ps:Array Value)
 |ext (U:Heap->Prop)
noncomputable abbrev Hp:=Addr->Option HO
def upd(H:Hp)(a:Addr)(o:HO):Hp:=λb=>if b=a then some o else H b
def jE{H:Hp}{a:Addr}{o:HO}:upd H a o a=some o:=by unfold upd;rw[if_pos rfl]
def dj{H:Hp}{a b:Addr}{o:HO}(h:b≠a):upd H a o b=H b:=by unfold upd;rw[if_neg h]
def W8{H:Hp}{a:Addr}{o u:HO}:upd (upd H a o) a u=upd H a u:=by
 funext b;unfold upd;split<;>rfl
def Ez{H:Hp}{a b:Addr}{o:HO}(h:H a=some o)(h':H b=none):a≠b:=by
 intro e;subst e;rw[h]at h';cases h'
def jO(h:Heap)(a:Addr)(items:Array Value):Prop:=∃o,h.get? a=some o/\o.cls=.type "tuple"/\∃n,o.data=.seq items n/\o.dict=none
def jO.tup{h:Heap}{a:Addr}{items:Array Value}(x:jO h a items):IsTup h a items:=by
 let⟨o,h1,h2,n,h3,_⟩:=x;show⟨o,h1,h2,n,h3⟩
theorem jO.lt{h:Heap}{a:Addr}{items:Array Value}(x:jO h a items):a<h.objs.size:=x.tup.lt
theorem jO.new(h:Heap)(xs:Array Value):jO (h.push {cls:=.type "tuple",data:=.seq xs}) h.objs.size xs:=⟨_,fB h rfl,rfl,_,rfl,rfl⟩
section
variable (P:Program)(w:World)
def bT(H:Hp)(h:Heap)(a:Addr):HO->Prop
 |.lst xs=>xs.length<=sizeLine/\∃(its:List Value) (n:Nat),Vals xs its/\h.get? a=some {cls:=.type "list",data:=.seq its.toArray n}|.tup xs=>xs.length<=sizeLine/\∃its:List Value,Vals xs its/\jO h a its.toArray|.dK kvs=>kvs.length<=sizeLine/\(a==sysModules)=false/\∃vs,KV kvs vs/\h.DictOf (mF P w) a vs|.dT kvs=>kvs.length<=sizeLine/\(a==sysModules)=false/\∃xs:List (List Key×Addr×Value),
   Paired (λ(p:List Key×V) (q:List Key×Addr×Value)=>p.1=q.1/\H q.2.1=some (.tup (p.1.map kV))/\RelV p.2 q.2.2) kvs xs /\
   ∃o es ep,h.get? a=some o/\o.ExactDict/\o.data=.dict es ep/\es.toList=xs.map (entryOfKey (tupleKind (mF P w)))/\(xs.map (·.1)).Nodup
 |.set S n=>h.SetOf (intKind P w) a S n|.ins C dx fs=>H dx=some (.own a)/\fs.length<=1000/\dx≠a/\h.get? a=some (PySem.W.instObj C dx) /\
   ∃mA,h.Ns1 dx mA/\(∀f,rJ (fs.lookup f) (mA f))/\PySem.Within mA (fs.map (·.1))
 |.own _=>∃o,h.get? a=some o|.xd fs=>∃mA,h.Ns1 a mA/\∀f,rJ (fs.lookup f) (mA f)|.rng lo hi=>∃t u v,h.get? a=some {cls:=.type "range",data:=.fields #[.int lo t,.int hi u,.int 1 v]}|.vR o u=>h.get? a=some o/\bT H h a u|.Ay ps=>h.get? a=some {cls:=.none,data:=.fields ps}|.met f x=>h.get? a=some (PySem.W.methodObj (.ref f) (.ref x))|.ext U=>U h/\(∃o,h.get? a=some o)/\∀h1 h2:Heap,U h1->(∀o,h1.get? a=some o->h2.get? a=some o)->U h2
def jF(H:Hp)(h:Heap):Prop:=∀a o,H a=some o->bT P w H h a o
end
section
variable {P:Program}{w:World}{H H':Hp}{h h':Heap}{a:Addr}{o:HO}
def bT.lt(x:bT P w H h a o):a<h.objs.size:=by
 cases o with
 |lst xs=>let⟨_,_,_,_,e⟩:=x;show bZ e|tup xs=>let⟨_,_,_,p⟩:=x;show p.lt|dK kvs=>let⟨_,_,_,_,o,_,_,e,_⟩:=x;show bZ e|dT kvs=>let⟨_,_,_,_,o,_,_,e,_⟩:=x;show bZ e|set S n=>let⟨o,_,_,_,e,_⟩:=x;show bZ e|ins C dx fs=>let⟨_,_,_,e,_⟩:=x;show bZ e|own y=>let⟨_,e⟩:=x;show bZ e|xd fs=>let⟨_,⟨_,_,_,e,_⟩,_⟩:=x;show bZ e|rng lo hi=>let⟨_,_,_,e⟩:=x;show bZ e|vR ob u=>let⟨e,_⟩:=x;show bZ e|Ay ps=>show bZ (show h.get? a=some _ from x)|met f y=>show bZ (show h.get? a=some _ from x)|ext U=>let⟨_,⟨_,e⟩,_⟩:=x;show bZ e
theorem W9{α β:Type}{F G:α->β->Prop}:∀{l₁:List α} {l₂:List β},Paired F l₁ l₂->(∀a b,F a b->G a b)->Paired G l₁ l₂
 |_,_,.nil,_=>.nil|_,_,.cons r t,f=>.cons (f _ _ r) (W9 t f)
def bT.stay(x:bT P w H h a o)(k:∀b u,(b=a\/H b=some (.own a))->h.get? b=some u->h'.get? b=some u)
  (ho:∀b,H b=some (.own a)->H' b=some (.own a)) (ht:∀b xs,H b=some (.tup xs)->H' b=some (.tup xs)):bT P w H' h' a o:=by
 induction o with
 |lst xs=>let⟨z,its,n,r,e⟩:=x;show⟨z,its,n,r,k _ _ (.inl rfl) e⟩|tup xs=>let⟨z,its,r,ob,e,c⟩:=x;show⟨z,its,r,ob,k _ _ (.inl rfl) e,c⟩|dK kvs=>let⟨z,y,vs,r,ob,es,ep,e,c⟩:=x;show⟨z,y,vs,r,ob,es,ep,k _ _ (.inl rfl) e,c⟩|dT kvs=>
  let⟨z,y,xs,r,ob,es,ep,e,c⟩:=x;show⟨z,y,xs,W9 r λp q z=>⟨z.1,ht _ _ z.2.1,z.2.2⟩,ob,es,ep,k _ _ (.inl rfl) e,c⟩
 |set S n=>let⟨ob,es,ep,t,e,c⟩:=x;show⟨ob,es,ep,t,k _ _ (.inl rfl) e,c⟩|ins C dx fs=>
  let⟨d,z,ne,e,mA,⟨od,es,ep,e2,c⟩,r⟩:=x;show⟨ho _ d,z,ne,k _ _ (.inl rfl) e,mA,⟨od,es,ep,k _ _ (.inr d) e2,c⟩,r⟩
 |own y=>let⟨ob,e⟩:=x;show⟨ob,k _ _ (.inl rfl) e⟩|xd fs=>let⟨mA,⟨od,es,ep,e,c⟩,r⟩:=x;show⟨mA,⟨od,es,ep,k _ _ (.inl rfl) e,c⟩,r⟩|rng lo hi=>let⟨t,u,v,e⟩:=x;show⟨t,u,v,k _ _ (.inl rfl) e⟩|vR ob u ih=>let⟨e,q⟩:=x;show⟨k _ _ (.inl rfl) e,ih q⟩|Ay ps=>
  let e:h.get? a=some {cls:=.none,data:=.fields ps}:=x;change h'.get? a=some {cls:=.none,data:=.fields ps};show k a _ (.inl rfl) e
 |met f y=>
  let e:h.get? a=some (PySem.W.methodObj (.ref f) (.ref y)):=x;change h'.get? a=some (PySem.W.methodObj (.ref f) (.ref y));show k a _ (.inl rfl) e
 |ext U=>let⟨p,⟨o,e⟩,st⟩:=x;show⟨st _ _ p λo q=>k _ _ (.inl rfl) q,⟨o,k _ _ (.inl rfl) e⟩,st⟩
theorem jF.lt(x:jF P w H h)(e:H a=some o):a<h.objs.size:=(x a o e).lt
def jF.fresh(x:jF P w H h)(e:h.objs.size<=a):H a=none:=by
 cases q:H a with
 |none=>rfl|some u=>show absurd (jm (x.lt q) e) (rF _)
theorem jF.kept(x:jF P w H h)(k:∀b u,h.get? b=some u->h'.get? b=some u):jF P w H h':=λa o e=>
 (x a o e).stay (λb u _ q=>k b u q) (λ_ q=>q) λ_ _ q=>q
theorem jF.laid(x:jF P w H h)(k:∀b u,h.get? b=some u->h'.get? b=some u)(hp:h.objs.size<=a)(new:bT P w (upd H a o) h' a o):jF P w (upd H a o) h':=λb u e=>by
 let hn:=x.fresh hp;by_cases hb:b=a
 .subst hb;rw[jE]at e;cases e;show new
 .rw[dj hb]at e;show(x b u e).stay (λc v _ q=>k c v q) (λc q=>by rw[dj (Ez q hn)];show q) λc xs q=>by rw[dj (Ez q hn)];show q
end
def Rd(H:Hp)(a:Addr)(u:HO):Prop:=H a=some u\/∃o,H a=some (.vR o u)
def Rd.ok{P:Program}{w:World}{H:Hp}{h:Heap}{a:Addr}{u:HO}(r:Rd H a u)(x:jF P w H h):bT P w H h a u:=by
 rcases r with r|⟨o,r⟩
 .exact x a u r
 .obtain⟨_,q⟩:=x a _ r;show q
def Hy:Option HO->Prop
 |some (.lst _)=>True|some (.dK _)=>True|some (.dT _)=>True|some (.set _ _)=>True|some (.ins _ _ _)=>True|some (.ext _)=>True|_=>False
section
variable {P:Program}{w:World}{H:Hp}{h h':Heap}{x e:Addr}{o':HO}
theorem jF.write(ok:jF P w H h)(mu:Hy (H x))(he:e=x\/H e=some (.own x))(k:∀b u,b≠e->h.get? b=some u->h'.get? b=some u)(EY:∃u,h'.get? e=some u)
  (new:bT P w (upd H x o') h' x o'):jF P w (upd H x o') h':=λb u q=>by
 let Hz:∀c y,H c=some (.own y)->c≠x:=λc y r z=>by subst z;rw[r]at mu;show mu
 let Qk:∀c xs,H c=some (.tup xs)->c≠x:=λc xs r z=>by subst z;rw[r]at mu;show mu
 by_cases hb:b=x
 .subst hb;rw[jE]at q;cases q;show new
 .rw[dj hb]at q;by_cases Az:b=e
  .let q':H b=some (.own x):=by
    rcases he with z|z
    .exact absurd (Az.trans z) hb
    .rw[Az];show z
   rw[q]at q';cases q';let⟨v,hv⟩:=EY;show⟨v,by rw[Az];show hv⟩
  .refine(ok b u q).stay (λc v hc r=>k c v ?_ r) (λc r=>by rw[dj (Hz c b r)];show r) λc xs r=>by rw[dj (Qk c xs r)];show r
   rcases hc with rfl|hc
   .exact Az
   .rintro rfl;rcases he with z|z
    .exact Hz c b hc z
    .rw[hc]at z;cases z;show hb rfl
end
structure Un(fs ex:List Addr)(H H':Hp)(h h':Heap):Prop where
 keep:∀b o,h.get? b=some o->H b=none->b∉fs->b∉ex->h'.get? b=some o
 slot:∀b o,h.get? b=some o->H b=none->b∈fs->b∉ex->∃sl,h'.get? b=some {o with slots:=sl}
 free:∀b o,h.get? b=some o->H b=none->b∉ex->H' b=none
 there:∀b o,h.get? b=some o->b∉ex->∃o',h'.get? b=some o'
 tups:∀b xs,H b=some (.tup xs)->H' b=some (.tup xs)
 mH:∀b o u,H b=some (.vR o u)->H' b=some (.vR o u)
 nP:∀b ps,H b=some (.Ay ps)->∃more,H' b=some (.Ay (ps++more))
section
variable {fs fs' ex ex':List Addr}{H H1 H2:Hp}{h h1 h2 h':Heap}{a x e:Addr}{o:HO}
def Un.any(u:Un fs ex H H1 h h1){b:Addr}{ob:Obj}(q:h.get? b=some ob)(n:H b=none)(hx:b∉ex):∃sl,h1.get? b=some {ob with slots:=sl}:=by
 by_cases hb:b∈fs
 .exact u.slot b ob q n hb hx
 .exact⟨ob.slots,u.keep b ob q n hb hx⟩
theorem Un.kept(k:∀b u,h.get? b=some u->h'.get? b=some u):Un fs ex H H h h':=
 ⟨λb ob q _ _ _=>k b ob q,λb ob q _ _ _=>⟨ob.slots,k b ob q⟩,λ_ _ _ n _=>n,λb ob q _=>⟨ob,k b ob q⟩,λ_ _ q=>q,λ_ _ _ q=>q,λ_ ps q=>⟨#[],by rw[q];simp⟩⟩
theorem Un.refl:Un fs ex H H h h:=Un.kept λ_ _ q=>q
theorem Un.laid(k:∀b u,h.get? b=some u->h'.get? b=some u)(hp:h.objs.size<=a)(hn:H a=none):Un fs ex H (upd H a o) h h' where
 keep:=λb u q _ _ _=>k b u q
 slot:=λb u q _ _ _=>⟨u.slots,k b u q⟩
 free:=λb u q n _=>by rw[dj (dN (jm (bZ q) hp))];show n
 there:=λb u q _=>⟨u,k b u q⟩
 tups:=λb xs q=>by rw[dj (Ez q hn)];show q
 mH:=λb u xs q=>by rw[dj (Ez q hn)];show q
 nP:=λb ps q=>⟨#[],by rw[dj (Ez q hn),q];simp⟩
def Un.write(mu:Hy (H x))(he:e=x\/H e=some (.own x))(k:∀b u,b≠e->h.get? b=some u->h'.get? b=some u)(EY:∃u,h'.get? e=some u):Un fs ex H (upd H x o) h h':=by
 let hx:∀b,H b=none->b≠x:=λb n z=>by subst z;rw[n]at mu;show mu
 let hb:∀b,H b=none->b≠e:=λb n z=>by
  subst z;rcases he with r|r
  .exact hx b n r
  .rw[n]at r;cases r
 let hm:∀b u,H b=some u->¬Hy (some u)->b≠x:=λb u q nm z=>by subst z;rw[q]at mu;show nm mu
 show⟨λb u q n _ _=>k b u (hb b n) q,λb u q n _ _=>⟨u.slots,k b u (hb b n) q⟩,λb u q n _=>by rw[dj (hx b n)];show n,λb u q _=>?_,
  λb xs q=>by rw[dj (hm b _ q λz=>z)];show q,λb u xs q=>by rw[dj (hm b _ q λz=>z)];show q,λb ps q=>⟨#[],by rw[dj (hm b _ q λz=>z),q];simp⟩⟩
 by_cases Az:b=e
 .subst Az;show EY
 .exact⟨u,k b u Az q⟩
end
def L_(h:Heap)(H:Hp):List Addr:=(List.range h.objs.size).filter λa=>(H a).isSome
def mJ(h:Heap)(H:Hp):Heap:=PySem.W.hideAll h (L_ h H)
theorem zg9(h:Heap)(H:Hp):(mJ h H).objs.size=h.objs.size:=PySem.W.hideAll_size _ _
theorem zhw{h:Heap}{H:Hp}{b:Addr}{o:Obj}(e:h.get? b=some o)(n:H b=none):(mJ h H).get? b=some o:=
 PySem.W.hideAll_get _ e λhm=>by
  let q:(H b).isSome=true:=(jN.mp hm).2;rw[n]at q;simp at q
def zj8{h:Heap}{H:Hp}{b:Addr}{o:Obj}(e:(mJ h H).get? b=some o):h.get? b=some o/\H b=none:=by
 let e':h.get? b=some o:=PySem.W.of_hideAll (L_ h H) e;show⟨e',?_⟩;cases q:H b with
 |none=>rfl|some x=>
  let hm:b∈L_ h H:=jN.mpr ⟨vK.mpr (bZ e'),by simp[q]⟩;let z:(mJ h H).get? b=none:=PySem.W.hideAll_none (L_ h H) hm;rw[z]at e;cases e
structure Mod(K:W.Frag)(mg:Str->Option Value)(base:Heap):Prop where
 yL:K.In base
 glob:base.Ns mainGlobals mg
 blt:∃mb,base.Ns builtinsNs mb/\∀x:Str,x≠"__name__"->mb x=bootBuiltins x
 nolimit:base.NoLimit
structure Cx where
 prog:Program
 w:World
 K:W.Frag
 mg:Str->Option Value
 base:Heap
 A:Around
 N:List Str
 s₀:Shared
 H₀:Hp
 env:Env
 outer:List Env
 stack:List Env
 ex:List Addr
 fn:Str->Bool
 aj:Bool
 pn:List (Addr×Obj)
 xe:Value->Shared->Prop
def frs(l:List Env):List Addr:=l.filterMap (·.frame)
noncomputable abbrev Cx.fs(X:Cx):List Addr:=frs X.outer
def Ql(sc:Scope)(x:Str):Prop:=sc.names.lookup x=some .local\/sc.names.lookup x=some .cell\/sc.names.lookup x=some .free
def Loc(sc:Scope)(x:Str):Prop:=sc.names.lookup x=some .local\/sc.names.lookup x=some .cell
def Look(env:Env)(h:Heap)(m:Str->Option Value)(x:Str)(u:Value):Prop:=
 (env.kindOf x=some .local/\m x=some u)\/((env.kindOf x=some .cell\/env.kindOf x=some .free)/\∃c,env.cells.lookup x=some c/\h.IsCell c (some u))
structure Cx.Ok(X:Cx):Prop where
 mod:Mod X.K X.mg X.base
 kind:X.env.scope.kind=.function
 glob:X.env.globals=mainGlobals
 blt:X.env.builtins=builtinsNs
 above:X.s₀.heap.objs.size<=X.env.locals
 inj:∀x y c,X.env.cells.lookup x=some c->X.env.cells.lookup y=some c->x=y
 has:∀x,(X.env.kindOf x=some .cell\/X.env.kindOf x=some .free)->∃c,X.env.cells.lookup x=some c
 cab:∀x c,X.fn x=true->X.env.cells.lookup x=some c->X.s₀.heap.objs.size<=c
 hd:X.aj=true->X.A.handled=none
 frames:X.A.frames=some X.stack
 stk:X.stack=X.outer\/(X.stack=X.env::X.outer/\X.env.frame=some X.env.locals)
 exf:∀b∈X.ex,b≠X.env.locals/\∀x c,X.env.cells.lookup x=some c->c≠b
 bs:∀b o,X.base.get? b=some o->X.s₀.heap.get? b=some o/\X.H₀ b=none
 A_:X.base.objs.size<=X.s₀.heap.objs.size
 Ba:∀b o,X.base.get? b=some o->b∉X.ex
 HB:∀b∈X.ex,b∉X.fs
 kE:X.s₀.heap.FunFrames X.base X.outer
 HD:∀b∈X.fs,X.H₀ b=none
structure Inv(X:Cx)(ao:List (Addr×Obj))(Z:List (Option V))(H:Hp)(s:Shared):Prop where
 ok:X.Ok
 os:s.os=X.s₀.os
 bare:AllBare s.gens
 base:Un X.fs X.ex X.H₀ H X.s₀.heap s.heap
 loc:∃m,s.heap.Ns X.env.locals m/\∀(i:Nat) (x:Str) (v:V),X.N[i]?=some x->Z[i]?=some (some v)->Ql X.env.scope x->∃u,RelV v u/\Look X.env s.heap m x u
 cell:∀x c,X.env.cells.lookup x=some c->∃v,s.heap.IsCell c v
 free:H X.env.locals=none
 jq:∀x c,X.env.cells.lookup x=some c->H c=none
 pin:∀p∈X.pn++ao,s.heap.get? p.1=some p.2/\H p.1=none/\p.1≠X.env.locals/\p.1∉X.fs/\∀v,p.2.data≠.cell v
 hok:jF X.prog X.w H s.heap
 len:Z.length=X.N.length
section
variable {X:Cx}{ao:List (Addr×Obj)}{Z:List (Option V)}{H H':Hp}{s:Shared}{h':Heap}
theorem Cx.Ok.Qm(ok:X.Ok){b:Addr}{o:Obj}(e:X.base.get? b=some o):b∉X.fs:=λhb=>by
 let:=(ok.kE.mem hb).1;rw[e]at this;cases this
theorem Inv.bs(I:Inv X ao Z H s):∀b o,X.base.get? b=some o->s.heap.get? b=some o/\H b=none:=λb o e=>
 ⟨I.base.keep b o (I.ok.bs b o e).1 (I.ok.bs b o e).2 (I.ok.Qm e) (I.ok.Ba b o e),I.base.free b o (I.ok.bs b o e).1 (I.ok.bs b o e).2 (I.ok.Ba b o e)⟩
theorem Inv.bk(I:Inv X ao Z H s):∀b o,X.base.get? b=some o->s.heap.get? b=some o:=λb o e=>(I.bs b o e).1
theorem Inv.mod(I:Inv X ao Z H s):Mod X.K X.mg X.base:=I.ok.mod
theorem Inv.qy(I:Inv X ao Z H s):X.K.In s.heap:=I.ok.mod.yL.keeps I.bk
theorem Inv.lt(I:Inv X ao Z H s):X.env.locals<s.heap.objs.size:=let ⟨_,hn,_⟩:=I.loc;hn.lt
theorem Inv.sz(I:Inv X ao Z H s):X.s₀.heap.objs.size<=s.heap.objs.size:=jz I.ok.above (wB I.lt)
theorem Inv.Qn(I:Inv X ao Z H s){a:Addr}(h:s.heap.objs.size<=a):a∉X.fs:=λhb=>by
 let⟨_,o,ho,_⟩:=I.ok.kE.mem hb;show absurd (jm (bZ ho) (jz I.sz h)) (rF _)
theorem Inv.Bb(I:Inv X ao Z H s):∀x c,X.env.cells.lookup x=some c->c≠X.env.locals:=λx c e z=>by
 let⟨v,o,ho,hd⟩:=I.cell x c e;let⟨m,⟨o',es,ep,uf,HF,_⟩,_⟩:=I.loc;rw[z,uf]at ho;cases ho;rw[HF]at hd;cases hd
def Inv.kE(I:Inv X ao Z H s):s.heap.FunFrames X.base X.outer:=by
 let all:∀(l:List Env),(∀b∈frs l,b∈X.fs)->X.s₀.heap.FunFrames X.base l->s.heap.FunFrames X.base l:=by
  intro l
  induction l with
  |nil=>intro _ _;trivial|cons env r ih=>
   intro hs hl;let⟨hk,⟨L,o,hf,hn,ho,hd⟩,hr⟩:=hl;let hL:L∈X.fs:=hs L (by unfold frs;rw[DQ,hf];show lG);let⟨sl,e⟩:=I.base.slot L o ho (I.ok.HD L hL) hL λz=>I.ok.HB L z hL;show⟨hk,⟨L,_,hf,hn,e,hd⟩,ih (λb hb=>hs b (by unfold frs;rw[DQ,hf];show iJ _ hb)) hr⟩
 show all X.outer (λ_ hb=>hb) I.ok.kE
def Inv.stack(I:Inv X ao Z H s):s.heap.FunFrames X.base X.stack:=by
 rcases I.ok.stk with e|⟨e,hf⟩
 .rw[e];show I.kE
 .rw[e];let⟨m,hn,_⟩:=I.loc;show .cons (by rw[I.ok.kind];decide) hf hn ?_ I.kE;show GR (jz I.ok.A_ I.ok.above)
theorem Inv.jP(I:Inv X ao Z H s):∀b∈frs X.stack,b∈X.env.locals::X.fs:=λb hb=>by
 rcases I.ok.stk with e|⟨e,hf⟩
 .rw[e]at hb;show iJ _ hb
 .rw[e]at hb;unfold frs at hb;rw[DQ,hf]at hb;show hb
theorem Inv.qz(I:Inv X ao Z H s):∀b∈frs X.stack,H b=none:=λb hb=>by
 rcases jo.mp (I.jP b hb) with e|hb
 .rw[e];show I.free
 .obtain⟨_,o,ho,_⟩:=I.ok.kE.mem hb;show I.base.free b o ho (I.ok.HD b hb) λz=>I.ok.HB b z hb
def Inv.step{g':Array GenState}{t':Nat}{d':Drawn}{ch:List Addr}(I:Inv X ao Z H s)
  (vU:∀b∈ch,(b∈X.ex\/X.s₀.heap.get? b=none)/\b≠X.env.locals/\(∀x c,X.env.cells.lookup x=some c->c≠b)/\∀p∈X.pn++ao,p.1≠b)
  (keep:∀b o,b≠X.env.locals->b∉X.fs->b∉ch->s.heap.get? b=some o->H b=none->h'.get? b=some o)
  (slot:∀b o,b≠X.env.locals->b∈X.fs->b∉ch->s.heap.get? b=some o->H b=none->∃sl,h'.get? b=some {o with slots:=sl}) (free:∀b o,b∉ch->s.heap.get? b=some o->H b=none->H' b=none)
  (there:∀b o,b∉ch->s.heap.get? b=some o->∃o',h'.get? b=some o')
  (tups:∀b xs,H b=some (.tup xs)->H' b=some (.tup xs)) (mH:∀b o u,H b=some (.vR o u)->H' b=some (.vR o u)) (nP:∀b ps,H b=some (.Ay ps)->∃more,H' b=some (.Ay (ps++more)))
  (ns:∀m,s.heap.Ns X.env.locals m->h'.Ns X.env.locals m) (hok:jF X.prog X.w H' h') (hg:AllBare g') :
  Inv X ao Z H' {s with heap:=h',gens:=g',drawn:=d',toks:=t'}:=by
 let W_:∀b o,X.s₀.heap.get? b=some o->b≠X.env.locals:=λb o e=>dN (jm (bZ e) I.ok.above);let Ma:∀b o,X.s₀.heap.get? b=some o->b∉X.ex->b∉ch:=λb o e hx hb=>by
  rcases(vU b hb).1 with z|z
  .exact hx z
  .rw[e]at z;cases z
 let cellK:∀x c,X.env.cells.lookup x=some c->∀v,s.heap.IsCell c v->h'.IsCell c v:=λx c e v hx=>vQ hx λo ho hd=>by
  let HJ:c∉ch:=λz=>(vU c z).2.2.1 x c e rfl;by_cases hc:c∈X.fs
  .obtain⟨sl,q⟩:=slot c o (I.Bb x c e) hc HJ ho (I.jq x c e);show⟨_,q,hd⟩
  .exact⟨o,keep c o (I.Bb x c e) hc HJ ho (I.jq x c e),hd⟩
 show⟨I.ok,I.os,hg,⟨λb o e n hb hx=>?_,λb o e n hb hx=>?_,λb o e n hx=>?_,λb o e hx=>?_,λb xs e=>tups b xs (I.base.tups b xs e),λb o xs e=>mH b o xs (I.base.mH b o xs e),λb ps e=>?_⟩,?_,λx c e=>?_,?_,λx c e=>?_,λp hp=>?_,hok,I.len⟩
 .exact keep b o (W_ b o e) hb (Ma b o e hx) (I.base.keep b o e n hb hx) (I.base.free b o e n hx)
 .obtain⟨sl,e1⟩:=I.base.slot b o e n hb hx;let⟨sl',e2⟩:=slot b _ (W_ b o e) hb (Ma b o e hx) e1 (I.base.free b o e n hx);show⟨sl',e2⟩
 .obtain⟨o',e1⟩:=I.base.there b o e hx;show free b o' (Ma b o e hx) e1 (I.base.free b o e n hx)
 .obtain⟨o',e1⟩:=I.base.there b o e hx;show there b o' (Ma b o e hx) e1
 .obtain⟨m1,e1⟩:=I.base.nP b ps e;let⟨m2,e2⟩:=nP b _ e1;show⟨m1++m2,by rw[e2,Array.append_assoc]⟩
 .obtain⟨m,hn,hl⟩:=I.loc;show⟨m,ns m hn,λi x v e1 e2 e3=>?_⟩;let⟨u,r,l⟩:=hl i x v e1 e2 e3;show⟨u,r,?_⟩;rcases l with l|⟨k,c,e,z⟩
  .exact .inl l
  .exact .inr ⟨k,c,e,cellK x c e _ z⟩
 .obtain⟨v,z⟩:=I.cell x c e;show⟨v,cellK x c e v z⟩
 .obtain⟨m,⟨o,_,_,ho,_⟩,_⟩:=I.loc;show free _ o (λz=>(vU _ z).2.1 rfl) ho I.free
 .obtain⟨v,o,ho,hd⟩:=I.cell x c e;show free c o (λz=>(vU c z).2.2.1 x c e rfl) ho (I.jq x c e)
 .obtain⟨e,n,ne,nf,d⟩:=I.pin p hp;let HJ:p.1∉ch:=λz=>(vU p.1 z).2.2.2 p hp rfl;show⟨keep p.1 p.2 ne nf HJ e n,free p.1 p.2 HJ e n,ne,nf,d⟩
def Inv.un{t':Nat}(I:Inv X ao Z H s)(u:Un X.fs [] H H' s.heap h')(hok:jF X.prog X.w H' h'):Inv X ao Z H' {s with heap:=h',toks:=t'}:=by
 let⟨m,⟨o,es,ep,ho,r⟩,_⟩:=id I.loc;let⟨sl,hL⟩:=u.any ho I.free R3;show I.step (g':=s.gens) (d':=s.drawn) (ch:=[]) (λ_ z=>nomatch z) (λb o _ hb _ e n=>u.keep b o e n hb R3) (λb o _ hb _ e n=>u.slot b o e n hb R3) (λb o _ e n=>u.free b o e n R3) (λb o _ e=>u.there b o e R3) u.tups u.mH u.nP (λm' hm=>by
  let⟨o',es',ep',uf,r'⟩:=hm;rw[ho]at uf;cases uf;show⟨_,es',ep',hL,r'⟩) hok I.bare
def Inv.call{g':Array GenState}{t':Nat}{d':Drawn}{ch:List Addr}(I:Inv X ao Z H s)(u:Un (frs X.stack) ch H H' s.heap h')(hok:jF X.prog X.w H' h')(hg:AllBare g')
  (vU:∀b∈ch,(b∈X.ex\/X.s₀.heap.get? b=none)/\b≠X.env.locals/\(∀x c,X.env.cells.lookup x=some c->c≠b)/\∀p∈X.pn++ao,p.1≠b) :
  Inv X ao Z H' {s with heap:=h',gens:=g',drawn:=d',toks:=t'}:=by
 let⟨m,⟨o,es,ep,ho,r⟩,_⟩:=id I.loc;let⟨sl,hL⟩:=u.any ho I.free λz=>(vU _ z).2.1 rfl;show I.step (ch:=ch) vU (λb o hL hb hc e n=>u.keep b o e n (λz=>(jo.mp (I.jP b z)).elim hL hb) hc) (λb o _ _ hc e n=>u.any e n hc) (λb o hc e n=>u.free b o e n hc) (λb o hc e=>u.there b o e hc) u.tups u.mH u.nP (λm' hm=>by
  let⟨o',es',ep',uf,r'⟩:=hm;rw[ho]at uf;cases uf;show⟨_,es',ep',hL,r'⟩) hok hg
def Inv.turned{t':Nat}{it:Addr}(I:Inv X ao Z H s)(k:∀b o,b≠it->s.heap.get? b=some o->h'.get? b=some o)(hn:H it=none)(hL:it≠X.env.locals)
  (h1:it∈X.ex\/X.s₀.heap.objs.size<=it) (h2:∀x c,X.env.cells.lookup x=some c->c≠it) (h3:∀p∈X.pn++ao,p.1≠it):Inv X ao Z H {s with heap:=h',toks:=t'}:=by
 let yP:∀b u,H b=some u->b≠it:=λb u e z=>by rw[z,hn]at e;cases e
 show I.step (g':=s.gens) (d':=s.drawn) (ch:=[it]) (λb hb=>?_) (λb o _ _ hc e _=>k b o (λz=>hc (by simp[z])) e) (λb o _ _ hc e _=>⟨o.slots,k b o (λz=>hc (by simp[z])) e⟩) (λ_ _ _ _ n=>n)
  (λb o hc e=>⟨o,k b o (λz=>hc (by simp[z])) e⟩) (λ_ _ e=>e) (λ_ _ _ e=>e) (λb ps e=>⟨#[],by rw[e];simp⟩) (λm hm=>?_) (λb u e=>?_) I.bare
 .let e:b=it:=by simpa using hb
  subst e;show⟨h1.imp id λz=>GR z,hL,h2,h3⟩
 .obtain⟨o,es,ep,ho,r⟩:=hm;show⟨o,es,ep,k _ o (Ne.symm hL) ho,r⟩
 .refine(I.hok b u e).stay (λc v hc q=>k c v ?_ q) (λ_ q=>q) λ_ _ q=>q;rcases hc with z|z
  .rw[z];show yP b u e
  .exact yP c _ z
theorem Inv.tok(I:Inv X ao Z H s)(t:Nat):Inv X ao Z H {s with toks:=t}:=I.un (h':=s.heap) (t':=t) Un.refl I.hok
theorem Inv.kept{t':Nat}(I:Inv X ao Z H s)(k:∀b u,s.heap.get? b=some u->h'.get? b=some u):Inv X ao Z H {s with heap:=h',toks:=t'}:=I.un (Un.kept k) (I.hok.kept k)
theorem Inv.laid{a:Addr}{o:HO}{t':Nat}(I:Inv X ao Z H s)(k:∀b u,s.heap.get? b=some u->h'.get? b=some u)(hp:s.heap.objs.size<=a)(new:bT X.prog X.w (upd H a o) h' a o) :
  Inv X ao Z (upd H a o) {s with heap:=h',toks:=t'}:=I.un (Un.laid k hp (I.hok.fresh hp)) (I.hok.laid k hp new)
theorem Inv.write{x e:Addr}{o:HO}{t':Nat}(I:Inv X ao Z H s)(mu:Hy (H x))(he:e=x\/H e=some (.own x))(k:∀b u,b≠e->s.heap.get? b=some u->h'.get? b=some u)(EY:∃u,h'.get? e=some u)
  (new:bT X.prog X.w (upd H x o) h' x o):Inv X ao Z (upd H x o) {s with heap:=h',toks:=t'}:=I.un (Un.write mu he k EY) (I.hok.write mu he k EY new)
theorem Inv.qC{jr:List (Addr×Obj)}(I:Inv X ao Z H s)(h:∀p∈jr,s.heap.get? p.1=some p.2/\H p.1=none/\p.1≠X.env.locals/\p.1∉X.fs/\∀v,p.2.data≠.cell v):Inv X jr Z H s:=
 ⟨I.ok,I.os,I.bare,I.base,I.loc,I.cell,I.free,I.jq,λp hp=>(mj.mp hp).elim (λz=>I.pin p (Px _ z)) (h p),I.hok,I.len⟩
def Xa{N:List Str}(hN:N.Nodup){i j:Nat}{x:Str}(a:N[i]?=some x)(b:N[j]?=some x):i=j:=by
 let⟨h1,e1⟩:=cJ.mp a;let⟨h2,e2⟩:=cJ.mp b;show(List.getElem_inj hN).mp (e1.trans e2.symm)
def Qo{M:Model}{A:Around}{E:Value->Shared->Prop}{i:Nat}{x:Str}{v:V}{u:Value}{Q:Unit->Shared->Prop}(I:Inv X ao Z H s)(hN:X.N.Nodup)(hi:X.N[i]?=some x)(hx:Loc X.env.scope x)(r:RelV v u)
  (h:∀s',Inv X ao (Z.set i (some v)) H s'->(∃a,Heap.SameBut a s.heap s'.heap/\(a=X.env.locals\/X.env.cells.lookup x=some a))->Q () s') (hf:X.fn x=true\/X.env.scope.names.lookup x=some .local:=by first|exact .inl rfl|exact .inr rfl|assumption):wpAny M A (storeName X.env x u) Q E s:=by
 let⟨m,hn,hl⟩:=id I.loc;let Qp:(X.env.scope.kind==.class||(X.env.scope.kind==.module&&X.env.locals != X.env.globals))=false:=by rw[I.ok.kind];rfl
 let Xb:i<Z.length:=by rw[I.len];show(cJ.mp hi).1
 let Bb:=I.Bb;let tracked:∀{a:Addr} {h':Heap},(∃o,s.heap.get? a=some o/\H a=none)->Heap.SameBut a s.heap h'->jF X.prog X.w H h':=λ{a h'} ha hs b ob e=>by
  let⟨_,_,yQ⟩:=ha;show(I.hok b ob e).stay (λc w' hc q=>(hs.2 c ?_).trans q) (λ_ q=>q) λ_ _ q=>q;rintro rfl;rcases hc with rfl|hc
  .rw[yQ]at e;cases e
  .rw[yQ]at hc;cases hc
 rcases hx with hk|hk
 .refine wpAny_storeName_local hk hn (λh' hn' hs=>?_) Qp;let⟨oL,_,_,Mf,_⟩:=id hn;show h _ ⟨I.ok,I.os,I.bare,⟨λb o e n hb hx=>?_,λb o e n hb hx=>?_,I.base.free,λb o e hx=>?_,I.base.tups,I.base.mH,I.base.nP⟩,⟨_,hn',λj y v' e1 e2 e3=>?_⟩,λy c e=>?_,I.free,I.jq,λp hp=>?_,tracked ⟨oL,Mf,I.free⟩ hs,by simpa using I.len⟩ ⟨_,hs,.inl rfl⟩
  .exact(hs.2 b (dN (jm (bZ e) I.ok.above))).trans (I.base.keep b o e n hb hx)
  .obtain⟨sl,e1⟩:=I.base.slot b o e n hb hx;show⟨sl,(hs.2 b (dN (jm (bZ e) I.ok.above))).trans e1⟩
  .obtain⟨o',e1⟩:=I.base.there b o e hx;show⟨o',(hs.2 b (dN (jm (bZ e) I.ok.above))).trans e1⟩
  .by_cases hj:j=i
   .subst hj;rw[hi]at e1;cases e1;rw[qp Xb]at e2;cases e2;show⟨u,r,.inl ⟨hk,by simp⟩⟩
   .rw[lF (Ne.symm hj)]at e2;let⟨u',r',q⟩:=hl j y v' e1 e2 e3;show⟨u',r',?_⟩;rcases q with ⟨k,e⟩|⟨k,c,e,z⟩
    .refine .inl ⟨k,?_⟩;let:y≠x:=λe=>hj (Xa hN e1 (e▸hi));simp[this,e]
    .exact .inr ⟨k,c,e,z.sameBut hs (Bb y c e)⟩
  .obtain⟨w',z⟩:=I.cell y c e;show⟨w',z.sameBut hs (Bb y c e)⟩
  .obtain⟨e,n,ne,nf,d⟩:=I.pin p hp;show⟨(hs.2 p.1 ne).trans e,n,ne,nf,d⟩
 .let Qq:X.fn x=true:=by
   rcases hf with z|z
   .exact z
   .rw[z]at hk;cases hk
  let⟨c,hc⟩:=I.ok.has x (.inl hk);let⟨w',z⟩:=I.cell x c hc;show wpAny_storeName_cell I.ok.kind hk hc z (λh' kI hs=>?_);let⟨oc,Xc,Qs⟩:=id z;show h {s with heap:=h'} ⟨I.ok,I.os,I.bare,⟨λb o e n hb hx=>?_,λb o e n hb hx=>?_,I.base.free,λb o e hx=>?_,I.base.tups,I.base.mH,I.base.nP⟩,⟨m,hn.sameBut hs (Ne.symm (Bb x c hc)),λj y v' e1 e2 e3=>?_⟩,λy c' e=>?_,I.free,I.jq,λp hp=>?_,tracked ⟨oc,Xc,I.jq x c hc⟩ hs,by simpa using I.len⟩ ⟨c,hs,.inr hc⟩
  .exact(hs.2 b (dN (jm (bZ e) (I.ok.cab x c Qq hc)))).trans (I.base.keep b o e n hb hx)
  .obtain⟨sl,e1⟩:=I.base.slot b o e n hb hx;show⟨sl,(hs.2 b (dN (jm (bZ e) (I.ok.cab x c Qq hc)))).trans e1⟩
  .obtain⟨o',e1⟩:=I.base.there b o e hx;show⟨o',(hs.2 b (dN (jm (bZ e) (I.ok.cab x c Qq hc)))).trans e1⟩
  .by_cases hj:j=i
   .subst hj;rw[hi]at e1;cases e1;rw[qp Xb]at e2;cases e2;show⟨u,r,.inr ⟨.inl hk,c,hc,kI⟩⟩
   .rw[lF (Ne.symm hj)]at e2;let⟨u',r',q⟩:=hl j y v' e1 e2 e3;show⟨u',r',?_⟩;rcases q with q|⟨k,c',e,z'⟩
    .exact .inl q
    .refine .inr ⟨k,c',e,z'.sameBut hs ?_⟩;rintro rfl;show hj (Xa hN e1 (I.ok.inj _ _ _ e hc▸hi))
  .by_cases Xd:c'=c
   .subst Xd;show⟨_,kI⟩
   .obtain⟨w2,z2⟩:=I.cell y c' e;show⟨w2,z2.sameBut hs Xd⟩
  .obtain⟨e,n,ne,nf,d⟩:=I.pin p hp;show⟨(hs.2 p.1 ?_).trans e,n,ne,nf,d⟩;intro q;rw[q,Xc]at e;let q':oc=p.2:=cP e;show d w' (by rw[<-q'];show Qs)
theorem Mg{M:Model}{A:Around}{E:Value->Shared->Prop}{i:Nat}{x:Str}{v:V}{u:Value}{Q:Unit->Shared->Prop}(I:Inv X ao Z H s)(hN:X.N.Nodup)(hi:X.N[i]?=some x)(hx:Loc X.env.scope x)(r:RelV v u)
  (h:∀s',Inv X ao (Z.set i (some v)) H s'->Q () s') (hf:X.fn x=true\/X.env.scope.names.lookup x=some .local:=by first|exact .inl rfl|exact .inr rfl|assumption):wpAny M A (storeName X.env x u) Q E s:=
 Qo I hN hi hx r (λs' I' _=>h s' I') hf
def Inv.call'{s':Shared}{ch:List Addr}(I:Inv X ao Z H s)(ho:s'.os=s.os)(u:Un (frs X.stack) ch H H' s.heap s'.heap)(hok:jF X.prog X.w H' s'.heap)(hg:AllBare s'.gens)
  (vU:∀b∈ch,(b∈X.ex\/X.s₀.heap.get? b=none)/\b≠X.env.locals/\(∀x c,X.env.cells.lookup x=some c->c≠b)/\∀p∈X.pn++ao,p.1≠b):Inv X ao Z H' s':=by
 let⟨h',g',d',t',o'⟩:=s';let e:o'=s.os:=ho;subst e;show I.call (g':=g') (t':=t') (d':=d') u hok hg vU
end
noncomputable abbrev XK:=Value->Option Addr->Hp->Prop
noncomputable abbrev St:=List (Option V)
noncomputable abbrev VK:=V->Hp->Prop
noncomputable abbrev TE:=St->Hp->VK->Prop
noncomputable abbrev TT:=St->Hp->(Bool->Hp->Prop)->Prop
noncomputable abbrev TA:=St->Hp->(List V->Hp->Prop)->Prop
structure Ends where
 nx:St->Hp->Prop
 rt:VK
 bk:St->Hp->Prop:=λ_ _=>False
 ct:St->Hp->Prop:=λ_ _=>False
noncomputable abbrev TS:=Ends->St->Hp->Prop
def EP(X:Cx)(ao:List (Addr×Obj))(Z:St)(Q:VK)(u:Value)(s':Shared):Prop:=∃v H',Inv X ao Z H' s'/\RelV v u/\Q v H'
def TP(X:Cx)(ao:List (Addr×Obj))(Z:St)(Q:Bool->Hp->Prop)(b:Bool)(s':Shared):Prop:=∃H',Inv X ao Z H' s'/\Q b H'
def AP(X:Cx)(ao:List (Addr×Obj))(Z:St)(Q:List V->Hp->Prop)(us:List Value)(s':Shared):Prop:=∃vs H',Inv X ao Z H' s'/\Vals vs us/\Q vs H'
def SP(X:Cx)(ao:List (Addr×Obj))(D:Ends)(f:Flow)(s':Shared):Prop:=
 match f with
 |.next=>∃Z' H',Inv X ao Z' H' s'/\D.nx Z' H'|.brk=>∃Z' H',Inv X ao Z' H' s'/\D.bk Z' H'|.cont=>∃Z' H',Inv X ao Z' H' s'/\D.ct Z' H'|.ret u=>∃v Z' H',Inv X ao Z' H' s'/\RelV v u/\D.rt v H'
def PE(X:Cx)(e:Expr)(t:TE):Prop:=
 ∀(ao:List (Addr×Obj)) (s:Shared) (Z:St) (H:Hp) (Q:VK),Inv X ao Z H s->t Z H Q->wpAny (model X.prog X.w) X.A (eval e X.env) (EP X ao Z Q) X.xe s
def PT(X:Cx)(e:Expr)(t:TT):Prop:=
 ∀(ao:List (Addr×Obj)) (s:Shared) (Z:St) (H:Hp) (Q:Bool->Hp->Prop),Inv X ao Z H s->t Z H Q->wpAny (model X.prog X.w) X.A (isTrue e X.env (eval e X.env)) (TP X ao Z Q) X.xe s
def PW(X:Cx)(e:Expr)(t:TT):Prop:=
 ∀(whole:Sem Value) (ao:List (Addr×Obj)) (s:Shared) (Z:St) (H:Hp) (Q:Bool->Hp->Prop),Inv X ao Z H s->t Z H Q->wpAny (model X.prog X.w) X.A (isTrue e X.env whole) (TP X ao Z Q) X.xe s
theorem Kad{X:Cx}{e:Expr}{t:TT}(h:PW X e t):PT X e t:=h _
def PA(X:Cx)(es:List Expr)(t:TA):Prop:=
 ∀(pos:Pos) (ao:List (Addr×Obj)) (s:Shared) (Z:St) (H:Hp) (Q:List V->Hp->Prop),Inv X ao Z H s->t Z H Q->wpAny (model X.prog X.w) X.A (spliced (backTo pos (starEach es X.env))) (AP X ao Z Q) X.xe s
def PS(X:Cx)(st:Stmt)(t:TS):Prop:=
 ∀(ao:List (Addr×Obj)) (s:Shared) (Z:St) (H:Hp) (D:Ends),Inv X ao Z H s->t D Z H->wpAny (model X.prog X.w) X.A (exec st X.env) (SP X ao D) X.xe s
def pL(X:Cx)(st:List Stmt)(t:TS):Prop:=
 ∀(ao:List (Addr×Obj)) (s:Shared) (Z:St) (H:Hp) (D:Ends),Inv X ao Z H s->t D Z H->wpAny (model X.prog X.w) X.A (execs st X.env) (SP X ao D) X.xe s
theorem aV{α:Type}{t:Sem α}{Q Q':α->Shared->Prop}{M:Model}{A:Around}{E:Value->Shared->Prop}{s:Shared}(h:wpAny M A t Q E s)(hQ:∀a s,Q a s->Q' a s):wpAny M A t Q' E s:=iM h hQ λ_ _ x=>x
section
variable {X:Cx}
def Qt(i:Nat):TE:=λZ H Q=>∃v,Z[i]?=some (some v)/\Q v H
def tC(v:V):TE:=λ_ H Q=>Q v H
def Xe{i:Nat}{x:Str}{pos:Pos}(hN:X.N[i]?=some x)(hv:Ql X.env.scope x)(hd:(x==("__debug__" : Str))=false:=by decide)(j_:(x==("__classdict__" : Str))=false:=by decide):PE X (.Name x pos) (Qt i):=by
 intro ao s Z H Q I h;let⟨v,e,h⟩:=h;let⟨m,hn,hl⟩:=I.loc;let⟨u,r,l⟩:=hl i x v hN e hv;let fin:EP X ao Z Q u s:=⟨v,H,I,r,h⟩;rcases l with ⟨hk,hm⟩|⟨hk,c,hc,yR⟩
 .exact wpAny_Name (wpAny_loadName_local I.ok.kind hk hn hm fin) hd
 .rcases hk with hk|hk
  .exact wpAny_Name (wpAny_loadName_cell I.ok.kind hk hc yR fin) hd
  .exact wpAny_Name (wpAny_loadName_free I.ok.kind hk hc yR fin j_) hd
theorem zm3{i j pos}:PE X (.Constant (.int i) j pos) (tC (.int i)):=λ_ _ _ H _ I h=>wpAny_Constant_int ⟨.int i,H,I.tok _,⟨_,rfl⟩,h⟩
theorem zom{b j pos}:PE X (.Constant (.bool b) j pos) (tC (.bl b)):=λ_ _ _ H _ I h=>Constant_bool ⟨.bl b,H,I,rfl,h⟩
theorem znv{j pos}:PE X (.Constant .none j pos) (tC .non):=λ_ _ _ H _ I h=>Constant_none ⟨.non,H,I,rfl,h⟩
theorem zni{x j pos}:PE X (.Constant (.str x) j pos) (tC (.str x)):=λ_ _ _ H _ I h=>Calls.Constant_str ⟨.str x,H,I.tok _,⟨_,rfl⟩,h⟩
def Gl(X:Cx)(x:Str):Prop:=X.env.kindOf x=some .globalImplicit
theorem Qu{E:Value->Shared->Prop}{ao:List (Addr×Obj)}{s:Shared}{Z:St}{H:Hp}{x:Str}{u:Value}{pos:Pos}{Q:Value->Shared->Prop}(I:Inv X ao Z H s)(hg:Gl X x)(hm:X.mg x=some u)(h:Q u s)
  (hd:(x==("__debug__" : Str))=false:=by decide):wpAny (model X.prog X.w) X.A (eval (.Name x pos) X.env) Q E s:=
 Calls.Name_function_global I.ok.kind hg (Calls.loadGlobal_global (by rw[I.ok.glob];show I.mod.glob.keeps I.bk) hm h) hd
def ug{E:Value->Shared->Prop}{ao:List (Addr×Obj)}{s:Shared}{Z:St}{H:Hp}{x:Str}{u:Value}{pos:Pos}{Q:Value->Shared->Prop}(I:Inv X ao Z H s)(hg:Gl X x)(hm:X.mg x=none)(hv:bootBuiltins x=some u)(h:Q u s)
  (hn:x≠"__name__":=by decide) (hd:(x==("__debug__" : Str))=false:=by decide):wpAny (model X.prog X.w) X.A (eval (.Name x pos) X.env) Q E s:=by
 let⟨mb,h1,h2⟩:=I.mod.blt;show Calls.Name_function_global I.ok.kind hg (Calls.loadGlobal_builtin (by rw[I.ok.glob];show I.mod.glob.keeps I.bk) hm (by rw[I.ok.blt];show h1.keeps I.bk) ((h2 x hn).trans hv) h) hd
theorem Xf{x:Str}{v:V}{u:Value}{pos:Pos}(hg:Gl X x)(hm:X.mg x=some u)(r:RelV v u)(hd:(x==("__debug__" : Str))=false:=by decide):PE X (.Name x pos) (tC v):=
 λ_ _ _ H _ I h=>Qu I hg hm ⟨v,H,I,r,h⟩ hd
variable {a b:Expr}{ta tb:TE}{pos:Pos}
def PC(X:Cx)(op:CmpOp)(a b:Expr)(t:TE):Prop:=
 ∀(ao:List (Addr×Obj)) (s:Shared) (Z:St) (H:Hp) (Q:VK),Inv X ao Z H s->t Z H Q->
  wpAny (model X.prog X.w) X.A (eval a X.env) (λv s₁=>wpAny (model X.prog X.w) X.A (eval b X.env) (λu s₂=>wpAny (model X.prog X.w) X.A (compareOp op v u) (EP X ao Z Q) X.xe s₂) X.xe s₁) X.xe s
def nQ(b:Expr){op:CmpOp}(h:op≠.In)(h2:op≠.NotIn):behindInMarks op b=false:=by
 let e1:(op==CmpOp.In)=false:=by cases op<;>first|rfl|exact absurd rfl h
 let e2:(op==CmpOp.NotIn)=false:=by cases op<;>first|rfl|exact absurd rfl h2
 cases b<;>simp[behindInMarks,e1,e2]
def Qv(ta:TE):TE:=λZ H Q=>ta Z H λx H1=>Q (.bl (decide (x=.non))) H1
def HN(ta:TE):TE:=λZ H Q=>ta Z H λx H1=>Q (.bl (!decide (x=.non))) H1
def RelV.nR{x:V}{v:Value}(r:RelV x v):(v==Value.none)=decide (x=.non):=by
 cases x with
 |non=>cases r;rfl|bl _=>cases r;rfl|int _=>let⟨t,rfl⟩:=r;rfl|str _=>let⟨t,rfl⟩:=r;rfl|Ax _=>let⟨t,rfl⟩:=r;rfl|flt _=>let⟨t,rfl⟩:=r;rfl|ref _=>cases r;rfl|ty _=>cases r;rfl
def Xg{j pos'}(ha:PE X a ta):PC X .Is a (.Constant .none j pos') (Qv ta):=by
 intro ao s Z H Q I h;show aV (ha ao s Z H _ I h) λv s1 hx=>eO hx λx H1 I1 r1 q1=>?_;show Constant_none (is_none_gen ⟨.bl _,H1,I1,by rw[r1.nR];rfl,q1⟩)
def Xh{j pos'}(ha:PE X a ta):PC X .IsNot a (.Constant .none j pos') (HN ta):=by
 intro ao s Z H Q I h;show aV (ha ao s Z H _ I h) λv s1 hx=>eO hx λx H1 I1 r1 q1=>?_;show Constant_none (isnot_none_gen ⟨.bl _,H1,I1,by rw[r1.nR];rfl,q1⟩)
def tB(t:TE):TT:=λZ H Q=>t Z H λx H1=>∃c,x=.bl c/\Q c H1
theorem Xi{op:CmpOp}{t:TE}(h:PC X op a b t)(h1:behindInMarks op b=false:=by first|exact nQ _ J0 J0|rfl):PE X (.Compare a [op] [b] pos) t:=λao s Z H Q I hw=>wpAny_Compare1 (h ao s Z H Q I hw) h1
def Qw{op:CmpOp}{t:TE}(h:PC X op a b t)(h1:behindInMarks op b=false:=by first|exact nQ _ J0 J0|rfl):PT X (.Compare a [op] [b] pos) (tB t):=by
 intro ao s Z H Q I hw;show wpAny_isTrue_Compare1 (aV (h ao s Z H _ I hw) λv s1 h1=>aV h1 λu s2 h2=>aV h2 λc s3 hx=>eO hx λx H1 I1 r1 q1=>?_) h1;let⟨d,rfl,q⟩:=q1;cases r1;show vG ⟨H1,I1,q⟩
def zll{e:Expr}{t:TE}(h:PE X e t)(he:∀whole,isTrue e X.env whole=(do let v <-whole;standAt e.pos;holding [v] (truthy v)):=by intro _;rfl):PT X e (tB t):=by
 intro ao s Z H Q I hw;show isTrue_plain (aV (h ao s Z H _ I hw) λv s1 hx=>eO hx λx H1 I1 r1 q1=>?_) (he _);let⟨d,rfl,q⟩:=q1;cases r1;show vG ⟨H1,I1,q⟩
variable {tA Mh:TT}{rest:List Expr}
def Qx(t u:TT):TT:=λZ H Q=>t Z H λc H1=>if c=true then u Z H1 Q else Q false H1
def tOr(t u:TT):TT:=λZ H Q=>t Z H λc H1=>if c=true then Q true H1 else u Z H1 Q
def Qy(t:TT):TT:=λZ H Q=>t Z H λc H1=>Q (!c) H1
def zjW(ha:PT X a tA):PW X (.BoolOp .And [a] pos) tA:=by
 intro wh ao s Z H Q I h;show isTrue_and (aV (ha ao s Z H Q I h) λc s1 e=>?_);cases c with
 |true=>show isTrue_and_nil e|false=>show e
def zlt(ha:PT X a tA):PW X (.BoolOp .Or [a] pos) tA:=by
 intro wh ao s Z H Q I h;show isTrue_or (aV (ha ao s Z H Q I h) λc s1 e=>?_);cases c with
 |false=>show isTrue_or_nil e|true=>show e
def zm7(ha:PT X a tA)(hb:PW X (.BoolOp .And (b::rest) pos) Mh):PW X (.BoolOp .And (a::b::rest) pos) (Qx tA Mh):=by
 intro wh ao s Z H Q I h;show isTrue_and (aV (ha ao s Z H _ I h) λc s1 hx=>vQ hx λH1 I1 q1=>?_);cases c with
 |true=>show hb wh ao s1 Z H1 Q I1 q1|false=>show⟨H1,I1,q1⟩
def zo4(ha:PT X a tA)(hb:PW X (.BoolOp .Or (b::rest) pos) Mh):PW X (.BoolOp .Or (a::b::rest) pos) (tOr tA Mh):=by
 intro wh ao s Z H Q I h;show isTrue_or (aV (ha ao s Z H _ I h) λc s1 hx=>vQ hx λH1 I1 q1=>?_);cases c with
 |true=>show⟨H1,I1,q1⟩|false=>show hb wh ao s1 Z H1 Q I1 q1
def zmo(ha:PT X a tA):PT X (.UnaryOp .Not a pos) (Qy tA):=by
 intro ao s Z H Q I h;show isTrue_not (ha ao s Z H (λc H1=>Q (!c) H1) I h)
def HS(ta tb:TE):TE:=λZ H Q=>ta Z H λx H1=>∃c,x=.bl c/\if c=true then tb Z H1 Q else Q (.bl false) H1
def Qz(ta tb:TE):TE:=λZ H Q=>ta Z H λx H1=>∃c,x=.bl c/\if c=true then Q (.bl true) H1 else tb Z H1 Q
def HW(ta:TE):TE:=λZ H Q=>ta Z H λx H1=>∃c,x=.bl c/\Q (.bl (!c)) H1
theorem znZ{op}{t:TE}(h:PE X a t):PE X (.BoolOp op [a] pos) t:=λao s Z H Q I hw=>BoolOp_one (h ao s Z H Q I hw)
def zl7(ha:PE X a ta)(hb:PE X (.BoolOp .And (b::rest) pos) tb):PE X (.BoolOp .And (a::b::rest) pos) (HS ta tb):=by
 intro ao s Z H Q I h;show BoolOp_and (aV (ha ao s Z H _ I h) λv s1 hx=>eO hx λx H1 I1 r1 q1=>?_);let⟨c,rfl,q1⟩:=q1;cases r1;show vG ?_;cases c with
 |true=>show hb ao s1 Z H1 Q I1 q1|false=>show⟨.bl false,H1,I1,rfl,q1⟩
def zpa(ha:PE X a ta)(hb:PE X (.BoolOp .Or (b::rest) pos) tb):PE X (.BoolOp .Or (a::b::rest) pos) (Qz ta tb):=by
 intro ao s Z H Q I h;show BoolOp_or (aV (ha ao s Z H _ I h) λv s1 hx=>eO hx λx H1 I1 r1 q1=>?_);let⟨c,rfl,q1⟩:=q1;cases r1;show vG ?_;cases c with
 |false=>show hb ao s1 Z H1 Q I1 q1|true=>show⟨.bl true,H1,I1,rfl,q1⟩
def zmH(ha:PE X a ta):PE X (.UnaryOp .Not a pos) (HW ta):=by
 intro ao s Z H Q I h;show UnaryOp_ (aV (ha ao s Z H _ I h) λv s1 hx=>eO hx λx H1 I1 r1 q1=>?_);let⟨c,rfl,q1⟩:=q1;cases r1;show not_of (vG ⟨.bl (!c),H1,I1,rfl,q1⟩)
def tIf(t:TT)(ta tb:TE):TE:=λZ H Q=>t Z H λc H1=>if c=true then ta Z H1 Q else tb Z H1 Q
def zhy{c:Expr}(hc:PT X c tA)(ha:PE X a ta)(hb:PE X b tb):PE X (.IfExp c a b pos) (tIf tA ta tb):=by
 intro ao s Z H Q I h;show wpAny_IfExp (aV (hc ao s Z H _ I h) λd s1 hx=>vQ hx λH1 I1 q1=>?_);cases d with
 |true=>show ha ao s1 Z H1 Q I1 q1|false=>show hb ao s1 Z H1 Q I1 q1
end
def c7(K:W.Frag)(H:Hp)(a:Addr)(xs:List V):Prop:=
 Rd H a (.lst xs) \/
  ∃(o:Obj) (its:Array Value) (n:Nat),K.lookup a=some o/\o.cls=.type "list"/\o.dict=none/\o.data=.seq its n/\its.size<=sizeLine/\Vals xs its.toList
def fC(K:W.Frag)(H:Hp)(a:Addr)(xs:List V):Prop:=
 Rd H a (.tup xs) \/
  ∃(o:Obj) (its:Array Value) (n:Nat),K.lookup a=some o/\o.cls=.type "tuple"/\o.dict=none/\o.data=.seq its n/\its.size<=sizeLine/\Vals xs its.toList
def QB:Value->Option V
 |.none=>some .non|.bool b=>some (.bl b)|.int i _=>some (.int i)|.str x _=>some (.str x)|.bytes b _=>some (.Ax b)|.float b _=>some (.flt b)|.ref a=>some (.ref a)|.type n=>some (.ty n)|_=>none
def RelV.abs{x:V}{u:Value}(r:RelV x u):QB u=some x:=by
 cases x with
 |non=>cases r;rfl|bl _=>cases r;rfl|int _=>let⟨t,rfl⟩:=r;rfl|str _=>let⟨t,rfl⟩:=r;rfl|Ax _=>let⟨t,rfl⟩:=r;rfl|flt _=>let⟨t,rfl⟩:=r;rfl|ref _=>cases r;rfl|ty _=>cases r;rfl
theorem RelV.inj{x y:V}{u:Value}(r:RelV x u)(q:RelV y u):x=y:=cP (r.abs.symm.trans q.abs)
def Vals.inj{xs ys:List V}{us:List Value}(h:Vals xs us)(h':Vals ys us):xs=ys:=by
 induction h generalizing ys with
 |nil=>cases h';rfl|cons r _ ih=>
  cases h' with
  |cons r' t'=>rw[r.inj r',ih t']
section
variable {X:Cx}{ao:List (Addr×Obj)}{Z:St}{H:Hp}{s:Shared}{a:Addr}{xs ys:List V}
theorem c7.of{K:W.Frag}(h:H a=some (.lst xs)):c7 K H a xs:=.inl (.inl h)
def Inv.list(I:Inv X ao Z H s)(h:c7 X.K H a xs):∃its:List Value,Vals xs its/\PlainL s.heap a its.toArray/\xs.length<=sizeLine:=by
 rcases h with h|⟨o,its,n,hk,hc,hd,hs,hz,r⟩
 .obtain⟨z,its,n,r,e⟩:=h.ok I.hok;show⟨its,r,⟨_,n,e,rfl,rfl,rfl⟩,z⟩
 .refine⟨its.toList,r,⟨o,n,I.qy a o hk,hc,hd,by simpa using hs⟩,?_⟩;let e:=r.length;simp only[yt]at e
  lia
def Inv.tuple(I:Inv X ao Z H s)(h:fC X.K H a xs):∃its:List Value,Vals xs its/\IsTup s.heap a its.toArray/\xs.length<=sizeLine:=by
 rcases h with h|⟨o,its,n,hk,hc,_,hs,hz,r⟩
 .obtain⟨z,its,r,p⟩:=h.ok I.hok;show⟨its,r,p.tup,z⟩
 .refine⟨its.toList,r,⟨o,I.qy a o hk,hc,n,by simpa using hs⟩,?_⟩;let e:=r.length;simp only[yt]at e
  lia
def Inv.QC(I:Inv X ao Z H s)(h:fC X.K H a xs):∃o,s.heap.get? a=some o/\o.cls=.type "tuple"/\o.dict=none:=by
 rcases h with h|⟨o,its,n,hk,hc,hd,_⟩
 .obtain⟨_,_,_,o,h1,h2,_,_,h3⟩:=h.ok I.hok;show⟨o,h1,h2,h3⟩
 .exact⟨o,I.qy a o hk,hc,hd⟩
def Inv.nT(I:Inv X ao Z H s)(h:c7 X.K H a xs)(h':c7 X.K H a ys):xs=ys:=by
 let⟨its,r,⟨o,n,e,_,_,d⟩,_⟩:=I.list h;let⟨its',r',⟨o',n',e',_,_,d'⟩,_⟩:=I.list h';rw[e]at e';cases e';rw[d]at d';injection d' with d1 _;let:its=its':=by simpa using nq Array.toList d1
 subst this;show r.inj r'
def Inv.lK(I:Inv X ao Z H s)(h:fC X.K H a xs)(h':fC X.K H a ys):xs=ys:=by
 let⟨its,r,⟨o,e,_,n,d⟩,_⟩:=I.tuple h;let⟨its',r',⟨o',e',_,n',d'⟩,_⟩:=I.tuple h';rw[e]at e';cases e';rw[d]at d';injection d' with d1 _;let:its=its':=by simpa using nq Array.toList d1
 subst this;show r.inj r'
end
section
variable {X:Cx}{st:Stmt}{rest:List Stmt}{t u:TS}{e:Expr}{te:TE}{pos:Pos}
def HX:TS:=λD Z H=>D.nx Z H
def QD(t u:TS):TS:=λD Z H=>t {D with nx:=u D} Z H
theorem Xj:pL X [] HX:=λ_ _ Z H _ I h=>wpAny_execs_nil ⟨Z,H,I,h⟩
def Xk(h1:PS X st t)(h2:pL X rest u):pL X (st::rest) (QD t u):=by
 intro ao s Z H D I h;show wpAny_execs_cons (aV (h1 ao s Z H {D with nx:=u D} I h) λf s1 q=>?_);cases f with
 |next=>
  let⟨Z',H',I',q⟩:=q;show h2 ao s1 Z' H' D I' q
 |ret v=>show q|brk=>show q|cont=>show q
def Inv.quiet{ao:List (Addr×Obj)}{Z:St}{H:Hp}{s:Shared}(I:Inv X ao Z H s):interactive X.env=false:=by simp[interactive,I.ok.kind]
def HY(te:TE):TS:=λD Z H=>te Z H λ_ H1=>D.nx Z H1
def zj5(he:PE X e te)(hs:swapsWith e none pos.line X.env=pure false:=by rfl):PS X (.Expr e pos) (HY te):=by
 intro ao s Z H D I h;show wpAny_Expr_any (aV (he ao s Z H _ I h) λv s1 hx=>eO hx λx H1 I1 r1 q1=>⟨Z,H1,I1,q1⟩) I.quiet hs
def QF(te:TE):TS:=λD Z H=>te Z H D.rt
def znW(he:PE X e te):PS X (.Return (some e) pos) (QF te):=by
 intro ao s Z H D I h;show wpAny_Return_some (aV (he ao s Z H _ I h) λv s1 hx=>eO hx λx H1 I1 r1 q1=>⟨x,Z,H1,I1,r1,q1⟩)
def QG(c:TT)(t u:TS):TS:=λD Z H=>c Z H λb H1=>if b=true then t D Z H1 else u D Z H1
def zoO{c:Expr}{a b:List Stmt}{tc:TT}(hc:PT X c tc)(ha:pL X a t)(hb:pL X b u):PS X (.If c a b pos) (QG tc t u):=by
 intro ao s Z H D I h;show wpAny_If (aV (hc ao s Z H _ I h) λd s1 hx=>vQ hx λH1 I1 q1=>?_);cases d with
 |true=>show ha ao s1 Z H1 D I1 q1|false=>show hb ao s1 Z H1 D I1 q1
end
noncomputable abbrev TG:=V->St->Hp->(St->Hp->Prop)->Prop
noncomputable abbrev Bc:=List V->St->Hp->(St->Hp->Prop)->Prop
def PG(X:Cx)(target:Expr)(t:TG):Prop:=
 ∀(ao:List (Addr×Obj)) (s:Shared) (Z:St) (H:Hp) (v:V) (u:Value) (Q:St->Hp->Prop),Inv X ao Z H s->RelV v u->t v Z H Q->
  wpAny (model X.prog X.w) X.A (assign target X.env u) (λ_ s'=>∃Z' H',Inv X ao Z' H' s'/\Q Z' H') X.xe s
def Mj(X:Cx)(ts:List Expr)(t:Bc):Prop:=
 ∀(ao:List (Addr×Obj)) (s:Shared) (Z:St) (H:Hp) (vs:List V) (us:List Value) (Q:St->Hp->Prop),Inv X ao Z H s->Vals vs us->t vs Z H Q->
  wpAny (model X.prog X.w) X.A (assignInOrder ((assignEach ts X.env).map (·.2)) us) (λ_ s'=>∃Z' H',Inv X ao Z' H' s'/\Q Z' H') X.xe s
noncomputable abbrev Bf:=V->V->V->Hp->(Hp->Prop)->Prop
def H_(X:Cx)(t:Bf):Prop:=
 ∀(ao:List (Addr×Obj)) (s:Shared) (Z:St) (H:Hp) (o i v:V) (ov iv u:Value) (Q:Hp->Prop),Inv X ao Z H s->RelV o ov->RelV i iv->RelV v u->t o i v H Q->
  wpAny (model X.prog X.w) X.A (setItem ov iv u) (λ_ s'=>∃H',Inv X ao Z H' s'/\Q H') X.xe s
section
variable {X:Cx}{pos:Pos}
def dI(i:Nat):TG:=λv Z H Q=>Q (Z.set i (some v)) H
def Ml{i:Nat}{x:Str}(hN:X.N.Nodup)(hi:X.N[i]?=some x)(hx:Loc X.env.scope x)(hf:X.fn x=true\/X.env.scope.names.lookup x=some .local:=by first|exact .inl rfl|exact .inr rfl|assumption):PG X (.Name x pos) (dI i):=by
 intro ao s Z H v u Q I r h;show wpAny_assign_Name (Mg I hN hi hx r (λs' I'=>⟨_,H,I',h⟩) hf)
def uh:Bc:=λvs Z H Q=>vs=[]/\Q Z H
def h_(t:TG)(u:Bc):Bc:=λvs Z H Q=>∃v r,vs=v::r/\t v Z H λZ' H'=>u r Z' H' Q
def zjt:Mj X [] uh:=by
 intro ao s Z H vs us Q I r h;let⟨e,h⟩:=h;subst e;cases r;show assignInOrder_nil ⟨Z,H,I,h⟩
def Xl{e:Expr}{es:List Expr}{t:TG}{u:Bc}(h1:PG X e t)(h2:Mj X es u)
  (hs:(assignEach (e::es) X.env).map (·.2)=assign e X.env::(assignEach es X.env).map (·.2):=by rfl):Mj X (e::es) (h_ t u):=by
 intro ao s Z H vs us Q I r h;let⟨v,vr,e1,h⟩:=h;subst e1;cases r with
 |cons r rr=>
  rw[hs];show assignInOrder_cons (aV (h1 ao s Z H _ _ _ I r h) λ_ s1 hz=>?_);let⟨Z1,H1,I1,q1⟩:=hz;show h2 ao s1 Z1 H1 _ _ Q I1 rr q1
def uo(K:W.Frag)(n:Nat)(t:Bc):TG:=λv Z H Q=>∃a xs,v=.ref a/\fC K H a xs/\xs.length=n/\t xs Z H Q
def zm8{es:List Expr}{k:Nat}{t:Bc}{n:Nat}(hc:X.aj=true)(h:Mj X es t)
  (hn:(assignEach es X.env).length=n:=by rfl) (rK:(assignEach es X.env).findIdx? (·.1)=none:=by rfl):PG X (.Tuple es k pos) (uo X.K n t):=by
 intro ao s Z H v u Q I r hw;let⟨a,xs,e1,hq,hl,hw⟩:=hw;subst e1;cases r;let⟨its,rv,ht,hz⟩:=I.tuple hq;show assign_Tuple_tuple (I.ok.hd hc) ht (by simp[hn,<-hl,rv.length]) rK λh' hx=>?_;let I1:Inv X ao Z H {s with heap:=h'}:=I.kept (t':=s.toks) λb o e=>hx b o (dN (bZ e)) e;show h ao _ Z H xs _ Q I1 (by simpa using rv) hw
def QJ(to ti:TE)(t:Bf):TG:=λv Z H Q=>to Z H λo H1=>ti Z H1 λi H2=>t o i v H2 λH3=>Q Z H3
def zlM{o i:Expr}{to ti:TE}{t:Bf}(ho:PE X o to)(hi:PE X i ti)(hs:H_ X t)
  (ha:∀v,assign (.Subscript o i pos) X.env v=(do
   let ov <-holding [v] (eval o X.env)
   let iv <-holding [v,ov] (eval i X.env)
   standAt pos
   holding [v,ov,iv] (setItem ov iv v)
   release [v,ov,iv] []):=by intro _;rfl):PG X (.Subscript o i pos) (QJ to ti t):=by
 intro ao s Z H v u Q I r h;rw[ha];show aC (vM (aV (ho ao s Z H _ I h) λov s1 hx=>eO hx λx H1 I1 r1 q1=>?_));show aC (vM (aV (hi ao s1 Z H1 _ I1 q1) λiv s2 hx=>eO hx λy H2 I2 r2 q2=>?_));show aC (vN (aC (vM (aV (hs ao s2 Z H2 x y v ov iv u _ I2 r1 r2 r q2) λ_ s3 hx=>vQ hx λH3 I3 q3=>?_))));show wpAny_release ⟨Z,H3,I3,q3⟩
def wG(te:TE)(g:TG):TS:=λD Z H=>te Z H λx H1=>g x Z H1 D.nx
def Xm{tg e:Expr}{te:TE}{g:TG}(he:PE X e te)(hg:PG X tg g)(hs:swapsWithSole [tg] e pos.line X.env=pure false:=by rfl)(hw:swappedStores [tg] e X.env=pure none:=by rfl)
  (h1:(assignEach [tg] X.env).map (·.2)=[assign tg X.env]:=by rfl):PS X (.Assign [tg] e pos) (wG te g):=by
 intro ao s Z H D I h;show wpAny_Assign_stores (aV (he ao s Z H _ I h) λv s1 hx=>eO hx λx H1 I1 r1 q1=>?_) hs hw;rw[h1];show aV (hg ao s1 Z H1 x v _ I1 r1 q1) λ_ s2 q=>q
def zmZ{i:Nat}{x:Str}{e:Expr}{te:TE}{pos':Pos}(hN:X.N.Nodup)(hi:X.N[i]?=some x)(hx:Loc X.env.scope x)(he:PE X e te)(hs:swapsWith e (some (.Name x pos')) pos.line X.env=pure false:=by rfl)(hf:X.fn x=true\/X.env.scope.names.lookup x=some .local:=by first|exact .inl rfl|exact .inr rfl|assumption) :
  PS X (.Assign [.Name x pos'] e pos) (wG te (dI i)):=by
 intro ao s Z H D I h;show wpAny_Assign_Name (aV (he ao s Z H _ I h) λv s1 hz=>?_) hs;let⟨y,H1,I1,r1,q1⟩:=hz;show Mg I1 hN hi hx r1 (λs2 I2=>⟨_,H1,I2,q1⟩) hf
def QK(i j:Nat)(ta:TA):TS:=λD Z H=>ta Z H λvs H1=>∃v w,vs=[v,w]/\D.nx ((Z.set i (some v)).set j (some w)) H1
def zmP{i j:Nat}{x y:Str}{a b:Expr}{ta:TA}{px py pt:Pos}{kt k2 uq}(hc:X.aj=true)(hN:X.N.Nodup)(hi:X.N[i]?=some x)(hj:X.N[j]?=some y)(hij:i≠j)
  (hx:X.env.scope.names.lookup x=some .local) (hy:X.env.scope.names.lookup y=some .local) (ha:PA X [a,b] ta)
  (hw:swappedStores [.Tuple [.Name x px,.Name y py] kt pt] (.Tuple [a,b] k2 uq) X.env=pure (some [x,y]))
  (hs:swapsWithSole [.Tuple [.Name x px,.Name y py] kt pt] (.Tuple [a,b] k2 uq) pos.line X.env=pure false:=by rfl) :
  PS X (.Assign [.Tuple [.Name x px,.Name y py] kt pt] (.Tuple [a,b] k2 uq) pos) (QK i j ta):=by
 intro ao s Z H D I h;rw[exec_Assign_arm];show aC (vN ?_);rw[hs];show aC (aQ ?_);rw[if_neg J0];show aC (Tuple_ (aV (ha _ ao s Z H _ I h) λus s1 hz=>?_));let⟨vs,H1,I1,r1,q1⟩:=hz;let⟨v,w,e1,q1⟩:=q1;subst e1;obtain⟨u1,u2,rfl,rv,kJ⟩ : ∃u1 u2,us=[u1,u2]/\RelV v u1/\RelV w u2:=by
  cases r1 with
  |cons p q=>
   cases q with
   |cons p' q'=>
    cases q';show⟨_,_,rfl,p,p'⟩
 show tU ?_ (by change 2<=sizeLine;decide);let I2:Inv X ao Z H1 {s1 with heap:=s1.heap.push {cls:=.type "tuple",data:=.seq [u1,u2].toArray}}:=I1.kept (t':=s1.toks) λb o e=>cR _ e;rw[hw];show aC (aQ ?_);change wpAny (model X.prog X.w) X.A (do rule "assign.swapped-stores";let items <-unpackItems (.ref s1.heap.objs.size) 2 none;assignInOrder [λv=>bindName X.env y v,λv=>bindName X.env x v] items.reverse;pure Flow.next) _ _ _;show aC (yJ (aC (unpackItems_tuple (items:=#[u1,u2]) (I.ok.hd hc) (IsTup.new s1.heap _) λh' hx'=>?_)));let I3:=I2.kept (h':=h') (t':=s1.toks) λb o e=>hx' b o (dN (bZ e)) e;change wpAny _ _ (assignInOrder [λv=>bindName X.env y v,λv=>bindName X.env x v] [u2,u1] >>= λ_=>pure Flow.next) _ _ _;show aC (assignInOrder_cons (wpAny_bindName (Mg I3 hN hj (.inl hy) kJ (λs2 I4=>?_) (.inr hy))));show assignInOrder_cons (wpAny_bindName (Mg I4 hN hi (.inl hx) rv (λs3 I5=>assignInOrder_nil (aQ ?_)) (.inr hx)));rw[List.set_comm _ _ (Ne.symm hij)]at I5;show⟨_,H1,I5,q1⟩
end
section
variable {X:Cx}{pos:Pos}
def Bg(c:TT)(tb:TS):TS:=λD Z H=>∃W:Nat->St->Hp->Prop,(∃m,W m Z H)/\∀m Z H,W m Z H->
 c Z H λb H1=>if b=true then ∃N:St->Hp->Prop,(∀Z' H',N Z' H'->∃m',m'<m/\W m' Z' H')/\tb {D with nx:=N,ct:=N,bk:=D.nx} Z H1 else D.nx Z H1
def zhP{c:Expr}{body:List Stmt}{tc:TT}{tb:TS}(hp:PassesOwn (model X.prog X.w) X.A X.env X.xe)(hc:PT X c tc)(hb:pL X body tb):PS X (.While c body [] pos) (Bg tc tb):=by
 intro ao s Z H D I h;let⟨W,⟨m0,w0⟩,turn⟩:=h;show wpAny_While (codeAny_whileLoop (λn s'=>∃Z' H',Inv X ao Z' H' s'/\W n Z' H') ?_ m0 ⟨Z,H,I,w0⟩);rintro n s1 ⟨Z1,H1,I1,w1⟩;show Ai hp (aV (hc ao s1 Z1 H1 _ I1 (turn n Z1 H1 w1)) λb s2 hx=>vQ hx λH2 I2 q2=>?_);cases b with
 |true=>
  let⟨N,hN,q2⟩:=q2;rw[if_pos rfl];show Ai hp (aV (hb ao s2 Z1 H2 _ I2 q2) λf s3 q3=>?_);cases f with
  |next=>
   let⟨Z3,H3,I3,n3⟩:=q3;let⟨m',hm,w3⟩:=hN Z3 H3 n3;show⟨m',hm,Z3,H3,I3,w3⟩
  |cont=>
   let⟨Z3,H3,I3,n3⟩:=q3;let⟨m',hm,w3⟩:=hN Z3 H3 n3;show⟨m',hm,Z3,H3,I3,w3⟩
  |brk=>show q3|ret v=>show q3
 |false=>
  rw[if_neg yw];show wpAny_execs_nil ⟨Z1,H2,I2,q2⟩
end
structure It where
 go:Nat->Hp->Prop
 ur:Nat->Hp->V->Hp->Prop
 stop:Nat->Hp->Prop
def fD(X:Cx)(ao:List (Addr×Obj))(H:Hp)(b:Addr):Prop:=
 H b=none/\b≠X.env.locals/\b∉X.fs/\(b∈X.ex\/X.s₀.heap.objs.size<=b)/\(∀x c,X.env.cells.lookup x=some c->c≠b)/\∀p∈X.pn++ao,p.1≠b
def Inv.rM{X:Cx}{ao:List (Addr×Obj)}{Z:St}{H H':Hp}{s:Shared}{b:Addr}(I:Inv X ao Z H s)(hb:s.heap.objs.size<=b)(hn:H' b=none):fD X ao H' b:=by
 show⟨hn,wC (jm I.lt hb),I.Qn hb,.inr (jz I.sz hb),λx c e z=>?_,λp hp z=>?_⟩
 .obtain⟨v,q⟩:=I.cell x c e;show absurd (jm q.lt (by rw[z];show hb)) (rF _)
 .exact absurd (jm (bZ (I.pin p hp).1) (by rw[z];show hb)) (rF _)
structure Turn(P:Program)(w:World)(K:W.Frag)(tg:Expr)(bK:It)(fp:List Addr)(it:Addr)(tn:Nat->Heap->Prop):Prop where
 mem:it∈fp
 obj:∀i h,tn i h->∀b∈fp,∃o,h.get? b=some o/\∀v,o.data≠.cell v
 keep:∀i h h',tn i h->(∀b∈fp,∀o,h.get? b=some o->h'.get? b=some o)->tn i h'
 item:∀(X:Cx),X.prog=P->X.w=w->X.K=K->X.aj=true->∀(i:Nat) (ao:List (Addr×Obj)) (s:Shared) (Z:St) (H:Hp) (E:Value->Shared->Prop),Inv X ao Z H s->(∀b∈fp,fD X ao H b)->tn i s.heap->bK.go i H->
  wpAny (model P w) X.A (pyNext (.ref it)) (λr s1=>∃u,r=some u /\
   wpAny (model P w) X.A (letOwnedTupleGo tg (.ref it) u) (λ_ s2=>∃x H',Inv X ao Z H' s2/\RelV x u/\bK.ur i H x H'/\tn (i+1) s2.heap/\∀b∈fp,H' b=none) E s1) E s
 done:∀(X:Cx),X.prog=P->X.w=w->X.K=K->X.aj=true->∀(i:Nat) (ao:List (Addr×Obj)) (s:Shared) (Z:St) (H:Hp) (E:Value->Shared->Prop),Inv X ao Z H s->(∀b∈fp,fD X ao H b)->tn i s.heap->bK.stop i H->
  wpAny (model P w) X.A (pyNext (.ref it)) (λr s1=>r=none/\Inv X ao Z H s1) E s
 self:∀(A:Around) (i:Nat) (s:Shared) (Q:Value->Shared->Prop) (E:Value->Shared->Prop),tn i s.heap->Q (.ref it) s->wpAny (model P w) A (pyIter (.ref it)) Q E s
noncomputable abbrev TI:=St->Hp->(It->Hp->Prop)->Prop
def PIE(X:Cx)(ao:List (Addr×Obj))(Z:St)(tg:Expr)(R:It->Hp->Prop)(itv:Value)(s2:Shared):Prop:=
 ∃(it:Addr) (fp:List Addr) (tn:Nat->Heap->Prop) (bK:It) (H':Hp),itv=.ref it/\Inv X ao Z H' s2/\Turn X.prog X.w X.K tg bK fp it tn/\tn 0 s2.heap/\(∀b∈fp,fD X ao H' b)/\R bK H'
def PI(X:Cx)(tg iter:Expr)(wi:TI):Prop:=
 ∀(ao:List (Addr×Obj)) (s:Shared) (Z:St) (H:Hp) (R:It->Hp->Prop),Inv X ao Z H s->wi Z H R->
  wpAny (model X.prog X.w) X.A (eval iter X.env) (λv s1=>wpAny (model X.prog X.w) X.A (pyIter v) (PIE X ao Z tg R) X.xe s1) X.xe s
def Mp{M:Model}{A:Around}{E:Value->Shared->Prop}{s:Shared}{tg:Expr}{it:Addr}{u:Value}{o:Obj}{n:String}{vs:Array Value}{Q:Unit->Shared->Prop}(ho:s.heap.get? it=some o)(hc:o.cls=.type n)(hd:o.data=.fields vs)
  (hn:["enumerate","zip","dict_itemiterator","dict_reverseitemiterator","odict_iterator","itertools.zip_longest","itertools.pairwise"].contains n=false) (hQ:Q () s):wpAny M A (letOwnedTupleGo tg (.ref it) u) Q E s:=by
 unfold letOwnedTupleGo;cases tg<;>first
  |exact aQ hQ
  | (cases u<;>first
    |exact aQ hQ
    | (show aC (wpAny_load ho ?_)
       rw[hc,hd];change wpAny M A (if (["enumerate","zip","dict_itemiterator","dict_reverseitemiterator","odict_iterator","itertools.zip_longest","itertools.pairwise"].contains n&&vs[0]?==some (rawInt _))=true then _ else _) Q E s;rw[if_neg (by intro h;rw[hn,Bool.false_and]at h;cases h)];show aQ hQ))
def Mq(K:W.Frag)(a:Addr):It:=
 ⟨λi H=>∃xs x,c7 K H a xs/\xs[i]?=some x,λi H x H'=>H'=H/\∀xs,c7 K H a xs->xs[i]?=some x,λi H=>∃xs,c7 K H a xs/\xs.length<=i⟩
def QL(K:W.Frag)(a:Addr):It:=
 ⟨λi H=>∃xs x,fC K H a xs/\xs[i]?=some x,λi H x H'=>H'=H/\∀xs,fC K H a xs->xs[i]?=some x,λi H=>∃xs,fC K H a xs/\xs.length<=i⟩
def Ia(lo:Int)(n:Nat):It:=⟨λi _=>i<n,λi H x H'=>H'=H/\x=.int (lo+i),λi _=>n<=i⟩
def zgK{P:Program}{w:World}{K:W.Frag}{tg:Expr}(a it:Addr):Turn P w K tg (Mq K a) [it] it (λi h=>h.IsListIter it a i) where
 mem:=by simp
 obj:=λi h st b hb=>by
  let e:b=it:=by simpa using hb
  subst e;let⟨o,e,c,d⟩:=st;show⟨o,e,λv z=>by rw[d]at z;cases z⟩
 keep:=λi h h' st k=>st.at λo e=>k it R3 o e
 item:=by
  intro X hP hw hK hc i ao s Z H E I hf st hg;subst hP hw hK;let⟨xs,x,hq,hx⟩:=hg;let⟨its,rv,p,hz⟩:=I.list hq;let⟨u,hu,ru⟩:=rv.get hx;let⟨f0,f1,f2,f3,f4,f5⟩:=hf it R3;show wpAny_pyNext_list_item st p.isList (x:=u) (by simpa using hu) λh' st' sb=>?_;let I1:Inv X ao Z H {s with heap:=h'}:=I.turned (t':=s.toks) (λb o hb e=>(sb.2 b hb).trans e) f0 f1 f3 f4 f5;let⟨o,e,c,d⟩:=id st';show⟨u,rfl,Mp (s:={s with heap:=h'}) e c d J0 ⟨x,H,I1,ru,⟨rfl,λys hy=>by rw[I.nT hy hq];show hx⟩,st',λb hb=>(hf b hb).1⟩⟩
 done:=by
  intro X hP hw hK hc i ao s Z H E I hf st hg;subst hP hw hK;let⟨xs,hq,hx⟩:=hg;let⟨its,rv,p,hz⟩:=I.list hq;let⟨f0,f1,f2,f3,f4,f5⟩:=hf it R3;let hl:=rv.length;show wpAny_pyNext_list_end (I.ok.hd hc) st p.isList (by simp;lia) λh' eb=>⟨rfl,I.turned (t':=s.toks) (λb o hb e=>eb b o hb e) f0 f1 f3 f4 f5⟩
 self:=λ_ _ _ _ _ st h=>wpAny_pyIter_listiter st h
def zfu{P:Program}{w:World}{K:W.Frag}{tg:Expr}(a it:Addr):Turn P w K tg (QL K a) [it] it (λi h=>h.IsTupleIter it a i) where
 mem:=by simp
 obj:=λi h st b hb=>by
  let e:b=it:=by simpa using hb
  subst e;let⟨o,e,c,d⟩:=st;show⟨o,e,λv z=>by rw[d]at z;cases z⟩
 keep:=λi h h' st k=>st.at λo e=>k it R3 o e
 item:=by
  intro X hP hw hK hc i ao s Z H E I hf st hg;subst hP hw hK;let⟨xs,x,hq,hx⟩:=hg;let⟨its,rv,p,hz⟩:=I.tuple hq;let⟨u,hu,ru⟩:=rv.get hx;let⟨f0,f1,f2,f3,f4,f5⟩:=hf it R3;show wpAny_pyNext_tuple_item st (show s.heap.IsTuple a its.toArray from p) (x:=u) (by simpa using hu) λh' st' sb=>?_;let I1:Inv X ao Z H {s with heap:=h'}:=I.turned (t':=s.toks) (λb o hb e=>(sb.2 b hb).trans e) f0 f1 f3 f4 f5;let⟨o,e,c,d⟩:=id st';show⟨u,rfl,Mp (s:={s with heap:=h'}) e c d J0 ⟨x,H,I1,ru,⟨rfl,λys hy=>by rw[I.lK hy hq];show hx⟩,st',λb hb=>(hf b hb).1⟩⟩
 done:=by
  intro X hP hw hK hc i ao s Z H E I hf st hg;subst hP hw hK;let⟨xs,hq,hx⟩:=hg;let⟨its,rv,p,hz⟩:=I.tuple hq;let⟨f0,f1,f2,f3,f4,f5⟩:=hf it R3;let hl:=rv.length;show wpAny_pyNext_tuple_end (I.ok.hd hc) st (show s.heap.IsTuple a its.toArray from p) (by simp;lia) λh' eb=>⟨rfl,I.turned (t':=s.toks) (λb o hb e=>eb b o hb e) f0 f1 f3 f4 f5⟩
 self:=λ_ _ _ _ _ st h=>wpAny_pyIter_tupleiter st h
def zfC{P:Program}{w:World}{K:W.Frag}{tg:Expr}(it:Addr)(lo:Int)(n:Nat):Turn P w K tg (Ia lo n) [it] it (λi h=>IsRangeIter h it (lo+(i:Nat)*1) ((n:Int)-(i:Nat)) 1) where
 mem:=by simp
 obj:=λi h st b hb=>by
  let e:b=it:=by simpa using hb
  subst e;show⟨_,st,λv z=>by
   let z':Data.fields _=Data.cell v:=z;cases z'⟩
 keep:=λi h h' st k=>k it R3 _ st
 item:=by
  intro X hP hw hK hc i ao s Z H E I hf st hg;subst hP hw hK;let⟨f0,f1,f2,f3,f4,f5⟩:=hf it R3;let W:=Walks.range (prog:=X.prog) (w:=X.w) (I.ok.hd hc) it lo 1 n;show W.item i s _ _ hg st λv h' tk hv st' kk=>?_;let⟨t,rfl⟩:=hv;let I1:Inv X ao Z H {s with heap:=h',toks:=tk}:=I.turned (λb o hb e=>kk b o (by simpa using hb) e) f0 f1 f3 f4 f5;show⟨_,rfl,Mp (s:={s with heap:=h',toks:=tk}) (n:="range_iterator") st' rfl rfl J0 ⟨.int (lo+i),H,I1,⟨t,?_⟩,⟨rfl,rfl⟩,st',λb hb=>(hf b hb).1⟩⟩;rw[Int.mul_one]
 done:=by
  intro X hP hw hK hc i ao s Z H E I hf st hg;subst hP hw hK;let⟨f0,f1,f2,f3,f4,f5⟩:=hf it R3;show wpAny_pyNext_range_end (I.ok.hd hc) st (by let:n<=i:=hg;lia) λh' eb=>⟨rfl,I.turned (t':=s.toks) (λb o hb e=>eb b o hb e) f0 f1 f3 f4 f5⟩
 self:=λ_ _ _ _ _ st h=>zs1 st h
section
variable {X:Cx}{tg:Expr}
def Xn{ao:List (Addr×Obj)}{Z:St}{H:Hp}{s:Shared}{R:It->Hp->Prop}{E:Value->Shared->Prop}{lo hi:Int}{t u v:Tok}{tk:Nat}(I:Inv X ao Z H s)(h1 : -(2^62)<=lo)(h2:lo<2^62)(h3 : -(2^62)<=hi)(h4:hi<2^62)
  (q:R (Ia lo (hi-lo).toNat) H):wpAny (model X.prog X.w) X.A (pyIter (.ref s.heap.objs.size)) (PIE X ao Z tg R) E {s with heap:=s.heap.push {cls:=.type "range",data:=.fields #[.int lo t,.int hi u,.int 1 v]},toks:=tk}:=by
 show wpAny_pyIter_range (IsRange.new ..) (small_one h1 h2 h3 h4) ?_;let I1:Inv X ao Z H {s with heap:=s.heap.push {cls:=.type "range",data:=.fields #[.int lo t,.int hi u,.int 1 v]},toks:=tk}:=I.kept λb o e=>cR _ e;show⟨(s.heap.push {cls:=.type "range",data:=.fields #[.int lo t,.int hi u,.int 1 v]}).objs.size,[(s.heap.push {cls:=.type "range",data:=.fields #[.int lo t,.int hi u,.int 1 v]}).objs.size],_,_,H,rfl,
  I1.kept (t':=tk) λb o e=>cR _ e,zfC _ lo (hi-lo).toNat,?_,λb hb=>?_,q⟩
 .let e1:lo+((0:Nat):Int)*1=lo:=by simp
  let e2:(((hi-lo).toNat:Nat):Int)-((0:Nat):Int)=Builtin.Range.rangeSize lo hi 1:=by rw[rangeSize_one];split<;>lia
  change IsRangeIter _ _ (lo+((0:Nat):Int)*1) ((((hi-lo).toNat:Nat):Int)-((0:Nat):Int)) 1;rw[e1,e2];show fB _ rfl
 .let e:b=(s.heap.push {cls:=.type "range",data:=.fields #[.int lo t,.int hi u,.int 1 v]}).objs.size:=by simpa using hb
  subst e;show I1.rM (bQ _) (I1.hok.fresh (bQ _))
def Ib(ta:TA):TI:=λZ H R=>ta Z H λvs H1=>∃j:Int,vs=[.int j]/\-(2^62)<=j/\j<2^62/\R (Ia 0 j.toNat) H1
def Ie(ta:TA):TI:=λZ H R=>ta Z H λvs H1=>∃i j:Int,vs=[.int i,.int j]/\(-(2^62)<=i/\i<2^62/\-(2^62)<=j/\j<2^62)/\R (Ia i (j-i).toNat) H1
def zgR{a:Expr}{ta:TA}{p pos:Pos}(hg:Gl X "range")(hm:X.mg "range"=none)(ha:PA X [a] ta)(hs:starEach [a] X.env=[(false,eval a X.env)]:=by rfl):PI X tg (.Call (.Name "range" p) [a] [] pos) (Ib ta):=by
 intro ao s Z H R I h;show Call_ (ug I hg hm boot_range (v7 (aV (ha pos ao s Z H _ I h) λus s1 hx=>eO hx λvs H1 I1 r1 q1=>?_) hs rfl));let⟨j,e,q1,q2,q⟩:=q1;subst e;cases r1 with
 |cons r rr=>
  cases rr;let⟨t,rfl⟩:=r;show call_range_1 (Xn I1 gV gV q1 q2 (by simpa using q))
def zfO{a b:Expr}{ta:TA}{p pos:Pos}(hg:Gl X "range")(hm:X.mg "range"=none)(ha:PA X [a,b] ta)(hs:starEach [a,b] X.env=[(false,eval a X.env),(false,eval b X.env)]:=by rfl)(wH:starEach [b] X.env=[(false,eval b X.env)]:=by rfl) :
  PI X tg (.Call (.Name "range" p) [a,b] [] pos) (Ie ta):=by
 intro ao s Z H R I h;show Call_ (ug I hg hm boot_range (v7 (aV (ha pos ao s Z H _ I h) λus s1 hx=>eO hx λvs H1 I1 r1 q1=>?_) (by rw[hs,wH]) (by rw[wH];rfl)));let⟨i,j,e,⟨q1,q2,q3,q4⟩,q⟩:=q1;subst e;cases r1 with
 |cons r rr=>
  cases rr with
  |cons r' rr=>
   cases rr;let⟨t,rfl⟩:=r;let⟨t',rfl⟩:=r';show call_range_2 (Xn I1 q1 q2 q3 q4 q)
def QM(wi:TI)(g:TG)(tb:TS):TS:=λD Z H=>wi Z H λbK H1=>∃W:Nat->Nat->St->Hp->Prop,(∃m,W 0 m Z H1)/\∀i m Z H,W i m Z H->
 (bK.stop i H/\D.nx Z H)\/(bK.go i H/\∃N:St->Hp->Prop,(∀Z' H',N Z' H'->∃m',m'<m/\W (i+1) m' Z' H')/\∀x H',bK.ur i H x H'->g x Z H' λZ2 H2=>tb {D with nx:=N,ct:=N,bk:=D.nx} Z2 H2)
def iY(fp:List Addr)(h:Heap):List (Addr×Obj):=fp.filterMap λb=>(h.get? b).map λo=>(b,o)
theorem yS{fp:List Addr}{h:Heap}{b:Addr}{o:Obj}(hb:b∈fp)(e:h.get? b=some o):(b,o)∈iY fp h:=tR.mpr ⟨b,hb,by rw[e];rfl⟩
def zgq{fp:List Addr}{h:Heap}{p:Addr×Obj}(hp:p∈iY fp h):p.1∈fp/\h.get? p.1=some p.2:=by
 let⟨b,hb,e⟩:=tR.mp hp;cases q:h.get? b with
 |none=>rw[q]at e;cases e|some o=>
  rw[q]at e;let e':(b,o)=p:=cP e;subst e';show⟨hb,q⟩
theorem Inv.pinned{ao:List (Addr×Obj)}{Z:St}{H:Hp}{s:Shared}{fp:List Addr}(I:Inv X ao Z H s)(hf:∀b∈fp,fD X ao H b)(ho:∀b∈fp,∃o,s.heap.get? b=some o/\∀v,o.data≠.cell v):Inv X (ao++iY fp s.heap) Z H s:=
 I.qC λp hp=>(mj.mp hp).elim (λz=>I.pin p (nj _ z)) λz=>by
  let⟨hb,e⟩:=zgq z;let⟨f0,f1,f2,_⟩:=hf p.1 hb;let⟨o,e',d⟩:=ho p.1 hb;rw[e]at e';cases e';show⟨e,f0,f1,f2,d⟩
theorem Inv.dW{ao pl:List (Addr×Obj)}{Z:St}{H:Hp}{s:Shared}(I:Inv X (ao++pl) Z H s):Inv X ao Z H s:=I.qC λp hp=>I.pin p (nj _ (Px _ hp))
def znB{iter:Expr}{body:List Stmt}{wi:TI}{g:TG}{tb:TS}{pos:Pos}(hp:PassesOwn (model X.prog X.w) X.A X.env X.xe)(hc:X.aj=true)(hi:PI X tg iter wi)(hg:PG X tg g)(hb:pL X body tb)
  (hs:∀x,foldedSetIterable iter X.env x=pure x:=by intro _;rfl):PS X (.For tg iter body [] pos) (QM wi g tb):=by
 intro ao s Z H D I h;show wpAny_For (aV (hi ao s Z H _ I h) λv s1 h1=>aV h1 λitv s2 h2=>?_) hs;let⟨it,fp,tn,bK,H2,e,I2,T,st2,f2,W,⟨m0,w0⟩,turn⟩:=h2;subst e;let stat:∀{H':Hp},(∀b∈fp,H' b=none)->∀b∈fp,fD X ao H' b:=λhn b hb=>⟨hn b hb,(f2 b hb).2⟩;show codeAny_forLoop_any (λn s'=>∃i Z' H',Inv X ao Z' H' s'/\tn i s'.heap/\(∀b∈fp,H' b=none)/\W i n Z' H') ?_ m0 ⟨0,Z,H2,I2,st2,λb hb=>(f2 b hb).1,w0⟩;rintro n s3 ⟨i,Z3,H3,I3,st3,Xo,w3⟩;rcases turn i n Z3 H3 w3 with ⟨stop,qn⟩|⟨go,N,hN,step⟩
 .refine Ai hp (aV (T.done X rfl rfl rfl hc i ao s3 Z3 H3 X.xe I3 (stat Xo) st3 stop) λr s4 ⟨hr,I4⟩=>?_);subst hr;show wpAny_execs_nil ⟨Z3,H3,I4,qn⟩
 .refine Ai hp (aV (T.item X rfl rfl rfl hc i ao s3 Z3 H3 X.xe I3 (stat Xo) st3 go) λr s4 hx=>vQ hx λu hr h4=>?_);subst hr;show Ai hp (aV h4 λ_ s5 hz=>?_);let⟨x,H5,I5,r5,y5,sX,vV⟩:=hz;let I5':=I5.pinned (stat vV) (T.obj _ _ sX);show Ai hp (aV (hg _ s5 Z3 H5 x u _ I5' r5 (step x H5 y5)) λ_ s6 hz=>?_);let⟨Z6,H6,I6,q6⟩:=hz;show Ai hp (aV (hb _ s6 Z6 H6 _ I6 q6) λf s7 q7=>?_);let again:∀{Z7:St} {H7:Hp},Inv X (ao++iY fp s5.heap) Z7 H7 s7->N Z7 H7->∃m,m<n/\∃i Z' H',Inv X ao Z' H' s7/\tn i s7.heap/\(∀b∈fp,H' b=none)/\W i m Z' H':=λ{Z7 H7} I7 n7=>by
   let⟨m',hm,w7⟩:=hN Z7 H7 n7;show⟨m',hm,i+1,Z7,H7,I7.dW,T.keep _ _ _ sX λb hb o e=>(I7.pin (b,o) (nj _ (nj _ (yS hb e)))).1,λb hb=>?_,w7⟩;let⟨o,e,d⟩:=T.obj _ _ sX b hb;show(I7.pin (b,o) (nj _ (nj _ (yS hb e)))).2.1
  cases f with
  |next=>let⟨Z7,H7,I7,n7⟩:=q7;show again I7 n7|cont=>let⟨Z7,H7,I7,n7⟩:=q7;show again I7 n7|brk=>let⟨Z7,H7,I7,q7⟩:=q7;show⟨Z7,H7,I7.dW,q7⟩|ret v=>let⟨x7,Z7,H7,I7,r7,q7⟩:=q7;show⟨x7,Z7,H7,I7.dW,r7,q7⟩
end
noncomputable abbrev R2:=V->V->Hp->VK->Prop
def dX(X:Cx)(f:Value->Value->Sem Value)(r:R2):Prop:=
 ∀(ao:List (Addr×Obj)) (s:Shared) (Z:St) (H:Hp) (x y:V) (v u:Value) (Q:VK),Inv X ao Z H s->RelV x v->RelV y u->r x y H Q->
  wpAny (model X.prog X.w) X.A (f v u) (EP X ao Z Q) X.xe s
def Mr(X:Cx)(f:Value->Sem Value)(r:V->Hp->VK->Prop):Prop:=
 ∀(ao:List (Addr×Obj)) (s:Shared) (Z:St) (H:Hp) (x:V) (v:Value) (Q:VK),Inv X ao Z H s->RelV x v->r x H Q->
  wpAny (model X.prog X.w) X.A (f v) (EP X ao Z Q) X.xe s
def cV(X:Cx)(f:Value)(r:List V->Hp->VK->Prop):Prop:=
 ∀(ao:List (Addr×Obj)) (s:Shared) (Z:St) (H:Hp) (xs:List V) (us:List Value) (Q:VK),Inv X ao Z H s->Vals xs us->r xs H Q->
  wpAny (model X.prog X.w) X.A (call f us) (EP X ao Z Q) X.xe s
def QS(X:Cx)(r:V->Hp->(Bool->Hp->Prop)->Prop):Prop:=
 ∀(ao:List (Addr×Obj)) (s:Shared) (Z:St) (H:Hp) (x:V) (v:Value) (Q:Bool->Hp->Prop),Inv X ao Z H s->RelV x v->r x H Q->
  wpAny (model X.prog X.w) X.A (truthy v) (TP X ao Z Q) X.xe s
def Ms(r:R2)(ta tb:TE):TE:=λZ H Q=>ta Z H λx H1=>tb Z H1 λy H2=>r x y H2 Q
def tUn(r:V->Hp->VK->Prop)(ta:TE):TE:=λZ H Q=>ta Z H λx H1=>r x H1 Q
def rI(C:Int->Int->Prop)(g:Int->Int->V):R2:=λx y H Q=>∃i j,x=.int i/\y=.int j/\C i j/\Q (g i j) H
def pN(g:Int->Int->V):R2:=λx y H Q=>∃i j,x=.int i/\y=.int j/\Q (g i j) H
def rU(g:Int->V):V->Hp->VK->Prop:=λx H Q=>∃i,x=.int i/\Q (g i) H
section
variable {X:Cx}{a b c:Expr}{ta tb tc:TE}{pos:Pos}
def Bh(ha:PE X a ta)(hb:PE X b tb){ao:List (Addr×Obj)}{s:Shared}{Z:St}{H:Hp}{R:V->V->Hp->Prop}(I:Inv X ao Z H s)
  (h:ta Z H λx H1=>tb Z H1 λy H2=>R x y H2) {Q:Value->Shared->Prop} {f:Value->Value->Sem Value}
  (hf:∀v u s2 x y H2,Inv X ao Z H2 s2->RelV x v->RelV y u->R x y H2->wpAny (model X.prog X.w) X.A (f v u) Q X.xe s2) :
  wpAny (model X.prog X.w) X.A (eval a X.env) (λv s₁=>wpAny (model X.prog X.w) X.A (eval b X.env) (λu s₂=>wpAny (model X.prog X.w) X.A (f v u) Q X.xe s₂) X.xe s₁) X.xe s:=by
 show aV (ha ao s Z H _ I h) λv s1 hx=>eO hx λx H1 I1 r1 q1=>?_;show aV (hb ao s1 Z H1 _ I1 q1) λu s2 hx=>eO hx λy H2 I2 r2 q2=>?_;show hf v u s2 x y H2 I2 r1 r2 q2
def zpp{op:Operator}{r:R2}(ho:dX X (binaryOp op) r)(ha:PE X a ta)(hb:PE X b tb):PE X (.BinOp a op b pos) (Ms r ta tb):=by
 intro ao s Z H Q I h;show wpAny_BinOp (Bh ha hb I h λv u s2 x y H2 I2 rx ry q=>ho ao s2 Z H2 x y v u Q I2 rx ry q)
def zo9{op:UnaryOp}{r:V->Hp->VK->Prop}(ho:Mr X (unaryOp op) r)(ha:PE X a ta):PE X (.UnaryOp op a pos) (tUn r ta):=by
 intro ao s Z H Q I h;show UnaryOp_ (aV (ha ao s Z H _ I h) λv s1 hx=>eO hx λx H1 I1 r1 q1=>ho ao s1 Z H1 x v Q I1 r1 q1)
def Mu{f:Value->Value->Sem Value}{C:Int->Int->Prop}{g:Int->Int->Int}
  (rule:∀(i j:Int) (t u:Tok) (s:Shared) (Q:Value->Shared->Prop) (E:Value->Shared->Prop),C i j->Q (.int (g i j) s.toks) {s with toks:=s.toks+1}->wpAny (model X.prog X.w) X.A (f (.int i t) (.int j u)) Q E s) :
  dX X f (rI C λi j=>.int (g i j)):=by
 intro ao s Z H x y v u Q I rx ry h;let⟨i,j,rfl,rfl,hc,q⟩:=h;let⟨t,rfl⟩:=rx;let⟨t',rfl⟩:=ry;show rule i j t t' s _ _ hc ⟨.int (g i j),H,I.tok _,⟨_,rfl⟩,q⟩
def Ig{f:Value->Value->Sem Value}{g:Int->Int->Int}
  (rule:∀(i j:Int) (t u:Tok) (s:Shared) (Q:Value->Shared->Prop) (E:Value->Shared->Prop),Q (.int (g i j) s.toks) {s with toks:=s.toks+1}->wpAny (model X.prog X.w) X.A (f (.int i t) (.int j u)) Q E s) :
  dX X f (pN λi j=>.int (g i j)):=by
 intro ao s Z H x y v u Q I rx ry h;let⟨i,j,rfl,rfl,q⟩:=h;let⟨t,rfl⟩:=rx;let⟨t',rfl⟩:=ry;show rule i j t t' s _ _ ⟨.int (g i j),H,I.tok _,⟨_,rfl⟩,q⟩
def wI{f:Value->Value->Sem Value}{g:Int->Int->Bool}
  (rule:∀(i j:Int) (t u:Tok) (s:Shared) (Q:Value->Shared->Prop) (E:Value->Shared->Prop),Q (.bool (g i j)) s->wpAny (model X.prog X.w) X.A (f (.int i t) (.int j u)) Q E s) :
  dX X f (pN λi j=>.bl (g i j)):=by
 intro ao s Z H x y v u Q I rx ry h;let⟨i,j,rfl,rfl,q⟩:=h;let⟨t,rfl⟩:=rx;let⟨t',rfl⟩:=ry;show rule i j t t' s _ _ ⟨.bl (g i j),H,I,rfl,q⟩
def wJ(i j:Int):Prop:=0<j/\j<1073741824
def Ih(i j:Int):Prop:=0<=j/\j<=1000000/\i.natAbs<2^64
def wK(i j:Int):Prop:=(-(2^64)<i/\i<2^64)\/(-(2^64)<j/\j<2^64)
def wK.ok{i j:Int}(h:wK i j):IntMulOk i j:=by
 rcases h with ⟨h1,h2⟩|⟨h1,h2⟩
 .exact .of_left (intBits_le_64 h1 h2)
 .exact .of_right (intBits_le_64 h1 h2)
theorem Bj:dX X (binaryOp .Add) (pN λi j=>.int (i+j)):=Ig λ_ _ _ _ _ _ _ q=>add_int q
theorem znH:dX X (binaryOp .Sub) (pN λi j=>.int (i-j)):=Ig λ_ _ _ _ _ _ _ q=>sub_int q
theorem zm1:dX X (binaryOp .Mult) (rI wK λi j=>.int (i*j)):=Mu λ_ _ _ _ _ _ _ hc q=>mul_int q hc.ok
theorem zjk:dX X (binaryOp .FloorDiv) (rI wJ λi j=>.int (i/j)):=Mu λi j _ _ _ _ _ hc q=>by
 let h1:(0:Int)<j:=hc.1;let h2:j<1073741824:=hc.2;show floordiv_int gV (by rw[Int.fdiv_eq_ediv_of_nonneg i gV];show q) (.inl (PyProof.noPylong_small gV))
theorem zlu:dX X (binaryOp .Mod) (rI (λ_ j=>0<j) λi j=>.int (i%j)):=Mu λi j _ _ _ _ _ hc q=>by
 let h1:(0:Int)<j:=hc;show mod_int' gV (by rw[Int.fmod_eq_emod_of_nonneg i gV];show q)
theorem znl:dX X (binaryOp .Pow) (rI Ih λi j=>.int (i^j.toNat)):=Mu λ_ _ _ _ _ _ _ hc q=>pow_int_small hc.1 hc.2.1 hc.2.2 q
def unI{f:Value->Sem Value}{g:Int->Int}
  (rule:∀(i:Int) (t:Tok) (s:Shared) (Q:Value->Shared->Prop) (E:Value->Shared->Prop),Q (.int (g i) s.toks) {s with toks:=s.toks+1}->wpAny (model X.prog X.w) X.A (f (.int i t)) Q E s) :
  Mr X f (rU λi=>.int (g i)):=by
 intro ao s Z H x v Q I rx h;let⟨i,rfl,q⟩:=h;let⟨t,rfl⟩:=rx;show rule i t s _ _ ⟨.int (g i),H,I.tok _,⟨_,rfl⟩,q⟩
theorem zlV:Mr X (unaryOp .USub) (rU λi=>.int (-i)):=unI λ_ _ _ _ _ q=>neg_int q
end
section
variable {X:Cx}{a b c:Expr}{ta tb tc:TE}{pos:Pos}
theorem Ii:dX X (compareOp .Lt) (pN λi j=>.bl (decide (i<j))):=wI λ_ _ _ _ _ _ _ q=>lt_int q
theorem zoE:dX X (compareOp .LtE) (pN λi j=>.bl (decide (i<=j))):=wI λ_ _ _ _ _ _ _ q=>le_int q
theorem zpx:dX X (compareOp .Gt) (pN λi j=>.bl (decide (j<i))):=wI λ_ _ _ _ _ _ _ q=>gt_int q
theorem zn9:dX X (compareOp .GtE) (pN λi j=>.bl (decide (j<=i))):=wI λ_ _ _ _ _ _ _ q=>ge_int q
def dX.or{f:Value->Value->Sem Value}{r r':R2}(h:dX X f r)(h':dX X f r'):dX X f (λx y H Q=>r x y H Q\/r' x y H Q):=by
 intro ao s Z H x y v u Q I rx ry q;rcases q with q|q
 .exact h ao s Z H x y v u Q I rx ry q
 .exact h' ao s Z H x y v u Q I rx ry q
def zkK{op:CmpOp}{r:R2}(ho:dX X (compareOp op) r)(ha:PE X a ta)(hb:PE X b tb)(hm:behindInMarks op b=false):PE X (.Compare a [op] [b] pos) (Ms r ta tb):=by
 intro ao s Z H Q I h;show wpAny_Compare1 (Bh ha hb I h λv u s2 x y H2 I2 rx ry q=>ho ao s2 Z H2 x y v u Q I2 rx ry q) hm
def Ij(t:TE):TT:=λZ H Q=>t Z H λx H'=>∃k,x=.bl k/\Q k H'
def zkw{op:CmpOp}{r:R2}(ho:dX X (compareOp op) r)(ha:PE X a ta)(hb:PE X b tb)(hm:behindInMarks op b=false):PT X (.Compare a [op] [b] pos) (Ij (Ms r ta tb)):=by
 intro ao s Z H Q I h;show wpAny_isTrue_Compare1 (aV (ha ao s Z H _ I h) λv s1 hx=>eO hx λx H1 I1 r1 q1=>aV (hb ao s1 Z H1 _ I1 q1) λu s2 hx=>eO hx λy H2 I2 r2 q2=>
  aV (ho ao s2 Z H2 x y v u _ I2 r1 r2 q2) λc s3 hx=>Qi hx λz H3 I3 r3 k e q3=>?_) hm
 subst e;cases r3;show vG ⟨H3,I3,q3⟩
def Bk(r r':R2)(ta tb tc:TE):TE:=λZ H Q=>ta Z H λx H1=>tb Z H1 λy H2=>r x y H2 λz H3=>∃k,z=.bl k /\
 (if k=true then tc Z H3 λw' H4=>r' y w' H4 Q else Q (.bl false) H3)
def zif{op op':CmpOp}{r r':R2}(ho:dX X (compareOp op) r)(uf:dX X (compareOp op') r')(ha:PE X a ta)(hb:PE X b tb)(hc:PE X c tc)
  (hm:lastMarks [op,op'] [b,c]=false:=by with_unfolding_all rfl):PE X (.Compare a [op,op'] [b,c] pos) (Bk r r' ta tb tc):=by
 intro ao s Z H Q I h;show Compare_chain (aV (ha ao s Z H _ I h) λv s1 hx=>eO hx λx H1 I1 r1 q1=>chain_link (aV (hb ao s1 Z H1 _ I1 q1) λu s2 hx=>eO hx λy H2 I2 r2 q2=>
  aV (ho ao s2 Z H2 x y v u _ I2 r1 r2 q2) λd s3 hx=>Qi hx λz H3 I3 r3 k e q3=>?_)) hm
 subst e;cases r3;show vG ?_;cases k with
 |false=>show ite_ff ⟨.bl false,H3,I3,rfl,q3⟩|true=>show ite_tt (chain_last (aV (hc ao s3 Z H3 _ I3 q3) λw' s4 hx=>eO hx λz' H4 I4 r4 q4=>uf ao s4 Z H4 y z' u w' Q I4 r2 r4 q4))
def Bl(K:W.Frag)(x:V)(H:Hp)(k:Bool):Prop:=
 match x with
 |.non=>k=false|.bl b=>k=b|.int i=>k=(i != 0)|.str y=>y.length<=sizeLine/\k=((y.length:Int) != 0)|.Ax y=>y.size<=sizeLine/\k=((y.size:Int) != 0)|.ref p=>(∃xs,c7 K H p xs/\k = !xs.isEmpty)\/(∃xs,fC K H p xs/\k = !xs.isEmpty)\/∃kvs,H p=some (.dK kvs)/\k = !kvs.isEmpty|_=>False
def zff{κ:Type}{kvs:List (κ×V)}{vs:List (κ×Value)}(r:KV kvs vs):(!vs.isEmpty) = !kvs.isEmpty:=by
 cases r<;>rfl
def Xp{xs:List V}{its:List Value}(r:Vals xs its):(!its.toArray.isEmpty) = !xs.isEmpty:=by
 cases r<;>simp
def iZ:(sizeLine:Nat)<2^63:=by rw[vO];decide
def znE:QS X (λx H Q=>∃k,Bl X.K x H k/\Q k H):=by
 intro ao s Z H x v Q I rx h;let⟨k,e,q⟩:=h;let hl:=iZ;let hs:sizeLine=16777216:=vO;cases x with
 |non=>
  cases rx;let e':k=false:=e;subst e';show truthy_none ⟨H,I,q⟩
 |bl b=>
  cases rx;let e':k=b:=e;subst e';show vG ⟨H,I,q⟩
 |int i=>
  let⟨t,rfl⟩:=rx;let e':k=(i != 0):=e;subst e';show PySem.P.truthy_int ⟨H,I,q⟩
 |str y=>
  let⟨t,rfl⟩:=rx;obtain⟨hy,e'⟩ : y.length<=sizeLine/\k=((y.length:Int) != 0):=e;subst e';show PySem.P.truthy_str gV ⟨H,I.tok _,q⟩
 |Ax y=>
  let⟨t,rfl⟩:=rx;obtain⟨hy,e'⟩ : y.size<=sizeLine/\k=((y.size:Int) != 0):=e;subst e';show PySem.W.truthy_bytes gV ⟨H,I.tok _,q⟩
 |ref p=>
  cases rx;let e':(∃xs,c7 X.K H p xs/\k = !xs.isEmpty)\/(∃xs,fC X.K H p xs/\k = !xs.isEmpty)\/∃kvs,H p=some (.dK kvs)/\k = !kvs.isEmpty:=e;rcases e' with ⟨xs,hx,e'⟩|⟨xs,hx,e'⟩|⟨kvs,hx,e'⟩
  .subst e';let⟨its,r,pl,hz⟩:=I.list hx;let hlen:=r.length;show wpAny_truthy_list pl.isList (by simp only[gj];lia) ⟨H,I.tok _,by rw[Xp r];show q⟩
  .subst e';let⟨its,r,pl,hz⟩:=I.tuple hx;let hlen:=r.length;show truthy_tuple pl (by simp only[gj];lia) ⟨H,I.tok _,by rw[Xp r];show q⟩
  .subst e';obtain⟨hz,hS,vs,r,m⟩ : kvs.length<=sizeLine/\(p==sysModules)=false/\∃vs,KV kvs vs/\s.heap.DictOf (mF X.prog X.w) p vs:=I.hok p _ hx;let hlen:kvs.length=vs.length:=Paired.length r;show wpAny_truthy_dict hS m gV ⟨H,I.tok _,by rw[zff r];show q⟩
 |_=>show(show False from e).elim
def zfr:dX X (binaryOp .Add) (λx y H Q=>∃i j,x=.str i/\y=.str j/\i.length+j.length<=sizeLine/\Q (.str (i++j)) H):=by
 intro ao s Z H x y v u Q I rx ry h;let⟨i,j,rfl,rfl,hz,q⟩:=h;let⟨t,rfl⟩:=rx;let⟨t',rfl⟩:=ry;show add_str (λt' tk=>⟨.str (i++j),H,I.tok _,⟨_,rfl⟩,q⟩) hz
def vals1{x:V}{us:List Value}(r:Vals [x] us):∃u,us=[u]/\RelV x u:=by
 cases r with
 |cons r1 r2=>cases r2;show⟨_,rfl,r1⟩
def vals2{x y:V}{us:List Value}(r:Vals [x,y] us):∃u w',us=[u,w']/\RelV x u/\RelV y w':=by
 cases r with
 |cons r1 r2=>
  cases r2 with
  |cons r3 r4=>cases r4;show⟨_,_,rfl,r1,r3⟩
def ziD:cV X (.builtin "abs") (λxs H Q=>∃i,xs=[.int i]/\Q (.int (if i<0 then -i else i)) H):=by
 intro ao s Z H xs us Q I r h;let⟨i,rfl,q⟩:=h;let⟨u,rfl,t,rfl⟩:=vals1 r;show call_abs_int λu tk=>⟨.int (if i<0 then -i else i),H,I.tok _,⟨_,rfl⟩,q⟩
def zgL(hc:X.aj=true):cV X (.builtin "max") (λxs H Q=>∃i j,xs=[.int i,.int j]/\Q (.int (if j>i then j else i)) H):=by
 intro ao s Z H xs us Q I r h;let⟨i,j,rfl,q⟩:=h;let⟨u,w',rfl,⟨t,rfl⟩,⟨t',rfl⟩⟩:=vals2 r;show max_two_ints (I.ok.hd hc) λh' tk k=>⟨_,H,I.kept k,?_,q⟩;by_cases hj:j>i
 .rw[if_pos hj,if_pos hj];show⟨_,rfl⟩
 .rw[if_neg hj,if_neg hj];show⟨_,rfl⟩
def zgX(hc:X.aj=true):cV X (.builtin "min") (λxs H Q=>∃i j,xs=[.int i,.int j]/\Q (.int (if j<i then j else i)) H):=by
 intro ao s Z H xs us Q I r h;let⟨i,j,rfl,q⟩:=h;let⟨u,w',rfl,⟨t,rfl⟩,⟨t',rfl⟩⟩:=vals2 r;show min_two_ints (I.ok.hd hc) λh' tk k=>⟨_,H,I.kept k,?_,q⟩;by_cases hj:j<i
 .rw[if_pos hj,if_pos hj];show⟨_,rfl⟩
 .rw[if_neg hj,if_neg hj];show⟨_,rfl⟩
def zg5:cV X (.type "int") (λxs H Q=>(∃i,xs=[.int i]/\Q (.int i) H)\/∃k,xs=[.bl k]/\Q (.int (if k then 1 else 0)) H):=by
 intro ao s Z H xs us Q I r h;rcases h with ⟨i,rfl,q⟩|⟨k,rfl,q⟩
 .obtain⟨u,rfl,t,rfl⟩:=vals1 r;show call_int_int ⟨.int i,H,I,⟨_,rfl⟩,q⟩
 .obtain⟨u,rfl,r1⟩:=vals1 r;cases r1;show call_int_bool ⟨.int (if k then 1 else 0),H,I.tok _,⟨_,rfl⟩,q⟩
def zd6:cV X (.builtin "divmod") (λxs H Q=>∃i j,xs=[.int i,.int j]/\wJ i j/\∀p,H p=none->Q (.ref p) (upd H p (.tup [.int (i/j),.int (i%j)]))):=by
 intro ao s Z H xs us Q I r h;let⟨i,j,rfl,⟨h1,h2⟩,q⟩:=h;let⟨u,w',rfl,⟨t,rfl⟩,⟨t',rfl⟩⟩:=vals2 r;show divmod_int gV ?_ (.inl (PyProof.noPylong_small gV));rw[Int.fdiv_eq_ediv_of_nonneg i gV,Int.fmod_eq_emod_of_nonneg i gV];let hn:H s.heap.objs.size=none:=I.hok.fresh (bQ _);show⟨.ref s.heap.objs.size,_,?_,rfl,q _ hn⟩;show I.laid (λb o e=>cR _ e) (bQ _) ⟨by simp only[eE,vJ];rw[vO];decide,[.int (i/j) s.toks,.int (i%j) (s.toks+1)],.cons ⟨_,rfl⟩ (.cons ⟨_,rfl⟩ .nil),?_⟩;show⟨_,fB s.heap rfl,rfl,0,rfl,rfl⟩
end
structure pO(h:Heap)(x dx C:Addr)(mA:Str->Option Value):Prop where
 obj:h.get? x=some (PySem.W.instObj C dx)
 ns:h.Ns1 dx mA
 ne:dx≠x
def zhf{h:Heap}{dx:Addr}{mA:Str->Option Value}(n:h.Ns1 dx mA):∃od,h.get? dx=some od/\∀name,PySem.W.lookIn name od=some (mA name):=by
 let⟨o,es,ep,ho,hd,hk,_,hm⟩:=n;show⟨o,ho,λname=>?_⟩;let e:=hm name;unfold nsFind findBy at e;rw[<-Array.find?_toList]at e;unfold PySem.W.lookIn;rw[hd];dsimp only
 split
 .rename_i y q;rw[q]at e;show nq some e
 .rename_i q;rw[q]at e;let a:es.toList.any (·.refKey)=false:=by
   rw[List.any_eq_false];intro y hy;let⟨z,t,QT⟩:=hk y (Array.mem_toList_iff.mp hy);simp[DictEntry.refKey,QT]
  let a':¬es.toList.any (·.refKey)=true:=by rw[a];show yw
  rw[if_neg a'];show nq some e
theorem pO.look{h:Heap}{x dx C:Addr}{mA:Str->Option Value}(I:pO h x dx C mA):∃od,PySem.W.InstAt h x (PySem.W.instObj C dx) C (some od)/\∀name,PySem.W.lookIn name od=some (mA name):=
 let ⟨od,ho,hl⟩:=zhf I.ns
 ⟨od,⟨I.obj,rfl,rfl,ho⟩,hl⟩
section
variable {prog:Program}{w:World}{A:Around}{E:Value->Shared->Prop}{s:Shared}{K:W.Frag}{x dx C f:Addr}{mA:Str->Option Value}{name:Str}{v:Value}
def zkn{expr:Bool}{Q:Value->Shared->Prop}(X:K.In s.heap)(I:pO s.heap x dx C mA)(hg:PySem.W.plainGet K C name=true)(hh:PySem.W.hasDictIn K C=true)
  (ha:PySem.W.findIn K (.ref C) name=some none) (hv:mA name=some v) (QV:PySem.W.handedIn v=true) (h:Q v {s with toks:=s.toks+1}) :
  wpAny (model prog w) A (getAttr (.ref x) name expr) Q E s:=by
 let⟨od,bK,hl⟩:=I.look;show PySem.W.get_value X bK (Pz hg).1 (PySem.W.findObj_own hh ha rfl (by rw[hl,hv])) QV h
def zil{pl:Sem Bool}{Q:Value×List Value->Shared->Prop}(X:K.In s.heap)(I:pO s.heap x dx C mA)(hg:PySem.W.plainGet K C name=true)
  (hf:PySem.W.findIn K (.ref C) name=some (some (.ref f))) (ht:PySem.W.isFn K (.ref f)=true) (hv:mA name=none) (h:Q (.ref f,[.ref x]) s) :
  wpAny (model prog w) A (getMethod (.ref x) name pl) Q E s:=by
 let⟨od,bK,hl⟩:=I.look;show PySem.W.method_fn X bK (Pz hg).1 (Pz hg).2 hf (rG.mp ht) (by change (PySem.W.lookIn name od).map (·.isSome)=some false;rw[hl,hv];rfl) h
def zkR{ns:List Str}{Q:Unit->Shared->Prop}(X:K.In s.heap)(I:pO s.heap x dx C mA)
  (hs:PySem.W.findIn K (.ref C) "__setattr__"=some (some (.builtin "object.__setattr__"))) (hp:PySem.W.plainOver K C=true) (ht:PySem.W.takerIn K C name=some none) (hh:PySem.W.hasDictIn K C=true)
  (hw:PySem.Within mA ns) (hsz:ns.length<=sizeLine)
  (h:∀h',pO h' x dx C (λy=>if y=name then some v else mA y)->Heap.SameBut dx s.heap h'->Q () {s with heap:=h',toks:=s.toks+2}) :
  wpAny (model prog w) A (setAttr (.ref x) name v) Q E s:=by
 let⟨od,bK,hl⟩:=I.look;show PySem.W.set_plain X bK hs (PySem.W.osa_open (s:={s with toks:=s.toks+1}) (r:=none) X bK hp ht λb=>?_);let⟨cd,hc,HF⟩:=PySem.W.any_some hh;let hx:s.heap.get? x=some ⟨.ref C,some dx,.plain,#[]⟩:=I.obj;show aC (aQ (aC (aC (wpAny_loadPart hx (aC (PySem.W.Looks.here (s:={s with toks:=s.toks+1}) (PySem.W.looks_clsIn X hc) ?_))))));rw[HF];show aQ (a:=some dx) (aC (aQ (aC ?_)));show wpAny_nsSet1 (s:={s with toks:=s.toks+1}) I.ns λh' Xq wH=>?_;let⟨oD,esD,epD,hoD,hdD,hcD⟩:=Xq.count (PySem.Within.cons name v hw);show aC (wpAny_lookBehind hoD (by rw[hdD];show pastItsLine_dict (jz hcD (by rw[eE];lia))) ?_);show aQ (h _ ⟨(wH.2 _ (Ne.symm I.ne)).trans I.obj,Xq,I.ne⟩ wH)
def zh8{R:Result->Shared->Prop}{vs:List Value}{kw:List (Str×Value)}(X:K.In s.heap)(hm:PySem.W.makesIn K C=true)
  (hi:PySem.W.findIn K (.ref C) "__init__"=some (some (.ref f))) (hf:PySem.W.typeIn K (.ref f)=some (.type "function"))
  (h:codeAny (model prog w) (A.under (.builtin "type.__call__" ⟨.ref C::vs,kw⟩)) (.call (.ref f) ⟨.ref (s.heap.objs.size+1)::vs,kw⟩) (PySem.W.InitBack (s.heap.objs.size+1) R)
   {s with heap:=(s.heap.push PySem.W.emptyDict).push (PySem.W.instObj C s.heap.objs.size)}) :
  codeAny (model prog w) A (.call (.ref C) ⟨vs,kw⟩) R s:=by
 let⟨hh,g,d,t,os⟩:=s;show PySem.W.make_core (PySem.W.makes_of X hm) (PySem.W.looks_findIn X hi) (λself=>PySem.W.bind_fn X self hf) (.inl rfl) h
end
def fG(f:Str)(v:V):List (Str×V)->List (Str×V)
 |[]=>[(f,v)]|(g,x)::r=>if g=f then (g,v)::r else (g,x)::fG f v r
theorem Xr(f g:Str)(v:V):∀fs:List (Str×V),(fG f v fs).lookup g=if g=f then some v else fs.lookup g
 |[]=>by
  change List.lookup g [(f,v)]=_;by_cases h:g=f
  .let hb:(g==f)=true:=rG.mpr h;simp only[List.lookup,hb,if_pos h]
  .let hb:(g==f)=false:=Ae.mpr h;simp only[List.lookup,hb,if_neg h]
 |(k,x)::r=>by
  let ih:=Xr f g v r;rw[show fG f v ((k,x)::r)=(if k=f then (k,v)::r else (k,x)::fG f v r) from rfl];by_cases hk:k=f
  .rw[if_pos hk];by_cases h:g=k
   .let hb:(g==k)=true:=rG.mpr h;simp only[List.lookup,hb,if_pos (h.trans hk)]
   .let hb:(g==k)=false:=Ae.mpr h;simp only[List.lookup,hb,if_neg (λe:g=f=>h (e.trans hk.symm))]
  .rw[if_neg hk];by_cases h:g=k
   .let hb:(g==k)=true:=rG.mpr h;simp only[List.lookup,hb,if_neg (λe:g=f=>hk (h.symm.trans e))]
   .let hb:(g==k)=false:=Ae.mpr h;simp only[List.lookup,hb];show ih
theorem QW(f:Str)(v:V):∀fs:List (Str×V),f∈(fG f v fs).map (·.1)/\∀g,g∈fs.map (·.1)->g∈(fG f v fs).map (·.1)
 |[]=>⟨by simp[fG],λg h=>by simp at h⟩|(k,x)::r=>by
  let⟨i1,i2⟩:=QW f v r;rw[show fG f v ((k,x)::r)=(if k=f then (k,v)::r else (k,x)::fG f v r) from rfl];by_cases hk:k=f
  .rw[if_pos hk];subst hk;show⟨by simp,λg h=>by simpa using h⟩
  .rw[if_neg hk];show⟨?_,λg h=>?_⟩
   .rw[iV];show iJ _ i1
   .rw[iV]at h ⊢;rcases jo.mp h with e|e
    .exact jo.mpr (.inl e)
    .exact iJ _ (i2 g e)
theorem Xu(f:Str)(v:V):∀fs:List (Str×V),(fG f v fs).length<=fs.length+1
 |[]=>by simp[fG]|(k,x)::r=>by
  let ih:=Xu f v r;rw[show fG f v ((k,x)::r)=(if k=f then (k,v)::r else (k,x)::fG f v r) from rfl];by_cases hk:k=f
  .rw[if_pos hk,eE,eE];lia
  .rw[if_neg hk,eE,eE];lia
def Kag{v:V}{o:Option Value}(r:rJ (some v) o):∃u,o=some u/\RelV v u:=by
 cases o with
 |none=>show(show False from r).elim|some u=>show⟨u,rfl,r⟩
def Kaf{o:Option Value}(r:rJ none o):o=none:=by
 cases o with
 |none=>rfl|some u=>show(show False from r).elim
def zgn{v:V}{u:Value}(r:RelV v u):PySem.W.handedIn u=true:=by
 cases v with
 |non=>cases (show u=Value.none from r);rfl|bl b=>cases (show u=Value.bool b from r);rfl|int i=>let⟨t,e⟩:=(show ∃t,u=Value.int i t from r);cases e;rfl|str x=>let⟨t,e⟩:=(show ∃t,u=Value.str x t from r);cases e;rfl|Ax b=>let⟨t,e⟩:=(show ∃t,u=Value.bytes b t from r);cases e;rfl|flt b=>let⟨t,e⟩:=(show ∃t,u=Value.float b t from r);cases e;rfl|ref a=>cases (show u=Value.ref a from r);rfl|ty n=>cases (show u=Value.type n from r);rfl
section
variable {P:Program}{w:World}{H H':Hp}{h h':Heap}{a C dx:Addr}{fs fs':List (Str×V)}
def QX(hok:jF P w H h)(e:H a=some (.ins C dx fs)):∃mA,pO h a dx C mA/\(∀f,rJ (fs.lookup f) (mA f))/\PySem.Within mA (fs.map (·.1))/\fs.length<=1000/\H dx=some (.own a):=by
 let⟨d,z,ne,ob,mA,n,r,q⟩:=(show bT P w H h a (.ins C dx fs) from hok a _ e);show⟨mA,⟨ob,n,ne⟩,r,q,z,d⟩
end
structure Cls(K:W.Frag)(C:Addr):Prop where
 pg:PySem.W.plainGet K C Str.empty=true
 hd:PySem.W.hasDictIn K C=true
 po:PySem.W.plainOver K C=true
 sa:PySem.W.findIn K (.ref C) "__setattr__"=some (some (.builtin "object.__setattr__"))
theorem Cls.get{K:W.Frag}{C:Addr}(c:Cls K C)(f:Str):PySem.W.plainGet K C f=true:=c.pg
def gQ(K:W.Frag)(C:Addr)(f:Str):Prop:=PySem.W.findIn K (.ref C) f=some none
def gQ.taker{K:W.Frag}{C:Addr}{f:Str}(n:gQ K C f):PySem.W.takerIn K C f=some none:=by
 unfold PySem.W.takerIn;rw[show PySem.W.findIn K (.ref C) f=some none from n];rfl
structure Meth(K:W.Frag)(C:Addr)(m:Str)(f:Addr):Prop where
 at_:PySem.W.findIn K (.ref C) m=some (some (.ref f))
 fn:PySem.W.isFn K (.ref f)=true
 kp:PySem.W.keepIn K (.ref f)=true
section
variable {X:Cx}{ao:List (Addr×Obj)}{Z:St}{H:Hp}{s:Shared}{a C dx:Addr}{fs:List (Str×V)}{f:Str}{v:V}{A:Around}{E:Value->Shared->Prop}
def zfg{b:Bool}{Q:Value->Shared->Prop}(I:Inv X ao Z H s)(e:H a=some (.ins C dx fs))(c:Cls X.K C)(n:gQ X.K C f)(l:fs.lookup f=some v)
  (h:∀u s',Inv X ao Z H s'->RelV v u->Q u s'):wpAny (model X.prog X.w) A (getAttr (.ref a) f b) Q E s:=by
 let⟨mA,O,r,_,_,_⟩:=QX I.hok e;let⟨u,hu,ru⟩:=Kag (v:=v) (o:=mA f) (by rw[<-l];show r f);show zkn I.qy O (c.get f) c.hd n hu (zgn ru) (h u _ (I.tok _) ru)
def zfz{m:Str}{g:Addr}{pl:Sem Bool}{Q:Value×List Value->Shared->Prop}(I:Inv X ao Z H s)(e:H a=some (.ins C dx fs))(c:Cls X.K C)(k:Meth X.K C m g)(l:fs.lookup m=none)
  (h:Q (.ref g,[.ref a]) s):wpAny (model X.prog X.w) A (getMethod (.ref a) m pl) Q E s:=by
 let⟨mA,O,r,_,_,_⟩:=QX I.hok e;let hn:mA m=none:=Kaf (by rw[<-l];show r m);show zil I.qy O (c.get m) k.at_ k.fn hn h
def zfA{y:V}{u:Value}{Q:Unit->Shared->Prop}(I:Inv X ao Z H s)(e:H a=some (.ins C dx fs))(c:Cls X.K C)(n:gQ X.K C f)(hl:fs.length<1000)(ry:RelV y u)
  (h:∀s',Inv X ao Z (upd H a (.ins C dx (fG f y fs))) s'->Q () s'):wpAny (model X.prog X.w) A (setAttr (.ref a) f u) Q E s:=by
 let⟨mA,O,r,wi,_,ho⟩:=QX I.hok e;let hz:(fs.map (·.1)).length<=sizeLine:=by rw[bN,vO];lia
 show zkR I.qy O c.sa c.po n.taker c.hd wi hz λh' O' sb=>h _ ?_;let hd:∃o,h'.get? dx=some o:=let ⟨o,_,_,e',_⟩:=O'.ns;⟨o,e'⟩;show I.write (x:=a) (e:=dx) (by rw[e];show True.intro) (.inr ho) (λb q hb z=>(sb.2 b hb).trans z) hd ?_;show⟨by rw[dj O.ne];show ho,?_,O.ne,O'.obj,_,O'.ns,λg=>?_,λg hg=>?_⟩
 .let:=Xu f y fs;lia
 .show rJ ((fG f y fs).lookup g) (if g=f then some u else mA g);rw[Xr];by_cases q:g=f
  .rw[if_pos q,if_pos q];show ry
  .rw[if_neg q,if_neg q];show r g
 .by_cases q:g=f
  .rw[q];show(QW f y fs).1
  .refine(QW f y fs).2 g (wi g λz=>hg ?_);change (if g=f then some u else mA g)=none;rw[if_neg q];show z
def Inv.made(I:Inv X ao Z H s):Inv X ao Z (upd (upd H s.heap.objs.size (.own (s.heap.objs.size+1))) (s.heap.objs.size+1) (.ins C s.heap.objs.size []))
  {s with heap:=(s.heap.push PySem.W.emptyDict).push (PySem.W.instObj C s.heap.objs.size)}:=by
 let e1:(s.heap.push PySem.W.emptyDict).get? s.heap.objs.size=some PySem.W.emptyDict:=fB s.heap rfl;let e2:((s.heap.push PySem.W.emptyDict).push (PySem.W.instObj C s.heap.objs.size)).get? (s.heap.objs.size+1)=some (PySem.W.instObj C s.heap.objs.size):=by
  let:=fB (s.heap.push PySem.W.emptyDict) (o:=PySem.W.instObj C s.heap.objs.size) rfl
  rwa [vL]at this
 let e3:(s.heap.push PySem.W.emptyDict).Ns s.heap.objs.size (λ_=>none):=⟨PySem.W.emptyDict,#[],_,e1,rfl,(λe he=>absurd he R3),λ_=>rfl⟩;let I1:=I.laid (a:=s.heap.objs.size) (o:=.own (s.heap.objs.size+1)) (h':=s.heap.push PySem.W.emptyDict) (t':=s.toks) (λb u q=>cR _ q) (bQ _) ⟨_,e1⟩;show I1.laid (a:=s.heap.objs.size+1) (o:=.ins C s.heap.objs.size []) (t':=s.toks) (λb u q=>cR _ q) (Nat.le_of_eq (vL _ _)) ?_;let ne:s.heap.objs.size≠s.heap.objs.size+1:=dN (G3 _);show⟨by rw[dj ne,jE],sW _,ne,e2,λ_=>none,(Heap.Ns1.of_empty e3).at λo q=>cR _ q,λ_=>True.intro,λy hy=>absurd rfl hy⟩
theorem zke{prog:Program}{w:World}{env:Env}{e:Expr}{f:Str}{pos:Pos}{s:Shared}{Q:Value->Shared->Prop}(hb:attributeBase e f env (eval e env)=eval e env)
  (h:wpAny (model prog w) A (eval e env) (λo s₁=>wpAny (model prog w) A (getAttr o f true) Q E s₁) E s):wpAny (model prog w) A (eval (.Attribute e f pos) env) Q E s:=
 Attribute_any_ h (by rw[arm_eval_Attribute,hb])
end
def QZ(K:W.Frag)(ta:TE)(f:Str):TE:=λZ H Q=>ta Z H λx H1=>∃a C dx fs v,x=.ref a/\H1 a=some (.ins C dx fs)/\Cls K C/\gQ K C f/\fs.lookup f=some v/\Q v H1
def Q0(K:W.Frag)(ta tv:TE)(f:Str):TS:=λD Z H=>tv Z H λy H1=>ta Z H1 λx H2=>∃a C dx fs,x=.ref a/\H2 a=some (.ins C dx fs)/\Cls K C/\gQ K C f/\fs.length<1000 /\
 D.nx Z (upd H2 a (.ins C dx (fG f y fs)))
section
variable {X:Cx}{o e value:Expr}{f:Str}{pos pos' tpos:Pos}{ta tv:TE}
def znm(he:PE X e ta)(hb:attributeBase e f X.env (eval e X.env)=eval e X.env):PE X (.Attribute e f pos) (QZ X.K ta f):=by
 intro ao s Z H Q I h;show zke hb (aV (he ao s Z H _ I h) λu s1 hz=>?_);let⟨x,H1,I1,rx,a,C,dx,fs,v,ex,ea,c,n,l,q⟩:=hz;subst ex;obtain rfl:u=Value.ref a:=rx;show zfg I1 ea c n l λu' s2 I2 ru=>⟨v,H1,I2,ru,q⟩
def znt(ha:PE X o ta)(hv:PE X value tv)(hs:swapsWith value (some (.Attribute o f pos')) pos.line X.env=pure false):PS X (.Assign [.Attribute o f pos'] value pos) (Q0 X.K ta tv f):=by
 intro ao s Z H D I h;show plainObj_wpAny_Assign_Attribute (aV (hv ao s Z H _ I h) λu s1 hx=>eO hx λy H1 I1 ry q=>aV (ha ao s1 Z H1 _ I1 q) λov s2 hz=>?_) hs;let⟨x,H2,I2,rx,a,C,dx,fs,ex,ea,c,n,l,q2⟩:=hz;subst ex;obtain rfl:ov=Value.ref a:=rx;show zfA I2 ea c n l ry λs3 I3=>⟨Z,_,I3,q2⟩
end
structure bH(k:Nat)(A:Around):Prop where
 dp:A.depth+3*k+5<recursionLimit
 un:A.units+16*k+200<cLine
 gd:A.guards=some []
theorem bH.deeper{k:Nat}{A:Around}(r:bH (k+1) A)(env:Env):bH k (A.deeper env):=
 ⟨by let:=r.dp;change A.depth+1+3*k+5<_;lia,by let:=r.un;change A.units+3+16*k+200<_;lia,r.gd⟩
def zfn{A:Around}{C:Addr}{us:List Value}{kw:List (Str×Value)}:(A.under (.builtin "type.__call__" ⟨.ref C::us,kw⟩)).depth=A.depth+1:=by
 first|rfl|simp[Around.under,Code.weight,Code.isCreation,Code.isGuard,Code.isCaller,Code.frames,Code.isFrame,guardIds]
def zfG{A:Around}{C:Addr}{us:List Value}{kw:List (Str×Value)}:(A.under (.builtin "type.__call__" ⟨.ref C::us,kw⟩)).units=A.units+1:=by
 first|rfl|simp[Around.under,Code.cUnits,Code.frames,Code.isFrame]
def bH.depth{k:Nat}{A:Around}(r:bH k A):A.depth<recursionLimit:=by let:=r.dp;lia
def Q5:TA:=λ_ H Q=>Q [] H
def Ik(ta:TE)(tr:TA):TA:=λZ H Q=>ta Z H λx H1=>tr Z H1 λxs H2=>Q (x::xs) H2
section
variable {X:Cx}{e:Expr}{es:List Expr}{te:TE}{t:TA}{pos:Pos}
theorem wL:PA X [] Q5:=λ_ _ _ _ H Q I h=>Calls.spliced_nil ⟨[],H,I,.nil,h⟩
def rN(ha:PE X e te)(hr:PA X es t)(hs:starEach (e::es) X.env=(false,eval e X.env)::starEach es X.env:=by rfl):PA X (e::es) (Ik te t):=by
 intro pos ao s Z H Q I h;rw[hs];change wpAny _ _ (spliced ((false,eval e X.env)::backTo pos (starEach es X.env))) _ _ s;show Calls.spliced_cons (aV (ha ao s Z H _ I h) λu s1 hx=>eO hx λx H1 I1 r1 q1=>?_);show aV (hr pos ao s1 Z H1 _ I1 q1) λus s2 hx=>eO hx λxs H2 I2 r2 q2=>⟨x::xs,H2,I2,.cons r1 r2,q2⟩
def Q6(t:TA):TE:=λZ H Q=>t Z H λxs H1=>xs.length<=sizeLine/\∀p,H1 p=none->Q (.ref p) (upd H1 p (.tup xs))
def Q7(t:TA):TE:=λZ H Q=>t Z H λxs H1=>xs.length<=sizeLine/\∀p,H1 p=none->Q (.ref p) (upd H1 p (.lst xs))
def znS{x1}(h:PA X es t):PE X (.Tuple es x1 pos) (Q6 t):=by
 intro ao s Z H Q I hq;show wpAny_Tuple_spliced (aV (h pos ao s Z H _ I hq) λus s1 ⟨xs,H1,I1,r,z,q⟩=>⟨by rw[<-r.length];show z,?_⟩);let hf:H1 s1.heap.objs.size=none:=I1.hok.fresh (bQ _);show⟨.ref s1.heap.objs.size,upd H1 s1.heap.objs.size (.tup xs),I1.laid (t':=s1.toks) (λb u e=>cR _ e) (bQ _) ?_,rfl,q _ hf⟩;show⟨z,us,r,⟨_,fB _ rfl,rfl,_,rfl,rfl⟩⟩
def zmu(h:PA X es t):PE X (.List es pos) (Q7 t):=by
 intro ao s Z H Q I hq;show wpAny_List_spliced (aV (h pos ao s Z H _ I hq) λus s1 ⟨xs,H1,I1,r,z,q⟩=>⟨by rw[<-r.length];show z,?_⟩);let hf:H1 s1.heap.objs.size=none:=I1.hok.fresh (bQ _);show⟨.ref s1.heap.objs.size,upd H1 s1.heap.objs.size (.lst xs),I1.laid (t':=s1.toks) (λb u e=>cR _ e) (bQ _) ?_,rfl,q _ hf⟩;show⟨z,us,0,r,fB _ rfl⟩
end
noncomputable abbrev Sp:=List V->Hp->VK->XK->Prop
noncomputable abbrev rO:=List Env->Hp->Shared->XK->Value->Shared->Prop
structure pP(P:Program)(w:World)(K:W.Frag)(mg:Str->Option Value)(base:Heap)(A:Around)(outer:List Env)(s:Shared)(H:Hp):Prop where
 frames:A.frames=some outer
 mod:Mod K mg base
 bs:∀b o,base.get? b=some o->s.heap.get? b=some o/\H b=none
 A_:base.objs.size<=s.heap.objs.size
 kE:s.heap.FunFrames base outer
 HD:∀b∈frs outer,H b=none
 hok:jF P w H s.heap
 bare:AllBare s.gens
def CE(outer:List Env)(P:Program)(w:World)(H:Hp)(s:Shared)(Q:VK)(u:Value)(s':Shared):Prop:=
 ∃v H',s'.os=s.os/\AllBare s'.gens/\Un (frs outer) [] H H' s.heap s'.heap/\jF P w H' s'.heap/\RelV v u/\Q v H'
def CR(CX:rO)(outer:List Env)(P:Program)(w:World)(H:Hp)(s:Shared)(Q:VK)(E:XK)(r:Result)(s':Shared):Prop:=
 match r with
 |.ok (.ret u)=>CE outer P w H s Q u s'|.ok _=>False|.error e=>CX outer H s E e s'
structure cC(P:Program)(w:World)(K:W.Frag)(mg:Str->Option Value)(base:Heap)(CX:rO)(cm:Bool)(k:Nat)(f:Addr)(fd:FuncData)(ps:List Str)(sp:Sp):Prop where
 len:∀vs H Q E,sp vs H Q E->vs.length=ps.length
 run:∀(A:Around) (outer:List Env) (s:Shared) (H:Hp) (args:Args) (us:List Value) (vs:List V) (Q:VK) (E:XK),(cm=true->A.handled=none)->bH k A->pP P w K mg base A outer s H->BindsTo s fd args (ps.zip us)->Vals vs us->sp vs H Q E->
  codeAny (model P w) A (.call (.ref f) args) (CR CX outer P w H s Q E) s
theorem cC.imp{P:Program}{w:World}{K:W.Frag}{mg:Str->Option Value}{base:Heap}{CX:rO}{cm:Bool}{k:Nat}{f:Addr}{fd:FuncData}{ps:List Str}{sp Xw:Sp}(F:cC P w K mg base CX cm k f fd ps sp)
  (h:∀vs H Q E,Xw vs H Q E->sp vs H Q E):cC P w K mg base CX cm k f fd ps Xw:=
 ⟨λvs H Q E q=>F.len vs H Q E (h _ _ _ _ q),λA outer s H args us vs Q E jA hr he hb hv hs=>F.run A outer s H args us vs Q E jA hr he hb hv (h _ _ _ _ hs)⟩
theorem pP.make{P:Program}{w:World}{K:W.Frag}{mg:Str->Option Value}{base:Heap}{A:Around}{outer:List Env}{s:Shared}{H:Hp}(e:pP P w K mg base A outer s H)(C:Addr)(us:List Value)(kw:List (Str×Value)) :
  pP P w K mg base (A.under (.builtin "type.__call__" ⟨.ref C::us,kw⟩)) outer s H:=⟨by first|exact e.frames|(simpa [Around.under,Code.envs,Code.isFrame,pushEnvs] using e.frames),e.mod,e.bs,e.A_,e.kE,e.HD,e.hok,e.bare⟩
section
variable {X:Cx}{ao:List (Addr×Obj)}{Z:St}{H:Hp}{s s':Shared}
theorem Inv.env0(I:Inv X ao Z H s):pP X.prog X.w X.K X.mg X.base X.A X.stack s H:=
 ⟨I.ok.frames,I.ok.mod,I.bs,jz I.ok.A_ I.sz,I.stack,I.qz,I.hok,I.bare⟩
def Inv.after{Q:VK}{u:Value}(I:Inv X ao Z H s)(h:CE X.stack X.prog X.w H s Q u s'):EP X ao Z Q u s':=by
 let⟨v,H',os,bare,un,hok,r,q⟩:=h;let⟨hh,g,d,t,os'⟩:=s';obtain rfl:os'=s.os:=os;show⟨v,H',I.call (h':=hh) (g':=g) (d':=d) (t':=t) (ch:=[]) un hok bare (λb z=>absurd z R3),r,q⟩
end
def Il(C:Addr)(m:Str)(sp:Sp)(nU:List V)(E:XK)(ta:TE)(t:TA):TE:=λZ H Q=>ta Z H λx H1=>∃a dx fs,x=.ref a/\H1 a=some (.ins C dx fs)/\fs.lookup m=none /\
 t Z H1 λvs H2=>sp (x::(vs++nU)) H2 Q E
def Im(C:Addr)(sp:Sp)(nU:List V)(E:XK)(t:TA):TE:=λZ H Q=>t Z H λvs H1=>∀x dx,H1 x=none->H1 dx=none->dx≠x->
 sp (.ref x::(vs++nU)) (upd (upd H1 dx (.own x)) x (.ins C dx [])) (λv H2=>v=.non/\Q (.ref x) H2) E
def Binds(K:W.Frag)(fd:FuncData)(ps:List Str)(ds:List Value):Prop:=
 ∀(s:Shared) (us:List Value),K.In s.heap->(us++ds).length=ps.length->BindsTo s fd ⟨us,[]⟩ (ps.zip (us++ds))
theorem Binds.all{K:W.Frag}{fd:FuncData}{ps:List Str}(h:∀us:List Value,us.length=ps.length->bindArgs fd ⟨us,[]⟩=pure (ps.zip us)):Binds K fd ps []:=λs us _ hl=>by
 rw[vI]at hl ⊢;show .of_eq (h us hl)
def Passes(CX:rO)(X:Cx)(E:XK):Prop:=∀(ao:List (Addr×Obj)) (Z:St) (H:Hp) (s:Shared) (e:Value) (s':Shared),Inv X ao Z H s->CX X.stack H s E e s'->X.xe e s'
section
variable {X:Cx}{CX:rO}{cm:Bool}{k:Nat}{f C:Addr}{fd:FuncData}{ps:List Str}{sp:Sp}{nU:List V}{ds:List Value}{E:XK}{x m:Str}{p pos apos:Pos}{e o:Expr}{es:List Expr}{ta:TE}{t:TA}
def zlk{ao:List (Addr×Obj)}{Z:St}{H:Hp}{s:Shared}{Q:VK}{us:List Value}{vs:List V}(F:cC X.prog X.w X.K X.mg X.base CX cm k f fd ps sp)(jA:cm=true->X.aj=true)(hr:bH k X.A)(hb:Binds X.K fd ps ds)(hd:Vals nU ds)(hx:Passes CX X E)
  (I:Inv X ao Z H s) (r:Vals vs us) (h:sp (vs++nU) H Q E):wpAny (model X.prog X.w) X.A (call (.ref f) us) (EP X ao Z Q) X.xe s:=by
 let r2:Vals (vs++nU) (us++ds):=r.append hd;let hl:(us++ds).length=ps.length:=by rw[<-r2.length];show F.len _ _ _ _ h
 show wpAny_call (Al (F.run X.A X.stack s H ⟨us,[]⟩ (us++ds) (vs++nU) Q E (λz=>I.ok.hd (jA z)) hr I.env0 (hb s us I.qy hl) r2 h) λr s' hq=>?_);cases r with
 |error e=>show hx ao Z H s e s' I hq|ok fl=>
  cases fl with
  |ret u=>show I.after hq|next=>show False.elim hq|brk=>show False.elim hq|cont=>show False.elim hq
def zjm{pl:Sem Bool}(he:PE X o ta)(c:Cls X.K C)(hm:Meth X.K C m f)(F:cC X.prog X.w X.K X.mg X.base CX cm k f fd ps sp)(jA:cm=true->X.aj=true)(hr:bH k X.A)(hb:Binds X.K fd ps ds)(hd:Vals nU ds)(hx:Passes CX X E)(ha:PA X (e::es) t)
  (rK:starEach (e::es) X.env=(false,eval e X.env)::starEach es X.env:=by rfl) (cF:(backTo pos (starEach es X.env)).any (·.1)=false:=by rfl)
  (ht:eval (.Call (.Attribute o m apos) (e::es) [] pos) X.env=(do
   let ov <-eval o X.env
   standAt apos.atName
   let (f,first) <-holding [ov] (getMethod ov m pl)
   callWith pos f first (backTo pos (starEach (e::es) X.env)) (backToKw pos (keywordEach [] X.env))):=by rfl) :
  PE X (.Call (.Attribute o m apos) (e::es) [] pos) (Il C m sp nU E ta t):=by
 intro ao s Z H Q I h;show PySem.W.methodCall_KW (pl:=pl) (aV (he ao s Z H _ I h) λu s1 hz=>?_) ht;let⟨x,H1,I1,rx,a,dx,fs,ex,ea,l,q⟩:=hz;subst ex;obtain rfl:u=Value.ref a:=rx;show zfz I1 ea c hm l ?_;show PK (first:=[.ref a]) (h₀:=X.base) I.ok.mod.yL hm.kp (aV (ha pos ao s1 Z H1 _ I1 q) λus s2 ⟨vs,H2,I2,r,q2⟩=>⟨I2.qy,?_⟩) rK cF;show zlk (us:=.ref a::us) (vs:=.ref a::vs) F jA hr hb hd hx I2 (.cons rfl r) q2
structure Mk(K:W.Frag)(C f:Addr):Prop where
 makes:PySem.W.makesIn K C=true
 init:PySem.W.findIn K (.ref C) "__init__"=some (some (.ref f))
 fn:PySem.W.isFn K (.ref f)=true
 kp:PySem.W.keepIn K (.ref C)=true
def zhq{ao:List (Addr×Obj)}{Z:St}{H:Hp}{s:Shared}{Q:VK}{us:List Value}{vs:List V}(M:Mk X.K C f)(F:cC X.prog X.w X.K X.mg X.base CX cm k f fd ps sp)(jA:cm=true->X.aj=true)(hr:∀us,bH k (X.A.under (.builtin "type.__call__" ⟨.ref C::us,[]⟩)))(hb:Binds X.K fd ps ds)(hd:Vals nU ds)
  (hx:Passes CX X E) (I:Inv X ao Z H s) (r:Vals vs us)
  (h:∀x dx,H x=none->H dx=none->dx≠x->sp (.ref x::(vs++nU)) (upd (upd H dx (.own x)) x (.ins C dx [])) (λv H2=>v=.non/\Q (.ref x) H2) E) :
  wpAny (model X.prog X.w) X.A (call (.ref C) us) (EP X ao Z Q) X.xe s:=by
 let hq:=h (s.heap.objs.size+1) s.heap.objs.size (I.hok.fresh (Nat.le_succ _)) (I.hok.fresh (bQ _)) (dN (G3 _));let I2:=Inv.made (C:=C) I;let r2:Vals (V.ref (s.heap.objs.size+1)::(vs++nU)) (Value.ref (s.heap.objs.size+1)::(us++ds)):=.cons rfl (r.append hd);let hl:(Value.ref (s.heap.objs.size+1)::us++ds).length=ps.length:=by
  let e:=r2.length;rw[F.len _ _ _ _ hq]at e;show e.symm
 show wpAny_call (zh8 (f:=f) I.qy M.makes M.init (rG.mp M.fn) (Al (F.run _ X.stack _ _ ⟨Value.ref (s.heap.objs.size+1)::us,[]⟩ (Value.ref (s.heap.objs.size+1)::(us++ds)) _ _ E (λz=>I.ok.hd (jA z)) (hr us)
  (I2.env0.make C us []) (hb _ (Value.ref (s.heap.objs.size+1)::us) I2.qy hl) r2 hq) λr s' Io=>?_))
 cases r with
 |error e=>show hx ao Z _ _ e s' I2 Io|ok fl=>
  cases fl with
  |ret u=>
   let⟨v,H',I3,rv,ev,q3⟩:=I2.after Io;subst ev;show⟨rv,⟨V.ref (s.heap.objs.size+1),H',I3,rfl,q3⟩⟩
  |next=>show False.elim Io|brk=>show False.elim Io|cont=>show False.elim Io
def zkU(M:Mk X.K C f)(F:cC X.prog X.w X.K X.mg X.base CX cm k f fd ps sp)(jA:cm=true->X.aj=true)(hr:∀us,bH k (X.A.under (.builtin "type.__call__" ⟨.ref C::us,[]⟩)))(hg:Gl X x)(hm:X.mg x=some (.ref C))(hb:Binds X.K fd ps ds)(hd:Vals nU ds)(hx:Passes CX X E)
  (ha:PA X (e::es) t) (rP:(x==("__debug__" : Str))=false:=by decide) (he:starEach (e::es) X.env=(false,eval e X.env)::starEach es X.env:=by rfl) (cF:(backTo pos (starEach es X.env)).any (·.1)=false:=by rfl) :
  PE X (.Call (.Name x p) (e::es) [] pos) (Im C sp nU E t):=by
 intro ao s Z H Q I h;show DX (Qu I hg hm ?_ rP);show PK (h₀:=X.base) I.ok.mod.yL M.kp (aV (ha pos ao s Z H _ I h) λus s1 ⟨vs,H1,I1,r,q⟩=>⟨I1.qy,?_⟩) he cF;show zhq M F jA hr hb hd hx I1 r q
end
structure dh(N P:List Str)(sc:Scope):Prop where
 kind:sc.kind=.function
 co:sc.isCoroutine=false
 gen:sc.isGenerator=false
 nd:N.Nodup
 pre:N.take P.length=P
 par:∀x∈P,sc.names.lookup x=some .local\/sc.names.lookup x=some .cell
 Bm:∀y∈sc.names,y.2≠.free
theorem Xx{kindOf:Str->Option NameKind}{x:Str}:∀{binds:List (Str×Value)} {m:Str->Option Value},(∀v,(x,v)∉binds)->bindL kindOf binds m x=m x
 |[],_,_=>rfl|(n,v)::r,m,h=>by
  unfold bindL;rw[Xx λw hw=>h w (iJ _ hw)]
  split
  .let:x≠n:=by rintro rfl;show h v lG
   simp[this]
  .rfl
theorem Xy{kindOf:Str->Option NameKind}{x:Str}:∀{binds:List (Str×Value)} {m:Str->Option Value},(∀v,(x,v)∉binds)->bindC kindOf binds m x=m x
 |[],_,_=>rfl|(n,v)::r,m,h=>by
  unfold bindC;rw[Xy λw hw=>h w (iJ _ hw)]
  split
  .rfl
  .let:x≠n:=by rintro rfl;show h v lG
   simp[this]
theorem Xz{kindOf:Str->Option NameKind}{x:Str}{v:Value}:∀{P:List Str} {vs:List Value} {i:Nat} {m:Str->Option Value},P.Nodup->P[i]?=some x->vs[i]?=some v->kindOf x=some .local->
  bindL kindOf (P.zip vs) m x=some v
 |[],_,_,_,_,h,_,_=>by simp at h|_::_,[],_,_,_,_,h,_=>by simp at h|p::P,w::vs,0,m,nd,h1,h2,hk=>by
  simp at h1 h2;subst h1;subst h2;change bindL kindOf ((p,w)::P.zip vs) m p=_;unfold bindL;rw[Xx λv hv=>(yG.mp nd).1 (List.of_mem_zip hv).1,if_pos hk];simp
 |p::P,w::vs,i+1,m,nd,h1,h2,hk=>by
  change bindL kindOf ((p,w)::P.zip vs) m x=_;unfold bindL;show Xz (i:=i) (yG.mp nd).2 (by simpa using h1) (by simpa using h2) hk
theorem XD{kindOf:Str->Option NameKind}{x:Str}{v:Value}:∀{P:List Str} {vs:List Value} {i:Nat} {m:Str->Option Value},P.Nodup->P[i]?=some x->vs[i]?=some v->kindOf x≠some .local->
  bindC kindOf (P.zip vs) m x=some v
 |[],_,_,_,_,h,_,_=>by simp at h|_::_,[],_,_,_,_,h,_=>by simp at h|p::P,w::vs,0,m,nd,h1,h2,hk=>by
  simp at h1 h2;subst h1;subst h2;change bindC kindOf ((p,w)::P.zip vs) m p=_;unfold bindC;rw[Xy λv hv=>(yG.mp nd).1 (List.of_mem_zip hv).1,if_neg hk];simp
 |p::P,w::vs,i+1,m,nd,h1,h2,hk=>by
  change bindC kindOf ((p,w)::P.zip vs) m x=_;unfold bindC;show XD (i:=i) (yG.mp nd).2 (by simpa using h1) (by simpa using h2) hk
def start(N:List Str)(vs:List V):St:=vs.map some++List.replicate (N.length-vs.length) none
def gR(CX:rO)(P:Program)(w:World)(K:W.Frag)(mg:Str->Option Value)(base:Heap)(N:List Str)(qual:Str)(scope:Scope)(f:Addr)(cd:Value)(A:Around)(outer:List Env)(s:Shared)(H:Hp)(E:XK)(cm:Bool):Cx where
 prog:=P
 w:=w
 K:=K
 mg:=mg
 base:=base
 A:=A.deeper (envOfC qual scope s.heap.objs.size f cd)
 N:=N
 s₀:=s
 H₀:=H
 env:=envOfC qual scope s.heap.objs.size f cd
 outer:=outer
 stack:=envOfC qual scope s.heap.objs.size f cd::outer
 ex:=[]
 aj:=cm
 fn:=λ_=>true
 pn:=[]
 xe:=λe s'=>wpAny (model P w) (A.deeper (envOfC qual scope s.heap.objs.size f cd)) (leaving (envOfC qual scope s.heap.objs.size f cd) e) (λ_ s''=>CX outer H s E e s'') (λe' s''=>CX outer H s E e' s'') s'
def XH{sc:Scope}{n:Nat}{x:Str}(h:sc.names.lookup x=some .cell):∃c,(cellsFrom n sc.names []).lookup x=some c:=by
 let q:=zs2 sc.names n [] (.inl h);show Option.isSome_iff_exists.mp q
def zg2{CX:rO}{P:Program}{w:World}{K:W.Frag}{mg:Str->Option Value}{base:Heap}{N ps:List Str}{qual:Str}{scope:Scope}{f:Addr}{cd:Value}{A:Around}{outer:List Env}{s s1:Shared}{H:Hp}{E:XK}{us:List Value}{vs:List V}
  {cm:Bool} (S:dh N ps scope) (hd:cm=true->A.handled=none) (e0:pP P w K mg base A outer s H) (hl:vs.length=ps.length) (r:Vals vs us)
  (x:InCallC s s.heap.objs.size (bindL (envOfC qual scope s.heap.objs.size f cd).kindOf (ps.zip us) λ_=>none) (cellsFrom (s.heap.objs.size+1) scope.names []) (bindC (envOfC qual scope s.heap.objs.size f cd).kindOf (ps.zip us) λ_=>none) s1) :
  Inv (gR CX P w K mg base N qual scope f cd A outer s H E cm) [] (start N vs) H s1:=by
 let cF:ps.length<=N.length:=by let:=nq List.length S.pre;rw[rD]at this;lia
 let⟨h1,tk,rfl,hk⟩:=x.done;let Ip:∀b:Addr,b∉(gR CX P w K mg base N qual scope f cd A outer s H E cm).ex:=λb z=>absurd (show b∈([]:List Addr) from z) R3;show⟨⟨e0.mod,S.kind,rfl,rfl,bQ _,λy z c h1 h2=>?_,λy hy=>?_,λy c _ h=>?_,hd,Around.frames_deeper e0.frames,.inr ⟨rfl,rfl⟩,λb z=>absurd z (Ip b),e0.bs,e0.A_,λb _ _=>Ip b,λb z=>absurd z (Ip b),e0.kE,e0.HD⟩,
  rfl,e0.bare,Un.kept hk,⟨_,x.toInCall.ns,λi y v h1 h2 h3=>?_⟩,λy c h=>⟨_,x.cell y c h⟩,e0.hok.fresh (bQ _),λy c h=>?_,λp hp=>absurd (show p∈([]:List (Addr×Obj)) from hp) R3,e0.hok.kept hk,?_⟩
 .exact name_of_addr x.apart (DR h1) (DR h2)
 .let hy:scope.names.lookup y=some .cell\/scope.names.lookup y=some .free:=hy;rcases hy with hy|hy
  .exact XH hy
  .exact absurd rfl (S.Bm _ (DR hy))
 .exact wB (x.above y c (DR h))
 .let hi:i<vs.length:=by
   unfold start at h2;by_cases hi:i<vs.length
   .exact hi
   .rw[nG (by simpa using hi)]at h2;rw[tQ]at h2;split at h2<;>cases h2
  let ha:vs[i]?=some v:=by
   unfold start at h2;rw[nH (by simpa using hi),dH]at h2;cases e:vs[i]? with
   |none=>rw[e]at h2;cases h2|some a=>rw[e]at h2;cases h2;rfl
  let⟨u,hu,rv⟩:=r.get ha;let hp:ps[i]?=some y:=by
   rw[<-S.pre,List.getElem?_take_of_lt gV];show h1
  let XJ:ps.Nodup:=by rw[<-S.pre];show S.nd.sublist (List.take_sublist _ _)
  show⟨u,rv,?_⟩;rcases S.par y (dG hp) with k|k
  .exact .inl ⟨k,Xz XJ hp hu k⟩
  .obtain⟨c,e⟩:=XH (n:=s.heap.objs.size+1) k;show .inr ⟨.inl k,c,e,?_⟩;let q:=x.cell y c e;rw[XD XJ hp hu (by change scope.names.lookup y≠_;rw[k];decide)]at q;show q
 .exact e0.hok.fresh (wB (x.above y c (DR h)))
 .unfold start;change _=N.length;rw[jk,bN,Ad]
  lia
def XM{CX:rO}{cm:Bool}{P:Program}{w:World}{K:W.Frag}{mg:Str->Option Value}{base:Heap}{k:Nat}{f:Addr}{name qual:Str}{params:Arguments}{body:List Stmt}{scope:Scope}{dV kV doc pm cdv ct oc:Value}{an od:Option Addr}
  {osl:Array (Option Value)} {N ps:List Str} {sp:Sp} (lk:K.lookup f=some ⟨oc,od,.func (PySem.W.fnOf name qual params body scope dV kV doc pm an cdv ct),osl⟩) (j_:PySem.W.codeIn K cdv qual=true) (S:dh N ps scope)
  (len:∀vs H Q E,sp vs H Q E->vs.length=ps.length)
  (Ir:∀(A:Around) (outer:List Env) (s:Shared) (H:Hp) (vs:List V) (Q:VK) (E:XK),bH (k+1) A->sp vs H Q E->
   ∃t,pL (gR CX P w K mg base N qual scope f cdv A outer s H E cm) body t/\t {nx:=λ_ H'=>Q .non H',rt:=Q} (start N vs) H) :
  cC P w K mg base CX cm (k+1) f (PySem.W.fnOf name qual params body scope dV kV doc pm an cdv ct) ps sp:=by
 show⟨len,λA outer s H args us vs Q E jA hr e0 hb r wM=>?_⟩;let hl:=len _ _ _ _ wM;let KX:K.In s.heap:=e0.mod.yL.keeps λb o e=>(e0.bs b o e).1;let lim:s.heap.NoLimit:=e0.mod.nolimit.keeps λb o e=>(e0.bs b o e).1;let Iu:∀y∈ps.zip us,scope.names.lookup y.1=some .local\/(scope.names.lookup y.1=some .cell/\((cellsFrom (s.heap.objs.size+1) scope.names []).lookup y.1).isSome=true):=λ⟨n,v⟩ hy=>by
  rcases S.par n (List.of_mem_zip hy).1 with q|q
  .exact .inl q
  .exact .inr ⟨q,zs2 _ _ _ (.inl q)⟩
 show codeAny_call_function hr.depth (KX _ _ lk) rfl S.co S.gen rfl (PySem.W.codeRec_of KX j_) (hb _ _ _ _ ?_);show wpAny_newFunctionEnv_cells S.kind Iu λenv he s1 x=>?_;subst he;show⟨lim.keeps x.toInCall.keep,codeAny_func ?_⟩;let⟨t,ht,hq⟩:=Ir A outer s H vs Q E hr wM;let I:Inv (gR CX P w K mg base N qual scope f cdv A outer s H E cm) [] (start N vs) H s1:=zg2 S jA e0 hl r x;show iM (ht [] s1 (start N vs) H _ I hq) (λfl s' hs=>?_) λe s' hs=>hs;let fin:∀{Z':St} {H':Hp} {v:V} {u:Value},Inv (gR CX P w K mg base N qual scope f cdv A outer s H E cm) [] Z' H' s'->RelV v u->Q v H'->CE outer P w H s Q u s':=
  λ{Z' H' v u} bK rv q=>⟨v,H',bK.os,bK.bare,bK.base,bK.hok,rv,q⟩
 cases fl with
 |ret u=>
  let⟨v,Z',H',bK,rv,q⟩:=hs;show fin bK rv q
 |next=>
  let⟨Z',H',bK,q⟩:=hs;show fin (v:=V.non) (u:=Value.none) bK rfl q
 |brk=>
  let⟨_,_,_,q⟩:=hs;show False.elim q
 |cont=>
  let⟨_,_,_,q⟩:=hs;show False.elim q
section
variable {X:Cx}{x:Str}{p pos:Pos}{e:Expr}{es:List Expr}{t:TA}{id T:String}{r:List V->Hp->VK->Prop}
def Q8(r:List V->Hp->VK->Prop)(t:TA):TE:=λZ H Q=>t Z H λvs H1=>r vs H1 Q
def XQ(hc:cV X (.builtin id) r)(hg:Gl X x)(hm:X.mg x=none)(hv:bootBuiltins x=some (.builtin id))(ha:PA X (e::es) t)(hn:x≠"__name__":=by decide)(rP:(x==("__debug__" : Str))=false:=by decide)
  (he:starEach (e::es) X.env=(false,eval e X.env)::starEach es X.env:=by rfl) (cF:(backTo pos (starEach es X.env)).any (·.1)=false:=by rfl):PE X (.Call (.Name x p) (e::es) [] pos) (Q8 r t):=by
 intro ao s Z H Q I h;show DX (ug I hg hm hv ?_ hn rP);show PyProof.Rows.callWith_builtin1 (aV (ha pos ao s Z H _ I h) λus s1 hx=>eO hx λvs H1 I1 r1 q1=>hc ao s1 Z H1 vs us Q I1 r1 q1) he cF
def zhi(hc:cV X (.type T) r)(hg:Gl X x)(hm:X.mg x=none)(hv:bootBuiltins x=some (.type T))(ha:PA X (e::es) t)(hn:x≠"__name__":=by decide)(rP:(x==("__debug__" : Str))=false:=by decide)
  (he:starEach (e::es) X.env=(false,eval e X.env)::starEach es X.env:=by rfl) (cF:(backTo pos (starEach es X.env)).any (·.1)=false:=by rfl):PE X (.Call (.Name x p) (e::es) [] pos) (Q8 r t):=by
 intro ao s Z H Q I h;show DX (ug I hg hm hv ?_ hn rP);show v7 (aV (ha pos ao s Z H _ I h) λus s1 hx=>eO hx λvs H1 I1 r1 q1=>hc ao s1 Z H1 vs us Q I1 r1 q1) he cF
end
end L2
namespace HT
open PySem PyProof.Rows
def lexLt:List Int->List Int->Bool
 |[],[]=>false|[],_::_=>true|_::_,[]=>false|x::xs,y::ys=>if x=y then lexLt xs ys else decide (x<y)
theorem eU(x y:Int)(xs ys:List Int):lexLt (x::xs) (y::ys)=if x=y then lexLt xs ys else decide (x<y):=rfl
theorem zcI:lexLt [] []=false:=rfl
theorem zce(y:Int)(ys:List Int):lexLt [] (y::ys)=true:=rfl
theorem zcf(x:Int)(xs:List Int):lexLt (x::xs) []=false:=rfl
theorem Q9(A:Around)(s:Shared)(a:Int)(t:Tok)(c:Int)(u:Tok):∃e,SeqAt.EqAt A s (.int a t) (.int c u) e/\(e=true↔a=c):=
 ⟨(a==c),SeqAt.EqAt.int_int a t c u,by simp⟩
theorem zie(A:Around)(s:Shared)(a:Int)(t:Tok)(c:Int)(u:Tok)(prog:Program)(w:World)(E:Value->Shared->Prop)(Q:Value->Shared->Prop)(h:Q (.bool (decide (a<c))) s) :
  wpAny (model prog w) A (richCompare .Lt (.int a t) (.int c u)) Q E s:=
 (PyProof.Rows.lt_int h:wpAny (model prog w) A (compareOp .Lt (.int a t) (.int c u)) Q E s)
section
open PySem.SeqAt
open PySem.AutoSeq1 (wpAny_loadPart')
open PySem.MeetsSeq PySem.MeetsSeq2 PySem.MeetsSeq3
theorem zc0(l b:Addr)(items items2:Array Value)(n n2:Nat)(dd dd2:Option Addr)(sl sl2:Array (Option Value))(ns ms:List Int)(hi:IntsAre items.toList ns)(hj:IntsAre items2.toList ms) :
  Meets (Builtin.«tuple.__lt__» ⟨[.ref l,.ref b],[]⟩)
   (λ_ R s=>s.heap.get? l=some {cls:=.type "tuple",dict:=dd,data:=.seq items n,slots:=sl}/\s.heap.get? b=some {cls:=.type "tuple",dict:=dd2,data:=.seq items2 n2,slots:=sl2} /\
    R (.ok (.ret (.bool (lexLt ns ms)))) s):=
 .of_wp λprog w A R s h=>by
  let⟨hp,g,d,tk,os⟩:=s;let⟨hl,hb,h⟩:=h;let f2:=O9;let z1:items.size=ns.length:=by rw[<-hi.length];simp
  let z2:items2.size=ms.length:=by rw[<-hj.length];simp
  wp_walk using Af hl,Af hb,Ef _ (λrest b s'=>b.1=none/\s'=⟨hp,g,d,tk,os⟩/\∃(vs ws:List Value) (ns' lM:List Int),rest=vs.zip ws /\
   IntsAre vs ns'/\IntsAre ws lM/\ns'.length+items2.size=lM.length+items.size/\R (.ok (.ret (.bool (lexLt ns' lM)))) ⟨hp,g,d,tk,os⟩) _
  case turn=>
   rintro⟨y,x⟩ rest b s' ⟨hb',rfl,vs,ws,ns',lM,hz,uw,qD,hlen,hR⟩;cases uw with
   |nil=>rw[Lf]at hz;cases hz|cons a t ux=>
    cases qD with
    |nil=>rw[Ld]at hz;cases hz|cons c u uy=>
     rw[wg]at hz;injection hz with Iv nW;injection Iv with hy hx;subst hy hx;rw[eU]at hR;simp only[eE]at hlen;let⟨e,he,nY⟩:=Q9 A.in1 ⟨hp,g,d,tk,os⟩ a t c u;show aC (he prog w _ _ ?_);cases e with
     |true=>
      rw[if_pos (nY.mp rfl)]at hR
      wp_walk
      show⟨rfl,rfl,_,_,_,_,nW,ux,uy,by lia,hR⟩
     |false=>
      rw[if_neg (λq=>absurd (nY.mpr q) yw)]at hR;let Iw:=zie A.in1 ⟨hp,g,d,tk,os⟩ a t c u prog w
      wp_walk using Iw
      show⟨_,rfl,by simpa using hR⟩
  case fin=>
   rintro⟨b1,b2⟩ s' ⟨hb',rfl,vs,ws,ns',lM,hz,uw,qD,hlen,hR⟩;simp only at hb';subst hb';let hv:lexLt ns' lM=decide (items.size<items2.size):=by
    cases uw with
    |nil=>
     cases qD with
     |nil=>
      simp only[vJ]at hlen;rw[zcI];show(iK gV).symm
     |cons c u hw=>
      simp only[vJ,eE]at hlen;rw[zce];show(cQ gV).symm
    |cons a t hv=>
     cases qD with
     |nil=>
      simp only[vJ,eE]at hlen;rw[zcf];show(iK gV).symm
     |cons c u hw=>
      rw[wg]at hz;cases hz
   rw[hv]at hR
   wp_walk
   show⟨_,rfl,by simpa [Builtin.Tuple.tupleCompareSizes] using hR⟩
  case h=>
   show⟨rfl,rfl,items.toList,items2.toList,ns,ms,rfl,hi,hj,by lia,h⟩
end
section
variable {prog:Program}{w:World}{A:Around}{E:Value->Shared->Prop}{s:Shared}
def jQ{l b:Addr}{items items2:Array Value}{ns ms:List Int}{Q:Value->Shared->Prop}(hl:IsTup s.heap l items)(hb:IsTup s.heap b items2)(hi:IntsAre items.toList ns)(hj:IntsAre items2.toList ms)
  (hu:A.units<cLine) (h:Q (.bool (lexLt ns ms)) s):wpAny (model prog w) A (compareOp .Lt (.ref l) (.ref b)) Q E s:=by
 let⟨⟨cls,dd,data,sl⟩,ho,hc,n,hd⟩:=id hl;let⟨⟨cls2,dd2,data2,sl2⟩,kO,kW,n2,hd2⟩:=id hb;simp only at hc hd kW hd2;subst hc hd kW hd2;show Pg (op:=.Lt) ⟨_,ho,rfl⟩ ⟨_,kO,rfl⟩ PySem.F.slot_tuple_lt PySem.F.entry_tuple_lt (PySem.F.args_tuple_lt_2 _ _) (zc0 l b items items2 n n2 dd dd2 sl sl2 ns ms hi hj)
  ⟨ho,kO,show Value.bool (lexLt ns ms)≠Value.notImplemented/\Q (.bool (lexLt ns ms)) s from ⟨(λx=>nomatch x),h⟩⟩ hu
def wN{t b:Addr}{vs ws:List Value}{Q:Value->Shared->Prop}(ht:IsTup s.heap t vs.toArray)(hb:IsTup s.heap b ws.toArray)(hv:vs≠[])
  (h1:ws=[]->Q (.ref t) s) (h2:ws≠[]->Q (.ref s.heap.objs.size) {s with heap:=s.heap.push {cls:=.type "tuple",data:=.seq (vs++ws).toArray}})
  (hsz:vs.length+ws.length<=sizeLine):wpAny (model prog w) A (binaryOp .Add (.ref t) (.ref b)) Q E s:=by
 let⟨⟨cls,dd,data,sl⟩,ho,hc,n,hd⟩:=id ht;let⟨⟨cls2,dd2,data2,sl2⟩,kO,kW,n2,hd2⟩:=id hb;simp only at hc hd kW hd2;subst hc hd kW hd2;let e:vs.toArray++ws.toArray=(vs++ws).toArray:=by simp
 by_cases hw:ws=[]
 .exact concat_meets ⟨_,ho,rfl⟩ ⟨_,kO,rfl⟩ noFill_tuple_add seq_tuple_add Pj Pb (O_ _ _)
   (tuple_addW1 t b vs.toArray ws.toArray n n2 dd dd2 sl sl2 (by simpa using hv) (by simp[hw])) ⟨ho,kO,h1 hw⟩
 .refine concat_meets ⟨_,ho,rfl⟩ ⟨_,kO,rfl⟩ noFill_tuple_add seq_tuple_add Pj Pb (O_ _ _)
   (tuple_addW2 t b vs.toArray ws.toArray n n2 dd dd2 sl sl2 (by simpa using hv) (by simpa using hw) (by rw[gj,gj];show hsz)) ⟨ho,kO,?_⟩
  rw[e];show h2 hw
def bU(n d:Nat):Option Int->Nat
 |none=>d|some v=>if v<0 then (v+(n:Int)).toNat else min v.toNat n
theorem fK(n d:Nat):bU n d none=d:=rfl
def iu(n d k:Nat):bU n d (some (k:Int))=min k n:=by
 change (if (k:Int)<0 then ((k:Int)+(n:Int)).toNat else min (k:Int).toNat n)=min k n;rw[if_neg gV,iU]
def zmM(n d:Nat)(hd:d<=n)(o:Option Int):bU n d o<=n:=by
 cases o with
 |none=>show hd|some v=>
  change (if v<0 then (v+(n:Int)).toNat else min v.toNat n)<=n;by_cases hv:v<0
  .rw[if_pos hv];lia
  .rw[if_neg hv];show Nat.min_le_right _ _
def XR(v:Int)(n d:Nat):(if v<0 then max (v+(n:Int)) 0 else min v (n:Int))=((bU n d (some v):Nat):Int):=by
 change (if v<0 then max (v+(n:Int)) 0 else min v (n:Int))=(((if v<0 then (v+(n:Int)).toNat else min v.toNat n):Nat):Int);by_cases hv:v<0
 .simp only[if_pos hv];lia
 .simp only[if_neg hv];lia
def zfE(lo hi:Option Int)(n:Nat):Builtin.Slice.sliceAdjust lo hi 1 (n:Int)=(((bU n 0 lo:Nat):Int),((bU n n hi:Nat):Int)):=by
 let h1:¬((1:Int)<0):=by lia
 unfold Builtin.Slice.sliceAdjust;simp only[h1,qu];show Prod.ext ?_ ?_
 .cases lo with
  |none=>rfl|some v=>show XR v n 0
 .cases hi with
  |none=>rfl|some v=>show XR v n n
def zfs(i j:Nat):Builtin.Slice.slicePlaces (i:Int) (j:Int) 1=j-i:=by
 unfold Builtin.Slice.slicePlaces;let h1:(1:Int)>0:=by lia
 simp only[h1,if_true,Int.ediv_one]
 split<;>lia
def X3{v:Value}{o:Option Int}{Q:Option Int->Shared->Prop}(p:IsPart v o)(h:Q o s):wpAny (model prog w) A (Builtin.Slice.slicePartIndex v) Q E s:=by
 cases p with
 |none=>show slicePart_none h|int i t=>show slicePart_int h
def X4{sl:Addr}{vl vu:Value}{lo hi:Option Int}{n:Nat}{Q:Int×Int×Nat->Shared->Prop}(hs:s.heap.IsSliceOf sl vl vu .none)(pl:IsPart vl lo)(pu:IsPart vu hi)
  (h:Q (((bU n 0 lo:Nat):Int),1,bU n n hi-bU n 0 lo) s):wpAny (model prog w) A (Builtin.Slice.sliceApplied (.ref sl) (pure (n:Int))) Q E s:=by
 let⟨os,Bp,Mv,Iz⟩:=id hs;unfold Builtin.Slice.sliceApplied Builtin.Slice.sliceFields;show aC (aC (pA Bp Iz (x:=vl) rfl (aC (pA Bp Iz (x:=vu) rfl (aC (pA Bp Iz (x:=.none) rfl (aQ ?_)))))));show aC (slicePart_none ?_);change wpAny _ _ (if ((1:Int)==0)=true then _ else _) _ _ s;rw[if_neg J0];show aC (X3 pl (aC (X3 pu (aC (aQ ?_)))));change wpAny _ _ (match Builtin.Slice.sliceAdjust lo hi 1 (n:Int) with|(lo,hi)=>pure (lo,(1:Int),Builtin.Slice.slicePlaces lo hi 1)) _ _ s;rw[zfE lo hi n];change wpAny _ _ (pure (((bU n 0 lo:Nat):Int),(1:Int),Builtin.Slice.slicePlaces ((bU n 0 lo:Nat):Int) ((bU n n hi:Nat):Int) 1)) _ _ s;rw[zfs];show aQ h
def zik(xs:Array Value)(i k:Nat):((List.range k).filterMap λ(m:Nat)=>xs[((i:Int)+(m:Int)*1).toNat]?).toArray=((xs.toList.drop i).take k).toArray:=by
 let e:(λ(m:Nat)=>xs[((i:Int)+(m:Int)*1).toNat]?)=λm=>xs[i+m]?:=by
  funext m
  let:((i:Int)+(m:Int)*1).toNat=i+m:=by lia
  rw[this]
 rw[e];let:=pick_run xs i k;rw[List.filterMap_map]at this;let e2:((λx=>xs[x]?)∘λx=>i+x)=λm=>xs[i+m]?:=rfl;rw[e2]at this;rw[this]
def iw{t sl:Addr}{items:Array Value}{vl vu:Value}{lo hi:Option Int}{Q:Value->Shared->Prop}(ht:IsTup s.heap t items)(hs:s.heap.IsSliceOf sl vl vu .none)(pl:IsPart vl lo)(pu:IsPart vu hi)
  (hw:¬(bU items.size 0 lo=0/\bU items.size items.size hi=items.size))
  (h:Q (.ref s.heap.objs.size) {s with heap:=s.heap.push {cls:=.type "tuple",data:=.seq ((items.toList.drop (bU items.size 0 lo)).take (bU items.size items.size hi-bU items.size 0 lo)).toArray}})
  (hsz:items.size<=sizeLine):wpAny (model prog w) A (getItem (.ref t) (.ref sl)) Q E s:=by
 let qF:sizeOk (.seq ((items.toList.drop (bU items.size 0 lo)).take (bU items.size items.size hi-bU items.size 0 lo)).toArray):=by
  change ((items.toList.drop (bU items.size 0 lo)).take (bU items.size items.size hi-bU items.size 0 lo)).toArray.size<=sizeLine;rw[gj,rD,yE,yt]
  lia
 let hj:bU items.size items.size hi<=items.size:=zmM _ _ (bQ _) hi;let⟨os,Bp,Mv,Iz⟩:=id hs;let Q_:s.TypeIs (.ref sl) "slice":=⟨os,Bp,Mv⟩;unfold getItem
 try with_reducible show vM ?_
 first|refine aC (aQ ?_)|skip
 show aC (wpAny_sequenceKey ht.typeIs J0 ?_);show aC (Ab (name:=Str.ofString "__getitem__") ht.typeIs DK
  (yF DK ht.typeIs entry_tuple_getitem ?_ (args_tuple_getitem _ _)))
 change wpAny _ _ (Builtin.Tuple.tupleItemsOf (.ref t) >>= _) _ _ s;show aC (tupleItemsOf_ ht ?_);show aC (wpAny_typeOf Q_ ?_);rw[if_pos J0];show aC (X4 hs pl pu ?_);let gF:¬((((bU items.size 0 lo:Nat):Int)==0&&(1:Int)==1&&(bU items.size items.size hi-bU items.size 0 lo)==items.size)=true):=by
  intro q;rw[fH,fH]at q;let q1:((bU items.size 0 lo:Nat):Int)=0:=eq_of_beq q.1.1;let q2:bU items.size items.size hi-bU items.size 0 lo=items.size:=eq_of_beq q.2;show hw ⟨by lia,by lia⟩
 change wpAny _ _ (if (((bU items.size 0 lo:Nat):Int)==0&&(1:Int)==1&&(bU items.size items.size hi-bU items.size 0 lo)==items.size)=true then _ else _) _ _ s;rw[if_neg gF,zik]
 first
  |exact aC (m:=Builtin.Tuple.tupleExact _) (tU (aQ ⟨_,rfl,aQ h⟩) qF)
  |exact aC (m:=Builtin.Tuple.tupleExact _) (tU (aC (aQ (aQ ⟨_,rfl,aQ h⟩))) qF)
  |exact aC (aC (m:=Builtin.Tuple.tupleExact _) (tU (aQ (aQ ⟨_,rfl,aQ h⟩)) qF))
  |exact aC (aC (m:=Builtin.Tuple.tupleExact _) (tU (aQ ⟨_,rfl,aQ h⟩) qF))
end
end HT
namespace L2
open PySem PySem.Spec PyProof.Rows
noncomputable abbrev TO:=St->Hp->(Option Int->Hp->Prop)->Prop
def PO(X:Cx)(e:Option Expr)(t:TO):Prop:=
 ∀(ao:List (Addr×Obj)) (s:Shared) (Z:St) (H:Hp) (Q:Option Int->Hp->Prop),Inv X ao Z H s->t Z H Q->
  wpAny (model X.prog X.w) X.A (evalPart e X.env) (λu s'=>∃o H',Inv X ao Z H' s'/\IsPart u o/\Q o H') X.xe s
def wO:TO:=λ_ H Q=>Q none H
def IK(t:TE):TO:=λZ H Q=>t Z H λx H1=>∃i,x=.int i/\Q (some i) H1
def E_{ns:List Int}:∀{us:List Value},Vals (ns.map V.int) us->IntsAre us ns:=by
 induction ns with
 |nil=>intro us r;rw[List.map_nil]at r;cases r;show .nil|cons n ns ih=>
  intro us r;rw[iV]at r;cases r with
  |cons r1 r2=>
   let⟨t,e⟩:=r1;subst e;show .cons n t (ih r2)
section
variable {X:Cx}{e:Expr}{te:TE}{lo hi:Option Expr}{tl th:TO}{pos p2:Pos}
def zkL:PO X none wO:=by
 intro ao s Z H Q I h;rw[evalPart_none];show aQ ⟨none,H,I,.none,h⟩
def zkS(h:PE X e te):PO X (some e) (IK te):=by
 intro ao s Z H Q I hw;rw[evalPart_some];show aV (h ao s Z H _ I hw) λu s1 hx=>eO hx λx H1 I1 r1 q1=>?_;let⟨i,rfl,q⟩:=q1;let⟨t,rfl⟩:=r1;show⟨some i,H1,I1,.int i t,q⟩
def wQ(X:Cx)(r:V->Option Int->Option Int->Hp->VK->Prop):Prop:=
 ∀(ao:List (Addr×Obj)) (s:Shared) (Z:St) (H:Hp) (x:V) (v vl vu:Value) (lo hi:Option Int) (sl:Addr) (Q:VK),Inv X ao Z H s->RelV x v->s.heap.IsSliceOf sl vl vu .none->IsPart vl lo->IsPart vu hi->r x lo hi H Q->
  ∃T id,typeLookup (.type T) "__getitem__"=pure (some (.builtin id))/\s.TypeIs v T/\wpAny (model X.prog X.w) X.A (getItem v (.ref sl)) (EP X ao Z Q) X.xe s
def wQ.or{r r':V->Option Int->Option Int->Hp->VK->Prop}(h:wQ X r)(h':wQ X r'):wQ X (λx lo hi H Q=>r x lo hi H Q\/r' x lo hi H Q):=by
 intro ao s Z H x v vl vu lo hi sl Q I rx hs pl pu q;rcases q with q|q
 .exact h ao s Z H x v vl vu lo hi sl Q I rx hs pl pu q
 .exact h' ao s Z H x v vl vu lo hi sl Q I rx hs pl pu q
def tSl(r:V->Option Int->Option Int->Hp->VK->Prop)(te:TE)(tl th:TO):TE:=λZ H Q=>te Z H λx H1=>tl Z H1 λl H2=>th Z H2 λu H3=>r x l u H3 Q
def zh3{r:V->Option Int->Option Int->Hp->VK->Prop}(hr:wQ X r)(he:PE X e te)(hl:PO X lo tl)(hu:PO X hi th):PE X (.Subscript e (.Slice lo hi none p2) pos) (tSl r te tl th):=by
 intro ao s Z H Q I h;show Subscript_ (aV (he ao s Z H _ I h) λv s1 hx=>eO hx λx H1 I1 r1 q1=>?_);show wpAny_Slice (aV (hl ao s1 Z H1 _ I1 q1) λvl s2 hx=>eO hx λl H2 I2 pl q2=>aV (hu ao s2 Z H2 _ I2 q2) λvu s3 hx=>eO hx λu H3 I3 pu q3=>?_);rw[evalPart_none];show aQ ?_;let I4:Inv X ao Z H3 {s3 with heap:=s3.heap.push {cls:=.type "slice",data:=.fields #[vl,vu,.none]}}:=I3.kept (t':=s3.toks) λb ob q=>cR _ q;let⟨T,id,hT,ht,hg⟩:=hr ao {s3 with heap:=s3.heap.push {cls:=.type "slice",data:=.fields #[vl,vu,.none]}} Z H3 x v vl vu l u s3.heap.objs.size Q I4 r1 (Heap.IsSliceOf.new ..) pl pu q3;change wpAny (model X.prog X.w) X.A (subscriptTail e (.Slice lo hi none p2) v (.ref s3.heap.objs.size)) (EP X ao Z Q) X.xe {s3 with heap:=s3.heap.push {cls:=.type "slice",data:=.fields #[vl,vu,.none]}};show tail_any (ops:=[.ref s3.heap.objs.size,v]) ht hT hg (by with_unfolding_all rfl)
def mK(xs:List V)(lo hi:Option Int):List V:=(xs.drop (HT.bU xs.length 0 lo)).take (HT.bU xs.length xs.length hi-HT.bU xs.length 0 lo)
def X5(xs:List V)(lo hi:Option Int):(mK xs lo hi).length<=xs.length:=by
 unfold mK;rw[rD,yE]
 lia
def Ra(K:W.Frag):V->Option Int->Option Int->Hp->VK->Prop:=λx lo hi H Q=>∃a xs,x=.ref a/\fC K H a xs /\
 ¬(HT.bU xs.length 0 lo=0/\HT.bU xs.length xs.length hi=xs.length)/\∀p,H p=none->Q (.ref p) (upd H p (.tup (mK xs lo hi)))
def zlv:wQ X (Ra X.K):=by
 intro ao s Z H x v vl vu lo hi sl Q I rx hs pl pu h;let⟨a,xs,rfl,hx,hw,q⟩:=h;cases rx;let⟨its,r,ht,hz⟩:=I.tuple hx;let hlen:its.toArray.size=xs.length:=by rw[gj];show r.length.symm
 show⟨"tuple",_,DK.lookup,ht.typeIs,?_⟩;show HT.iw ht hs pl pu (by rw[hlen];show hw) ?_ (by rw[hlen];show hz);rw[hlen];show⟨.ref s.heap.objs.size,_,I.laid (t':=s.toks) (o:=.tup (mK xs lo hi)) (λb ob q=>cR _ q) (bQ _) ?_,rfl,q _ (I.hok.fresh (bQ _))⟩;show⟨jz (X5 xs lo hi) hz,_,(r.drop (HT.bU xs.length 0 lo)).take (HT.bU xs.length xs.length hi-HT.bU xs.length 0 lo),jO.new _ _⟩
def IV(K:W.Frag):R2:=λx y H Q=>∃a b ns ms,x=.ref a/\y=.ref b/\fC K H a (ns.map V.int)/\fC K H b (ms.map V.int)/\Q (.bl (HT.lexLt ns ms)) H
def znu(hu:X.A.units<cLine):dX X (compareOp .Lt) (IV X.K):=by
 intro ao s Z H x y v u Q I rx ry h;let⟨a,b,ns,ms,rfl,rfl,ha,hb,q⟩:=h;cases rx;cases ry;let⟨its,r1,p1,_⟩:=I.tuple ha;let⟨its2,r2,p2,_⟩:=I.tuple hb;let i1:IntsAre its.toArray.toList ns:=E_ r1;let i2:IntsAre its2.toArray.toList ms:=E_ r2;show HT.jQ p1 p2 i1 i2 hu ⟨.bl (HT.lexLt ns ms),H,I,rfl,q⟩
def Vals.mL{xs:List V}{us:List Value}(r:Vals xs us):us=[]↔xs=[]:=by
 cases r with
 |nil=>simp|cons _ _=>simp
end
def rQ(n:Nat)(i:Int):Option Nat:=if 0<=i then (if i<n then some i.toNat else none) else if -(n:Int)<=i then some (i+n).toNat else none
def qG{α:Type}(xs:List α)(i:Int):Option α:=(rQ xs.length i).bind λj=>xs[j]?
def X6{n:Nat}{i:Int}{j:Nat}(h:rQ n i=some j):seqIndex? i n=some j/\j<n/\-(n:Int)<=i/\i<n:=by
 unfold rQ at h;by_cases h0:0<=i
 .rw[if_pos h0]at h;by_cases h1:i<n
  .rw[if_pos h1]at h;let e:i.toNat=j:=cP h;show⟨by rw[seqIndex_of h0 h1,e],by lia,by lia,h1⟩
  .rw[if_neg h1]at h;cases h
 .rw[if_neg h0]at h;by_cases h1 : -(n:Int)<=i
  .rw[if_pos h1]at h;let e:(i+n).toNat=j:=cP h;show⟨by rw[seqIndex_neg gV h1,e],by lia,h1,by lia⟩
  .rw[if_neg h1]at h;cases h
def Rb{α:Type}{xs:List α}{i:Int}{v:α}(h:qG xs i=some v):∃j,seqIndex? i xs.length=some j/\xs[j]?=some v/\j<xs.length/\-(xs.length:Int)<=i/\i<xs.length:=by
 unfold qG at h;cases e:rQ xs.length i with
 |none=>rw[e]at h;cases h|some j=>
  rw[e]at h;let⟨h1,h2,h3,h4⟩:=X6 e;show⟨j,h1,h,h2,h3,h4⟩
def qH(b:Expr):Prop:=∀o i,subscripted b false o i=operate [o,i] (getItem o i)
def wR(X:Cx)(r:R2):Prop:=
 ∀(value slice:Expr) (ao:List (Addr×Obj)) (s:Shared) (Z:St) (H:Hp) (x y:V) (v u:Value) (Q:VK),Inv X ao Z H s->RelV x v->RelV y u->r x y H Q->
  subscripted slice false v u=operate [v,u] (getItem v u)->wpAny (model X.prog X.w) X.A (subscriptTail value slice v u) (EP X ao Z Q) X.xe s
def Rf(X:Cx)(id:String)(r:V->List V->Hp->VK->Prop):Prop:=
 ∀(ao:List (Addr×Obj)) (s:Shared) (Z:St) (H:Hp) (x:V) (xs:List V) (v:Value) (us:List Value) (Q:VK),Inv X ao Z H s->RelV x v->Vals xs us->r x xs H Q->
  wpAny (model X.prog X.w) X.A (call (.builtin id) (v::us)) (EP X ao Z Q) X.xe s
section
variable {X:Cx}{a b:Expr}{ta tb:TE}{pos:Pos}
def wR.or{r r':R2}(h:wR X r)(h':wR X r'):wR X (λx y H Q=>r x y H Q\/r' x y H Q):=by
 intro value slice ao s Z H x y v u Q I rx ry q hs;rcases q with q|q
 .exact h value slice ao s Z H x y v u Q I rx ry q hs
 .exact h' value slice ao s Z H x y v u Q I rx ry q hs
def zoz{r:R2}(hr:wR X r)(ha:PE X a ta)(hb:PE X b tb)(hs:qH b):PE X (.Subscript a b pos) (Ms r ta tb):=by
 intro ao s Z H Q I h;show Subscript_ (Bh ha hb I h λv u s2 x y H2 I2 rx ry q=>hr a b ao s2 Z H2 x y v u Q I2 rx ry q (hs _ _))
def IW(K:W.Frag):R2:=λx y H Q=>∃p xs i v,x=.ref p/\y=.int i/\c7 K H p xs/\qG xs i=some v/\Q v H
def I8(K:W.Frag):R2:=λx y H Q=>∃p xs i v,x=.ref p/\y=.int i/\fC K H p xs/\qG xs i=some v/\Q v H
def I9:R2:=λx y H Q=>∃z i c,x=.str z/\y=.int i/\z.length<=sizeLine/\qG z.cps.toList i=some c/\Q (.str ⟨#[c]⟩) H
def wU:wR X (IW X.K):=by
 intro value slice ao s Z H x y v u Q I rx ry h hs;let⟨p,xs,i,z,rfl,rfl,hq,he,q⟩:=h;cases rx;let⟨t,rfl⟩:=ry;let⟨its,r,pl,hz⟩:=I.list hq;let⟨j,h1,h2,h3,h4,h5⟩:=Rb he;let⟨w,ew,kJ⟩:=r.get h2;let hl:=r.length;let hn:=iZ;let fin:EP X ao Z Q w s:=⟨z,H,I,kJ,q⟩;by_cases h0:0<=i
 .let hj:i.toNat=j:=by
   rw[seqIndex_of h0 h5]at h1;show cP h1
  show item_listR pl.isList h0 gV (by rw[hj];simpa using ew) fin hs
 .let hj:(i+(its.toArray.size:Int)).toNat=j:=by
   rw[seqIndex_neg gV h4]at h1;rw[gj,<-hl];show cP h1
  show subscriptTail_builtinR (x:=w) pl.isList.typeIs slot_list_getitem.lookup
   (wpAny_getItem_list_neg (Q:=λr s'=>r=w/\EP X ao Z Q r s') pl.isList gV (by rw[gj]<;>lia) gV (by rw[hj];simpa using ew) ⟨rfl,fin⟩) hs
def Bq:wR X (I8 X.K):=by
 intro value slice ao s Z H x y v u Q I rx ry h hs;let⟨p,xs,i,z,rfl,rfl,hq,he,q⟩:=h;cases rx;let⟨t,rfl⟩:=ry;let⟨its,r,pl,hz⟩:=I.tuple hq;let⟨j,h1,h2,h3,h4,h5⟩:=Rb he;let⟨w,ew,kJ⟩:=r.get h2;let hl:=r.length;let hn:=iZ;let fin:EP X ao Z Q w s:=⟨z,H,I,kJ,q⟩;show subscriptTail_builtinR (x:=w) pl.typeIs slot_tuple_getitem.lookup
  (getItem_tuple (j:=j) (Q:=λr s'=>r=w/\EP X ao Z Q r s') pl gV gV (by rw[gj,<-hl];show h1) (by simpa using ew) ⟨rfl,fin⟩) hs
def zl9:wR X I9:=by
 intro value slice ao s Z H x y v u Q I rx ry h hs;let⟨z,i,c,rfl,rfl,hz,he,q⟩:=h;let⟨t,rfl⟩:=rx;let⟨t',rfl⟩:=ry;let⟨j,h1,h2,h3,h4,h5⟩:=Rb he;let hl:z.cps.toList.length=z.length:=by simp[Str.length]
 rw[hl]at h1 h4 h5;let hn:=iZ;show tail_any (typeIs_str s z t) slot_str_getitem.lookup (getItem_str (c:=c) (by
  let e1:decide (i < -(2^63:Int))=false:=iK gV;let e2:decide (i>=2^63)=false:=iK gV;rw[e1,e2,Bool.or_false]) (by rw[h1];simpa using h2) ⟨.str ⟨#[c]⟩,H,I.tok _,⟨_,rfl⟩,q⟩) hs
def Rg(K:W.Frag):R2:=λx y H Q=>IW K x y H Q\/I8 K x y H Q\/I9 x y H Q
theorem znT:wR X (Rg X.K):=wU.or (Bq.or zl9)
def zfv(its:List Value)(n j:Nat)(u:Value):Obj.mapSeq (·.setIfInBounds j u) {cls:=.type "list",data:=.seq its.toArray n}={cls:=.type "list",data:=.seq (its.set j u).toArray n}:=by
 simp[Obj.mapSeq]
def Inv.lst{ao:List (Addr×Obj)}{Z:St}{H:Hp}{s:Shared}{p:Addr}{xs:List V}(I:Inv X ao Z H s)(h:H p=some (.lst xs)) :
  ∃(its:List Value) (n:Nat),Vals xs its/\s.heap.get? p=some {cls:=.type "list",data:=.seq its.toArray n}/\xs.length<=sizeLine:=by
 let⟨z,its,n,r,e⟩:=I.hok p _ h;show⟨its,n,r,e,z⟩
def Inv.Br{ao:List (Addr×Obj)}{Z:St}{H:Hp}{s:Shared}{p:Addr}{xs ys:List V}{its its':List Value}{n n':Nat}{f:Obj->Obj}(I:Inv X ao Z H s)(h:H p=some (.lst xs))
  (ho:s.heap.get? p=some {cls:=.type "list",data:=.seq its.toArray n}) (hf:f {cls:=.type "list",data:=.seq its.toArray n}={cls:=.type "list",data:=.seq its'.toArray n'}) (r:Vals ys its') (hz:ys.length<=sizeLine) (t:Nat) :
  Inv X ao Z (upd H p (.lst ys)) {s with heap:=s.heap.update p f,toks:=t}:=by
 let e:(s.heap.update p f).get? p=some {cls:=.type "list",data:=.seq its'.toArray n'}:=by
  rw[La f ho (by rw[hf]<;>rfl),hf]
 show I.write (x:=p) (e:=p) (by rw[h];trivial) (.inl rfl) (λb u hb q=>(GJ _ _ (Ne.symm hb)).trans q) ⟨_,e⟩ ?_;show⟨hz,its',n',r,e⟩
def I_:V->V->V->Hp->(Hp->Prop)->Prop:=λo i v H Q=>∃p xs k j,o=.ref p/\i=.int k/\H p=some (.lst xs)/\rQ xs.length k=some j/\Q (upd H p (.lst (xs.set j v)))
def zhr:H_ X I_:=by
 intro ao s Z H o i v ov iv u Q I ro ri rv h;let⟨p,xs,k,j,rfl,rfl,hp,hj,q⟩:=h;cases ro;let⟨t,rfl⟩:=ri;let⟨its,n,r,ho,hz⟩:=I.lst hp;let⟨h1,h2,h3,h4⟩:=X6 hj;let hl:=r.length;let hn:=iZ;let I':Inv X ao Z (upd H p (.lst (xs.set j v))) {s with heap:=s.heap.update p (Obj.mapSeq (·.setIfInBounds j u))}:=
  I.Br hp ho (zfv its n j u) (r.set rv j) (by rw[pq];show hz) s.toks
 by_cases h0:0<=k
 .let hk:k.toNat=j:=by
   rw[seqIndex_of h0 h4]at h1;show cP h1
  show PySem.W.ki_setAt ho h0 gV (by rw[gj,<-hl];show h4) (by rw[hk];show⟨_,I',q⟩)
 .let hk:(k+(its.toArray.size:Int)).toNat=j:=by
   rw[seqIndex_neg gV h3]at h1;rw[gj,<-hl];show cP h1
  show PySem.W.ki_setBack ho gV (by rw[gj,<-hl];show h3) gV (by rw[hk];show⟨_,I',q⟩)
def zdo(lo hi:Option Int)(n:Nat):(sliceBounds lo hi none n).1=((HT.bU n 0 lo:Nat):Int)/\(sliceBounds lo hi none n).2.1=((HT.bU n n hi:Nat):Int)/\(sliceBounds lo hi none n).2.2=1:=by
 show⟨?_,?_,rfl⟩
 .cases lo with
  |none=>simp[sliceBounds,HT.bU]|some i=>
   simp only[sliceBounds,HT.bU,Option.getD_none,show (1:Int)>0 by decide,if_true];by_cases h:i<0
   .simp only[h,if_true]<;>lia
   .simp only[h,qu]<;>lia
 .cases hi with
  |none=>simp[sliceBounds,HT.bU]|some i=>
   simp only[sliceBounds,HT.bU,Option.getD_none,show (1:Int)>0 by decide,if_true];by_cases h:i<0
   .simp only[h,if_true]<;>lia
   .simp only[h,qu]<;>lia
def zcJ(its:List Value)(lo hi:Option Int):slicePick its.toArray lo hi none=((its.drop (HT.bU its.length 0 lo)).take (HT.bU its.length its.length hi-HT.bU its.length 0 lo)).toArray:=by
 let⟨h1,h2,h3⟩:=zdo lo hi its.toArray.size;unfold slicePick;rw[h1,h2,h3];simp only[sliceRange_one,pick_run,gj]<;>rfl
def Ja(K:W.Frag):V->Option Int->Option Int->Hp->VK->Prop:=λx lo hi H Q=>∃a xs,x=.ref a/\c7 K H a xs/\∀p,H p=none->Q (.ref p) (upd H p (.lst (mK xs lo hi)))
def wV:wQ X (Ja X.K):=by
 intro ao s Z H x v vl vu lo hi sl Q I rx hs pl pu h;let⟨a,xs,rfl,hx,q⟩:=h;cases rx;let⟨its,r,ht,hz⟩:=I.list hx;let hlen:=r.length;show⟨"list",_,slot_list_getitem.lookup,ht.isList.typeIs,?_⟩;show wpAny_getItem_list_slice ht.isList hs pl pu .none R3 ?_ (by rw[gj]<;>lia);rw[zcJ,<-hlen];show⟨.ref s.heap.objs.size,_,I.laid (t':=s.toks) (o:=.lst (mK xs lo hi)) (λb ob q=>cR _ q) (bQ _) ?_,rfl,q _ (I.hok.fresh (bQ _))⟩;show⟨jz (X5 xs lo hi) hz,_,0,(r.drop (HT.bU xs.length 0 lo)).take (HT.bU xs.length xs.length hi-HT.bU xs.length 0 lo),fB _ rfl⟩
def zdC:cV X (.builtin "len") (λxs H Q=>∃p ys,xs=[.ref p]/\(c7 X.K H p ys\/fC X.K H p ys)/\Q (.int ys.length) H):=by
 intro ao s Z H xs us Q I r h;let⟨p,ys,rfl,hq,q⟩:=h;let⟨u,rfl,rx⟩:=vals1 r;cases rx;let hn:=iZ;rcases hq with hq|hq
 .obtain⟨its,r',pl,hz⟩:=I.list hq;let hlen:=r'.length;show Calls.call_len_list pl.isList (by simp only[gj]<;>lia) ⟨.int ys.length,H,I.tok _,⟨s.toks+1,by rw[gj,hlen]⟩,q⟩
 .obtain⟨its,r',pl,hz⟩:=I.tuple hq;let hlen:=r'.length;show len_tuple pl (by simp only[gj]<;>lia) ⟨.int ys.length,H,I.tok _,⟨s.toks+1,by rw[gj,hlen]⟩,q⟩
def zdD:cV X (.type "list") (λxs H Q=>∃p ys,xs=[.ref p]/\(c7 X.K H p ys\/fC X.K H p ys)/\∀l,H l=none->Q (.ref l) (upd H l (.lst ys))):=by
 intro ao s Z H xs us Q I r h;let⟨p,ys,rfl,hq,q⟩:=h;let⟨u,rfl,rx⟩:=vals1 r;cases rx;let fin:∀(its:List Value),Vals ys its->ys.length<=sizeLine->∀(h':Heap) (c':Nat),(∀b o',s.heap.get? b=some o'->h'.get? b=some o')->
   h'.get? s.heap.objs.size=some {cls:=.type "list",dict:=none,data:=.seq its.toArray c',slots:=#[]}->EP X ao Z Q (.ref s.heap.objs.size) {s with heap:=h'}:=λits r' hz h' c' kp e=>
  ⟨.ref s.heap.objs.size,_,I.laid (t':=s.toks) kp (bQ _) (show bT X.prog X.w _ h' _ (.lst ys) from ⟨hz,its,c',r',e⟩),rfl,q _ (I.hok.fresh (bQ _))⟩
 rcases hq with hq|hq
 .obtain⟨its,r',pl,hz⟩:=I.list hq;let hlen:=r'.length;let⟨o,ho,hc,n,hd⟩:=pl.isList;show call_list_seq p (.inl rfl) ho hc hd (λh' c' kp e=>fin its r' hz h' c' kp e) (by simp only[gj]<;>lia)
 .obtain⟨its,r',pl,hz⟩:=I.tuple hq;let hlen:=r'.length;let⟨o,ho,hc,n,hd⟩:=pl;show call_list_seq p (.inr rfl) ho hc hd (λh' c' kp e=>fin its r' hz h' c' kp e) (by simp only[gj]<;>lia)
def zcY:cV X (.type "tuple") (λxs H Q=>∃p ys,xs=[.ref p]/\((c7 X.K H p ys/\∀l,H l=none->Q (.ref l) (upd H l (.tup ys)))\/(fC X.K H p ys/\Q (.ref p) H))):=by
 intro ao s Z H xs us Q I r h;let⟨p,ys,rfl,h⟩:=h;let⟨u,rfl,rx⟩:=vals1 r;cases rx;rcases h with ⟨hq,q⟩|⟨hq,q⟩
 .obtain⟨its,r',pl,hz⟩:=I.list hq;let hlen:=r'.length;show call_tuple_list pl.isList (λh' kp=>?_) (by simp only[gj]<;>lia);let I1:Inv X ao Z H {s with heap:=h'}:=I.kept (t':=s.toks) kp;let I2:Inv X ao Z (upd H h'.objs.size (.tup ys)) {s with heap:=h'.push {cls:=.type "tuple",data:=.seq its.toArray}}:=
   I1.laid (t':=s.toks) (λb o e=>cR _ e) (bQ _) (show bT X.prog X.w _ _ _ (.tup ys) from ⟨hz,its,r',jO.new _ _⟩)
  show⟨.ref h'.objs.size,_,I2,rfl,q _ (I1.hok.fresh (bQ _))⟩
 .obtain⟨its,r',pl,hz⟩:=I.tuple hq;show call_tuple_same pl ⟨.ref p,H,I,rfl,q⟩
def Rh(K:W.Frag)(T:String)(x:V)(H:Hp):Prop:=match x with
 |.str _=>T="str"|.int _=>T="int"|.ref p=>(T="list"/\∃xs,c7 K H p xs)\/(T="tuple"/\∃xs,fC K H p xs) \/
   (T="dict"/\((∃kvs,H p=some (.dK kvs))\/∃kvs,H p=some (.dT kvs)))\/(T="set"/\∃S n,H p=some (.set S n))
 |_=>False
def zmj{ao:List (Addr×Obj)}{Z:St}{H:Hp}{s:Shared}{T:String}{x:V}{v:Value}(I:Inv X ao Z H s)(r:RelV x v)(ty:Rh X.K T x H) :
  s.TypeIs v T/\∀a,v=.ref a->∃ob,s.heap.get? a=some ob/\ob.dict=none:=by
 cases x with
 |str z=>
  let⟨t,rfl⟩:=r;cases (show T="str" from ty);show⟨typeIs_str s z t,λ_ e=>nomatch e⟩
 |int i=>
  let⟨t,rfl⟩:=r;cases (show T="int" from ty);show⟨typeIs_int s i t,λ_ e=>nomatch e⟩
 |ref p=>
  cases r;rcases ty with ⟨rfl,xs,hq⟩|⟨rfl,xs,hq⟩|⟨rfl,hk⟩|⟨rfl,S,n,hk⟩
  .obtain⟨its,_,pl,_⟩:=I.list hq;show⟨pl.isList.typeIs,λa e=>?_⟩;cases e;let⟨o,n,e,c,hd,_⟩:=pl;show⟨o,e,hd⟩
  .obtain⟨o,h1,h2,h3⟩:=I.QC hq;show⟨⟨o,h1,h2⟩,λa e=>?_⟩;cases e;show⟨o,h1,h3⟩
  .let z:∃o,s.heap.get? p=some o/\o.ExactDict:=by
    rcases hk with ⟨kvs,hk⟩|⟨kvs,hk⟩
    .obtain⟨_,_,_,_,o,_,_,e,ex,_⟩:=I.hok p _ hk;show⟨o,e,ex⟩
    .obtain⟨_,_,_,_,o,_,_,e,ex,_⟩:=I.hok p _ hk;show⟨o,e,ex⟩
   let⟨o,e,ex⟩:=z;show⟨⟨o,e,ex.1⟩,λa e2=>?_⟩;cases e2;show⟨o,e,ex.2.1⟩
  .obtain⟨o,_,_,_,e,ex,_⟩:=I.hok p _ hk;show⟨⟨o,e,ex.1⟩,λa e2=>?_⟩;cases e2;show⟨o,e,ex.2.1⟩
 |_=>show False.elim ty
def tBM(K:W.Frag)(T:String)(r:V->List V->Hp->VK->Prop)(to:TE)(t:TA):TE:=λZ H Q=>to Z H λx H1=>Rh K T x H1/\t Z H1 λxs H2=>r x xs H2 Q
variable {o e:Expr}{es:List Expr}{to:TE}{t:TA}{name:Str}{apos cpos:Pos}{T id:String}{r:V->List V->Hp->VK->Prop}
def X7(pa:PlainAttrs T)(slot:Slot T name id)(Ri:typeOf (.builtin id)=pure (.type "method_descriptor"))(hm:Rf X id r)(ho:PE X o to)(ha:PA X (e::es) t)
  (iy:attributeBase o name X.env (eval o X.env)=eval o X.env:=by rfl)
  (pQ:((backTo cpos (starEach (e::es) X.env)).all (λx=>!x.1)&&(backToKw cpos (keywordEach [] X.env)).all (λx=>x.1.isSome)
  &&decide ((e::es).length+([]:List Keyword).length+(if ([]:List Keyword).isEmpty then 0 else 1)<30))=true:=by rfl)
  (iz:(apos.endLine==cpos.line)=true:=by rfl) (hs:starEach (e::es) X.env=(false,eval e X.env)::starEach es X.env:=by rfl) (fL:(backTo cpos (starEach es X.env)).any (·.1)=false:=by rfl) :
  PE X (.Call (.Attribute o name apos) (e::es) [] cpos) (tBM X.K T r to t):=by
 intro ao s Z H Q I h;show wpAny_Call_method_late iy pQ iz rfl (aV (ho ao s Z H _ I h) λv s1 hz=>?_);let⟨x,H1,I1,r1,ty,q1⟩:=hz;let⟨h1,h2⟩:=zmj I1 r1 ty;show⟨T,id,pa,slot,Ri,h1,h2,?_⟩;let hA:=ha cpos ao s1 Z H1 _ I1 q1;rw[hs]at hA ⊢;show Calls.callWith_builtin (by change (false||(backTo cpos (starEach es X.env)).any (·.1))=false;rw[fL]<;>rfl) (Calls.evalArgs_plain ?_);show aV hA λus s2 hx=>eO hx λvs H2 I2 r2 q2=>hm ao s2 Z H2 x vs v us Q I2 r1 r2 q2
end
def MtM(X:Cx)(id:String)(r:V->List V->Hp->VK->Prop):Prop:=
 ∀(ao:List (Addr×Obj)) (s:Shared) (Z:St) (H:Hp) (x:V) (xs:List V) (v:Value) (us:List Value) (Q:VK),Inv X ao Z H s->RelV x v->Vals xs us->r x xs H Q->
  wpAny (model X.prog X.w) X.A (call (.builtin id) (v::us)) (EP X ao Z Q) X.xe s
def Vals.one{x:V}{us:List Value}(h:Vals [x] us):∃u,us=[u]/\RelV x u:=by
 cases h with
 |cons r t=>cases t;show⟨_,rfl,r⟩
def Vals.two{x y:V}{us:List Value}(h:Vals [x,y] us):∃u v,us=[u,v]/\RelV x u/\RelV y v:=by
 cases h with
 |cons r t=>
  let⟨v,rfl,q⟩:=Vals.one t;show⟨_,_,rfl,r,q⟩
section
variable {X:Cx}{ao:List (Addr×Obj)}{Z:St}{H:Hp}{s:Shared}{l b:Addr}{xs ys zs:List V}
def Inv.Rj{its its':List Value}{n:Nat}{f:Array Value->Array Value}{t':Nat}(I:Inv X ao Z H s)(hH:H l=some (.lst xs))
  (e:s.heap.get? l=some {cls:=.type "list",data:=.seq its.toArray n}) (hf:f its.toArray=its'.toArray) (hv:Vals ys its') (hz:ys.length<=sizeLine) :
  Inv X ao Z (upd H l (.lst ys)) {s with heap:=s.heap.update l (Obj.mapSeq f),toks:=t'}:=by
 let q:=PySem.IsL.update e f;rw[hf]at q;show I.write (x:=l) (e:=l) (by rw[hH];show trivial) (.inl rfl) (λb' u hb hu=>(GJ s.heap (Obj.mapSeq f) (Ne.symm hb)).trans hu) ⟨_,q⟩ ?_;show⟨hz,its',_,hv,q⟩
theorem Inv.Rm{its:List Value}{t':Nat}(I:Inv X ao Z H s)(hv:Vals ys its)(hz:ys.length<=sizeLine) :
  Inv X ao Z (upd H s.heap.objs.size (.lst ys)) {s with heap:=s.heap.push {cls:=.type "list",data:=.seq its.toArray},toks:=t'}:=
 I.laid (λ_ _ q=>cR _ q) (bQ _) ⟨hz,its,0,hv,fB _ rfl⟩
theorem Inv.fresh(I:Inv X ao Z H s):H s.heap.objs.size=none:=I.hok.fresh (bQ _)
def Inv.Rn(I:Inv X ao Z H s)(hH:H l=some (.lst xs)):xs.length<=sizeLine/\∃(its:List Value) (n:Nat),Vals xs its/\xs.length=its.length/\s.heap.get? l=some {cls:=.type "list",data:=.seq its.toArray n}:=by
 let⟨z,its,n,r,e⟩:=I.hok l _ hH;show⟨z,its,n,r,r.length,e⟩
end
section
variable {X:Cx}
def wW:V->List V->Hp->VK->Prop:=λx vs H Q=>∃l xs y,x=.ref l/\vs=[y]/\H l=some (.lst xs)/\xs.length<sizeLine/\Q .non (upd H l (.lst (xs++[y])))
def Ro:MtM X "list.append" wW:=by
 intro ao s Z H x vs v us Q I rx rv h;let⟨l,xs,y,rfl,rfl,hH,hz,q⟩:=h;cases rx;let⟨u,rfl,ru⟩:=rv.one;let⟨z,its,n,r,hl,e⟩:=I.Rn hH;show Et F.slot_list_append ⟨_,e,rfl⟩ F.entry_list_append (F.args_list_append_2 _ _) (PySem.list_append l its.toArray n u (by rw[gj];lia)) ⟨e,?_⟩;show⟨.non,_,I.Rj (its':=its++[u]) hH e R3 (r.append (.cons ru .nil)) ?_,rfl,q⟩;rw[jk,List.length_singleton]
 lia
end
section
variable {prog:Program}{w:World}{A:Around}{E:Value->Shared->Prop}{s:Shared}
set_option maxRecDepth 100000 in
end
end L2
namespace X8
open PySem PySem.W PySem.Calls PyProof.Rows
def zb1{P:Params}{h:Heap}:∀(ns:List Int) (vs:List Value),WellAll P h vs (ns.map WData.int)->IntsAre vs ns:=by
 intro ns
 induction ns with
 |nil=>
  intro vs w;rw[List.map_nil]at w;cases w;show .nil
 |cons n ns ih=>
  intro vs w;rw[iV]at w;cases w with
  |cons a b=>
   cases a;show .cons _ _ (ih _ b)
def zgM{l:OpenLaw}{n:Nat}(hn:l.most=some n){P:Params}{h:Heap}{args:List WData}{vals:List Value}
  (hpre:l.row.toRowW.claim.pre args=true) (Rp:WellAll P h vals args) :
  ∃a vs ns,vals=[Value.ref a]/\args=[WData.list (ns.map WData.int)]/\h.get? a=some {cls:=.type "list",data:=.seq vs.toArray}/\IntsAre vs ns/\ns.length<=n:=by
 let hsh:WShape.hasAll [] args [.list .int]=true:=(pre_splitW hpre).1;let hc:l.pre.holds [] {args:=args}=true:=(pre_splitW hpre).2;let⟨d,r,rfl,h1,h2⟩:=hasAllW_cons hsh;obtain rfl:=hasAllW_nil h2;let⟨xs,rfl,h3⟩:=hasW_list h1;let⟨ns,rfl⟩:=items_int h3;let hlen:ns.length<=n:=by
  unfold OpenLaw.pre at hc;let h4:(WTm.not (.lt (.lit (.int (n:Int))) (.len (.arg 0)))).holds [] {args:=[.list (ns.map .int)]}=true:=by
   let h4:=(holds_andW hc).1;rw[hn]at h4;show h4
  let h5:=condW_of h4 (w_not (w_lt w_lit (w_len_list (w_arg rfl))));rw[bN]at h5;show G4 λq=>?_;let q':(n:Int)<((ns.length:Nat):Int):=by lia
  first
   |(rw[cQ q']at h5;show absurd h5 J0)
   |(simp at h5;lia)
 cases Rp with
 |cons w1 w2=>
  cases w2;cases w1 with
  |list ho jR=>show⟨_,_,ns,rfl,rfl,ho,zb1 ns _ jR,hlen⟩
theorem zgv(l:OpenLaw)(args:List WData):l.row.toRowW.claim.post args (.bool true) args=true:=
 postW_of (r:=l.row.toRowW) (X:=(true==true))
  (show WShape.has [] (.bool true) .bool=true by first|rfl|decide|simp[WShape.has,WShape.arms,WShape.armsAll])
  (show (WTm.eq .res (.lit (.bool true))).value [] {args:=args,res:=some (.bool true),after:=args}=some (.bool (true==true)) from w_eq_bool (w_res rfl) w_lit) rfl
def nZ{l:OpenLaw}{n:Nat}{q:Program}{loose:List Str}{XP:(Str->Option Value)->Heap->Prop}{YP:World->Heap->Prop}{d:DefRec}
  (hn:l.most=some n) (Rq:d.params.defaults=[])
  (call:∀(w:World) (s₀ s₁:Shared) (mg mb:Str->Option Value) (fa:Addr) (o:Obj) (pm cd doc:Value) (a:Addr) (vs:List Value) (ns:List Int),
   Ground q loose [] XP w s₀ mg mb s₁.heap->YP w s₁.heap->
   s₁.heap.get? fa=some o->o.data=.func (docDef d.name d.params d.body d.scope pm cd doc)->s₁.heap.CodeRec cd d.name->mg d.name=some (.ref fa)->
   s₁.heap.get? a=some {cls:=.type "list",data:=.seq vs.toArray}->IntsAre vs ns->ns.length<=n->s₁.gens=#[]->
   codeAny (model l.prog w) callerA (.call (.ref fa) ⟨[.ref a],[]⟩) (λr s'=>r=.ok (.ret (.bool true))/\OldK s₁.heap s'.heap/\s'.os=s₁.os/\AllBare s'.gens) s₁) :
  WalkO q loose XP YP l.row.toRowW d [] (λf vs=>PySem.call f vs):=by
 intro w s₀ s₁ mg mb G Y fa o pm cd doc dV kV ho hd j_ hD hmg hg args vals as hpre aag hrd Rp hlo;obtain rfl:dV=.none:=Dflts.none hD Rq;obtain rfl:kV=.none:=Dflts.noKw hD;let⟨a,vs,ns,rfl,rfl,Bs,hints,hlen⟩:=zgM hn hpre Rp;show enter_call (Al (call w s₀ s₁ mg mb fa o pm cd doc a vs ns G Y ho (fd_plain hd) j_ hmg Bs hints hlen hg) λr s' hq=>?_);let⟨rfl,h2,h3,h4⟩:=hq;show⟨.inl ⟨.bool true,.bool true,[],rfl,λ_=>rfl,.bool true,zgv l _,λ_=>⟨List.Pairwise.nil,λ_ hm=>(nomatch hm)⟩⟩,h2,h3,h4⟩
end X8
namespace L2
open PySem PySem.Spec PyProof.Rows
theorem X_:∀{vs:List Value} {ns:List Int},IntsAre vs ns->Vals (ns.map V.int) vs
 |_,_,.nil=>.nil|_,_,.cons n t h=>.cons ⟨t,rfl⟩ (X_ h)
def Only(H:Hp):Prop:=∀b,H b=none\/∃o xs,H b=some (.vR o (.lst xs))
def zht{P:Program}{w:World}{K:W.Frag}{mg mb:Str->Option Value}{CX:rO}{k:Nat}{fa a:Addr}{fd:FuncData}{x:Str}{sp:Sp}{s₁:Shared}{vs:List Value}{ns:List Int}
  (KX:K.In s₁.heap) (Fb:s₁.heap.Ns mainGlobals mg) (hb:s₁.heap.Ns builtinsNs mb) (hbb:∀x:Str,x≠"__name__"->mb x=bootBuiltins x) (Rr:s₁.heap.NoLimit) (hg:s₁.gens=#[])
  (ha:s₁.heap.get? a=some {cls:=.type "list",data:=.seq vs.toArray}) (hi:IntsAre vs ns) (hl:ns.length<=sizeLine) (hr:bH k callerA)
  (F:∀base:Heap,K.In base->base.Ns mainGlobals mg->cC P w K mg base CX true k fa fd [x] sp) (Jc:∀(s:Shared) (u:Value),BindsTo s fd ⟨[u],[]⟩ [(x,u)])
  (wM:∀H:Hp,Only H->c7 K H a (ns.map V.int)->sp [.ref a] H (λv _=>v=.bl true) λ_ _ _=>False)
  (hCX:∀H e s',CX [] H s₁ (λ_ _ _=>False) e s'->False) :
  codeAny (model P w) callerA (.call (.ref fa) ⟨[.ref a],[]⟩) (λr s'=>r=.ok (.ret (.bool true))/\OldK s₁.heap s'.heap/\s'.os=s₁.os/\AllBare s'.gens) s₁:=by
 let rv:=X_ hi;let lenV:=hi.length;let core:∀H:Hp,Only H->c7 K H a (ns.map V.int)->jF P w H s₁.heap->(∀b,H b≠none->b=a)->(H a≠none->K.lookup a=none)->
   codeAny (model P w) callerA (.call (.ref fa) ⟨[.ref a],[]⟩) (λr s'=>r=.ok (.ret (.bool true))/\OldK s₁.heap s'.heap/\s'.os=s₁.os/\AllBare s'.gens) s₁:=by
  intro H hO hS hok hA hK;let qI:∀{b:Addr} {o:Obj},s₁.heap.get? b=some o->H b=none->(mJ s₁.heap H).get? b=some o:=λe n=>zhw e n;let Ip:∀{b:Addr} {o:Obj} {es:Array DictEntry} {ep:Nat},s₁.heap.get? b=some o->o.data=.dict es ep->H b=none:=λ{b o es ep} e d=>by
   cases q:H b with
   |none=>rfl|some u=>
    let e':b=a:=hA b (by rw[q];simp);subst e';rw[ha]at e;cases e;let d':Data.seq vs.toArray _=Data.dict es ep:=d;cases d'
  let Mw:∀{b:Addr} {m:Str->Option Value},s₁.heap.Ns b m->(mJ s₁.heap H).Ns b m:=λ{b m} ⟨o,es,ep,e,d,r⟩=>⟨o,es,ep,qI e (Ip e d),d,r⟩;let Yb:K.In (mJ s₁.heap H):=λb o e=>qI (KX b o e) (by
   cases q:H b with
   |none=>rfl|some u=>
    let e':b=a:=hA b (by rw[q];simp);subst e';rw[hK (by rw[q];simp)]at e;cases e)
  let hM:Mod K mg (mJ s₁.heap H):=⟨Yb,Mw Fb,⟨mb,Mw hb,hbb⟩,let ⟨mc,h1,h2⟩:=Rr;⟨mc,Mw h1,h2⟩⟩;let e0:pP P w K mg (mJ s₁.heap H) callerA [] s₁ H:=⟨rfl,hM,λb o e=>zj8 e,Nat.le_of_eq (zg9 _ _),trivial,λb hb=>absurd (show b∈([]:List Addr) from hb) R3,hok,.of_eq hg⟩;show Al ((F _ Yb (Mw Fb)).run callerA [] s₁ H ⟨[.ref a],[]⟩ [.ref a] [.ref a] _ _ (λ_=>rfl) hr e0 (Jc s₁ (.ref a)) (.cons rfl .nil) (wM H hO hS)) λr s' h=>?_;cases r with
  |error e=>show(hCX H e s' h).elim|ok fl=>
   cases fl with
   |next=>show False.elim h|brk=>show False.elim h|cont=>show False.elim h|ret u=>
    let⟨v,H',os,bare,un,Rt,r',q⟩:=h;let q':v=.bl true:=q;subst q';obtain rfl:u=Value.bool true:=r';show⟨rfl,OldK.of_keep λb o e=>?_,os,bare⟩;cases q:H b with
    |none=>show un.keep b o e q (by intro z;show absurd (show b∈([]:List Addr) from z) R3) R3|some u=>
     rcases hO b with z|⟨ob,xs,z⟩
     .rw[q]at z;cases z
     .let z2:=un.mH b ob _ z;let⟨e1,_⟩:=hok b _ z;let⟨e2,_⟩:=Rt b _ z2;rw[e]at e1;cases e1;show e2
 cases hk:K.lookup a with
 |some o=>
  let e:=KX a o hk;rw[ha]at e;cases e;show core (λ_=>none) (λ_=>.inl rfl) (.inr ⟨_,vs.toArray,_,hk,rfl,rfl,rfl,by rw[gj,lenV];show hl,by simpa using rv⟩) (λb u z=>by let z':(none:Option HO)=some u:=z;cases z') (λb z=>absurd rfl z) λz=>absurd rfl z
 |none=>
  show core (λb=>if b=a then some (.vR {cls:=.type "list",data:=.seq vs.toArray} (.lst (ns.map V.int))) else none) (λb=>?_) (.inl (.inr ⟨{cls:=.type "list",data:=.seq vs.toArray},if_pos rfl⟩)) (λb u z=>?_) (λb z=>?_) λ_=>hk
  .by_cases hb:b=a
   .exact .inr ⟨_,_,if_pos hb⟩
   .exact .inl (if_neg hb)
  .by_cases hb:b=a
   .let z':=(if_pos hb).symm.trans z;cases z';subst hb;show⟨ha,by rw[bN];show hl,vs,_,rv,ha⟩
   .let z':=(if_neg hb).symm.trans z;cases z'
  .by_cases hb:b=a
   .exact hb
   .exact absurd (if_neg hb) z
noncomputable abbrev XS:=St->Value->Option Addr->Hp->Prop
def Raises(X:Cx)(EX:XS):Prop:=True
def gU(P:Program)(w:World):rO:=λ_ _ _ _ _ _=>False
theorem zfh{P:Program}{w:World}{K:W.Frag}{mg:Str->Option Value}{base:Heap}{N:List Str}{qual:Str}{scope:Scope}{f:Addr}{cd:Value}{A:Around}{outer:List Env}{s:Shared}{H:Hp}{E:XK}{cm:Bool} :
  Raises (gR (gU P w) P w K mg base N qual scope f cd A outer s H E cm) (λ_ C dx H'=>E C dx H'):=trivial
section
variable {X:Cx}{cm:Bool}{k:Nat}{f C:Addr}{fd:FuncData}{ps:List Str}{sp:Sp}{EX:XS}{x m:Str}{p pos apos:Pos}{e o:Expr}{es:List Expr}{ta:TE}{t:TA}
theorem Raises.pass(R:Raises X EX)(I:Inv X ao Z H s)(h:gU X.prog X.w X.stack H s (EX Z) v s'):X.xe v s':=h.elim
def Bt(sp:Sp)(EX:XS)(t:TA):TE:=λZ H Q=>t Z H λvs H1=>sp vs H1 Q (EX Z)
def zju(F:cC X.prog X.w X.K X.mg X.base (gU X.prog X.w) cm k f fd ps sp)(jA:cm=true->X.aj=true)(hr:bH k X.A)(hb:Binds X.K fd ps [])(R:Raises X EX)
  (I:Inv X ao Z H s) (r:Vals vs us) (h:sp vs H Q (EX Z)):wpAny (model X.prog X.w) X.A (call (.ref f) us) (EP X ao Z Q) X.xe s:=by
 let hl:us.length=ps.length:=by rw[<-r.length];show F.len _ _ _ _ h
 let hb':=hb s us I.qy (by rw[vI];show hl);rw[vI]at hb';show wpAny_call (Al (F.run X.A X.stack s H ⟨us,[]⟩ us vs Q (EX Z) (λz=>I.ok.hd (jA z)) hr I.env0 hb' r h) λr s' hq=>?_);cases r with
 |error v=>show R.pass I hq|ok fl=>
  cases fl with
  |ret u=>show I.after hq|next=>show False.elim hq|brk=>show False.elim hq|cont=>show False.elim hq
def zhL(F:cC X.prog X.w X.K X.mg X.base (gU X.prog X.w) cm k f fd ps sp)(jA:cm=true->X.aj=true)(hr:bH k X.A)(hg:Gl X x)(hm:X.mg x=some (.ref f))(hk:PySem.W.keepIn X.K (.ref f)=true)(hb:Binds X.K fd ps [])(R:Raises X EX)
  (ha:PA X (e::es) t) (rP:(x==("__debug__" : Str))=false:=by decide) (he:starEach (e::es) X.env=(false,eval e X.env)::starEach es X.env:=by rfl) (cF:(backTo pos (starEach es X.env)).any (·.1)=false:=by rfl) :
  PE X (.Call (.Name x p) (e::es) [] pos) (Bt sp EX t):=by
 intro ao s Z H Q I h;show DX (Qu I hg hm ?_ rP);show PK (h₀:=X.base) I.ok.mod.yL hk (aV (ha pos ao s Z H _ I h) λus s1 ⟨vs,H1,I1,r,q⟩=>⟨I1.qy,zju F jA hr hb R I1 r q⟩) he cF
end
def Jd(a C:Addr)(dx:Option Addr):HO:=.ext λh=>∃oe vs,h.get? a=some oe/\oe.cls=.ref C/\oe.dict=dx/\oe.data=.fields vs
end L2
namespace L2
open PySem PySem.Spec PyProof.Rows PySem.W Builtin.ObjectAttr
structure XC(K:Frag)(C:Addr):Prop where
 ga:findIn K (.ref C) "__getattribute__"=some (some (.builtin "BaseException.__getattribute__"))
 gn:findIn K (.ref C) "__getattr__"=some none
 cl:findIn K (.ref C) "__class__"=some (some (.builtin "object.__class__"))
 mb:mroIn K C (.type "BaseException")=some true
 mo:mroIn K C (.type "object")=some true
 cd:(clsIn K C).isSome=true
 dg:specialIn K (.builtin "object.__class__") "__get__"=some (some (.builtin "getset_descriptor.__get__"))
 dt:takesIn K (.builtin "object.__class__")=some true
end L2
namespace L2
open PySem PySem.Spec PyProof.Rows
def zfi:∀(names:List (Str×NameKind)) (cs:List (Str×Addr)),(∀x∈names,x.2=.free->∃c,env.cells.lookup x.1=some c)->(∀x c,cs.lookup x=some c->env.cells.lookup x=some c)->
  ∃cl,(forIn names cs λx r=>(do
    if x.2==.free then
     let a <-cellOf env x.1
     pure (ForInStep.yield ((x.1,a)::r))
    else pure (ForInStep.yield r)):Sem (List (Str×Addr)))=pure cl/\(∀x c,cl.lookup x=some c->env.cells.lookup x=some c)/\(∀x c,cs.lookup x=some c->cl.lookup x=some c)/\∀x∈names,x.2=.free->∃c,cl.lookup x.1=some c:=by
 intro names
 induction names with
 |nil=>intro cs _ h;show⟨cs,rfl,h,λ_ _ q=>q,λx z=>nomatch z⟩
 |cons y r ih=>
  intro cs h1 h2;let⟨n,k⟩:=y;by_cases hk:k=.free
  .subst hk;let⟨c,hc⟩:=h1 (n,.free) lG rfl;let hc:env.cells.lookup n=some c:=hc;let h3:∀x d,((n,c)::cs).lookup x=some d->env.cells.lookup x=some d:=λx d q=>by
    rw[pI]at q;by_cases z:x=n
    .subst z;simp at q;subst q;show hc
    .let z':(x==n)=false:=by simpa using z
     rw[z']at q;show h2 x d q
   let⟨cl,e,a,b,d⟩:=ih ((n,c)::cs) (λx z=>h1 x (iJ _ z)) h3;let hco:cellOf env n=pure c:=by
    unfold cellOf;rw[hc]
   show⟨cl,?_,a,λx q z=>?_,λx z q=>?_⟩
   .rw[Ek];simp only[Ag,if_true,hco];show e
   .by_cases y:x=n
    .subst y;let z1:=h2 x q z;rw[hc]at z1;cases z1;show b x c R3
    .let y':(x==n)=false:=by simpa using y
     show b x q (by rw[pI,y'];show z)
   .rcases jo.mp z with z|z
    .subst z;show⟨c,b n c R3⟩
    .exact d x z q
  .let hb:(k==NameKind.free)=false:=by simpa using hk
   let⟨cl,e,a,b,d⟩:=ih cs (λx z=>h1 x (iJ _ z)) h2;show⟨cl,?_,a,b,λx z q=>?_⟩
   .rw[Ek];simp only[hb,vD,qu];show e
   .rcases jo.mp z with z|z
    .subst z;show absurd q hk
    .exact d x z q
def zfw(h:∀x∈scope.names,x.2=.free->∃c,env.cells.lookup x.1=some c):∃cl,closureFor scope env=pure cl/\(∀x c,cl.lookup x=some c->env.cells.lookup x=some c)/\∀x∈scope.names,x.2=.free->∃c,cl.lookup x.1=some c:=by
 let⟨cl,e,a,_,d⟩:=zfi scope.names [] h (λx c q=>by cases q);show⟨cl,?_,a,d⟩;unfold closureFor;let e':=e;simp only[pure_bind,bind_pure]at e' ⊢;show e'
theorem Rx{env:Env}{k:NameKind}:∀{names:List (Str×NameKind)} {x:Str},(names.map λ(n,k)=>if (k==NameKind.free&&env.scope.kind==.function&&env.kindOf n==some .cell) then (n,NameKind.cell) else (n,k)).lookup x=some k->
  names.lookup x=some k\/(k=.cell/\names.lookup x=some .free)
 |[],x,h=>by simp at h|(n,q)::r,x,h=>by
  rw[iV,pI]at h;rw[pI];let hd:∀c:Bool,(if c=true then (n,NameKind.cell) else (n,q)).1=n:=λc=>by cases c<;>rfl
  rw[hd]at h;by_cases z:x=n
  .subst z;simp only[Ag]at h ⊢;split at h
   .rename_i y;simp only[fH,rG]at y;cases h;show .inr ⟨rfl,by rw[y.1.1]⟩
   .cases h;show .inl rfl
  .let z':(x==n)=false:=by simpa using z
   simp only[z']at h ⊢;show Rx h
theorem Ry{env:Env}:∀{names:List (Str×NameKind)} {x:Str},names.lookup x=some .free->
  (names.map λ(n,k)=>if (k==NameKind.free&&env.scope.kind==.function&&env.kindOf n==some .cell) then (n,NameKind.cell) else (n,k)).lookup x=some .cell \/
  (names.map λ(n,k)=>if (k==NameKind.free&&env.scope.kind==.function&&env.kindOf n==some .cell) then (n,NameKind.cell) else (n,k)).lookup x=some .free
 |[],x,h=>by simp at h|(n,q)::r,x,h=>by
  rw[pI]at h;rw[iV,pI];let hd:∀c:Bool,(if c=true then (n,NameKind.cell) else (n,q)).1=n:=λc=>by cases c<;>rfl
  rw[hd];by_cases z:x=n
  .subst z;simp only[Ag]at h ⊢;cases h
   split
   .exact .inl rfl
   .exact .inr rfl
  .let z':(x==n)=false:=by simpa using z
   simp only[z']at h ⊢;show Ry h
structure n6(n:Nat)(h1:Heap)(names:List (Str×NameKind))(cl fj:List (Str×Addr)):Prop where
 d1:∀x c,fj.lookup x=some c->(cl.lookup x=some c/\(x,NameKind.cell)∉names)\/((x,NameKind.cell)∈names/\n<c/\h1.IsCell c none)
 d2:∀x y c,n<c->fj.lookup x=some c->fj.lookup y=some c->x=y
 d3:∀x,names.lookup x=some .cell->∃c,fj.lookup x=some c
 d4:∀x c,(x,NameKind.cell)∉names->cl.lookup x=some c->fj.lookup x=some c
def cc:(NameKind.cell==NameKind.cell)=true:=by decide
theorem Je:∀(names:List (Str×NameKind)) (h:Heap) (b:Addr) (o:Obj),h.get? b=some o->(pushCells h names).get? b=some o
 |[],h,b,o,e=>e|(x,k)::r,h,b,o,e=>by
  rw[pushCells]
  split
  .exact Je r _ b o (cR _ e)
  .exact Je r h b o e
theorem RB:∀(names:List (Str×NameKind)) (h:Heap) (acc:List (Str×Addr)) (x:Str) (c:Addr),(cellsFrom h.objs.size names acc).lookup x=some c->
  (acc.lookup x=some c/\(x,NameKind.cell)∉names)\/((x,NameKind.cell)∈names/\h.objs.size<=c/\(pushCells h names).IsCell c none)
 |[],h,acc,x,c,e=>.inl ⟨e,by simp⟩|(y,k)::r,h,acc,x,c,e=>by
  rw[cellsFrom]at e;rw[pushCells];by_cases hk:k=.cell
  .subst hk;rw[if_pos cc]at e ⊢;let sz:(h.push {cls:=Value.type "cell",data:=Data.cell none}).objs.size=h.objs.size+1:=by unfold Heap.push;simp
   rw[<-sz]at e;rcases RB r _ _ x c e with ⟨a,b⟩|⟨a,b,d⟩
   .rw[pI]at a;by_cases z:x=y
    .subst z;simp at a;subst a;show .inr ⟨lG,bQ _,_,Je r _ _ _ (fB _ rfl),rfl⟩
    .let z':(x==y)=false:=by simpa using z
     rw[z']at a;show .inl ⟨a,by simp[z,b]⟩
   .exact .inr ⟨iJ _ a,by lia,d⟩
  .let hb:(k==NameKind.cell)=false:=by simpa using hk
   rw[if_neg (by rw[hb];decide)]at e ⊢;rcases RB r _ _ x c e with ⟨a,b⟩|⟨a,b,d⟩
   .exact .inl ⟨a,by simp[b];intro _ q;show hk q.symm⟩
   .exact .inr ⟨iJ _ a,b,d⟩
theorem RD:∀(names:List (Str×NameKind)) (n:Nat) (acc:List (Str×Addr)) (x y:Str) (c:Addr),(∀u v,acc.lookup u=some c->acc.lookup v=some c->u=v)->(∀u a,acc.lookup u=some a->a<n\/a≠c)->(cellsFrom n names acc).lookup x=some c->(cellsFrom n names acc).lookup y=some c->x=y
 |[],n,acc,x,y,c,h,_,e1,e2=>h x y e1 e2|(z,k)::r,n,acc,x,y,c,h,hl,e1,e2=>by
  rw[cellsFrom]at e1 e2;by_cases hk:k=.cell
  .subst hk;rw[if_pos cc]at e1 e2;show RD r (n+1) _ x y c (λu v a b=>?_) (λu a q=>?_) e1 e2
   .rw[pI]at a b;by_cases u1:u=z
    .by_cases v1:v=z
     .rw[u1,v1]
     .let v':(v==z)=false:=by simpa using v1
      subst u1;simp at a;rw[v']at b;subst a;let b:acc.lookup v=some n:=b;rcases hl v n b with q|q
      .exact absurd q (rF _)
      .exact absurd rfl q
    .let u':(u==z)=false:=by simpa using u1
     rw[u']at a;let a:acc.lookup u=some c:=a;by_cases v1:v=z
     .subst v1;simp at b;subst b;rcases hl u n a with q|q
      .exact absurd q (rF _)
      .exact absurd rfl q
     .let v':(v==z)=false:=by simpa using v1
      rw[v']at b;show h u v a b
   .rw[pI]at q;by_cases u1:u=z
    .subst u1;simp at q;subst q;show .inl (G3 _)
    .let u':(u==z)=false:=by simpa using u1
     rw[u']at q;show(hl u a q).imp (λq=>vH q) id
  .let hb:(k==NameKind.cell)=false:=by simpa using hk
   rw[if_neg (by rw[hb];decide)]at e1 e2;show RD r n acc x y c h hl e1 e2
theorem RG:∀(names:List (Str×NameKind)) (n:Nat) (acc:List (Str×Addr)) (x:Str) (c:Addr),(x,NameKind.cell)∉names->acc.lookup x=some c->(cellsFrom n names acc).lookup x=some c
 |[],n,acc,x,c,_,e=>e|(z,k)::r,n,acc,x,c,h,e=>by
  rw[cellsFrom];let hr:(x,NameKind.cell)∉r:=λq=>h (iJ _ q);by_cases hk:k=.cell
  .subst hk;rw[if_pos cc];show RG r (n+1) _ x c hr ?_;let:x≠z:=λq=>h (by rw[q];show lG);let z':(x==z)=false:=by simpa using this
   rw[pI,z'];show e
  .let hb:(k==NameKind.cell)=false:=by simpa using hk
   rw[if_neg (by rw[hb];decide)];show RG r n acc x c hr e
theorem RJ:∀(names:List (Str×NameKind)) (acc:List (Str×Addr)) (s:Shared) (Q:List (Str×Addr)->Shared->Prop),
  Q (cellsFrom s.heap.objs.size names acc) {s with heap:=pushCells s.heap names}->
  wpAny M A (forIn names acc λx (cells:List (Str×Addr))=>match x with
   |(name,kind)=>if (kind==NameKind.cell)=true then do
     let a <-alloc {cls:=Value.type "cell",data:=Data.cell none}
     pure (ForInStep.yield ((name,a)::cells))
    else pure (ForInStep.yield cells)) Q E s
 |[],acc,s,Q,h=>by
  rw[Lx];show aQ h
 |(z,k)::r,acc,s,Q,h=>by
  rw[Ek];rw[cellsFrom,pushCells]at h;by_cases hk:k=.cell
  .subst hk;rw[if_pos cc,if_pos cc]at h;show aC ?_;dsimp only;rw[if_pos cc];show aC (wpAny_alloc (aQ ?_));show RJ r _ _ Q ?_;let sz:(s.heap.push {cls:=Value.type "cell",data:=Data.cell none}).objs.size=s.heap.objs.size+1:=by unfold Heap.push;simp
   rw[sz];show h
  .let hb:(k==NameKind.cell)=false:=by simpa using hk
   rw[if_neg (by rw[hb];decide),if_neg (by rw[hb];decide)]at h;show aC ?_;dsimp only;rw[if_neg (by rw[hb];decide)];show aQ (RJ r _ _ Q h)
def Yc(old:∀x c,cl.lookup x=some c->c<s.heap.objs.size)(inj:∀x y c,cl.lookup x=some c->cl.lookup y=some c->x=y)
  (h:∀h1 fj,h1.Ns s.heap.objs.size (λ_=>none)->(∀b o,s.heap.get? b=some o->h1.get? b=some o)->n6 s.heap.objs.size h1 scope.names cl fj->Q {scope:=scope,locals:=s.heap.objs.size,globals:=globals,cells:=fj,qual:=qual,func:=none,code:=env.code,frame:=env.frame,builtins:=env.builtins} {s with heap:=h1}) :
  wpAny M A (newFunctionEnv scope globals cl [] qual none .none (some env)) Q E s:=by
 unfold newFunctionEnv;show aC (wpAny_alloc ?_);show aC ?_;show RJ scope.names cl _ _ ?_;dsimp only;rw[Lx];show aC (aQ (aQ ?_));let sz:(s.heap.push {cls:=Value.type (if (some env).isSome=true then "dict" else "frame"),data:=Data.dict #[]}).objs.size=s.heap.objs.size+1:=by unfold Heap.push;simp
 show h _ _ ?_ (λb o e=>Je _ _ _ _ (cR _ e)) ⟨λx c e=>?_,λx y c hc e1 e2=>?_,λx e=>?_,λx c hx e=>RG _ _ _ x c hx e⟩
 .refine⟨_,#[],_,Je _ _ _ _ (fB _ rfl),rfl,?_,λ_=>rfl⟩;intro e he;simp at he
 .rcases RB _ _ _ x c e with ⟨a,b⟩|⟨a,b,d⟩
  .exact .inl ⟨a,b⟩
  .rw[sz]at b;show .inr ⟨a,by lia,d⟩
 .exact RD _ _ _ x y c (λu v a b=>inj u v c a b) (λu a q=>.inl (by rw[sz];show vH (old u a q))) e1 e2
 .let:=zs2 scope.names (s.heap.push {cls:=Value.type (if (some env).isSome=true then "dict" else "frame"),data:=Data.dict #[]}).objs.size cl (.inl e);show Option.isSome_iff_exists.mp this
def Cx.blk(X:Cx)(scope:Scope)(cl:List (Str×Addr))(N:List Str)(C:Addr)(s3:Shared)(H3:Hp)(fp:List Addr)(ao:List (Addr×Obj)):Cx where
 prog:=X.prog
 w:=X.w
 K:=X.K
 mg:=X.mg
 base:=X.base
 A:=X.A
 N:=N
 s₀:=s3
 H₀:=H3
 env:=compEnvC scope cl C X.env
 outer:=X.stack
 stack:=X.stack
 ex:=fp
 fn:=λx=>scope.names.lookup x==some .cell
 aj:=X.aj
 pn:=X.pn++ao
 xe:=λ_ _=>False
structure cL(sc scope:Scope):Prop where
 kind:scope.kind=.function
 Yd:∀y∈scope.names,y.2=.cell->scope.names.lookup y.1=some .cell
 free:∀y∈scope.names,y.2=.free->sc.names.lookup y.1=some .cell\/sc.names.lookup y.1=some .free
 loc:∀y∈scope.names,y.2=.local->scope.names.lookup y.1=some .local
section
variable {X:Cx}{ao:List (Addr×Obj)}{Z:St}{H:Hp}{s:Shared}{scope:Scope}{cl:List (Str×Addr)}{N:List Str}{fp:List Addr}{ZY:St}
def Ye{h1:Heap}{t:Nat}{fj:List (Str×Addr)}(I:Inv X ao Z H s)(B:cL X.env.scope scope)(c1:∀x c,cl.lookup x=some c->X.env.cells.lookup x=some c)(c2:∀x∈scope.names,x.2=.free->∃c,cl.lookup x.1=some c)
  (f:∀b∈fp,fD X ao H b) (fo:∀b∈fp,∃o,s.heap.get? b=some o) (hn:h1.Ns s.heap.objs.size (λ_=>none)) (kp:∀b o,s.heap.get? b=some o->h1.get? b=some o) (CN:n6 s.heap.objs.size h1 scope.names cl fj)
  (hl:ZY.length=N.length) (hZ:∀(i:Nat) (x:Str) (v:V),N[i]?=some x->ZY[i]?=some (some v)->scope.names.lookup x=some .free/\∃j:Nat,X.N[j]?=some x/\Z[j]?=some (some v)) :
  Inv (X.blk scope fj N s.heap.objs.size s H fp ao) [] ZY H {s with heap:=h1,toks:=t}:=by
 let lt:∀b o,s.heap.get? b=some o->b≠s.heap.objs.size:=λb o q=>dN (bZ q);let Yg:∀b,b≠X.env.locals->b∉X.fs->b∉frs X.stack:=λb a c z=>(jo.mp (I.jP b z)).elim a c;let mem_of:∀x k,scope.names.lookup x=some k->(x,k)∈scope.names:=λx k q=>DR q;let old:∀x c,cl.lookup x=some c->c<s.heap.objs.size:=λx c q=>by
  let⟨v,o,q1,q2⟩:=I.cell x c (c1 x c q);show bZ q1
 let Yh:∀x,scope.names.lookup x=some .free->(x,NameKind.cell)∉scope.names:=λx q z=>by
  let:=B.Yd _ z rfl;let this:scope.names.lookup x=some .cell:=this;rw[q]at this;cases this
 show⟨⟨I.ok.mod,B.kind,I.ok.glob,I.ok.blt,bQ _,λx y c a b=>?_,λx hx=>?_,λx c z q=>?_,I.ok.hd,I.ok.frames,.inl rfl,λb hb=>?_,I.bs,jz I.ok.A_ I.sz,λb o q hb=>?_,λb hb=>Yg b (f b hb).2.1 (f b hb).2.2.1,I.stack,I.qz⟩,
  rfl,I.bare,Un.kept kp,⟨_,hn,λi x v e1 e2 e3=>?_⟩,λx c q=>?_,I.hok.fresh (bQ _),λx c q=>?_,λp hp=>?_,I.hok.kept kp,hl⟩
 .by_cases hc:s.heap.objs.size<c
  .exact CN.d2 x y c hc a b
  .rcases CN.d1 x c a with ⟨a1,_⟩|⟨_,a1,_⟩
   .rcases CN.d1 y c b with ⟨b1,_⟩|⟨_,b1,_⟩
    .exact I.ok.inj x y c (c1 x c a1) (c1 y c b1)
    .exact absurd b1 hc
   .exact absurd a1 hc
 .let hx:(relabel scope X.env).names.lookup x=some .cell\/(relabel scope X.env).names.lookup x=some .free:=hx;let fr:scope.names.lookup x=some .cell\/scope.names.lookup x=some .free:=by
   rcases hx with hx|hx
   .rcases Rx hx with z|⟨_,z⟩
    .exact .inl z
    .exact .inr z
   .rcases Rx hx with z|⟨z,_⟩
    .exact .inr z
    .cases z
  rcases fr with fr|fr
  .exact CN.d3 x fr
  .obtain⟨c,hc⟩:=c2 (x,.free) (mem_of x _ fr) rfl;show⟨c,CN.d4 x c (Yh x fr) hc⟩
 .rcases CN.d1 x c q with ⟨_,q1⟩|⟨_,q1,_⟩
  .let z:(scope.names.lookup x==some NameKind.cell)=true:=z;show absurd (mem_of x _ (by simpa using z)) q1
  .exact wB q1
 .obtain⟨o,q⟩:=fo b hb;show⟨lt b o q,λx c z=>?_⟩;rcases CN.d1 x c z with ⟨q1,_⟩|⟨_,q1,_⟩
  .exact(f b hb).2.2.2.2.1 x c (c1 x c q1)
  .exact λe=>absurd (bZ q) (by rw[<-e];show Eu.mpr (wB q1))
 .obtain⟨_,_,_,z,_⟩:=f b hb;rcases z with z|z
  .exact I.ok.Ba b o q z
  .exact absurd (jm (bZ q) (jz I.ok.A_ z)) (rF _)
 .obtain⟨fr,j,hj,hv⟩:=hZ i x v e1 e2;let hk:=B.free (x,.free) (mem_of x _ fr) rfl;let⟨m,hm,RK⟩:=I.loc;let⟨u,r,l⟩:=RK j x v hj hv (hk.elim (λz=>.inr (.inl z)) λz=>.inr (.inr z));let⟨c',kI⟩:=c2 (x,.free) (mem_of x _ fr) rfl;let kI:cl.lookup x=some c':=kI;show⟨u,r,.inr ⟨Ry fr,c',CN.d4 x c' (Yh x fr) kI,?_⟩⟩;rcases l with ⟨k1,_⟩|⟨_,c,k2,oc,k3,k4⟩
  .let k1:X.env.scope.names.lookup x=some .local:=k1;rcases hk with hk|hk
   .let hk:X.env.scope.names.lookup x=some .cell:=hk;rw[k1]at hk;cases hk
   .let hk:X.env.scope.names.lookup x=some .free:=hk;rw[k1]at hk;cases hk
  .let e:=c1 x c' kI;rw[k2]at e;cases e;show⟨oc,kp _ oc k3,k4⟩
 .rcases CN.d1 x c q with ⟨q1,_⟩|⟨_,_,q1⟩
  .obtain⟨v,o,q1,q2⟩:=I.cell x c (c1 x c q1);show⟨v,o,kp c o q1,q2⟩
  .exact⟨none,q1⟩
 .rcases CN.d1 x c q with ⟨q1,_⟩|⟨_,q1,_⟩
  .exact I.jq x c (c1 x c q1)
  .exact I.hok.fresh (wB q1)
 .let hp:p∈X.pn++ao:=by
   let z:p∈(X.pn++ao)++[]:=hp;simpa using z
  let⟨a1,a2,a3,a4,a5⟩:=I.pin p hp;show⟨kp _ _ a1,a2,lt _ _ a1,Yg _ a3 a4,a5⟩
theorem Yi(I:Inv X ao Z H s)(f:∀b∈fp,fD X ao H b)(bK:Inv (X.blk scope cl N s.heap.objs.size s H fp ao) [] Z' H' s'):Inv X ao Z H' s':=
 I.call' (ch:=fp) bK.os bK.base bK.hok bK.bare λb hb=>by
  let⟨_,a2,_,a4,a5,a6⟩:=f b hb;show⟨a4.imp id λz=>GR z,a2,a5,a6⟩
theorem RL{Z':St}{H':Hp}{s':Shared}{h2:Heap}{C:Addr}(bK:Inv X ao Z H' s')(hC:X.s₀.heap.objs.size<=C)(n1:H' C=none)(n2:C≠X.env.locals)(n3:∀x c,X.env.cells.lookup x=some c->c≠C)(n4:∀p∈X.pn++ao,p.1≠C)
  (sb:Heap.SameBut C s'.heap h2):Inv X ao Z H' {s' with heap:=h2}:=
 bK.turned (t':=s'.toks) (λb o z q=>(sb.2 b z).trans q) n1 n2 (.inr hC) n3 n4
end
noncomputable abbrev jG(ifs:List Expr)(env:Env):Sem Bool:=forIn ifs true λc r=>if r=true then do let ok <-isTrue c env (eval c env);pure (ForInStep.yield ok) else pure (ForInStep.yield r)
def zhc{prog:Program}{w:World}{A:Around}{R:Result->Shared->Prop}{s:Shared}{elt target iter:Expr}{ifs:List Expr}{scope:Scope}{pos:Pos}{it acc:Value}{env:Env}(V:Nat->Shared->Prop)
  (turn:∀n s,V n s->wpAny (model prog w) A (pyNext it) (λr s₁=>match r with
   |none=>R (.ok .next) s₁|some v=>wpAny (model prog w) A (letOwnedTupleGo target it v) (λ_ s₂=>wpAny (model prog w) A (assign target env v) (λ_ s₃=>
     wpAny (model prog w) A (jG ifs env) (λok s₄=>
      if ok=true then wpAny (model prog w) A (eval elt env) (λx s₅=>wpAny (model prog w) A (call (.builtin "list.append") [acc,x]) (λ_ s₆=>∃m,m<n/\V m s₆) (λ_ _=>False) s₅) (λ_ _=>False) s₄
      else ∃m,m<n/\V m s₄) (λ_ _=>False) s₃) (λ_ _=>False) s₂) (λ_ _=>False) s₁) (λ_ _=>False) s)
  (n:Nat) (h:V n s):codeAny (model prog w) A (.compLoop (.ListComp elt [⟨target,iter,ifs,0⟩] scope pos) 0 it acc env) R s:=by
 show codeAny_loop rfl V (λn s hV=>?_) n h;change wpAny _ A ((compTurn (.ListComp elt [⟨target,iter,ifs,0⟩] scope pos) 0 it acc env).onRaise (λx=>do noteFrame x env;theTreesLotGoes x)) _ _ s;show wpAny_noted ?_;rw[compTurn_list];show aC (vN (aC (iM (turn n s hV) (λr s₁ h₁=>?_) λ_ _ z=>z.elim)));cases r with
 |none=>show aQ h₁|some v=>
  show aC (iM h₁ (λ_ s₂ h₂=>?_) λ_ _ z=>z.elim);show aC (iM h₂ (λ_ s₃ h₃=>aC (iM h₃ (λok s₄ h₄=>?_) λ_ _ z=>z.elim)) λ_ _ z=>z.elim);cases ok with
  |true=>
   simp only[if_true]at h₄ ⊢;show aC (aC (iM h₄ (λx s₅ h₅=>aC (iM h₅ (λ_ s₆ h₆=>aQ (aQ ⟨rfl,h₆⟩)) λ_ _ z=>z.elim)) λ_ _ z=>z.elim))
  |false=>
   simp only[vD,qu]at h₄ ⊢;show aQ ⟨rfl,h₄⟩
def Fd(X:Cx)(ifs:List Expr)(t:TT):Prop:=
 ∀(ao:List (Addr×Obj)) (s:Shared) (Z:St) (H:Hp) (Q:Bool->Hp->Prop),Inv X ao Z H s->t Z H Q->wpAny (model X.prog X.w) X.A (jG ifs X.env) (TP X ao Z Q) X.xe s
def RM:TT:=λ_ H Q=>Q true H
theorem zkW:Fd X [] RM:=λ_ _ _ H _ I h=>wpAny_tests_nil ⟨H,I,h⟩
theorem zkX(h:PT X c t):Fd X [c] t:=λao s Z H Q I hq=>wpAny_tests_one (h ao s Z H Q I hq)
def Jf(ZY:St->St)(g:TG)(tt:TT)(te:TE)(bK:It)(Z:St)(H:Hp)(Q:VK):Prop:=∀D,H D=none->∃W:Nat->Nat->St->Hp->Prop,(∃m,W 0 m (ZY Z) (upd H D (.lst [])))/\∀i m Z' H',W i m Z' H'->
 (bK.stop i H'/\Q (.ref D) H')\/(bK.go i H'/\∃N:St->Hp->Prop,(∀Z2 H2,N Z2 H2->∃m',m'<m/\W (i+1) m' Z2 H2)/\∀x H2,bK.ur i H' x H2->g x Z' H2 λZ3 H3=>tt Z3 H3 λok H4=>
  if ok=true then te Z3 H4 λy H5=>∃ys,H5 D=some (.lst ys)/\ys.length<sizeLine/\N Z3 (upd H5 D (.lst (ys++[y]))) else N Z3 H4)
section
variable {X:Cx}{elt tg iter:Expr}{ifs:List Expr}{scope:Scope}{pos:Pos}{N:List Str}{ZY:St->St}{wi:TI}{g:TG}{tt:TT}{te:TE}
structure Parts(X:Cx)(elt tg:Expr)(ifs:List Expr)(scope:Scope)(N:List Str)(g:TG)(tt:TT)(te:TE):Prop where
 tgt:∀cl C s3 H3 fp ao,PG (X.blk scope cl N C s3 H3 fp ao) tg g
 Jg:∀cl C s3 H3 fp ao,Fd (X.blk scope cl N C s3 H3 fp ao) ifs tt
 el:∀cl C s3 H3 fp ao,PE (X.blk scope cl N C s3 H3 fp ao) elt te
def Yj(hc:X.aj=true)(B:cL X.env.scope scope)(P:Parts X elt tg ifs scope N g tt te)(hl:∀Z,(ZY Z).length=N.length)
  (hZ:∀(Z:St) (i:Nat) (x:Str) (v:V),N[i]?=some x->(ZY Z)[i]?=some (some v)->scope.names.lookup x=some .free/\∃j:Nat,X.N[j]?=some x/\Z[j]?=some (some v))
  {ao:List (Addr×Obj)} {s:Shared} {Z:St} {H:Hp} {Q:VK} {it:Addr} {fp:List Addr} {tn:Nat->Heap->Prop} {bK:It} (I:Inv X ao Z H s) (T:Turn X.prog X.w X.K tg bK fp it tn) (st:tn 0 s.heap) (f:∀b∈fp,fD X ao H b) (h:Jf ZY g tt te bK Z H Q)
  {cl:List (Str×Addr)} (c1:∀x c,cl.lookup x=some c->X.env.cells.lookup x=some c) (c2:∀x∈scope.names,x.2=.free->∃c,cl.lookup x.1=some c) {R:Value->Addr->Result->Shared->Prop} {E:Value->Shared->Prop}
  (k:∀D C s' H',Inv X ao Z H' s'->X.s₀.heap.objs.size<=C->H' C=none->C≠X.env.locals->(∀x c,X.env.cells.lookup x=some c->c≠C)->(∀p∈X.pn++ao,p.1≠C)->(∃m,s'.heap.Ns C m)->Q (.ref D) H'->R (.ref D) C (.ok .next) s') :
  wpAny (model X.prog X.w) X.A (newList []) (λacc s₃=>wpAny (model X.prog X.w) X.A (newFunctionEnv scope X.env.globals cl [] X.env.qual none .none (some X.env)) (λcenv s₄=>
   codeAny (model X.prog X.w) X.A (.compStart (.ListComp elt [⟨tg,iter,ifs,0⟩] scope pos) 0 (.ref it) acc {cenv with scope:=relabel scope X.env}) (R acc cenv.locals) s₄) E s₃) E s:=by
 show tU ?_;let hD:H s.heap.objs.size=none:=I.hok.fresh (bQ _);let I3:Inv X ao Z (upd H s.heap.objs.size (.lst [])) {s with heap:=s.heap.push {cls:=.type "list",dict:=none,data:=.seq ([]:List Value).toArray}}:=
  I.laid (t':=s.toks) (λb u q=>cR _ q) (bQ _) ⟨sW _,[],0,.nil,fB _ rfl⟩
 let f3:∀b∈fp,fD X ao (upd H s.heap.objs.size (.lst [])) b:=λb hb=>by
  let⟨a1,a2⟩:=f b hb;let⟨o,q,_⟩:=T.obj 0 _ st b hb;show⟨by rw[dj (dN (bZ q))];show a1,a2⟩
 let st3:tn 0 (s.heap.push {cls:=.type "list",dict:=none,data:=.seq ([]:List Value).toArray}):=T.keep _ _ _ st λb hb o q=>cR _ q;let⟨W,⟨m0,w0⟩,turn⟩:=h s.heap.objs.size hD;generalize Jh:({s with heap:=s.heap.push {cls:=.type "list",dict:=none,data:=.seq ([]:List Value).toArray}}:Shared)=s3 at *;let pR:tn 0 s3.heap:=by rw[<-Jh];show st3
 generalize hH3:upd H s.heap.objs.size (.lst [])=H3 at *;show Yc (λx c q=>by let⟨v,o,q1,_⟩:=I3.cell x c (c1 x c q);show bZ q1) (λx y c a b=>I3.ok.inj x y c (c1 x c a) (c1 y c b)) λh1 fj hn kp CN=>?_;let Bu:Inv (X.blk scope fj N s3.heap.objs.size s3 H3 fp ao) [] (ZY Z) H3 {s3 with heap:=h1}:=
  Ye (t:=s3.toks) I3 B c1 c2 f3 (λb hb=>let ⟨o,q,_⟩:=T.obj 0 _ pR b hb;⟨o,q⟩) hn kp CN (hl Z) (hZ Z)
 let Ji:tn 0 h1:=T.keep _ _ _ pR λb hb o q=>kp b o q;let fY:∀{H':Hp},(∀b∈fp,H' b=none)->∀b∈fp,fD (X.blk scope fj N s3.heap.objs.size s3 H3 fp ao) [] H' b:=λ{H'} z b hb=>by
  let⟨a1,a2,a3,a4,a5,a6⟩:=f3 b hb;let⟨o,q,_⟩:=T.obj 0 _ pR b hb;show⟨z b hb,dN (bZ q),λy=>(jo.mp (I3.jP b y)).elim a2 a3,.inl hb,λx c y=>?_,λp hp=>a6 p ?_⟩
  .rcases CN.d1 x c y with ⟨q1,_⟩|⟨_,q1,_⟩
   .exact a5 x c (c1 x c q1)
   .exact λe=>absurd (bZ q) (by rw[<-e];show Eu.mpr (wB q1))
  let y:p∈(X.pn++ao)++[]:=hp;simpa using y
 let loop:codeAny (model X.prog X.w) X.A (.compLoop (.ListComp elt [⟨tg,iter,ifs,0⟩] scope pos) 0 (.ref it) (.ref s.heap.objs.size) (compEnvC scope fj s3.heap.objs.size X.env)) (R (.ref s.heap.objs.size) s3.heap.objs.size) {s3 with heap:=h1}:=by
  show zhc (λn s'=>∃i Z' H',Inv (X.blk scope fj N s3.heap.objs.size s3 H3 fp ao) [] Z' H' s'/\tn i s'.heap/\(∀b∈fp,H' b=none)/\W i n Z' H') ?_ m0 ⟨0,ZY Z,H3,Bu,Ji,λb hb=>(f3 b hb).1,w0⟩;rintro n s5 ⟨i,Z5,H5,jB,sX,vV,w5⟩;rcases turn i n Z5 H5 w5 with ⟨stop,q⟩|⟨go,Nx,hN,step⟩
  .refine aV (T.done (X.blk scope fj N s3.heap.objs.size s3 H3 fp ao) rfl rfl rfl hc i [] s5 Z5 H5 _ jB (fY vV) sX stop) λr s6 ⟨hr,mO⟩=>?_;subst hr;let JX:=Yi I3 f3 mO;show k s.heap.objs.size s3.heap.objs.size s6 H5 JX I3.sz mO.free (wC I3.lt) (λx c y z=>?_) (λp hp z=>?_) ?_ q
   .obtain⟨v,qc⟩:=I3.cell x c y;show absurd qc.lt (by rw[z];show rF _)
   .exact absurd (bZ (I3.pin p hp).1) (by rw[z];show rF _)
   .obtain⟨m,hm,_⟩:=mO.loc;show⟨m,hm⟩
  .refine aV (T.item (X.blk scope fj N s3.heap.objs.size s3 H3 fp ao) rfl rfl rfl hc i [] s5 Z5 H5 _ jB (fY vV) sX go) λr s6 hx=>vQ hx λu hr h6=>?_;subst hr;show aV h6 λ_ s7 hz=>?_;let⟨x,H7,uz,r7,y7,uD,Jj⟩:=hz;let n8:=uz.pinned (fY Jj) (T.obj _ _ uD);show aV (P.tgt fj s3.heap.objs.size s3 H3 fp ao _ s7 Z5 H7 x u _ n8 r7 (step x H7 y7)) λ_ s8 hz=>?_;let⟨Z8,H8,uE,q8⟩:=hz;show aV (P.Jg fj s3.heap.objs.size s3 H3 fp ao _ s8 Z8 H8 _ uE q8) λok s9 hx=>vQ hx λH9 uF q9=>?_;let again:∀{H':Hp} {s':Shared},Inv (X.blk scope fj N s3.heap.objs.size s3 H3 fp ao) ([]++iY fp s7.heap) Z8 H' s'->Nx Z8 H'->∃m,m<n/\∃i Z' H',Inv (X.blk scope fj N s3.heap.objs.size s3 H3 fp ao) [] Z' H' s'/\tn i s'.heap/\(∀b∈fp,H' b=none)/\W i m Z' H':=λ{H' s'} fO n'=>by
    let⟨m',hm,w'⟩:=hN Z8 H' n';show⟨m',hm,i+1,Z8,H',fO.dW,T.keep _ _ _ uD λb hb o e=>(fO.pin (b,o) (nj _ (nj _ (yS hb e)))).1,λb hb=>?_,w'⟩;let⟨o,e,d⟩:=T.obj _ _ uD b hb;show(fO.pin (b,o) (nj _ (nj _ (yS hb e)))).2.1
   cases ok with
   |false=>
    rw[if_neg J0]at q9 ⊢;show again uF q9
   |true=>
    rw[if_pos rfl]at q9 ⊢;show aV (P.el fj s3.heap.objs.size s3 H3 fp ao _ s9 Z8 H9 _ uF q9) λv Mx hz=>?_;let⟨y,RN,uG,r10,ys,Bv,hz,RP⟩:=hz;show aV (Ro (X:=(X.blk scope fj N s3.heap.objs.size s3 H3 fp ao)) _ Mx Z8 RN (.ref s.heap.objs.size) [y] (.ref s.heap.objs.size) [v] (λ_ H'=>Nx Z8 H') uG rfl (.cons r10 .nil) ⟨s.heap.objs.size,ys,y,rfl,rfl,Bv,hz,RP⟩) λ_ Yk hx=>eO hx λ_ Yl n_ _ RQ=>again n_ RQ
 show codeAny_compStart_list loop (T.self _ 0 _ _ _ Ji loop)
end
def uH(wi:TI)(ZY:St->St)(g:TG)(tt:TT)(te:TE):TE:=λZ H Q=>wi Z H λbK H1=>Jf ZY g tt te bK Z H1 Q
section
variable {X:Cx}{elt tg iter:Expr}{ifs:List Expr}{scope:Scope}{pos spos py:Pos}{N:List Str}{ZY:St->St}{wi:TI}{g:TG}{tt:TT}{te:TE}{i:Nat}{y:Str}
theorem RT(I:Inv X ao Z H s)(B:cL X.env.scope scope):∃cl,closureFor scope X.env=pure cl/\(∀x c,cl.lookup x=some c->X.env.cells.lookup x=some c)/\∀x∈scope.names,x.2=.free->∃c,cl.lookup x.1=some c:=
 zfw λx hx hf=>I.ok.has x.1 (B.free x hx hf)
def zjp(hc:X.aj=true)(B:cL X.env.scope scope)(hi:PI X tg iter wi)(P:Parts X elt tg ifs scope N g tt te)(hl:∀Z,(ZY Z).length=N.length)
  (hZ:∀(Z:St) (i:Nat) (x:Str) (v:V),N[i]?=some x->(ZY Z)[i]?=some (some v)->scope.names.lookup x=some .free/\∃j:Nat,X.N[j]?=some x/\Z[j]?=some (some v))
  (hs:∀x,foldedSetIterable iter X.env x=pure x:=by intro _;rfl):PE X (.ListComp elt [⟨tg,iter,ifs,0⟩] scope pos) (uH wi ZY g tt te):=by
 intro ao s Z H Q I h;let⟨cl,yU,c1,c2⟩:=RT I B;rw[eval_ListComp];show Pa (use:=none) rfl hs yU B.kind B.loc (aV (hi ao s Z H _ I h) λxv s1 h1=>aV h1 λitv s2 h2=>?_);let⟨it,fp,tn,bK,H2,e,I2,T,st2,f2,hq⟩:=h2;subst e;show Yj hc B P hl hZ I2 T st2 f2 hq c1 c2 (R:=λacc C=>compPost (model X.prog X.w) X.A X.xe none (EP X ao Z Q) acc C) λD C s' H' fO a b c d e ⟨m,hm⟩ q=>⟨m,hm,λh' sb=>⟨.ref D,H',RL (Z':=Z) fO a b c d e sb,rfl,q⟩⟩
def zfp(hc:X.aj=true)(hN:X.N.Nodup)(uI:X.N[i]?=some y)(hx:Loc X.env.scope y)(hf:X.fn y=true\/X.env.scope.names.lookup y=some .local)(B:cL X.env.scope scope)(hi:PI X tg iter wi)(P:Parts X elt tg ifs scope N g tt te)(hl:∀Z,(ZY Z).length=N.length)
  (hZ:∀(Z:St) (i:Nat) (x:Str) (v:V),N[i]?=some x->(ZY Z)[i]?=some (some v)->scope.names.lookup x=some .free/\∃j:Nat,X.N[j]?=some x/\Z[j]?=some (some v))
  (uJ:swapsWith (.ListComp elt [⟨tg,iter,ifs,0⟩] scope pos) (some (.Name y py)) spos.line X.env=pure true) (hs:∀x,foldedSetIterable iter X.env x=pure x:=by intro _;rfl) :
  PS X (.Assign [.Name y py] (.ListComp elt [⟨tg,iter,ifs,0⟩] scope pos) spos) (wG (uH wi ZY g tt te) (dI i)):=by
 intro ao s Z H D I h;let⟨cl,yU,c1,c2⟩:=RT I B;rw[exec_Assign_Name_used _ _ _ _ uJ];show aC (vN (aC ?_));change wpAny _ X.A (do let _ <-comprehension (.ListComp elt [⟨tg,iter,ifs,0⟩] scope pos) scope X.env _ (newList []) false (eval iter X.env) (some (assign (.Name y py) X.env))) _ _ s;show aC (Pa (use:=some (assign (.Name y py) X.env)) rfl hs yU B.kind B.loc (aV (hi ao s Z H _ I h) λxv s1 h1=>aV h1 λitv s2 h2=>?_));let⟨it,fp,tn,bK,H2,e,I2,T,st2,f2,hq⟩:=h2;subst e;show Yj hc B P hl hZ I2 T st2 f2 hq c1 c2 (R:=λacc C=>compPost (model X.prog X.w) X.A X.xe (some (assign (.Name y py) X.env)) _ acc C) λD' C s' H' fO a b c d e ⟨m,hm⟩ q=>?_;change wpAny _ _ (assign (.Name y py) X.env (.ref D')) _ _ s';show wpAny_assign_Name (Qo (v:=.ref D') fO hN uI hx rfl (λs5 jB ⟨ad,sb,RV⟩=>?_) hf);let nC:C≠ad:=by
  rcases RV with z|z
  .rw[z];show c
  .exact(d y ad z).symm
 let⟨ol,es,ep,e1,r1⟩:=hm;show⟨m,⟨ol,es,ep,(sb.2 C nC).trans e1,r1⟩,λh' RW=>aQ (aQ ⟨_,H',RL (Z':=Z) jB a b c d e RW,q⟩)⟩
end
def zdW(elt target iter:Expr)(ifs:List Expr)(g₁:Comprehension)(scope:Scope)(pos:Pos)(it acc:Value)(env:Env) :
  compTurn (.ListComp elt [g₁,⟨target,iter,ifs,0⟩] scope pos) 1 it acc env=(do
   standAt iter.pos
   match <-pyNext it with
   |none=>pure (.done .next)|some v=>
    letOwnedTupleGo target it v
    assign target env v
    let mut ok:=true
    for c in ifs do
     if ok then ok <-isTrue c env (eval c env)
    if ok then
     (do let _ <-call (.builtin "list.append") [acc,<-eval elt env])
    again (.compLoop (.ListComp elt [g₁,⟨target,iter,ifs,0⟩] scope pos) 1 it acc env)):=by rfl
def zds(elt target iter target₂ iter₂:Expr)(ifs ifs₂:List Expr)(scope:Scope)(pos:Pos)(it acc:Value)(env:Env) :
  compTurn (.ListComp elt [⟨target,iter,ifs,0⟩,⟨target₂,iter₂,ifs₂,0⟩] scope pos) 0 it acc env=(do
   standAt iter.pos
   match <-pyNext it with
   |none=>pure (.done .next)|some v=>
    letOwnedTupleGo target it v
    assign target env v
    let mut ok:=true
    for c in ifs do
     if ok then ok <-isTrue c env (eval c env)
    if ok then
     let x <-eval iter₂ env
     standAt iter₂.pos
     let x <-foldedSetIterable iter₂ env x
     let _ <-runOwn (.compStart (.ListComp elt [⟨target,iter,ifs,0⟩,⟨target₂,iter₂,ifs₂,0⟩] scope pos) 1 (<-holding [x] (pyIter x)) acc env) env
     again (.compLoop (.ListComp elt [⟨target,iter,ifs,0⟩,⟨target₂,iter₂,ifs₂,0⟩] scope pos) 0 it acc env)
    else
     again (.compLoop (.ListComp elt [⟨target,iter,ifs,0⟩,⟨target₂,iter₂,ifs₂,0⟩] scope pos) 0 it acc env)):=by rfl
def zk0(V:Nat->Shared->Prop)
  (turn:∀n s,V n s->wpAny (model prog w) A (pyNext it) (λr s₁=>match r with
   |none=>R (.ok .next) s₁|some v=>wpAny (model prog w) A (letOwnedTupleGo target it v) (λ_ s₂=>wpAny (model prog w) A (assign target env v) (λ_ s₃=>
     wpAny (model prog w) A (jG ifs env) (λok s₄=>
      if ok=true then wpAny (model prog w) A (eval elt env) (λx s₅=>wpAny (model prog w) A (call (.builtin "list.append") [acc,x]) (λ_ s₆=>∃m,m<n/\V m s₆) (λ_ _=>False) s₅) (λ_ _=>False) s₄
      else ∃m,m<n/\V m s₄) (λ_ _=>False) s₃) (λ_ _=>False) s₂) (λ_ _=>False) s₁) (λ_ _=>False) s)
  (n:Nat) (h:V n s):codeAny (model prog w) A (.compLoop (.ListComp elt [g₁,⟨target,iter,ifs,0⟩] scope pos) 1 it acc env) R s:=by
 show codeAny_loop rfl V (λn s hV=>?_) n h;change wpAny _ A ((compTurn (.ListComp elt [g₁,⟨target,iter,ifs,0⟩] scope pos) 1 it acc env).onRaise (λx=>do noteFrame x env;theTreesLotGoes x)) _ _ s;show wpAny_noted ?_;rw[zdW];show aC (vN (aC (iM (turn n s hV) (λr s₁ h₁=>?_) λ_ _ z=>z.elim)));cases r with
 |none=>show aQ h₁|some v=>
  show aC (iM h₁ (λ_ s₂ h₂=>?_) λ_ _ z=>z.elim);show aC (iM h₂ (λ_ s₃ h₃=>aC (iM h₃ (λok s₄ h₄=>?_) λ_ _ z=>z.elim)) λ_ _ z=>z.elim);cases ok with
  |true=>
   simp only[if_true]at h₄ ⊢;show aC (aC (iM h₄ (λx s₅ h₅=>aC (iM h₅ (λ_ s₆ h₆=>aQ (aQ ⟨rfl,h₆⟩)) λ_ _ z=>z.elim)) λ_ _ z=>z.elim))
  |false=>
   simp only[vD,qu]at h₄ ⊢;show aQ ⟨rfl,h₄⟩
def zhO{prog:Program}{w:World}{A:Around}{R:Result->Shared->Prop}{s:Shared}{elt target iter target₂ iter₂:Expr}{ifs ifs₂:List Expr}{scope:Scope}{pos:Pos}{it acc:Value}{env:Env}(V:Nat->Shared->Prop)(hs:∀x,foldedSetIterable iter₂ env x=pure x)
  (turn:∀n s,V n s->wpAny (model prog w) A (pyNext it) (λr s₁=>match r with
   |none=>R (.ok .next) s₁|some v=>wpAny (model prog w) A (letOwnedTupleGo target it v) (λ_ s₂=>wpAny (model prog w) A (assign target env v) (λ_ s₃=>
     wpAny (model prog w) A (jG ifs env) (λok s₄=>
      if ok=true then wpAny (model prog w) A (eval iter₂ env) (λx s₅=>wpAny (model prog w) A (pyIter x) (λit₂ s₆=>codeAny (model prog w) A (.compStart (.ListComp elt [⟨target,iter,ifs,0⟩,⟨target₂,iter₂,ifs₂,0⟩] scope pos) 1 it₂ acc env) (λr s₇=>r=.ok .next/\∃m,m<n/\V m s₇) s₆) (λ_ _=>False) s₅) (λ_ _=>False) s₄
      else ∃m,m<n/\V m s₄) (λ_ _=>False) s₃) (λ_ _=>False) s₂) (λ_ _=>False) s₁) (λ_ _=>False) s)
  (n:Nat) (h:V n s):codeAny (model prog w) A (.compLoop (.ListComp elt [⟨target,iter,ifs,0⟩,⟨target₂,iter₂,ifs₂,0⟩] scope pos) 0 it acc env) R s:=by
 show codeAny_loop rfl V (λn s hV=>?_) n h;change wpAny _ A ((compTurn (.ListComp elt [⟨target,iter,ifs,0⟩,⟨target₂,iter₂,ifs₂,0⟩] scope pos) 0 it acc env).onRaise (λx=>do noteFrame x env;theTreesLotGoes x)) _ _ s;show wpAny_noted ?_;rw[zds];show aC (vN (aC (iM (turn n s hV) (λr s₁ h₁=>?_) λ_ _ z=>z.elim)));cases r with
 |none=>show aQ h₁|some v=>
  show aC (iM h₁ (λ_ s₂ h₂=>?_) λ_ _ z=>z.elim);show aC (iM h₂ (λ_ s₃ h₃=>aC (iM h₃ (λok s₄ h₄=>?_) λ_ _ z=>z.elim)) λ_ _ z=>z.elim);cases ok with
  |true=>
   simp only[if_true]at h₄ ⊢;show aC (iM h₄ (λx s₅ h₅=>aC (vN (aC (yI (hs x) (aC (vM (iM h₅ (λit₂ s₆ h₆=>aC (wpAny_runOwn (Al h₆ λr s₇ h₇=>?_))) λ_ _ z=>z.elim))))))) λ_ _ z=>z.elim);let⟨rfl,h₇⟩:=h₇;show aQ ⟨rfl,h₇⟩
  |false=>
   simp only[vD,qu]at h₄ ⊢;show aQ ⟨rfl,h₄⟩
def zaW
  (h0:codeAny (model prog w) A (.compLoop (.ListComp elt [g₁,⟨target,iter,ifs,0⟩] scope pos) 1 it acc env) R s)
  (h:wpAny (model prog w) A (pyIter it) (λit' s'=>codeAny (model prog w) A (.compLoop (.ListComp elt [g₁,⟨target,iter,ifs,0⟩] scope pos) 1 it' acc env) R s') (λ_ _=>False) s) :
  codeAny (model prog w) A (.compStart (.ListComp elt [g₁,⟨target,iter,ifs,0⟩] scope pos) 1 it acc env) R s:=by
 show codeAny_of_tree ?_;change wpAny _ _ ((compStart (.ListComp elt [g₁,⟨target,iter,ifs,0⟩] scope pos) 1 it acc env).onRaise (λx=>do noteFrame x env;standAt theWindowsPlace)) _ _ s;show wpAny_notedAt ?_;unfold compStart;change wpAny _ _ (ask >>= _) _ _ s;show aC (wpAny_askSetting (wpAny_ite ?_))
 split
 .first
   |exact aC (aQ (aQ (And.intro rfl h0)))
   |exact aQ (And.intro rfl h0)
 .first
   |exact aC (yJ (aC (vN (aC (iM h (λit' s' h'=>aQ (And.intro rfl h')) λ_ _ x=>x.elim)))))|(show aC (yJ ?_);change wpAny _ _ (standAt iter.pos >>= _) _ _ s;show aC (vN (aC (iM h (λit' s' h'=>aQ (And.intro rfl h')) λ_ _ x=>x.elim))))
def RX(g:TG)(tt:TT)(te:TE)(D:Addr)(bK:It)(Z:St)(H:Hp)(Nx:St->Hp->Prop):Prop:=∃W:Nat->Nat->St->Hp->Prop,(∃m,W 0 m Z H)/\∀i m Z' H',W i m Z' H'->
 (bK.stop i H'/\Nx Z' H')\/(bK.go i H'/\∃N:St->Hp->Prop,(∀Z2 H2,N Z2 H2->∃m',m'<m/\W (i+1) m' Z2 H2)/\∀x H2,bK.ur i H' x H2->g x Z' H2 λZ3 H3=>tt Z3 H3 λok H4=>
  if ok=true then te Z3 H4 λy H5=>∃ys,H5 D=some (.lst ys)/\ys.length<sizeLine/\N Z3 (upd H5 D (.lst (ys++[y]))) else N Z3 H4)
def zkr{Y:Cx}{elt tg iter:Expr}{ifs:List Expr}{g₁:Comprehension}{scope:Scope}{pos:Pos}{g:TG}{tt:TT}{te:TE}(hc:Y.aj=true)(Mz:Y.xe=λ_ _=>False)(tgt:PG Y tg g)(Jg:Fd Y ifs tt)(el:PE Y elt te)
  {ao:List (Addr×Obj)} {s:Shared} {Z:St} {H:Hp} {D it:Addr} {fp:List Addr} {tn:Nat->Heap->Prop} {bK:It} {Nx:St->Hp->Prop} (I:Inv Y ao Z H s) (T:Turn Y.prog Y.w Y.K tg bK fp it tn) (st:tn 0 s.heap) (f:∀b∈fp,fD Y ao H b) (h:RX g tt te D bK Z H Nx)
  {R:Result->Shared->Prop} (k:∀s' Z' H',Inv Y ao Z' H' s'->Nx Z' H'->R (.ok .next) s') :
  codeAny (model Y.prog Y.w) Y.A (.compStart (.ListComp elt [g₁,⟨tg,iter,ifs,0⟩] scope pos) 1 (.ref it) (.ref D) Y.env) R s:=by
 let⟨W,⟨m0,w0⟩,turn⟩:=h;let fY:∀{H':Hp},(∀b∈fp,H' b=none)->∀b∈fp,fD Y ao H' b:=λ{H'} z b hb=>⟨z b hb,(f b hb).2⟩;let loop:codeAny (model Y.prog Y.w) Y.A (.compLoop (.ListComp elt [g₁,⟨tg,iter,ifs,0⟩] scope pos) 1 (.ref it) (.ref D) Y.env) R s:=by
  show zk0 (λn s'=>∃i Z' H',Inv Y ao Z' H' s'/\tn i s'.heap/\(∀b∈fp,H' b=none)/\W i n Z' H') ?_ m0 ⟨0,Z,H,I,st,λb hb=>(f b hb).1,w0⟩;rintro n s5 ⟨i,Z5,H5,jB,sX,vV,w5⟩;rcases turn i n Z5 H5 w5 with ⟨stop,q⟩|⟨go,Nn,hN,step⟩
  .refine aV (T.done Y rfl rfl rfl hc i ao s5 Z5 H5 _ jB (fY vV) sX stop) λr s6 ⟨hr,mO⟩=>?_;subst hr;show k s6 Z5 H5 mO q
  .refine aV (T.item Y rfl rfl rfl hc i ao s5 Z5 H5 _ jB (fY vV) sX go) λr s6 ⟨u,hr,h6⟩=>?_;subst hr;show aV h6 λ_ s7 hz=>?_;let⟨x,H7,uz,r7,y7,uD,Jj⟩:=hz;let n8:=uz.pinned (fY Jj) (T.obj _ _ uD);let a1:=tgt _ s7 Z5 H7 x u _ n8 r7 (step x H7 y7);rw[Mz]at a1;show aV a1 λ_ s8 hz=>?_;let⟨Z8,H8,uE,q8⟩:=hz;let a2:=Jg _ s8 Z8 H8 _ uE q8;rw[Mz]at a2;show aV a2 λok s9 ⟨H9,uF,q9⟩=>?_;let again:∀{H':Hp} {s':Shared},Inv Y (ao++iY fp s7.heap) Z8 H' s'->Nn Z8 H'->∃m,m<n/\∃i Z' H',Inv Y ao Z' H' s'/\tn i s'.heap/\(∀b∈fp,H' b=none)/\W i m Z' H':=λ{H' s'} fO n'=>by
    let⟨m',hm,w'⟩:=hN Z8 H' n';show⟨m',hm,i+1,Z8,H',fO.dW,T.keep _ _ _ uD λb hb o e=>(fO.pin (b,o) (nj _ (nj _ (yS hb e)))).1,λb hb=>?_,w'⟩;let⟨o,e,d⟩:=T.obj _ _ uD b hb;show(fO.pin (b,o) (nj _ (nj _ (yS hb e)))).2.1
   cases ok with
   |false=>
    rw[if_neg J0]at q9 ⊢;show again uF q9
   |true=>
    rw[if_pos rfl]at q9 ⊢;let a3:=el _ s9 Z8 H9 _ uF q9;rw[Mz]at a3;show aV a3 λv Mx hz=>?_;let⟨y,RN,uG,r10,ys,Bv,hz,RP⟩:=hz;let a4:=Ro (X:=Y) _ Mx Z8 RN (.ref D) [y] (.ref D) [v] (λ_ H'=>Nn Z8 H') uG rfl (.cons r10 .nil) ⟨D,ys,y,rfl,rfl,Bv,hz,RP⟩;rw[Mz]at a4;show aV a4 λ_ Yk ⟨_,Yl,n_,_,RQ⟩=>again n_ RQ
 show zaW loop (T.self _ 0 _ _ _ st loop)
def yV(ZY:St->St)(g₁:TG)(wi₂:TI)(g:TG)(tt:TT)(te:TE)(bK:It)(Z:St)(H:Hp)(Q:VK):Prop:=∀D,H D=none->∃W:Nat->Nat->St->Hp->Prop,(∃m,W 0 m (ZY Z) (upd H D (.lst [])))/\∀i m Z' H',W i m Z' H'->
 (bK.stop i H'/\Q (.ref D) H')\/(bK.go i H'/\∃N:St->Hp->Prop,(∀Z2 H2,N Z2 H2->∃m',m'<m/\W (i+1) m' Z2 H2)/\∀x H2,bK.ur i H' x H2->g₁ x Z' H2 λZ3 H3=>wi₂ Z3 H3 λbK₂ H5=>RX g tt te D bK₂ Z3 H5 N)
section
variable {X:Cx}{elt tg iter tg₂ iter₂:Expr}{ifs₂:List Expr}{scope:Scope}{pos spos py:Pos}{N:List Str}{ZY:St->St}{wi wi₂:TI}{g g₁:TG}{tt:TT}{te:TE}{i:Nat}{y:Str}
structure pU(X:Cx)(elt tg tg₂ iter₂:Expr)(ifs₂:List Expr)(scope:Scope)(N:List Str)(g₁:TG)(wi₂:TI)(g:TG)(tt:TT)(te:TE):Prop where
 tgt₁:∀cl C s3 H3 fp ao,PG (X.blk scope cl N C s3 H3 fp ao) tg g₁
 it:∀cl C s3 H3 fp ao,PI (X.blk scope cl N C s3 H3 fp ao) tg₂ iter₂ wi₂
 tgt:∀cl C s3 H3 fp ao,PG (X.blk scope cl N C s3 H3 fp ao) tg₂ g
 Jg:∀cl C s3 H3 fp ao,Fd (X.blk scope cl N C s3 H3 fp ao) ifs₂ tt
 el:∀cl C s3 H3 fp ao,PE (X.blk scope cl N C s3 H3 fp ao) elt te
def zfH(hc:X.aj=true)(B:cL X.env.scope scope)(P:pU X elt tg tg₂ iter₂ ifs₂ scope N g₁ wi₂ g tt te)(hs₂:∀env x,foldedSetIterable iter₂ env x=pure x)(hl:∀Z,(ZY Z).length=N.length)
  (hZ:∀(Z:St) (i:Nat) (x:Str) (v:V),N[i]?=some x->(ZY Z)[i]?=some (some v)->scope.names.lookup x=some .free/\∃j:Nat,X.N[j]?=some x/\Z[j]?=some (some v))
  {ao:List (Addr×Obj)} {s:Shared} {Z:St} {H:Hp} {Q:VK} {it:Addr} {fp:List Addr} {tn:Nat->Heap->Prop} {bK:It} (I:Inv X ao Z H s) (T:Turn X.prog X.w X.K tg bK fp it tn) (st:tn 0 s.heap) (f:∀b∈fp,fD X ao H b) (h:yV ZY g₁ wi₂ g tt te bK Z H Q)
  {cl:List (Str×Addr)} (c1:∀x c,cl.lookup x=some c->X.env.cells.lookup x=some c) (c2:∀x∈scope.names,x.2=.free->∃c,cl.lookup x.1=some c) {R:Value->Addr->Result->Shared->Prop} {E:Value->Shared->Prop}
  (k:∀D C s' H',Inv X ao Z H' s'->X.s₀.heap.objs.size<=C->H' C=none->C≠X.env.locals->(∀x c,X.env.cells.lookup x=some c->c≠C)->(∀p∈X.pn++ao,p.1≠C)->(∃m,s'.heap.Ns C m)->Q (.ref D) H'->R (.ref D) C (.ok .next) s') :
  wpAny (model X.prog X.w) X.A (newList []) (λacc s₃=>wpAny (model X.prog X.w) X.A (newFunctionEnv scope X.env.globals cl [] X.env.qual none .none (some X.env)) (λcenv s₄=>
   codeAny (model X.prog X.w) X.A (.compStart (.ListComp elt [⟨tg,iter,[],0⟩,⟨tg₂,iter₂,ifs₂,0⟩] scope pos) 0 (.ref it) acc {cenv with scope:=relabel scope X.env}) (R acc cenv.locals) s₄) E s₃) E s:=by
 show tU ?_;let hD:H s.heap.objs.size=none:=I.hok.fresh (bQ _);let I3:Inv X ao Z (upd H s.heap.objs.size (.lst [])) {s with heap:=s.heap.push {cls:=.type "list",dict:=none,data:=.seq ([]:List Value).toArray}}:=
  I.laid (t':=s.toks) (λb u q=>cR _ q) (bQ _) ⟨sW _,[],0,.nil,fB _ rfl⟩
 let f3:∀b∈fp,fD X ao (upd H s.heap.objs.size (.lst [])) b:=λb hb=>by
  let⟨a1,a2⟩:=f b hb;let⟨o,q,_⟩:=T.obj 0 _ st b hb;show⟨by rw[dj (dN (bZ q))];show a1,a2⟩
 let st3:tn 0 (s.heap.push {cls:=.type "list",dict:=none,data:=.seq ([]:List Value).toArray}):=T.keep _ _ _ st λb hb o q=>cR _ q;let⟨W,⟨m0,w0⟩,turn⟩:=h s.heap.objs.size hD;generalize Jh:({s with heap:=s.heap.push {cls:=.type "list",dict:=none,data:=.seq ([]:List Value).toArray}}:Shared)=s3 at *;let pR:tn 0 s3.heap:=by rw[<-Jh];show st3
 generalize hH3:upd H s.heap.objs.size (.lst [])=H3 at *;show Yc (λx c q=>by let⟨v,o,q1,_⟩:=I3.cell x c (c1 x c q);show bZ q1) (λx y c a b=>I3.ok.inj x y c (c1 x c a) (c1 y c b)) λh1 fj hn kp CN=>?_;let Bu:Inv (X.blk scope fj N s3.heap.objs.size s3 H3 fp ao) [] (ZY Z) H3 {s3 with heap:=h1}:=
  Ye (t:=s3.toks) I3 B c1 c2 f3 (λb hb=>let ⟨o,q,_⟩:=T.obj 0 _ pR b hb;⟨o,q⟩) hn kp CN (hl Z) (hZ Z)
 let Ji:tn 0 h1:=T.keep _ _ _ pR λb hb o q=>kp b o q;let fY:∀{H':Hp},(∀b∈fp,H' b=none)->∀b∈fp,fD (X.blk scope fj N s3.heap.objs.size s3 H3 fp ao) [] H' b:=λ{H'} z b hb=>by
  let⟨a1,a2,a3,a4,a5,a6⟩:=f3 b hb;let⟨o,q,_⟩:=T.obj 0 _ pR b hb;show⟨z b hb,dN (bZ q),λy=>(jo.mp (I3.jP b y)).elim a2 a3,.inl hb,λx c y=>?_,λp hp=>a6 p ?_⟩
  .rcases CN.d1 x c y with ⟨q1,_⟩|⟨_,q1,_⟩
   .exact a5 x c (c1 x c q1)
   .exact λe=>absurd (bZ q) (by rw[<-e];show Eu.mpr (wB q1))
  let y:p∈(X.pn++ao)++[]:=hp;simpa using y
 let loop:codeAny (model X.prog X.w) X.A (.compLoop (.ListComp elt [⟨tg,iter,[],0⟩,⟨tg₂,iter₂,ifs₂,0⟩] scope pos) 0 (.ref it) (.ref s.heap.objs.size) (compEnvC scope fj s3.heap.objs.size X.env)) (R (.ref s.heap.objs.size) s3.heap.objs.size) {s3 with heap:=h1}:=by
  show zhO (λn s'=>∃i Z' H',Inv (X.blk scope fj N s3.heap.objs.size s3 H3 fp ao) [] Z' H' s'/\tn i s'.heap/\(∀b∈fp,H' b=none)/\W i n Z' H') (hs₂ _) ?_ m0 ⟨0,ZY Z,H3,Bu,Ji,λb hb=>(f3 b hb).1,w0⟩;rintro n s5 ⟨i,Z5,H5,jB,sX,vV,w5⟩;rcases turn i n Z5 H5 w5 with ⟨stop,q⟩|⟨go,Nx,hN,step⟩
  .refine aV (T.done (X.blk scope fj N s3.heap.objs.size s3 H3 fp ao) rfl rfl rfl hc i [] s5 Z5 H5 _ jB (fY vV) sX stop) λr s6 ⟨hr,mO⟩=>?_;subst hr;let JX:=Yi I3 f3 mO;show k s.heap.objs.size s3.heap.objs.size s6 H5 JX I3.sz mO.free (wC I3.lt) (λx c y z=>?_) (λp hp z=>?_) ?_ q
   .obtain⟨v,qc⟩:=I3.cell x c y;show absurd qc.lt (by rw[z];show rF _)
   .exact absurd (bZ (I3.pin p hp).1) (by rw[z];show rF _)
   .obtain⟨m,hm,_⟩:=mO.loc;show⟨m,hm⟩
  .refine aV (T.item (X.blk scope fj N s3.heap.objs.size s3 H3 fp ao) rfl rfl rfl hc i [] s5 Z5 H5 _ jB (fY vV) sX go) λr s6 ⟨u,hr,h6⟩=>?_;subst hr;show aV h6 λ_ s7 hz=>?_;let⟨x,H7,uz,r7,y7,uD,Jj⟩:=hz;let n8:=uz.pinned (fY Jj) (T.obj _ _ uD);show aV (P.tgt₁ fj s3.heap.objs.size s3 H3 fp ao _ s7 Z5 H7 x u _ n8 r7 (step x H7 y7)) λ_ s8 hz=>?_;let⟨Z8,H8,uE,q8⟩:=hz;show aV (wpAny_tests_nil (env:=compEnvC scope fj s3.heap.objs.size X.env) (Q:=λok s'=>ok=true/\s'=s8) ⟨rfl,rfl⟩) λok s9 ⟨e9,e9'⟩=>?_;subst e9 e9';rw[if_pos rfl];show aV (P.it fj s3.heap.objs.size s3 H3 fp ao _ s9 Z8 H8 _ uE q8) λxv Mx h10=>aV h10 λitv Yk h11=>?_;let⟨it₂,fp₂,tn₂,bK₂,Yl,e11,n_,T₂,st₂,f₂,hq⟩:=h11;subst e11;show zkr (Y:=X.blk scope fj N s3.heap.objs.size s3 H3 fp ao) hc rfl (P.tgt fj s3.heap.objs.size s3 H3 fp ao) (P.Jg fj s3.heap.objs.size s3 H3 fp ao) (P.el fj s3.heap.objs.size s3 H3 fp ao) n_ T₂ st₂ f₂ hq λs' Z' H' fO n'=>⟨rfl,?_⟩;let⟨m',hm,w'⟩:=hN Z' H' n';show⟨m',hm,i+1,Z',H',fO.dW,T.keep _ _ _ uD λb hb o e=>(fO.pin (b,o) (nj _ (nj _ (yS hb e)))).1,λb hb=>?_,w'⟩;let⟨o,e,d⟩:=T.obj _ _ uD b hb;show(fO.pin (b,o) (nj _ (nj _ (yS hb e)))).2.1
 show codeAny_compStart_list loop (T.self _ 0 _ _ _ Ji loop)
def uK(wi:TI)(ZY:St->St)(g₁:TG)(wi₂:TI)(g:TG)(tt:TT)(te:TE):TE:=λZ H Q=>wi Z H λbK H1=>yV ZY g₁ wi₂ g tt te bK Z H1 Q
def zdY(hc:X.aj=true)(hN:X.N.Nodup)(uI:X.N[i]?=some y)(hx:Loc X.env.scope y)(hf:X.fn y=true\/X.env.scope.names.lookup y=some .local)(B:cL X.env.scope scope)(hi:PI X tg iter wi)(P:pU X elt tg tg₂ iter₂ ifs₂ scope N g₁ wi₂ g tt te)(hs₂:∀env x,foldedSetIterable iter₂ env x=pure x)(hl:∀Z,(ZY Z).length=N.length)
  (hZ:∀(Z:St) (i:Nat) (x:Str) (v:V),N[i]?=some x->(ZY Z)[i]?=some (some v)->scope.names.lookup x=some .free/\∃j:Nat,X.N[j]?=some x/\Z[j]?=some (some v))
  (uJ:swapsWith (.ListComp elt [⟨tg,iter,[],0⟩,⟨tg₂,iter₂,ifs₂,0⟩] scope pos) (some (.Name y py)) spos.line X.env=pure true) (hs:∀x,foldedSetIterable iter X.env x=pure x:=by intro _;rfl) :
  PS X (.Assign [.Name y py] (.ListComp elt [⟨tg,iter,[],0⟩,⟨tg₂,iter₂,ifs₂,0⟩] scope pos) spos) (wG (uK wi ZY g₁ wi₂ g tt te) (dI i)):=by
 intro ao s Z H D I h;let⟨cl,yU,c1,c2⟩:=RT I B;rw[exec_Assign_Name_used _ _ _ _ uJ];show aC (vN (aC ?_));change wpAny _ X.A (do let _ <-comprehension (.ListComp elt [⟨tg,iter,[],0⟩,⟨tg₂,iter₂,ifs₂,0⟩] scope pos) scope X.env _ (newList []) false (eval iter X.env) (some (assign (.Name y py) X.env))) _ _ s;show aC (Pa (use:=some (assign (.Name y py) X.env)) rfl hs yU B.kind B.loc (aV (hi ao s Z H _ I h) λxv s1 h1=>aV h1 λitv s2 h2=>?_));let⟨it,fp,tn,bK,H2,e,I2,T,st2,f2,hq⟩:=h2;subst e;show zfH hc B P hs₂ hl hZ I2 T st2 f2 hq c1 c2 (R:=λacc C=>compPost (model X.prog X.w) X.A X.xe (some (assign (.Name y py) X.env)) _ acc C) λD' C s' H' fO a b c d e ⟨m,hm⟩ q=>?_;change wpAny _ _ (assign (.Name y py) X.env (.ref D')) _ _ s';show wpAny_assign_Name (Qo (v:=.ref D') fO hN uI hx rfl (λs5 jB ⟨ad,sb,RV⟩=>?_) hf);let nC:C≠ad:=by
  rcases RV with z|z
  .rw[z];show c
  .exact(d y ad z).symm
 let⟨ol,es,ep,e1,r1⟩:=hm;show⟨m,⟨ol,es,ep,(sb.2 C nC).trans e1,r1⟩,λh' RW=>aQ (aQ ⟨_,H',RL (Z':=Z) jB a b c d e RW,q⟩)⟩
end
end L2
namespace L2
open PySem PySem.Spec PyProof.Rows PySem.W
def bV{α:Type}(lt:Nat->Nat->Option Bool):KasT α->Option α
 |.ret a=>some a|.ask i j k=>match lt i j with
  |some b=>bV lt (k b)|none=>none
theorem Ym{α:Type}{lt:Nat->Nat->Option Bool}{cmp:Nat->Nat->(Bool->Shared->Prop)->Shared->Prop}{Q:α->Shared->Prop}{s:Shared}(hc:∀i j b C,lt i j=some b->C b s->cmp i j C s){a:α}(q:Q a s):∀{t:KasT α},bV lt t=some a->t.kasWp cmp Q s
 |.ret a',h=>by
  unfold bV at h;cases h;show q
 |.ask i j k,h=>by
  unfold bV at h;cases e:lt i j with
  |none=>rw[e]at h;cases h|some b=>
   rw[e]at h;show hc i j b _ e (Ym hc q h)
def jC(vs:List Value)(p:Array Nat):Array Value:=if vs.length<2 then vs.toArray else List.toArray (p.toList.map λi=>vs.getD i Value.none)
section
variable {prog:Program}{w:World}{A:Around}{E:Value->Shared->Prop}{s:Shared}{κ:SortKind}{lt:Nat->Nat->Option Bool}{p:Array Nat}
def zcD{a:Addr}{vs:List Value}{n:Nat}{P:PySem.Fin->Shared->Prop}(ho:s.heap.get? a=some (seqObj "list" vs.toArray n))(uL:vs.length<64)
  (hk:2<=vs.length->∀(s':Shared) (Q:SortKind->Shared->Prop),(∀b o,b≠a->s.heap.get? b=some o->s'.heap.get? b=some o)->Q κ s'->wpAny (model prog w) A (keyKind' vs.toArray) Q E s')
  (cW:2<=vs.length->∀(s':Shared) i j b C,(∀b o,b≠a->s.heap.get? b=some o->s'.heap.get? b=some o)->lt i j=some b->C b s'->kas_ask prog w A κ vs i j C s') (hr:2<=vs.length->bV lt (kas_sort vs.length)=some p) (RZ:2<=vs.length->p.size=vs.length)
  (h:P (.done (.ret .none)) {s with heap:=sortedHeap s.heap a vs (jC vs p)}) :
  wpAny (model prog w) A (Builtin.«list.sort» ⟨[.ref a],[]⟩) P E s:=by
 rw[list_sort_plain];let ha:a<s.heap.objs.size:=bZ ho;show aC (listItems_at ho rfl ?_);show aC (listUpdate_at ho rfl ?_ (by rw[gj,vO];lia) (sW _));obtain⟨e1,MF⟩ : ∃e1,(s.heap.update a (Obj.mapSeq λ_=>#[])).get? a=some (seqObj "list" #[] e1):=⟨_,get?_update_seq ho (λ_=>#[])⟩;show aC (seqEpoch_at MF rfl ?_);show aC (wpAny_newTuple ?_ (by change vs.length<=_;rw[vO];lia));show aC (wpAny_newList ?_ (sW _));show vM ?_;let keep:∀b o,b≠a->s.heap.get? b=some o->(((s.heap.update a (Obj.mapSeq λ_=>(#[]:Array Value))).push (seqObj "tuple" vs.toArray 0)).push (seqObj "list" #[] 0)).get? b=some o:=λb o nb e=>
  cR _ (cR _ ((Heap.get?_update_ne _ _ _ _ nb).trans e))
 let MJ:(((s.heap.update a (Obj.mapSeq λ_=>(#[]:Array Value))).push (seqObj "tuple" vs.toArray 0)).push (seqObj "list" #[] 0)).get? a=some (seqObj "list" #[] e1):=by
  rw[Lg _ _ _ (by rw[size_push',Heap.size_update];show dN (vH ha)),Lg _ _ _ (by rw[Heap.size_update];show dN ha)];show MF
 change wpAny (model prog w) A _ P E {s with heap:=((s.heap.update a (Obj.mapSeq λ_=>#[])).push (seqObj "tuple" vs.toArray 0)).push (seqObj "list" #[] 0)};dsimp only;let hsz:vs.toArray.size=vs.length:=by simp
 by_cases h2:vs.toArray.size<2
 .rw[if_pos h2,if_pos h2];show aC (aQ ?_);rw[StateT.run_pure];show aC (aQ ?_);dsimp only;show aC (seqEpoch_at MJ rfl ?_);show aC (listUpdate_at MJ rfl ?_ (sW _) (by rw[Array.size_map];change (pairsOf vs).size<=_;rw[pairsOf_size,vO];lia));simp only[bne_self_eq_false,vD,qu];let e:((vs.toArray.zip vs.toArray).map (·.2))=jC vs p:=by
   unfold jC;rw[if_pos (by rw[hsz]at h2;show h2)];apply Array.toList_inj.mp;simp[List.map_snd_zip]
  show aQ ?_;let h':=h;rw[<-e]at h';show h'
 .rw[if_neg h2,if_neg h2];let oh:2<=vs.length:=by lia
  show aC (hk oh _ _ keep ?_);show aC (iM (kat_run (κ:=κ) (ks:=vs) (vs:=vs) (G:=λp' s'=>p'=p/\s'={s with heap:=((s.heap.update a (Obj.mapSeq λ_=>#[])).push (seqObj "tuple" vs.toArray 0)).push (seqObj "list" #[] 0)})
   (Q:=λst' s'=>arrOf st'=p.map (kas_item (vs.toArray.zip vs.toArray))/\failedOf st'=none/\s'={s with heap:=((s.heap.update a (Obj.mapSeq λ_=>#[])).push (seqObj "tuple" vs.toArray 0)).push (seqObj "list" #[] 0)})
   rfl oh uL (λp' st' s' a1 a2 a3 a4=>⟨by rw[a2,a4.1],a3,a4.2⟩) (Ym (λi j b C hl hC=>cW oh _ i j b C keep hl hC) ⟨rfl,rfl⟩ (hr oh))) ?_ λ_ _ e=>e)
  rintro⟨⟨⟩,st'⟩ s' ⟨MK,hf,rfl⟩;dsimp only;let hout:=kat_snds (ks:=vs) (vs:=vs) rfl MK;let e:List.toArray (p.toList.map λi=>vs.getD i Value.none)=jC vs p:=by
   unfold jC;rw[if_neg gV]
  rw[hout,e];let hso:(jC vs p).size=vs.length:=by rw[<-e,gj,bN,yt,RZ oh]
  show aC (seqEpoch_at MJ rfl ?_);show aC (listUpdate_at MJ rfl ?_ (sW _) (by rw[hso,vO];lia));rw[hf];simp only[bne_self_eq_false,vD,qu];show aQ h
def R0(hl:s.heap.IsList l vs.toArray)(uL:vs.length<64)
  (hk:2<=vs.length->∀(s':Shared) (Q:SortKind->Shared->Prop) E,(∀b o,s.heap.get? b=some o->s'.heap.get? b=some o)->Q κ s'->wpAny (model prog w) A.in1.in1 (keyKind' vs.toArray) Q E s')
  (cW:2<=vs.length->∀(s':Shared) i j b C,(∀b o,s.heap.get? b=some o->s'.heap.get? b=some o)->lt i j=some b->C b s'->kas_ask prog w A.in1.in1 κ vs i j C s') (hr:2<=vs.length->bV lt (kas_sort vs.length)=some p) (RZ:2<=vs.length->p.size=vs.length)
  (h:Q (.ref (s.heap.objs.size+1)) {s with heap:=sortedAll s.heap vs (jC vs p)}) :
  wpAny (model prog w) A (call (.builtin "sorted") [.ref l]) Q E s:=by
 show Calls.call_function_entry kind_sorted plain_sorted entry_sorted (args_sorted1 _) ?_;unfold Builtin.«sorted»;show aC (m:=checkCount "sorted" 1 1 _) (aQ ?_);show aC (collect_list hl ?_ (by rw[vO];lia));show aC (wpAny_newList ?_ (by rw[vO];lia));let hsz:((s.heap.push (seqObj "list" #[] 0)).update s.heap.objs.size (Obj.mapSeq (·++vs.toArray))).objs.size=s.heap.objs.size+1:=by
  rw[Heap.size_update,size_push']
 let Mf:(((s.heap.push (seqObj "list" #[] 0)).update s.heap.objs.size (Obj.mapSeq (·++vs.toArray))).push (seqObj "list" vs.toArray 0)).get? (s.heap.objs.size+1)=some (seqObj "list" vs.toArray 0):=by
  rw[<-hsz];show fB _ rfl
 let keep:∀b o,s.heap.get? b=some o->(((s.heap.push (seqObj "list" #[] 0)).update s.heap.objs.size (Obj.mapSeq (·++vs.toArray))).push (seqObj "list" vs.toArray 0)).get? b=some o:=λb o q=>by
  let cW:b<s.heap.objs.size:=bZ q;rw[Lg _ _ _ (by rw[hsz];show dN (vH cW)),Heap.get?_update_ne _ _ _ _ (dN cW),Lg _ _ _ (dN cW)];show q
 change wpAny _ _ _ _ _ {s with heap:=((s.heap.push (seqObj "list" #[] 0)).update s.heap.objs.size (Obj.mapSeq (·++vs.toArray))).push (seqObj "list" vs.toArray 0)};rw[hsz];let nn:∀b o,s.heap.get? b=some o->b≠s.heap.objs.size+1:=λb o e=>dN (vH (bZ e));show aC (vM (yF slot_list_sort ⟨_,Mf,rfl⟩ entry_list_sort (zcD (κ:=κ) (lt:=lt) (p:=p) Mf uL (λh2 s' Q' k q=>hk h2 s' Q' _ (λb o e=>k b o (nn b o e) (keep b o e)) q) (λh2 s' i j b C k e q=>cW h2 s' i j b C (λb o e=>k b o (nn b o e) (keep b o e)) e q) hr RZ ⟨_,rfl,?_⟩) (args_list_sort _)));show aQ ⟨_,rfl,h⟩
end
def kY:List V->List V->Option Bool
 |[],ys=>some (decide (0<ys.length))|_::_,[]=>some false|.int x::xs,.int y::ys=>if x=y then kY xs ys else some (decide (x<y))|_::_,_::_=>none
def zlI{prog:Program}{w:World}{A:Around}{s:Shared}{fin:Bool}{C:Bool->Shared->Prop}{b:Bool}:∀{us ws:List V} {its jts:List Value} {i:Nat},Vals us its->Vals ws jts->kY us ws=some b->fin=decide (us.length<ws.length)->C b s->KatLex prog w A true fin C (its.zip jts) i s:=by
 intro us ws its jts i r1
 induction r1 generalizing ws jts i with
 |nil=>
  intro _ h hf hc;rw[Lf];unfold kY at h;cases h;rw[hf];show kat_nil hc
 |@cons x u us its rx ri ih=>
  intro r2 h hf hc;cases r2 with
  |nil=>
   rw[Ld];unfold kY at h;cases h;rw[hf];show kat_nil (by simpa using hc)
  |@cons y v ws jts ry rj=>
   rw[wg];cases x with
   |int a=>
    cases y with
    |int c=>
     let⟨t,rfl⟩:=rx;let⟨t',rfl⟩:=ry;unfold kY at h;show kat_cons (wpAny_eqBool_int ?_);by_cases e:a=c
     .rw[if_pos e]at h;subst e;rw[Ag];show kat_yes (ih rj h (by rw[hf];simp) hc)
     .rw[if_neg e]at h;cases h;rw[show (a==c)=false by simpa using e];show kat_no ?_;by_cases hi:i=0
      .subst hi;show oneLt_int hc
      .rw[show (true&&i==0)=false by simpa using hi];show kat_one _ _ (wpAny_lt_int hc)
    |_=>cases h
   |_=>cases y<;>cases h
def uM(K:W.Frag)(H:Hp)(ys:List V)(lt:Nat->Nat->Option Bool):Prop:=
 ((∀v∈ys,∃i,v=V.int i)/\∀i j b,lt i j=some b->∃x y,ys[i]?=some (.int x)/\ys[j]?=some (.int y)/\b=decide (x<y)) \/
 ((∀v∈ys,∃a i r,v=.ref a/\fC K H a (.int i::r))/\∀i j b,lt i j=some b->∃a c us ws,ys[i]?=some (.ref a)/\ys[j]?=some (.ref c)/\fC K H a us/\fC K H c ws/\kY us ws=some b)
def kZ(ys:List V)(p:Array Nat):List V:=if ys.length<2 then ys else p.toList.map λi=>ys.getD i .non
theorem Yn(r:Vals ys its):∀l:List Nat,Vals (l.map λi=>ys.getD i .non) (l.map λi=>its.getD i Value.none)
 |[]=>.nil|i::l=>by
  show .cons ?_ (Yn r l);cases e:ys[i]? with
  |some y=>
   let⟨u,e1,e2⟩:=r.get e;change RelV (ys.getD i .non) (its.getD i Value.none);rw[jL,jL,e,e1];show e2
  |none=>
   let e1:its[i]?=none:=by rw[qm]at e ⊢;rw[<-r.length];show e
   change RelV (ys.getD i .non) (its.getD i Value.none);rw[jL,jL,e,e1];rfl
def zid{ys:List V}{its:List Value}(r:Vals ys its)(p:Array Nat):Vals (kZ ys p) (jC its p).toList:=by
 unfold kZ jC;rw[r.length];by_cases h:its.length<2
 .rw[if_pos h,if_pos h];show r
 .rw[if_neg h,if_neg h];show Yn r p.toList
def ziF{ys:List V}{its:List Value}(r:Vals ys its):∀u∈its,∃v∈ys,RelV v u:=by
 induction r with
 |nil=>intro u hu;cases hu|cons h t ih=>
  intro u hu;rcases jo.mp hu with rfl|hu
  .exact⟨_,lG,h⟩
  .obtain⟨v,a,b⟩:=ih u hu;show⟨v,iJ _ a,b⟩
section
variable {X:Cx}
theorem zf8{prog:Program}{w:World}{A:Around}{E:Value->Shared->Prop}{s:Shared}{its:List Value}{Q:SortKind->Shared->Prop}(h2:2<=its.length)(hi:∀u∈its,∃i t,u=Value.int i t)(q:Q oneType' s):wpAny (model prog w) A (keyKind' its.toArray) Q E s:=
 kas_kind (T:=.type "int") h2 (λv hv=>by let⟨i,t,rfl⟩:=hi v hv;show .of_pure rfl) J0 J0 q
def zkm{K:W.Frag}{ao:List (Addr×Obj)}{s:Shared}{Z:St}{H:Hp}(I:Inv X ao Z H s){h':Heap}(k:∀b o,s.heap.get? b=some o->h'.get? b=some o):∀{ys:List V} {its:List Value},Vals ys its->(∀v∈ys,∃a i r,v=.ref a/\fC X.K H a (.int i::r))->∃fs:List Value,fs.length=its.length/\(∀f∈fs,∃i t,f=Value.int i t)/\KatTups h' its fs:=by
 intro ys its r0
 induction r0 with
 |nil=>show λ_=>⟨[],rfl,(λf hf=>by cases hf),trivial⟩|@cons v u ys its r rs ih=>
  intro h;let⟨a,i,r',rfl,hq⟩:=h _ lG;let⟨fs,l,hf,kt⟩:=ih λv hv=>h v (iJ _ hv);let⟨its',rv,⟨o,ho,hc,n,hd⟩,_⟩:=I.tuple hq;cases (show u=Value.ref a from r);cases rv with
  |cons ri rr=>
   let⟨t,rfl⟩:=ri;show⟨Value.int i t::fs,by simp[l],λf hf'=>?_,KatTups.cons (k _ _ ho) hc hd R3 kt⟩;rcases jo.mp hf' with rfl|z
   .exact⟨i,t,rfl⟩
   .exact hf f z
theorem zgO{prog:Program}{w:World}{A:Around}{E:Value->Shared->Prop}{s:Shared}{its fs:List Value}{Q:SortKind->Shared->Prop}(h2:2<=its.length)(hl:fs.length=its.length)(hi:∀u∈fs,∃i t,u=Value.int i t)(kt:KatTups s.heap its fs)(q:Q (tuples' true) s):wpAny (model prog w) A (keyKind' its.toArray) Q E s:=
 kat_kind (T:=.type "int") kt gV (λv hv=>by let⟨i,t,rfl⟩:=hi v hv;show .of_pure rfl) J0 q
def MN{its:List Value}{i:Nat}{u:Value}(h:its[i]?=some u):its.getD i Value.none=u:=by rw[jL,h];rfl
def zek:cV X (.builtin "sorted") (λxs H Q=>∃l ys lt p,xs=[.ref l]/\c7 X.K H l ys/\ys.length<64/\(2<=ys.length->uM X.K H ys lt/\bV lt (kas_sort ys.length)=some p/\p.size=ys.length)/\∀r,H r=none->Q (.ref r) (upd H r (.lst (kZ ys p)))):=by
 intro ao s Z H xs us Q I r h;let⟨l,ys,lt,p,rfl,hq,uL,hs,q⟩:=h;let⟨u,rfl,rx⟩:=vals1 r;cases rx;let⟨its,rv,pl,hz⟩:=I.list hq;let hlen:=rv.length;let fin:EP X ao Z Q (.ref (s.heap.objs.size+1)) {s with heap:=sortedAll s.heap its (jC its p)}:=by
  let⟨e,he⟩:=sortedAll_at s.heap its (jC its p);let hn:H (s.heap.objs.size+1)=none:=I.hok.fresh (Nat.le_succ _);show⟨.ref (s.heap.objs.size+1),_,I.laid (t':=s.toks) (λb u q=>sortedAll_old q) (Nat.le_succ _) (show bT X.prog X.w _ _ _ (.lst (kZ ys p)) from ⟨?_,(jC its p).toList,e,zid rv p,by rw[Array.toArray_toList];show he⟩),rfl,q _ hn⟩;unfold kZ;by_cases h2:ys.length<2
  .rw[if_pos h2];show hz
  .rw[if_neg h2,bN,yt,(hs gV).2.2];show hz
 by_cases h2:2<=ys.length
 .obtain⟨hS,hr,hp⟩:=hs h2;rcases hS with ⟨hI,cW⟩|⟨hT,cW⟩
  .refine R0 (κ:=oneType') (lt:=lt) (p:=p) pl.isList gV (λoh s' Q' E' k q'=>zf8 oh (λu hu=>?_) q') (λ_ s' i j b C k e hC=>?_) (λ_=>by rw[<-hlen];show hr) (λ_=>by lia) fin
   .obtain⟨v,hv,rr⟩:=ziF rv u hu;let⟨i,rfl⟩:=hI v hv;let⟨t,rfl⟩:=rr;show⟨i,t,rfl⟩
   .obtain⟨x,y,e1,e2,rfl⟩:=cW i j b e;let⟨u1,f1,g1⟩:=rv.get e1;let⟨u2,f2,g2⟩:=rv.get e2;let⟨t1,rfl⟩:=g1;let⟨t2,rfl⟩:=g2;change wpAny _ _ (keyLt' oneType' (its.getD i Value.none) (its.getD j Value.none)) C _ s';rw[MN f1,MN f2];show kat_lt_int hC
  .refine R0 (κ:=tuples' true) (lt:=lt) (p:=p) pl.isList gV (λoh s' Q' E' k q'=>?_) (λ_ s' i j b C k e hC=>?_) (λ_=>by rw[<-hlen];show hr) (λ_=>by lia) fin
   .obtain⟨fs,l1,hf,kt⟩:=zkm (K:=X.K) I k rv hT;show zgO oh l1 hf kt q'
   .obtain⟨a,c,us,ws,e1,e2,q1,q2,e3⟩:=cW i j b e;let⟨u1,f1,g1⟩:=rv.get e1;let⟨u2,f2,g2⟩:=rv.get e2;cases (show u1=Value.ref a from g1);cases (show u2=Value.ref c from g2);let⟨i1,r1,⟨o1,MF,hc1,n1,hd1⟩,_⟩:=I.tuple q1;let⟨i2,r2,⟨o2,kO,kW,n2,hd2⟩,_⟩:=I.tuple q2;change wpAny _ _ (keyLt' (tuples' true) (its.getD i Value.none) (its.getD j Value.none)) C _ s';rw[MN f1,MN f2];show kat_lt (k _ _ MF) hd1 (k _ _ kO) hd2 (zlI r1 r2 e3 ?_ hC);rw[r1.length,r2.length];simp
 .exact R0 (κ:=oneType') (lt:=lt) (p:=p) pl.isList gV (λoh=>absurd oh gV) (λoh=>absurd oh gV) (λoh=>absurd oh gV) (λoh=>absurd oh gV) fin
end
end L2
namespace L2
open PySem PySem.Spec PyProof.Rows PySem.W PySem.Calls
theorem Yo{α:Type}:∀{l:List (Str×α)} {f:Str} {u:α},(l.map (·.1)).Nodup->(f,u)∈l->l.lookup f=some u
 |(g,v)::r,f,u,hn,hm=>by
  rw[iV,yG]at hn;rw[pI];rcases jo.mp hm with e|hm
  .cases e;simp
  .let:f≠g:=λz=>hn.1 (by rw[<-z];show j9.mpr ⟨(f,u),hm,rfl⟩);rw[show (f==g)=false by simpa using this];show Yo hn.2 hm
def zjU{α:Type}{fs:List Str}{us:List α}{i:Nat}{f:Str}{u:α}(h1:fs[i]?=some f)(h2:us[i]?=some u):(f,u)∈fs.zip us:=by
 show dG (i:=i) ?_;show(List.getElem?_zip_eq_some (z:=(f,u))).mpr ⟨h1,h2⟩
structure XF(K:Frag)(C:Addr)(f:Str):Prop where
 ga:findIn K (.ref C) "__getattribute__"=some (some (.builtin "BaseException.__getattribute__"))
 gn:findIn K (.ref C) "__getattr__"=some none
 mb:mroIn K C (.type "BaseException")=some true
 no:findIn K (.ref C) f=some none
 hd:hasDictIn K C=true
end L2
namespace L2
open PySem PySem.Spec PyProof.Rows
section
variable {X:Cx}{ao:List (Addr×Obj)}{Z:St}{H:Hp}{s:Shared}{h':Heap}
def Inv.lN{t':Nat}{ch:List Addr}{a:Addr}{o:HO}(I:Inv X ao Z H s)(k:∀b u,b∉ch->s.heap.get? b=some u->h'.get? b=some u)(hf:∀b∈ch,fD X ao H b)(ha:s.heap.objs.size<=a)(new:bT X.prog X.w (upd H a o) h' a o) :
  Inv X ao Z (upd H a o) {s with heap:=h',toks:=t'}:=by
 let yP:∀b u,H b=some u->b∉ch:=λb u e z=>by rw[(hf b z).1]at e;cases e
 let hn:H a=none:=I.hok.fresh ha;let na:∀b u,H b=some u->b≠a:=λb u e z=>by rw[z,hn]at e;cases e
 let la:∀b u,s.heap.get? b=some u->b≠a:=λb u e=>dN (jm (bZ e) ha);show I.step (g':=s.gens) (d':=s.drawn) (ch:=ch) (λb hb=>?_) (λb o _ _ hc e _=>k b o hc e) (λb o _ _ hc e _=>⟨o.slots,k b o hc e⟩) (λb o' _ e n=>by rw[dj (la b o' e)];show n)
  (λb o hc e=>⟨o,k b o hc e⟩) (λb xs e=>by rw[dj (na b _ e)];show e) (λb o u e=>by rw[dj (na b _ e)];show e) (λb ps e=>⟨#[],by rw[dj (na b _ e),e];simp⟩) (λm hm=>?_) (λb u e=>?_) I.bare
 .obtain⟨f0,f1,f2,f3,f4,f5⟩:=hf b hb;show⟨f3.imp id λz=>GR z,f1,f4,f5⟩
 .obtain⟨o,es,ep,ho,r⟩:=hm;show⟨o,es,ep,k _ o (λz=>(hf _ z).2.1 rfl) ho,r⟩
 .by_cases z:b=a
  .subst z;rw[jE]at e;cases e;show new
  .rw[dj z]at e;show(I.hok b u e).stay (λc v hc q=>k c v ?_ q) (λc q=>by rw[dj (na c _ q)];show q) λc _ q=>by rw[dj (na c _ q)];show q
   rcases hc with y|y
   .rw[y];show yP b u e
   .exact yP c _ y
def Inv.qJ{t':Nat}{ch:List Addr}(I:Inv X ao Z H s)(k:∀b u,b∉ch->s.heap.get? b=some u->h'.get? b=some u)(hf:∀b∈ch,fD X ao H b):Inv X ao Z H {s with heap:=h',toks:=t'}:=by
 let yP:∀b u,H b=some u->b∉ch:=λb u e z=>by rw[(hf b z).1]at e;cases e
 show I.step (g':=s.gens) (d':=s.drawn) (ch:=ch) (λb hb=>?_) (λb o _ _ hc e _=>k b o hc e) (λb o _ _ hc e _=>⟨o.slots,k b o hc e⟩) (λ_ _ _ _ n=>n)
  (λb o hc e=>⟨o,k b o hc e⟩) (λ_ _ e=>e) (λ_ _ _ e=>e) (λb ps e=>⟨#[],by rw[e];simp⟩) (λm hm=>?_) (λb u e=>?_) I.bare
 .obtain⟨f0,f1,f2,f3,f4,f5⟩:=hf b hb;show⟨f3.imp id λz=>GR z,f1,f4,f5⟩
 .obtain⟨o,es,ep,ho,r⟩:=hm;show⟨o,es,ep,k _ o (λz=>(hf _ z).2.1 rfl) ho,r⟩
 .refine(I.hok b u e).stay (λc v hc q=>k c v ?_ q) (λ_ q=>q) λ_ _ q=>q;rcases hc with y|y
  .rw[y];show yP b u e
  .exact yP c _ y
end
structure jT(prog:Program)(w:World)(it src:Addr)(st:Nat->Heap->Prop)(its:Array Value):Prop where
 item:∀(A:Around) (E:Value->Shared->Prop) (s:Shared) (i:Nat) (x:Value) (Q:Value->Shared->Prop),st i s.heap->its[i]?=some x->(∀h',st (i+1) h'->Heap.SameBut it s.heap h'->Q x {s with heap:=h'})->wpAny (model prog w) A (Builtin.SmallTypes.nextOf (.ref it)) Q E s
 fin:∀(A:Around) (E:Value->Shared->Prop) (s:Shared) (i:Nat) (Q:Value->Shared->Prop),A.handled=none->st i s.heap->its[i]?=none->(∀h' e,Heap.ExtBut it s.heap h'->(∃o,h'.get? e=some o/\o.cls=.type "StopIteration")->E (.ref e) {s with heap:=h'})->wpAny (model prog w) A (Builtin.SmallTypes.nextOf (.ref it)) Q E s
 keep:∀i h h',st i h->(∀b o,b=it\/b=src->h.get? b=some o->h'.get? b=some o)->st i h'
theorem jT.list(uN:l≠it):jT prog w it l (λi h=>h.IsListIter it l i/\h.IsList l its) its where
 item:=λA E s i x Q ⟨h1,h2⟩ hx q=>wpAny_nextOf_list_item h1 h2 hx λh' a sb=>q h' ⟨a,h2.at λo e=>(sb.2 l uN).trans e⟩ sb
 fin:=λA E s i Q hh ⟨h1,h2⟩ hx q=>wpAny_nextOf_list_end hh h1 h2 hx q
 keep:=λi h h' ⟨h1,h2⟩ k=>⟨h1.at λo e=>k it o (.inl rfl) e,h2.at λo e=>k l o (.inr rfl) e⟩
theorem Yp(l:Addr):¬((Value.ref l==Value.none)=true):=λz=>by cases (show false=true from z)
def IsTupleIter.at'{h h':Heap}{it l:Addr}{i:Nat}(x:h.IsTupleIter it l i)(k:∀o,h.get? it=some o->h'.get? it=some o):h'.IsTupleIter it l i:=by
 let⟨o,e,r⟩:=x;show⟨o,k o e,r⟩
def IsTuple.at'{h h':Heap}{l:Addr}{xs:Array Value}(x:h.IsTuple l xs)(k:∀o,h.get? l=some o->h'.get? l=some o):h'.IsTuple l xs:=by
 let⟨o,e,r⟩:=x;show⟨o,k o e,r⟩
section
variable {prog:Program}{w:World}{A:Around}{E:Value->Shared->Prop}{s:Shared}{it l:Addr}{i:Nat}{its:Array Value}
def zfb{x:Value}{Q:Value->Shared->Prop}(hi:s.heap.IsTupleIter it l i)(hl:s.heap.IsTuple l its)(hx:its[i]?=some x)(q:∀h',h'.IsTupleIter it l (i+1)->Heap.SameBut it s.heap h'->Q x {s with heap:=h'}) :
  wpAny (model prog w) A (Builtin.SmallTypes.nextOf (.ref it)) Q E s:=by
 let⟨oi,ei,ci,di⟩:=id hi;let⟨ol,el,_,nl,dl⟩:=hl;unfold Builtin.SmallTypes.nextOf;show aC (Ab (name:=Str.ofString "__next__") hi.typeIs K9 (yF K9 hi.typeIs F.entry_tuple_iterator_next ?_ (F.args_tuple_iterator_next_1 _)));change wpAny _ A.in1 (field (.ref it) 0 >>= _) _ E s;show aC (pA ei di (x:=.ref l) rfl ?_);change wpAny _ A.in1 (if (Value.ref l==Value.none)=true then _ else _) _ E s;rw[if_neg (Yp l)];change wpAny _ A.in1 (field (.ref it) 1 >>= _) _ E s;show aC (pA ei di (x:=.int i 0) rfl ?_);change wpAny _ A.in1 (seqItems? (.ref l) >>= _) _ E s;show aC (rE el dl ?_);simp only[iU,hx];show aC (wpAny_setField ei di R3 (aQ ⟨x,rfl,aQ (q _ ⟨_,La _ ei (Obj.isFreed_of_fields (Obj.data_mapFields di _)),(Obj.cls_mapFields ..).trans ci,?_⟩ (Heap.SameBut.update ..))⟩));rw[Obj.data_mapFields di];simp[rawInt]
def zfM{Q:Value->Shared->Prop}(hh:A.handled=none)(hi:s.heap.IsTupleIter it l i)(hl:s.heap.IsTuple l its)(hx:its[i]?=none)(q:∀h' e,Heap.ExtBut it s.heap h'->(∃o,h'.get? e=some o/\o.cls=.type "StopIteration")->E (.ref e) {s with heap:=h'}) :
  wpAny (model prog w) A (Builtin.SmallTypes.nextOf (.ref it)) Q E s:=by
 let⟨oi,ei,ci,di⟩:=id hi;let⟨ol,el,_,nl,dl⟩:=hl;unfold Builtin.SmallTypes.nextOf;show aC (Ab (name:=Str.ofString "__next__") hi.typeIs K9 (yF K9 hi.typeIs F.entry_tuple_iterator_next ?_ (F.args_tuple_iterator_next_1 _)));change wpAny _ A.in1 (field (.ref it) 0 >>= _) _ E s;show aC (pA ei di (x:=.ref l) rfl ?_);change wpAny _ A.in1 (if (Value.ref l==Value.none)=true then _ else _) _ E s;rw[if_neg (Yp l)];change wpAny _ A.in1 (field (.ref it) 1 >>= _) _ E s;show aC (pA ei di (x:=.int i 0) rfl ?_);change wpAny _ A.in1 (seqItems? (.ref l) >>= _) _ E s;show aC (rE el dl ?_);simp only[iU,hx];show aC (yJ (aC (wpAny_setField ei di R3 ?_)));change wpAny _ A.in1 (newExc (.type "StopIteration") [] >>= _) _ E _;show aC ?_;simp only[newExc,newTuple];show aC (tU (aC (m:=firstArgMember _ _) (yI (a:=Value.none) (by first|rfl|(simp only[firstArgMember];rfl)) (tU ?_ (by size_fits)))) (by size_fits));simp only[raiseNew];show aC (wpAny_handled ?_);rw[show A.in1.handled=none from hh];show aC (aQ (wpAny_throw (q _ _ (((Heap.SameBut.update ..).extBut.push _).push _) ⟨_,fB _ rfl,rfl⟩)))
end
theorem jT.tuple{prog:Program}{w:World}{it l:Addr}{its:Array Value}(uN:l≠it):jT prog w it l (λi h=>h.IsTupleIter it l i/\h.IsTuple l its) its where
 item:=λA E s i x Q ⟨h1,h2⟩ hx q=>zfb h1 h2 hx λh' a sb=>q h' ⟨a,IsTuple.at' h2 λo e=>(sb.2 l uN).trans e⟩ sb
 fin:=λA E s i Q hh ⟨h1,h2⟩ hx q=>zfM hh h1 h2 hx q
 keep:=λi h h' ⟨h1,h2⟩ k=>⟨IsTupleIter.at' h1 λo e=>k it o (.inl rfl) e,IsTuple.at' h2 λo e=>k l o (.inr rfl) e⟩
structure mQ(z TI TO i1 i2 l1 l2:Addr):Prop where
 zs:z≠TI/\z≠TO/\z≠i1/\z≠i2/\z≠l1/\z≠l2
 os:TO≠TI/\TO≠i1/\TO≠i2/\TO≠l1/\TO≠l2
 is:TI≠i1/\TI≠i2/\i1≠i2/\i1≠l1/\i1≠l2/\i2≠l1/\i2≠l2
section
variable {prog:Program}{w:World}{A:Around}{E:Value->Shared->Prop}{s:Shared}{z TI TO i1 i2 l1 l2:Addr}{st1 st2:Nat->Heap->Prop}{xs ys:Array Value}{k:Nat}{a b:Value}
def ziz(N1:jT prog w i1 l1 st1 xs)(N2:jT prog w i2 l2 st2 ys)(D:mQ z TI TO i1 i2 l1 l2)(hz:IsZip s.heap z TI TO .none)(R4:IsPair s.heap TI (.ref i1) (.ref i2))(R5:IsPair s.heap TO a b)
  (h1:st1 k s.heap) (h2:st2 k s.heap) (hx:xs[k]?=some x) (hy:ys[k]?=some y)
  (q:∀h',IsZip h' z TI TO (rawInt s.heap.objs.size)->IsPair h' TO x y->st1 (k+1) h'->st2 (k+1) h'->IsPair h' s.heap.objs.size x y->h'.objs.size=s.heap.objs.size+1->(∀c o,c≠z->c≠TO->c≠i1->c≠i2->s.heap.get? c=some o->h'.get? c=some o)->Q (some (.ref s.heap.objs.size)) {s with heap:=h'}) :
  wpAny (model prog w) A (pyNext (.ref z)) Q E s:=by
 let⟨⟨z1,z2,z3,z4,z5,z6⟩,⟨t1,t2,t3,t4,t5⟩,⟨j1,j2,j3,j4,j5,j6,j7⟩⟩:=D;let hT:s.TypeIs (.ref z) "zip":=⟨_,hz,rfl⟩;unfold pyNext;show aC (wpAny_attempt (Ab (name:=Str.ofString "__next__") hT Lq (yF Lq hT F.entry_zip_next ?_ (F.args_zip_next_1 _))));change wpAny _ A.in1 (field (.ref z) 2 >>= _) _ _ s;show aC (pA hz rfl (x:=.bool false) rfl ?_);change wpAny _ A.in1 (field (.ref z) 3 >>= _) _ _ s;show aC (pA hz rfl (x:=.ref TI) rfl (aC (rE R4 rfl ?_)));change wpAny _ A.in1 (Builtin.SmallTypes.ownedTupleIsFree (.ref z) >>= _) _ _ s;show aC ?_;unfold Builtin.SmallTypes.ownedTupleIsFree;show aC (pA hz rfl (x:=.none) rfl (aQ ?_));simp only[if_true];show aC (yJ (aC (pA hz rfl (x:=.ref TO) rfl (aC (DY hz R3 λha za sa=>aC ?_)))))
 replace za:IsZip ha z TI TO .ellipsis:=za
 simp only[List.zipIdx_cons,List.zipIdx_nil,Ek,Lx];show aC (aC (wpAny_onRaise ?_));change wpAny _ A.in1 (Builtin.SmallTypes.nextOf (.ref i1) >>= _) _ _ _;show aC (N1.item _ _ {s with heap:=ha} k x _ (N1.keep _ _ _ h1 λc o hc e=>sa.extBut c o (by rcases hc with rfl|rfl;show z3.symm;show z5.symm) e) hx λhb Yq sb=>aQ ?_);let tb:IsPair hb TO a b:=sb.extBut _ _ t2 (sa.extBut _ _ z2.symm R5);show aC (rE tb rfl (aC (Py tb λhc tc sc=>aC (Am (aQ ?_)))))
 replace tc:IsPair hc TO x b:=tc
 show aC (aC (wpAny_onRaise ?_));change wpAny _ A.in1 (Builtin.SmallTypes.nextOf (.ref i2) >>= _) _ _ _;let k2:st2 k hc:=N2.keep _ _ _ h2 λc o kI e=>by
  rcases kI with rfl|rfl
  .exact sc.extBut _ _ t3.symm (sb.extBut _ _ j3.symm (sa.extBut _ _ z4.symm e))
  .exact sc.extBut _ _ t5.symm (sb.extBut _ _ j5.symm (sa.extBut _ _ z6.symm e))
 let k1:st1 (k+1) hc:=N1.keep _ _ _ Yq λc o kI e=>by
  rcases kI with rfl|rfl
  .exact sc.extBut _ _ t2.symm e
  .exact sc.extBut _ _ t4.symm e
 show aC (N2.item _ _ {s with heap:=hc} k y _ k2 hy λhd sd2 sd=>aQ ?_);let td:IsPair hd TO x b:=sd.extBut _ _ t3 tc;show aC (rE td rfl (aC (Py td λhe te se=>aC (Am (aQ (aQ ?_))))))
 replace te:IsPair he TO x y:=te
 show aC (rE te rfl (aC (wpAny_newTuple ?_)));let size:he.objs.size=s.heap.objs.size:=by rw[se.1,sd.1,sc.1,sb.1,sa.1]
 let ze:IsZip he z TI TO .ellipsis:=se.extBut _ _ z2 (sd.extBut _ _ z4 (sc.extBut _ _ z2 (sb.extBut _ _ z3 za)));let kept:∀c o,c≠z->c≠TO->c≠i1->c≠i2->s.heap.get? c=some o->he.get? c=some o:=λc o c1 c2 c3 c4 e=>se.extBut _ _ c2 (sd.extBut _ _ c4 (sc.extBut _ _ c2 (sb.extBut _ _ c3 (sa.extBut _ _ c1 e))));let e1:st1 (k+1) he:=N1.keep _ _ _ k1 λc o kI e=>by
  rcases kI with rfl|rfl
  .exact se.extBut _ _ t2.symm (sd.extBut _ _ j3 e)
  .exact se.extBut _ _ t4.symm (sd.extBut _ _ j6.symm e)
 let e2:st2 (k+1) he:=N2.keep _ _ _ sd2 λc o kI e=>by
  rcases kI with rfl|rfl
  .exact se.extBut _ _ t3.symm e
  .exact se.extBut _ _ t5.symm e
 change wpAny _ A.in1 (Builtin.SmallTypes.ownedTupleHandOut (.ref z) (.ref he.objs.size) >>= _) _ _ _;show aC ?_;unfold Builtin.SmallTypes.ownedTupleHandOut;let zf:IsZip (he.push {cls:=.type "tuple",data:=.seq #[x,y]}) z TI TO .ellipsis:=cR _ ze;show aC (DY zf R3 λhg zg sg=>DY zg R3 λhh zh sh=>aQ ⟨_,rfl,aQ ?_⟩)
 replace zh:IsZip hh z TI TO (rawInt he.objs.size):=zh
 let up:∀c o,c≠z->he.get? c=some o->hh.get? c=some o:=λc o c1 e=>sh.extBut _ _ c1 (sg.extBut _ _ c1 (cR _ e));let lz:z<he.objs.size:=bZ ze;let tn:IsPair hh he.objs.size x y:=sh.extBut _ _ (wC lz) (sg.extBut _ _ (wC lz) (fB _ rfl));let sz:hh.objs.size=he.objs.size+1:=by rw[sh.1,sg.1,vL]
 rw[size]at zh tn sz;change Q (some (.ref he.objs.size)) _;rw[size];show q hh zh (up _ _ z2.symm te) (N1.keep _ _ _ e1 λc o kI e=>up c o (by rcases kI with rfl|rfl;show z3.symm;show z5.symm) e) (N2.keep _ _ _ e2 λc o kI e=>up c o (by rcases kI with rfl|rfl;show z4.symm;show z6.symm) e) tn sz λc o c1 c2 c3 c4 e=>up c o c1 (kept c o c1 c2 c3 c4 e)
def zkl(hn:A.handled=none)(N1:jT prog w i1 l1 st1 xs)(N2:jT prog w i2 l2 st2 ys)(D:mQ z TI TO i1 i2 l1 l2)(hz:IsZip s.heap z TI TO .none)(R4:IsPair s.heap TI (.ref i1) (.ref i2))(R5:IsPair s.heap TO a b)
  (h1:st1 k s.heap) (h2:st2 k s.heap) (hx:xs[k]?=none\/ys[k]?=none) (q:∀h',(∀c o,c≠z->c≠TO->c≠i1->c≠i2->s.heap.get? c=some o->h'.get? c=some o)->Q none {s with heap:=h'}):wpAny (model prog w) A (pyNext (.ref z)) Q E s:=by
 let⟨⟨z1,z2,z3,z4,z5,z6⟩,⟨t1,t2,t3,t4,t5⟩,⟨j1,j2,j3,j4,j5,j6,j7⟩⟩:=D;let hT:s.TypeIs (.ref z) "zip":=⟨_,hz,rfl⟩;let stop:∀(h':Heap) (e:Addr),(∀c o,c≠z->c≠TO->c≠i1->c≠i2->s.heap.get? c=some o->h'.get? c=some o)->(∃o,h'.get? e=some o/\o.cls=.type "StopIteration")->
   wpAny (model prog w) A (do if <-isInstance (.ref e) (.type "StopIteration") then pure none else throw (.ref e):Sem (Option Value)) Q E {s with heap:=h'}:=λh' e kp ⟨o,ho,hc⟩=>
  aC (Ln (T:="StopIteration") (b:=true) ⟨o,ho,hc⟩ isSubtype_stop (aQ (q h' kp)))
 unfold pyNext;show aC (wpAny_attempt (Ab (name:=Str.ofString "__next__") hT Lq (yF Lq hT F.entry_zip_next ?_ (F.args_zip_next_1 _))));change wpAny _ A.in1 (field (.ref z) 2 >>= _) _ _ s;show aC (pA hz rfl (x:=.bool false) rfl ?_);change wpAny _ A.in1 (field (.ref z) 3 >>= _) _ _ s;show aC (pA hz rfl (x:=.ref TI) rfl (aC (rE R4 rfl ?_)));change wpAny _ A.in1 (Builtin.SmallTypes.ownedTupleIsFree (.ref z) >>= _) _ _ s;show aC ?_;unfold Builtin.SmallTypes.ownedTupleIsFree;show aC (pA hz rfl (x:=.none) rfl (aQ ?_));simp only[if_true];show aC (yJ (aC (pA hz rfl (x:=.ref TO) rfl (aC (DY hz R3 λha za sa=>aC ?_)))))
 replace za:IsZip ha z TI TO .ellipsis:=za
 simp only[List.zipIdx_cons,List.zipIdx_nil,Ek,Lx];show aC (aC (wpAny_onRaise ?_));change wpAny _ A.in1 (Builtin.SmallTypes.nextOf (.ref i1) >>= _) _ _ _;let ka:st1 k ha:=N1.keep _ _ _ h1 λc o hc e=>sa.extBut c o (by rcases hc with rfl|rfl;show z3.symm;show z5.symm) e;cases ex:xs[k]? with
 |none=>
  show aC (N1.fin _ _ {s with heap:=ha} k _ hn ka ex λhb e sb se=>?_);let⟨oe,ho,hc⟩:=se;let zb:IsZip hb z TI TO .ellipsis:=sb _ _ z3 za;let ne:e≠z:=λy=>by subst y;rw[zb]at ho;cases ho;simp at hc
  show DY zb R3 λhd _ sd=>stop hd e (λc o c1 _ c3 _ y=>sd.extBut _ _ c1 (sb _ _ c3 (sa.extBut _ _ c1 y))) ⟨oe,sd.extBut _ _ ne ho,hc⟩
 |some x=>
  let ey:ys[k]?=none:=by
   rcases hx with y|y
   .rw[ex]at y;cases y
   .exact y
  show aC (N1.item _ _ {s with heap:=ha} k x _ ka ex λhb Yq sb=>aQ ?_);let tb:IsPair hb TO a b:=sb.extBut _ _ t2 (sa.extBut _ _ z2.symm R5);show aC (rE tb rfl (aC (Py tb λhc tc sc=>aC (Am (aQ ?_)))));show aC (aC (wpAny_onRaise ?_));change wpAny _ A.in1 (Builtin.SmallTypes.nextOf (.ref i2) >>= _) _ _ _;let k2:st2 k hc:=N2.keep _ _ _ h2 λc o kI e=>by
   rcases kI with rfl|rfl
   .exact sc.extBut _ _ t3.symm (sb.extBut _ _ j3.symm (sa.extBut _ _ z4.symm e))
   .exact sc.extBut _ _ t5.symm (sb.extBut _ _ j5.symm (sa.extBut _ _ z6.symm e))
  show aC (N2.fin _ _ {s with heap:=hc} k _ hn k2 ey λhd e sd se=>?_);let⟨oe,ho,yU⟩:=se;let zd:IsZip hd z TI TO .ellipsis:=sd _ _ z4 (sc.extBut _ _ z2 (sb.extBut _ _ z3 za));let ne:e≠z:=λy=>by subst y;rw[zd]at ho;cases ho;simp at yU
  show DY zd R3 λhf _ sf=>stop hf e (λc o c1 c2 c3 c4 y=>sf.extBut _ _ c1 (sd _ _ c4 (sc.extBut _ _ c2 (sb.extBut _ _ c3 (sa.extBut _ _ c1 y))))) ⟨oe,sf.extBut _ _ ne ho,yU⟩
end
def Ck:Bool->Heap->Addr->Array Value->Prop
 |true,h,l,xs=>h.IsList l xs|false,h,l,xs=>h.IsTuple l xs
def Rk:Bool->Addr->Addr->Nat->Heap->Prop
 |true,it,l,i,h=>h.IsListIter it l i|false,it,l,i,h=>h.IsTupleIter it l i
def Sk:Bool->W.Frag->Hp->Addr->List V->Prop
 |true,K,H,l,xs=>c7 K H l xs|false,K,H,l,xs=>fC K H l xs
def gq:Bool->Addr->Obj
 |true,l=>{cls:=.type "list_iterator",data:=.fields #[.ref l,.int 0 0]}|false,l=>{cls:=.type "tuple_iterator",data:=.fields #[.ref l,.int 0 0]}
def jT.of(kd:Bool)(uN:l≠it):jT prog w it l (λi h=>Rk kd it l i h/\Ck kd h l its) its:=by
 cases kd
 .exact jT.tuple uN
 .exact jT.list uN
def Ck.keep(x:Ck kd h l xs)(k:∀o,h.get? l=some o->h'.get? l=some o):Ck kd h' l xs:=by
 cases kd
 .exact IsTuple.at' x k
 .exact Heap.IsList.at x k
def Rk.keep(x:Rk kd it l i h)(k:∀o,h.get? it=some o->h'.get? it=some o):Rk kd it l i h':=by
 cases kd
 .exact IsTupleIter.at' x k
 .exact Heap.IsListIter.at x k
def Rk.obj(x:Rk kd it l i h):∃o,h.get? it=some o/\∀v,o.data≠.cell v:=by
 cases kd
 .obtain⟨o,e,c,d⟩:=x;show⟨o,e,λv z=>by rw[d]at z;cases z⟩
 .obtain⟨o,e,c,d⟩:=x;show⟨o,e,λv z=>by rw[d]at z;cases z⟩
def Ck.lt(x:Ck kd h l xs):l<h.objs.size:=by
 cases kd
 .obtain⟨o,e,_⟩:=x;show bZ e
 .obtain⟨o,e,_⟩:=x;show bZ e
section
variable {prog:Program}{w:World}{A:Around}{E:Value->Shared->Prop}{s:Shared}
def MP(c:Ck kd s.heap l xs)(q:Q (.ref s.heap.objs.size) {s with heap:=s.heap.push (gq kd l)}):wpAny (model prog w) A (pyIter (.ref l)) Q E s:=by
 cases kd
 .exact wpAny_pyIter_tuple c q
 .exact Lh c q
end
def zH(h:Heap)(k1 k2:Bool)(l1 l2:Addr):Heap:=((((h.push (gq k1 l1)).push (gq k2 l2)).push {cls:=.type "tuple",data:=.seq #[.ref h.objs.size,.ref (h.push (gq k1 l1)).objs.size]}).push {cls:=.type "tuple",data:=.seq #[.none,.none]}).push
 {cls:=.type "zip",data:=.fields #[.none,.bool false,.bool false,.ref ((h.push (gq k1 l1)).push (gq k2 l2)).objs.size,.ref (((h.push (gq k1 l1)).push (gq k2 l2)).push {cls:=.type "tuple",data:=.seq #[.ref h.objs.size,.ref (h.push (gq k1 l1)).objs.size]}).objs.size]}
theorem zhu(k1 k2:Bool)(l1 l2:Addr)(xs ys:Array Value):Meets (Builtin.«zip.__new__» ⟨[.type "zip",.ref l1,.ref l2],[]⟩) (λ_ R s=>Ck k1 s.heap l1 xs/\Ck k2 s.heap l2 ys /\
   R (.ok (.ret (.ref ((((s.heap.push (gq k1 l1)).push (gq k2 l2)).push {cls:=.type "tuple",data:=.seq #[.ref s.heap.objs.size,.ref (s.heap.push (gq k1 l1)).objs.size]}).push {cls:=.type "tuple",data:=.seq #[.none,.none]}).objs.size))) {s with heap:=zH s.heap k1 k2 l1 l2}):=
 .of_wp λprog w A R s h=>by
  let⟨hp,g,d,tk,os⟩:=s;let⟨c1,c2,h⟩:=h;let hsub:=sub_zip;let C1:Ck k1 (Shared.heap ⟨hp,g,d,tk,os⟩) l1 xs:=c1;let C2:Ck k2 (Shared.heap ⟨hp.push (gq k1 l1),g,d,tk,os⟩) l2 ys:=c2.keep λo e=>cR _ e
  wp_walk using MP C1,MP C2
  show⟨_,rfl,h⟩
section
variable {prog:Program}{w:World}{A:Around}{E:Value->Shared->Prop}{s:Shared}
def zkp(c1:Ck k1 s.heap l1 xs)(c2:Ck k2 s.heap l2 ys)
  (h:∀h',IsZip h' (s.heap.objs.size+4) (s.heap.objs.size+2) (s.heap.objs.size+3) .none->IsPair h' (s.heap.objs.size+2) (.ref s.heap.objs.size) (.ref (s.heap.objs.size+1))->IsPair h' (s.heap.objs.size+3) .none .none->
   Rk k1 s.heap.objs.size l1 0 h'->Rk k2 (s.heap.objs.size+1) l2 0 h'->(∀c o,s.heap.get? c=some o->h'.get? c=some o)->Q (.ref (s.heap.objs.size+4)) {s with heap:=h'}) :
  wpAny (model prog w) A (call (.type "zip") [.ref l1,.ref l2]) Q E s:=by
 show callType_new F.called_zip J0 (F.typeCall_zip_2 _ _) (F.newCall_zip_2 _ _) (λobj=>F.args_object_init_3 obj _ _) F.entry_zip_new (zhu k1 k2 l1 l2 xs ys) ⟨c1,c2,?_⟩;let n1:(s.heap.push (gq k1 l1)).objs.size=s.heap.objs.size+1:=vL ..;let n2:((s.heap.push (gq k1 l1)).push (gq k2 l2)).objs.size=s.heap.objs.size+2:=by rw[vL,n1]
 let fr:∀kd l,(gq kd l).isFreed=false:=λkd l=>by cases kd<;>rfl
 let rk:∀{h:Heap} {a:Addr} {kd:Bool} {l:Addr},h.get? a=some (gq kd l)->Rk kd a l 0 h:=λ{h a kd l} e=>by
  cases kd
  .exact⟨_,e,rfl,rfl⟩
  .exact⟨_,e,rfl,rfl⟩
 let o1:(s.heap.push (gq k1 l1)).get? s.heap.objs.size=some (gq k1 l1):=fB _ (fr _ _);let o2:((s.heap.push (gq k1 l1)).push (gq k2 l2)).get? (s.heap.objs.size+1)=some (gq k2 l2):=by
  let:=fB (s.heap.push (gq k1 l1)) (o:=gq k2 l2) (fr _ _);rw[n1]at this;show this
 generalize hA:(s.heap.push (gq k1 l1)).push (gq k2 l2)=M4 at *;let eH:zH s.heap k1 k2 l1 l2=((M4.push {cls:=.type "tuple",data:=.seq #[.ref s.heap.objs.size,.ref (s.heap.objs.size+1)]}).push {cls:=.type "tuple",data:=.seq #[.none,.none]}).push {cls:=.type "zip",data:=.fields #[.none,.bool false,.bool false,.ref (s.heap.objs.size+2),.ref (s.heap.objs.size+3)]}:=by
  unfold zH;rw[hA,n1,n2,vL,n2]
 let n3:(M4.push {cls:=.type "tuple",data:=.seq #[.ref s.heap.objs.size,.ref (s.heap.objs.size+1)]}).objs.size=s.heap.objs.size+3:=by rw[vL,n2]
 let n4:((M4.push {cls:=.type "tuple",data:=.seq #[.ref s.heap.objs.size,.ref (s.heap.objs.size+1)]}).push {cls:=.type "tuple",data:=.seq #[.none,.none]}).objs.size=s.heap.objs.size+4:=by rw[vL,n3]
 rw[n1,n4];let g5:(zH s.heap k1 k2 l1 l2).get? (s.heap.objs.size+4)=some {cls:=.type "zip",data:=.fields #[.none,.bool false,.bool false,.ref (s.heap.objs.size+2),.ref (s.heap.objs.size+3)]}:=by
  rw[eH,<-n4];show fB _ rfl
 let g4:(zH s.heap k1 k2 l1 l2).get? (s.heap.objs.size+3)=some {cls:=.type "tuple",data:=.seq #[.none,.none]}:=by
  rw[eH,<-n3];show cR _ (fB _ rfl)
 let g3:(zH s.heap k1 k2 l1 l2).get? (s.heap.objs.size+2)=some {cls:=.type "tuple",data:=.seq #[.ref s.heap.objs.size,.ref (s.heap.objs.size+1)]}:=by
  rw[eH,<-n2];show cR _ (cR _ (fB _ rfl))
 let up:∀c o,M4.get? c=some o->(zH s.heap k1 k2 l1 l2).get? c=some o:=λc o e=>by rw[eH];show cR _ (cR _ (cR _ e))
 show⟨⟨_,g5,rfl⟩,h _ g5 g3 g4 (rk (up _ _ ?_)) (rk (up _ _ o2)) λc o e=>up _ _ ?_⟩
 .rw[<-hA];show cR _ o1
 .rw[<-hA];show cR _ (cR _ e)
end
def R6(K:W.Frag)(k1 k2:Bool)(l1 l2:Addr):It:=
 ⟨λi H=>∃xs ys x y,Sk k1 K H l1 xs/\Sk k2 K H l2 ys/\xs[i]?=some x/\ys[i]?=some y,
  λi H v H'=>∃a x y,H a=none/\v=.ref a/\H'=upd H a (.tup [x,y])/\(∀xs,Sk k1 K H l1 xs->xs[i]?=some x)/\∀ys,Sk k2 K H l2 ys->ys[i]?=some y,
  λi H=>∃xs ys,Sk k1 K H l1 xs/\Sk k2 K H l2 ys/\(xs.length<=i\/ys.length<=i)⟩
section
variable {X:Cx}{ao:List (Addr×Obj)}{Z:St}{H:Hp}{s:Shared}{kd:Bool}{l:Addr}{xs ys:List V}
def Inv.row(I:Inv X ao Z H s)(h:Sk kd X.K H l xs):∃its:List Value,Vals xs its/\Ck kd s.heap l its.toArray:=by
 cases kd
 .obtain⟨its,rv,p,hz⟩:=I.tuple h;show⟨its,rv,p⟩
 .obtain⟨its,rv,p,hz⟩:=I.list h;show⟨its,rv,p.isList⟩
def Inv.mR(I:Inv X ao Z H s)(h:Sk kd X.K H l xs)(h':Sk kd X.K H l ys):xs=ys:=by
 cases kd
 .exact I.lK h h'
 .exact I.nT h h'
end
def zhp{P:Program}{w:World}{K:W.Frag}{elts:List Expr}{kk:Nat}{pos:Pos}{k1 k2:Bool}{l1 l2 z TI TO i1 i2:Addr}(D:mQ z TI TO i1 i2 l1 l2) :
  Turn P w K (.Tuple elts kk pos) (R6 K k1 k2 l1 l2) [z,TI,TO,i1,i2] z (λi h=>IsZip h z TI TO .none/\IsPair h TI (.ref i1) (.ref i2)/\(∃a b,IsPair h TO a b)/\Rk k1 i1 l1 i h/\Rk k2 i2 l2 i h) where
 mem:=by simp
 obj:=λi h ⟨a1,a2,⟨p,q,a3⟩,a4,a5⟩ b hb=>by
  let:b=z\/b=TI\/b=TO\/b=i1\/b=i2:=by simpa using hb
  rcases this with rfl|rfl|rfl|rfl|rfl
  .exact⟨_,a1,λv y=>by cases y⟩
  .exact⟨_,a2,λv y=>by cases y⟩
  .exact⟨_,a3,λv y=>by cases y⟩
  .exact a4.obj
  .exact a5.obj
 keep:=λi h h' ⟨a1,a2,⟨p,q,a3⟩,a4,a5⟩ k=>⟨k z R3 _ a1,k TI R3 _ a2,⟨p,q,k TO R3 _ a3⟩,a4.keep λo e=>k i1 R3 o e,a5.keep λo e=>k i2 R3 o e⟩
 item:=by
  rintro X hP hw hK hc i ao s Z H E I hf ⟨a1,a2,⟨p,q,a3⟩,a4,a5⟩ hg;subst hP hw hK;let⟨xs,ys,x,y,Fe,Fg,hx,hy⟩:=hg;let⟨Yr,M5,c1⟩:=I.row Fe;let⟨yW,M6,c2⟩:=I.row Fg;let⟨u,hu,ru⟩:=M5.get hx;let⟨v,hv,rv⟩:=M6.get hy;let D':=D;let⟨⟨z1,z2,z3,z4,z5,z6⟩,⟨t1,t2,t3,t4,t5⟩,⟨j1,j2,j3,j4,j5,j6,j7⟩⟩:=D';show ziz (jT.of k1 j4.symm) (jT.of k2 j7.symm) D a1 a2 a3 ⟨a4,c1⟩ ⟨a5,c2⟩ (x:=u) (y:=v) (by simpa using hu) (by simpa using hv) λh1 b1 b2 b3 b4 b5 b6 kp=>?_;show⟨_,rfl,wpAny_letOwnedTupleGo_zip (s:={s with heap:=h1}) b1 λh2 e2 sb=>?_⟩;let R7:IsPair h2 s.heap.objs.size u v:=(sb.2 _ (wC (bZ a1))).trans b5;let kk:∀b o,b∉[z,TI,TO,i1,i2]->s.heap.get? b=some o->h2.get? b=some o:=λb o hb e=>(sb.2 b λy=>hb (by simp[y])).trans (kp b o (λy=>hb (by simp[y])) (λy=>hb (by simp[y])) (λy=>hb (by simp[y])) (λy=>hb (by simp[y])) e);let I2:=I.lN (t':=s.toks) (a:=s.heap.objs.size) (o:=.tup [x,y]) kk (λb hb=>hf b hb) (bQ _) (show bT X.prog X.w _ h2 _ (.tup [x,y]) from ⟨by change 2<=sizeLine;decide,[u,v],.cons ru (.cons rv .nil),⟨_,R7,rfl,_,rfl,rfl⟩⟩);let hn:H s.heap.objs.size=none:=I.hok.fresh (bQ _);show⟨.ref s.heap.objs.size,_,I2,rfl,⟨_,x,y,hn,rfl,rfl,λzs hz=>by rw[I.mR hz Fe];show hx,λzs hz=>by rw[I.mR hz Fg];show hy⟩,⟨e2,(sb.2 _ z1.symm).trans (kp _ _ z1.symm t1.symm j1 j2 a2),⟨_,_,(sb.2 _ z2.symm).trans b2⟩,b3.1.keep λo e=>(sb.2 _ z3.symm).trans e,b4.1.keep λo e=>(sb.2 _ z4.symm).trans e⟩,λb hb=>?_⟩;let nb:b≠s.heap.objs.size:=by
   let:b=z\/b=TI\/b=TO\/b=i1\/b=i2:=by simpa using hb
   rcases this with rfl|rfl|rfl|rfl|rfl
   .exact dN (bZ a1)
   .exact dN (bZ a2)
   .exact dN (bZ a3)
   .obtain⟨o,e,_⟩:=a4.obj;show dN (bZ e)
   .obtain⟨o,e,_⟩:=a5.obj;show dN (bZ e)
  rw[dj nb];show(hf b hb).1
 done:=by
  rintro X hP hw hK hc i ao s Z H E I hf ⟨a1,a2,⟨p,q,a3⟩,a4,a5⟩ hg;subst hP hw hK;let⟨xs,ys,Fe,Fg,hx⟩:=hg;let⟨Yr,M5,c1⟩:=I.row Fe;let⟨yW,M6,c2⟩:=I.row Fg;let n1:=M5.length;let n2:=M6.length;show zkl (I.ok.hd hc) (jT.of k1 D.is.2.2.2.1.symm) (jT.of k2 D.is.2.2.2.2.2.2.symm) D a1 a2 a3 ⟨a4,c1⟩ ⟨a5,c2⟩ ?_ λh' kp=>⟨rfl,I.qJ (t':=s.toks) (ch:=[z,TI,TO,i1,i2]) (λb o hb e=>kp b o (λy=>hb (by simp[y])) (λy=>hb (by simp[y])) (λy=>hb (by simp[y])) (λy=>hb (by simp[y])) e) λb hb=>hf b hb⟩;rcases hx with y|y
  .exact .inl (by simp;lia)
  .exact .inr (by simp;lia)
 self:=λ_ _ _ _ _ ⟨a1,_⟩ h=>wpAny_pyIter_zip a1 h
section
variable {X:Cx}
def R8(K:W.Frag)(ta:TA):TI:=λZ H R=>ta Z H λvs H1=>∃k1 k2 l1 l2 xs ys,vs=[.ref l1,.ref l2]/\Sk k1 K H1 l1 xs/\Sk k2 K H1 l2 ys/\R (R6 K k1 k2 l1 l2) H1
def zh5:bootBuiltins "zip"=some (.type "zip"):=by decide +kernel
def zno{a b:Expr}{ta:TA}{p pos tpos:Pos}{elts:List Expr}{kk:Nat}(hg:Gl X "zip")(hm:X.mg "zip"=none)(ha:PA X [a,b] ta)(hs:starEach [a,b] X.env=[(false,eval a X.env),(false,eval b X.env)]:=by rfl)(wH:starEach [b] X.env=[(false,eval b X.env)]:=by rfl) :
  PI X (.Tuple elts kk tpos) (.Call (.Name "zip" p) [a,b] [] pos) (R8 X.K ta):=by
 intro ao s Z H R I h;show Call_ (ug I hg hm zh5 (v7 (aV (ha pos ao s Z H _ I h) λus s1 hz=>?_) (by rw[hs,wH]) (by rw[wH];rfl)));let⟨vs,H1,I1,r1,q1⟩:=hz;let⟨k1,k2,l1,l2,xs,ys,e,Fe,Fg,q⟩:=q1;subst e;cases r1 with
 |cons r rr=>
  cases rr with
  |cons r' rr=>
   cases rr;cases r;cases r';let⟨Yr,M5,c1⟩:=I1.row Fe;let⟨yW,M6,c2⟩:=I1.row Fg;let m1:=c1.lt;let m2:=c2.lt;show zkp c1 c2 λh' b1 b2 b3 b4 b5 kp=>?_;show wpAny_pyIter_zip b1 ?_;let ne:∀{u v:Nat},u<v->u≠v:=λh=>dN h;let D:mQ (s1.heap.objs.size+4) (s1.heap.objs.size+2) (s1.heap.objs.size+3) s1.heap.objs.size (s1.heap.objs.size+1) l1 l2:=
    ⟨⟨(ne gV).symm,(ne gV).symm,(ne gV).symm,(ne gV).symm,(ne (jm m1 gV)).symm,(ne (jm m2 gV)).symm⟩,
     ⟨(ne gV).symm,(ne gV).symm,(ne gV).symm,(ne (jm m1 gV)).symm,(ne (jm m2 gV)).symm⟩,
     ⟨(ne gV).symm,(ne gV).symm,ne gV,(ne m1).symm,(ne m2).symm,(ne (jm m1 gV)).symm,(ne (jm m2 gV)).symm⟩⟩
   show⟨s1.heap.objs.size+4,[s1.heap.objs.size+4,s1.heap.objs.size+2,s1.heap.objs.size+3,s1.heap.objs.size,s1.heap.objs.size+1],_,_,H1,rfl,I1.kept (t':=s1.toks) kp,zhp D,⟨b1,b2,⟨_,_,b3⟩,b4,b5⟩,λb hb=>?_,q⟩;let:s1.heap.objs.size<=b:=by
    let:b=s1.heap.objs.size+4\/b=s1.heap.objs.size+2\/b=s1.heap.objs.size+3\/b=s1.heap.objs.size\/b=s1.heap.objs.size+1:=by simpa using hb
    rcases this with rfl|rfl|rfl|rfl|rfl<;>lia
   show I1.rM this (I1.hok.fresh this)
end
def Ite(K:W.Frag)(kd:Bool)(l:Addr):It:=
 ⟨λi H=>∃xs x,Sk kd K H l xs/\xs[i]?=some x,λi H v H'=>∃a x,H a=none/\v=.ref a/\H'=upd H a (.tup [.int i,x])/\∀xs,Sk kd K H l xs->xs[i]?=some x,λi H=>∃xs,Sk kd K H l xs/\xs.length<=i⟩
theorem Bw{prog:Program}{w:World}{A:Around}(hh:A.handled=none)(kd:Bool){it l:Addr}(uN:l≠it)(its:Array Value):Draws prog w A it [it,l] its.size (λi v=>its[i]?=some v) (λi h=>Rk kd it l i h/\Ck kd h l its) where
 live:=λ_ _ st=>let ⟨o,e,_⟩:=st.1.obj;⟨o,e⟩
 frame:=λ_ _ _ st k=>⟨st.1.keep λo e=>k it R3 o e,st.2.keep λo e=>k l R3 o e⟩
 item:=λi s Q E hi st q=>(jT.of kd uN).item A E s i its[i] Q st (by simp[hi]) λh' a b=>q _ h' s.toks (by simp[hi]) a b
 done:=λs Q E st q=>(jT.of kd uN).fin A E s its.size Q hh st R3 q
theorem zim(kd:Bool)(l:Addr)(xs:Array Value):Meets (Builtin.«enumerate.__new__» ⟨[.type "enumerate",.ref l],[]⟩) (λ_ R s=>Ck kd s.heap l xs /\
   R (.ok (.ret (.ref (s.heap.push (gq kd l)).objs.size))) {s with heap:=(s.heap.push (gq kd l)).push {cls:=.type "enumerate",data:=.fields #[.none,.bool false,.ref s.heap.objs.size,rawInt 0,.none,.none]}}):=
 .of_wp λprog w A R s h=>by
  let⟨hp,g,d,tk,os⟩:=s;let⟨c1,h⟩:=h;let hsub:=sub_enumerate;let C1:Ck kd (Shared.heap ⟨hp,g,d,tk,os⟩) l xs:=c1;obtain⟨ol,el⟩ : ∃o,hp.get? l=some o:=by
   cases kd
   .obtain⟨o,e,_⟩:=c1;show⟨o,e⟩
   .obtain⟨o,e,_⟩:=c1;show⟨o,e⟩
  wp_walk using K_ el
  show wpAny_stack_any λst=>aQ ?_
  split
  .rename_i c _ _ _ _ _;cases (c==Value.type "enumerate")<;>(wp_walk using K_ el,MP C1;show⟨_,rfl,h⟩)
  .wp_walk using K_ el,MP C1
   show⟨_,rfl,h⟩
def zhW{prog:Program}{w:World}{A:Around}{E:Value->Shared->Prop}{s:Shared}{e it l:Addr}{its:Array Value}{st:Nat->Heap->Prop}{i:Nat}{old:Value}{Q:Option Value->Shared->Prop}(hh:A.handled=none)(N:jT prog w it l st its)(he:IsEnum s.heap e it i old)(rK:st i s.heap)(hx:its[i]?=none)
  (q:∀h',Heap.ExtBut it s.heap h'->Q none {s with heap:=h'}):wpAny (model prog w) A (pyNext (.ref e)) Q E s:=by
 let ty:s.TypeIs (.ref e) "enumerate":=⟨_,he,rfl⟩;let body:∀{E':Value->Shared->Prop},(∀h' x,Heap.ExtBut it s.heap h'->(∃o,h'.get? x=some o/\o.cls=.type "StopIteration")->E' (.ref x) {s with heap:=h'})->wpAny (model prog w) A.in1 (Builtin.«enumerate.__next__» ⟨[.ref e],[]⟩) (λ_ _=>False) E' s:=λk=>by
  change wpAny _ A.in1 (field (.ref e) 2 >>= _) _ _ _;show aC (pA he rfl (x:=.ref it) rfl (aC (N.fin A.in1 _ s i _ hh rK hx k)))
 unfold pyNext;show aC (wpAny_attempt (Ab (name:=Str.ofString "__next__") ty F.slot_enumerate_next (yF F.slot_enumerate_next ty F.entry_enumerate_next (iM (body λh' x a b=>?_) (λ_ _ z=>z.elim) λ_ _ z=>z) (F.args_enumerate_next_1 _))));let⟨o,a1,a2⟩:=b;show aC (Ln (T:="StopIteration") (b:=true) ⟨o,a1,a2⟩ isSubtype_stop (aQ (q h' a)))
def zfZ{P:Program}{w:World}{K:W.Frag}{elts:List Expr}{kk:Nat}{pos:Pos}{kd:Bool}{l e it:Addr}(R9:e≠it)(Ys:l≠it)(hle:l≠e) :
  Turn P w K (.Tuple elts kk pos) (Ite K kd l) [e,it] e (λi h=>(∃old,IsEnum h e it i old)/\Rk kd it l i h) where
 mem:=by simp
 obj:=λi h ⟨⟨old,he⟩,st⟩ b hb=>by
  let:b=e\/b=it:=by simpa using hb
  rcases this with rfl|rfl
  .exact⟨_,he,λv z=>by cases z⟩
  .exact st.obj
 keep:=λi h h' ⟨⟨old,he⟩,st⟩ k=>⟨⟨old,k e R3 _ he⟩,st.keep λo e=>k it R3 o e⟩
 item:=by
  rintro X hP hw hK hc i ao s Z H E I hf ⟨⟨old,he⟩,st⟩ hg;subst hP hw hK;let⟨xs,x,hq,hx⟩:=hg;let⟨its,rv,p⟩:=I.row hq;let⟨u,hu,ru⟩:=rv.get hx;let cW:i<its.toArray.size:=by simpa using (cJ.mp hu).1
  show wpAny_pyNext_enum_itemD (Bw (A:=X.A.in1) (I.ok.hd hc) kd Ys its.toArray) he ⟨st,p⟩ cW R9 (by simp[R9,hle.symm]) λu' h1 tk hP ho R_ hT hsz hk=>?_;let eu:u'=u:=by
   let:its[i]?=some u':=by simpa using hP
   rw[hu]at this;cases this;rfl
  subst eu;show⟨_,rfl,wpAny_letOwnedTupleGo_enum (s:={s with heap:=h1,toks:=tk+1}) ho λh2 he2 sb=>?_⟩;let R7:h2.get? s.heap.objs.size=some {cls:=.type "tuple",data:=.seq #[.int i tk,u']}:=(sb.2 _ (wC (bZ he))).trans hT;let kk:∀b o,b∉[e,it]->s.heap.get? b=some o->h2.get? b=some o:=λb o hb q=>(sb.2 b λz=>hb (by simp[z])).trans (hk b o (λz=>hb (by simp[z])) (λz=>hb (by simp[z])) q);let I2:=I.lN (t':=tk+1) (a:=s.heap.objs.size) (o:=.tup [.int i,x]) kk (λb hb=>hf b hb) (bQ _) (show bT X.prog X.w _ h2 _ (.tup [.int i,x]) from ⟨by change 2<=sizeLine;decide,[.int i tk,u'],.cons ⟨_,rfl⟩ (.cons ru .nil),⟨_,R7,rfl,_,rfl,rfl⟩⟩);let hn:H s.heap.objs.size=none:=I.hok.fresh (bQ _);show⟨.ref s.heap.objs.size,_,I2,rfl,⟨_,x,hn,rfl,rfl,λys hy=>by rw[I.mR hy hq];show hx⟩,⟨⟨_,by simpa using he2⟩,R_.1.keep λo q=>(sb.2 it R9.symm).trans q⟩,λb hb=>?_⟩;let nb:b≠s.heap.objs.size:=by
   let:b=e\/b=it:=by simpa using hb
   rcases this with rfl|rfl
   .exact dN (bZ he)
   .obtain⟨o,q,_⟩:=st.obj;show dN (bZ q)
  rw[dj nb];show(hf b hb).1
 done:=by
  rintro X hP hw hK hc i ao s Z H E I hf ⟨⟨old,he⟩,st⟩ hg;subst hP hw hK;let⟨xs,hq,hx⟩:=hg;let⟨its,rv,p⟩:=I.row hq;let hl:=rv.length;show zhW (I.ok.hd hc) (jT.of kd Ys) he ⟨st,p⟩ (by simp;lia) λh' eb=>⟨rfl,I.qJ (t':=s.toks) (ch:=[e,it]) (λb o hb q=>eb b o (λz=>hb (by simp[z])) q) λb hb=>hf b hb⟩
 self:=λ_ _ _ _ _ ⟨⟨old,he⟩,_⟩ h=>wpAny_pyIter_enum he h
section
variable {X:Cx}
def Jk(K:W.Frag)(ta:TA):TI:=λZ H R=>ta Z H λvs H1=>∃kd l xs,vs=[.ref l]/\Sk kd K H1 l xs/\R (Ite K kd l) H1
def zhd:bootBuiltins "enumerate"=some (.type "enumerate"):=by decide +kernel
def zj0{a:Expr}{ta:TA}{p pos tpos:Pos}{elts:List Expr}{kk:Nat}(hg:Gl X "enumerate")(hm:X.mg "enumerate"=none)(ha:PA X [a] ta)(hs:starEach [a] X.env=[(false,eval a X.env)]:=by rfl):PI X (.Tuple elts kk tpos) (.Call (.Name "enumerate" p) [a] [] pos) (Jk X.K ta):=by
 intro ao s Z H R I h;show Call_ (ug I hg hm zhd (v7 (aV (ha pos ao s Z H _ I h) λus s1 hz=>?_) hs rfl));let⟨vs,H1,I1,r1,q1⟩:=hz;let⟨kd,l,xs,e,hq,q⟩:=q1;subst e;cases r1 with
 |cons r rr=>
  cases rr;cases r;let⟨its,rv,p⟩:=I1.row hq;let hl:l<s1.heap.objs.size:=p.lt;show callType_new F.called_enumerate J0 (F.typeCall_enumerate_1 _) (F.newCall_enumerate_1 _) (λobj=>F.args_object_init_2 obj _) F.entry_enumerate_new (zim kd l its.toArray) ⟨p,?_⟩;let n1:(s1.heap.push (gq kd l)).objs.size=s1.heap.objs.size+1:=vL ..;let he:IsEnum ((s1.heap.push (gq kd l)).push {cls:=.type "enumerate",data:=.fields #[.none,.bool false,.ref s1.heap.objs.size,rawInt 0,.none,.none]}) (s1.heap.objs.size+1) s1.heap.objs.size 0 .none:=by
   let:=fB (s1.heap.push (gq kd l)) (o:={cls:=.type "enumerate",data:=.fields #[.none,.bool false,.ref s1.heap.objs.size,rawInt 0,.none,.none]}) rfl;rw[n1]at this;show this
  change _/\_;rw[n1];show⟨⟨_,he,rfl⟩,wpAny_pyIter_enum (s:={s1 with heap:=(s1.heap.push (gq kd l)).push {cls:=.type "enumerate",data:=.fields #[.none,.bool false,.ref s1.heap.objs.size,rawInt 0,.none,.none]}}) he ?_⟩;let rk:Rk kd s1.heap.objs.size l 0 ((s1.heap.push (gq kd l)).push {cls:=.type "enumerate",data:=.fields #[.none,.bool false,.ref s1.heap.objs.size,rawInt 0,.none,.none]}):=by
   cases kd
   .exact⟨_,cR _ (fB _ rfl),rfl,rfl⟩
   .exact⟨_,cR _ (fB _ rfl),rfl,rfl⟩
  show⟨s1.heap.objs.size+1,[s1.heap.objs.size+1,s1.heap.objs.size],_,_,H1,rfl,I1.kept (t':=s1.toks) λb o x=>cR _ (cR _ x),zfZ (kd:=kd) (l:=l) (Nat.succ_ne_self _) (dN hl) (dN (vH hl)),⟨⟨_,he⟩,rk⟩,λb hb=>?_,q⟩;let:s1.heap.objs.size<=b:=by
   let:b=s1.heap.objs.size+1\/b=s1.heap.objs.size:=by simpa using hb
   rcases this with rfl|rfl
   .exact Nat.le_succ _
   .exact bQ _
  show I1.rM this (I1.hok.fresh this)
end
end L2
set_option genSizeOf false
set_option genInjectivity false
namespace Mi
open PySem
inductive D where
 |non|bl (b:Bool)|int (i:Int)|str (s:Str)|tup (xs:List D)|fl (xs:List D)|fd (ks vs:List D)|exc (c:Nat) (fs:List D)|ob (c:Nat) (fs:List D)|any
inductive Xv where
 |d (x:D)|l (n:Nat)
inductive Kx where
 |non|int (i:Int)|row (is:List Int)
deriving DecidableEq
inductive SO where
 |lst (xs:List D)
 |dct (kvs:List (List Kx×D))
noncomputable abbrev S:=List SO
inductive Rs (α:Type) where
 |ok (a:α)|er (c:Nat) (fs:List D)
noncomputable abbrev M(α:Type):=S->Option (Rs α×S)
def M.ret{α:Type}(a:α):M α:=λs=>some (.ok a,s)
def M.bd{α β:Type}(m:M α)(k:α->M β):M β:=λs=>match m s with
 |some (.ok a,s')=>k a s'|some (.er c f,s')=>some (.er c f,s')|none=>none
def M.qt{α:Type}(m:M α):M α:=λs=>match m s with
 |some (.ok a,s')=>some (.ok a,s')|_=>none
def M.no{α:Type}:M α:=λ_=>none
def M.opt{α:Type}:Option α->M α
 |some a=>M.ret a|none=>M.no
inductive Rz where
 |dat (d:D)|nw (xs:List D)
inductive Pr where
 |add|aq|mul|fdiv|mod|pow|neg|eq|ne|lt|le|gt|ge|inn|pW|lO|len|abs|max2|min2|rR|Fj|wX|divmod|all|list|tuple|sorted|ix|mult|pB|M7|M8|M9
inductive Kd where
 |int|bool|str|tuple|list|dict|cls (c:Nat)|BJ
mutual
inductive E where
 |c (d:D)
 |v (i:Nat)
 |pr (fz:Bool) (p:Pr) (xs:Es)
 |yX (p q:Pr) (a b c:E)
 |ch3 (p q r:Pr) (a b c d:E)
 |and (a b:E)
 |or (a b:E)
 |not (a:E)
 |ite (c a b:E)
 |tup (xs:Es)
 |lst (fz:Bool) (xs:Es)
 |Jl (k:Str) (i:Int)
 |call (f:Nat) (xs:Es)
 |qK (a:E) (k:Kd)
 |sl (fz:Bool) (a:E) (lo hi:Eo)
 |meth (fz:Bool) (p:Pr) (k:Kd) (o:E) (xs:Es)
 |push (o a:E)
 |pop (o:E)
 |comp (fz:Bool) (elt:E) (tg:List Nat) (it:Wk) (fr:List Nat) (many:Nat) (cond:Eo)
 |lQ (fz:Bool) (elt:E) (tg:List Nat) (it:Wk) (Jm:List Nat) (yW:Wk) (fr:List Nat) (many:Nat) (cond:Eo)
 |fld (o:E) (cs:List Nat) (i:Nat)
 |of (o:E) (c i:Nat)
 |mk (c f:Nat) (xs:Es)
 |cm (c f:Nat) (o:E) (xs:Es)
 |ou
 |wY (b:Bool) (k d:E)
 |k_ (d k:E)
 |Fl (a:E)
 |Jo (fz:Bool) (a:E) (b:E)
 |orv (a b:E)
 |ins (o i a:E)
 |no
inductive Wk where
 |seq (e:E)
 |rg (a b:E)
 |zip (a b:E)
 |enum (a:E)
 |Jp (a:E)
inductive Es where
 |nil
 |cons (a:E) (r:Es)
inductive Eo where
 |no
 |yes (a:E)
end
noncomputable abbrev Ea(a:E):Es:=.cons a .nil
noncomputable abbrev Eb(a b:E):Es:=.cons a (.cons b .nil)
noncomputable abbrev Ec(a b c:E):Es:=.cons a (.cons b (.cons c .nil))
noncomputable abbrev Ei(a b:E):E:=.pr true .ix (.cons a (.cons b .nil))
noncomputable abbrev Ci(i:Int):E:=.c (.int i)
def Es.len:Es->Nat
 |.nil=>0|.cons _ r=>r.len+1
inductive Tg where
 |nm (i:Nat)
 |tp (is:List Nat)
 |aq (o i:E)
mutual
inductive St where
 |pass
 |ex (e:E)
 |asg (t:Tg) (e:E)
 |par (i j:Nat) (a b:E)
 |aug (i:Nat) (e:E)
 |ret (e:E)
 |rise (c:Nat) (kp:Bool) (xs:Es)
 |iff (c:E) (t e:bM)
 |wh (c:E) (b:bM)
 |fr (t:Tg) (w:Wk) (b:bM)
 |Sd (b:bM) (d:Nat) (i:Nat) (h:bM)
 |dput (d k v:E)
 |no
inductive bM where
 |nil
 |cons (a:St) (r:bM)
end
def dO(eq:D->D->Option Bool):List D->List D->Option Bool
 |[],[]=>some true|[],_::_=>some false|_::_,[]=>some false|x::xs,y::ys=>match eq x y,dO eq xs ys with
  |some a,some b=>some (a&&b)|_,_=>none
def kq:D->Option Nat
 |.non=>some 0|.bl _=>some 1|.int _=>some 1|.str _=>some 2|.tup _=>some 3|.fl _=>some 4|_=>none
def cO:Nat->D->D->Option Bool
 |n+1,.tup xs,.tup ys=>dO (cO n) xs ys|n+1,.fl xs,.fl ys=>dO (cO n) xs ys|_,.non,.non=>some true|_,.bl a,.bl b=>some (a==b)|_,.int a,.int b=>some (a==b)|_,.str a,.str b=>some (a==b)|_,.bl a,.int b=>some ((if a then 1 else 0)==b)|_,.int a,.bl b=>some (a==(if b then 1 else 0))|_,a,b=>match kq a,kq b with
  |some i,some j=>if i=j then none else some false|_,_=>none
def bI:List D->Option (List Int)
 |[]=>some []|.int i::r=>(bI r).map (i::·)|_=>none
def ltI:List Int->List Int->Bool
 |_,[]=>false|[],_::_=>true|x::xs,y::ys=>if x=y then ltI xs ys else decide (x<y)
def fP:List D->Option (List Bool)
 |[]=>some []|.bl b::r=>(fP r).map (b::·)|_=>none
def cut{α:Type}(xs:List α)(lo hi:Option Int):List α:=(xs.drop (HT.bU xs.length 0 lo)).take (HT.bU xs.length xs.length hi-HT.bU xs.length 0 lo)
def pX:D->Option (List D)
 |.tup xs=>some xs|.fl xs=>some xs|_=>none
def cutD(x:D)(lo hi:Option Int):Option Rz:=match x with
 |.tup xs=>some (.dat (.tup (cut xs lo hi)))|.fl xs=>some (.nw (cut xs lo hi))|_=>none
def memD(d:D):List D->Option Bool
 |[]=>some false|x::r=>match cO 50 x d,memD d r with
  |some a,some b=>some (a||b)|_,_=>none
def mU:Kd->D->Bool
 |.list,.fl _=>true|.str,.str _=>true|.dict,.fd _ _=>true|.tuple,.tup _=>true|_,_=>false
def dw(f:Int->Int->Option D):List D->Option Rz
 |[.int i,.int j]=>(f i j).map .dat|_=>none
def qL(f:Int->D):List D->Option Rz
 |[.int i]=>some (.dat (f i))|_=>none
def rT(f:List D->Option Rz):List D->Option Rz
 |[a]=>(pX a).bind f|_=>none
def BK:List D->Option Rz
 |[.int i,.int j]=>some (.dat (.int (i+j)))|[.tup xs,.tup ys]=>if xs.length+ys.length<=sizeLine then some (.dat (.tup (xs++ys))) else none|[.fl xs,.fl ys]=>if xs.length+ys.length<=sizeLine then some (.nw (xs++ys)) else none|[.str x,.str y]=>if x.length+y.length<=sizeLine then some (.dat (.str (x++y))) else none|_=>none
def Jq:List D->Option Rz
 |[.int i,.int j]=>some (.dat (.bl (decide (i<j))))|[.tup xs,.tup ys]=>match bI xs,bI ys with
  |some a,some b=>some (.dat (.bl (ltI a b)))|_,_=>none
 |_=>none
def BL(f:Bool->Bool):List D->Option Rz
 |[a,b]=>(cO 50 a b).map λk=>.dat (.bl (f k))|_=>none
def Fp(f:Bool->Bool):List D->Option Rz
 |[a,b]=>((pX b).bind (memD a)).map λk=>.dat (.bl (f k))|_=>none
def D.gG:D->Bool
 |.non=>true|_=>false
def BP(f:Bool->Bool):List D->Option Rz
 |[a]=>some (.dat (.bl (f a.gG)))|_=>none
def Jr:List D->Option Rz
 |[.int i]=>some (.dat (.int i))|[.bl k]=>some (.dat (.int (if k then 1 else 0)))|_=>none
def BR:List D->Option Rz
 |[.fl xs]=>(fP xs).map λbs=>.dat (.bl (bs.all id))|_=>none
def okR(i j:Int):Bool:=decide (-(2^62)<=i/\i<2^62/\-(2^62)<=j/\j<2^62/\(j-i).toNat<=65536)
def Sq(i:Int)(n:Nat):List D:=(List.range n).map λk=>.int (i+(k:Nat))
def BW:List D->Option Rz
 |[.int j]=>if okR 0 j then some (.dat (.tup (Sq 0 (j-0).toNat))) else none|_=>none
def pY:List D->Option Rz
 |[a]=>(pX a).map λxs=>.dat (.tup xs)|_=>none
def Ss:List D->Option Rz
 |[a,.int i]=>((pX a).bind λxs=>L2.qG xs i).map .dat|_=>none
def rW:List D->List D->Option Bool
 |[],ys=>some (decide (0<ys.length))|_::_,[]=>some false|.int x::xs,.int y::ys=>if x=y then rW xs ys else some (decide (x<y))|_::_,_::_=>none
def yZ(xs:List D)(i j:Nat):Option Bool:=match xs[i]?,xs[j]? with
 |some (.int x),some (.int y)=>some (decide (x<y))|some (.tup us),some (.tup ws)=>rW us ws|_,_=>none
def fQ(b:List Int):List (List Int)->List Int
 |[]=>b|x::r=>fQ (if ltI x b=true then x else b) r
def jU:List D->Option (List (List Int))
 |[]=>some []|.tup xs::r=>match bI xs,jU r with
  |some a,some b=>some (a::b)|_,_=>none
 |_=>none
def oA:List D->Option Rz
 |[.fl xs]=>match jU xs with
  |some (x::r)=>some (.dat (.tup ((fQ x r).map .int)))|_=>none
 |_=>none
def mV:D->Bool
 |.int _=>true|_=>false
def i_:D->Bool
 |.tup (.int _::_)=>true|_=>false
def qM(lt:Nat->Nat->Option Bool)(xs:List D):Option (List D):=if xs.length<2 then some xs else if xs.length<64 then (match L2.bV lt (PySem.W.kas_sort xs.length) with
  |some p=>if p.size=xs.length then some (p.toList.map λi=>xs.getD i .non) else none|none=>none) else none
def BX(xs:List D):Option (List D):=if xs.all mV||xs.all i_ then qM (yZ xs) xs else none
def mW:List D->Option Rz
 |[.fl xs]=>(BX xs).map .nw|_=>none
def ltK(ks:List Int)(i j:Nat):Option Bool:=match ks[i]?,ks[j]? with
 |some x,some y=>some (decide (x<y))|_,_=>none
def Js:List (Int×Int):=[(0,1),(0,2),(0,3),(0,4),(0,5),(0,6),(0,7),(1,2),(1,3),(1,4),(1,5),(1,6),(1,7),(2,3),(2,4),(2,5),(2,6),(2,7),(3,4),(3,5),(3,6),(3,7),(4,5),(4,6),(4,7),(5,6),(5,7),(6,7)]
def Jt(x:Int):Bool:=decide (-1<=x/\x<=34)||decide (100000000000000000000<=x/\x<=100000000000000000034)
def okI(is:List Int):Bool:=decide (is.length<=18)&&is.all Jt
def rep{α:Type}(xs:List α)(n:Nat):List α:=(List.replicate n xs).flatten
def zc:List D->Option Rz
 |[.tup xs,.int n]=>if 0<=n/\n<=1000/\1<=xs.length/\xs.length<=1000 then some (.dat (.tup (rep xs n.toNat))) else none|_=>none
def pB:List D->Option Nat
 |[]=>none|.tup []::_=>some 0|.tup (_::_)::r=>(pB r).map (·+1)|.non::r=>(pB r).map (·+1)|_=>none
def BZ:List D->Option Rz
 |[.tup xs,.tup []]=>(pB xs).map λ(i:Nat)=>.dat (.int i)|_=>none
def oE(f:List Int->List Int->Bool):List D->Option Rz
 |[.tup xs,.tup ys]=>match bI xs,bI ys with
  |some a,some b=>some (.dat (.bl (f a b)))|_,_=>none
 |_=>none
def B_:List D->Option Rz
 |[.bl a,.bl b]=>some (.dat (.bl (a==b)))|_=>none
def wZ:D->Option Bool
 |.non=>some false|.bl b=>some b|.int i=>some (i != 0)|.tup xs=>some (!xs.isEmpty)|.fl xs=>some (!xs.isEmpty)|_=>none
def prim:Pr->List D->Option Rz
 |.add=>BK|.aq=>dw λi j=>some (.int (i-j))|.mul=>dw λi j=>if (-(2^64)<i/\i<2^64)\/(-(2^64)<j/\j<2^64) then some (.int (i*j)) else none|.fdiv=>dw λi j=>if 0<j/\j<1073741824 then some (.int (i/j)) else none|.mod=>dw λi j=>if 0<j then some (.int (i%j)) else none|.pow=>dw λi j=>if 0<=j/\j<=1000000/\i.natAbs<2^64 then some (.int (i^j.toNat)) else none|.neg=>qL λi=>.int (-i)|.eq=>BL id|.ne=>BL not|.lt=>Jq|.le=>dw λi j=>some (.bl (decide (i<=j)))|.gt=>dw λi j=>some (.bl (decide (j<i)))|.ge=>dw λi j=>some (.bl (decide (j<=i)))|.inn=>Fp id|.pW=>BP id|.lO=>BP not|.len=>rT λxs=>some (.dat (.int xs.length))|.abs=>qL λi=>.int (if i<0 then -i else i)|.max2=>dw λi j=>some (.int (if j>i then j else i))|.min2=>dw λi j=>some (.int (if j<i then j else i))|.wX=>Jr|.divmod=>dw λi j=>if 0<j/\j<1073741824 then some (.tup [.int (i/j),.int (i%j)]) else none|.all=>BR|.rR=>oA|.Fj=>BW|.list=>rT λxs=>some (.nw xs)|.tuple=>pY|.ix=>Ss|.sorted=>mW|.mult=>zc|.pB=>BZ|.M7=>oE λa b=>ltI b a|.M8=>oE λa b=>!ltI b a|.M9=>B_
def lR(aq:Nat->Nat->Bool):D->Kd->Option Bool
 |.exc _ _,_=>none|.ob _ _,_=>none|.any,_=>none|_,.cls _=>none|_,.BJ=>none|.bl _,.bool=>some true|.bl _,.int=>some true|.bl _,_=>some false|.int _,.int=>some true|.int _,_=>some false|.non,_=>some false|.str _,.str=>some true|.str _,_=>some false|.tup _,.tuple=>some true|.tup _,_=>some false|.fl _,.list=>some true|.fl _,_=>some false|.fd _ _,.dict=>some true|.fd _ _,_=>some false
def rd(x:Xv):M D:=λs=>match x with
 |.d v=>some (.ok v,s)|.l n=>match s[n]? with
  |some (.lst xs)=>some (.ok (.fl xs),s)|_=>none
def gH:List Xv->M (List D)
 |[]=>M.ret []|x::r=>M.bd (rd x) λd=>M.bd (gH r) λds=>M.ret (d::ds)
def dat(x:Xv):M D:=match x with
 |.d v=>M.ret v|.l _=>M.no
def cG:List Xv->M (List D)
 |[]=>M.ret []|x::r=>M.bd (dat x) λd=>M.bd (cG r) λds=>M.ret (d::ds)
def bool(x:Xv):M Bool:=match x with
 |.d (.bl b)=>M.ret b|_=>M.no
def int(x:Xv):M Int:=match x with
 |.d (.int b)=>M.ret b|_=>M.no
def newL(fz:Bool)(xs:List D):M Xv:=match fz with
 |true=>M.ret (.d (.fl xs))|false=>λs=>some (.ok (.l s.length),s++[.lst xs])
def b_(fz:Bool)(o:Option Rz):M Xv:=match o with
 |some (.dat d)=>M.ret (.d d)|some (.nw xs)=>newL fz xs|none=>M.no
def cX(x:Xv):M (Nat×List D):=λs=>match x with
 |.l n=>match s[n]? with
  |some (.lst xs)=>some (.ok (n,xs),s)|_=>none
 |_=>none
def putL(n:Nat)(xs:List D):M Unit:=λs=>some (.ok (),s.set n (.lst xs))
def uO:D->Option Kx
 |.non=>some .non|.int i=>some (.int i)|.tup xs=>(bI xs).map .row|_=>none
def Ca:List D->Option (List Kx)
 |[]=>some []|x::r=>match uO x,Ca r with
  |some a,some b=>some (a::b)|_,_=>none
def kOf:D->Option (List Kx)
 |.tup xs=>Ca xs|_=>none
noncomputable abbrev gJ:=List (List Kx×D)
def bW(k:List Kx):gJ->Option D
 |[]=>none|p::r=>if p.1=k then some p.2 else bW k r
def jd(k:List Kx)(d:D)(r:gJ):gJ:=if (bW k r).isSome=true then r.map λp=>if p.1=k then (p.1,d) else p else r++[(k,d)]
def fU(x:Xv):M (Nat×gJ):=λs=>match x with
 |.l n=>match s[n]? with
  |some (.dct kvs)=>some (.ok (n,kvs),s)|_=>none
 |_=>none
def putD(n:Nat)(kvs:gJ):M Unit:=λs=>some (.ok (),s.set n (.dct kvs))
def key(x:Xv):M (List Kx):=match x with
 |.d v=>M.opt (kOf v)|.l _=>M.no
def enumFrom:Nat->List D->List D
 |_,[]=>[]|i,x::r=>.tup [.int i,x]::enumFrom (i+1) r
inductive Src where
 |fix (xs:List D)|live (n:Nat)|lU (n:Nat)
def Src.at(c:Src)(i:Nat)(s:S):Option (Option D):=match c with
 |.fix xs=>some xs[i]?|.live n=>match s[n]? with
  |some (.lst xs)=>some xs[i]?|_=>none
 |.lU n=>match s[n]? with
  |some (.lst xs)=>some (xs[i]?.map λx=>.tup [.int i,x])|_=>none
def oF(x:Xv):M (Src×Nat):=λs=>match x with
 |.d (.tup xs)=>some (.ok (.fix (enumFrom 0 xs),(enumFrom 0 xs).length),s)|.d (.fl xs)=>some (.ok (.fix (enumFrom 0 xs),(enumFrom 0 xs).length),s)|.l n=>match s[n]? with
  |some (.lst xs)=>some (.ok (.lU n,xs.length),s)|_=>none
 |_=>none
def src(x:Xv):M (Src×Nat):=λs=>match x with
 |.d (.tup xs)=>some (.ok (.fix xs,xs.length),s)|.d (.fl xs)=>some (.ok (.fix xs,xs.length),s)|.l n=>match s[n]? with
  |some (.lst xs)=>some (.ok (.live n,xs.length),s)|_=>none
 |_=>none
def pZ(x:Xv):M (List D):=match x with
 |.d (.tup xs)=>M.ret xs|.d (.fl xs)=>M.ret xs|_=>M.no
def gw(a b:Int):List D:=(List.range (b-a).toNat).map λ(i:Nat)=>.int (a+i)
def eY(a:Int):Bool:=decide (-(2^62)<a)&&decide (a<2^62)
def walk(c:Src)(f:D->List D->M (List D)):Nat->Nat->List D->M (List D)
 |0,_,_=>M.no|k+1,i,acc=>λs=>match c.at i s with
  |none=>none|some none=>some (.ok acc,s)|some (some x)=>M.bd (f x acc) (λacc'=>walk c f k (i+1) acc') s
def zj(f:D->M Xv):List D->Option (List Int)
 |[]=>some []|x::r=>match f x [] with
  |some (.ok (.d (.int k)),[])=>(zj f r).map (k::·)|_=>none
noncomputable abbrev Vs:=List (Option Xv)
noncomputable abbrev Fn:=Nat->List Xv->M Xv
def locs:List Xv->List Nat
 |[]=>[]|.d _::r=>locs r|.l n::r=>n::locs r
def cY:Nat->List Xv->List Xv
 |_,[]=>[]|k,.d v::r=>.d v::cY k r|k,.l _::r=>.l k::cY (k+1) r
def je(s:S):List Nat->Option S
 |[]=>some []|n::r=>match s[n]?,je s r with
  |some o,some q=>some (o::q)|_,_=>none
def cZ(s:S):List Nat->S->S
 |n::r,o::q=>cZ (s.set n o) r q|_,_=>s
def bY(F:List Xv->M Xv)(xs:List Xv):M Xv:=λs=>
 if (locs xs).Nodup then match je s (locs xs) with
  |none=>none|some s0=>match F (cY 0 xs) s0 with
   |none=>none|some (.er c fs,s1)=>some (.er c fs,cZ s (locs xs) s1)|some (.ok (.d v),s1)=>some (.ok (.d v),cZ s (locs xs) s1)|some (.ok (.l n),s1)=>match (locs xs)[n]? with
    |some m=>some (.ok (.l m),cZ s (locs xs) s1)|none=>match s1[n]? with
     |some o=>some (.ok (.l s.length),cZ s (locs xs) s1++[o])|none=>none
 else none
def Sv(F:List Xv->M Xv)(c:Nat)(vs:List Xv):M Xv:=λs=>
 if locs vs=[] then match F (.d .any::vs) [] with
  |some (.ok (.d (.tup ds)),_)=>some (.ok (.d (.ob c ds)),s)|_=>none
 else none
def p7(c:Nat)(x:Xv):M (List D):=match x with
 |.d (.ob e fs)=>if e=c then M.ret fs else M.no|_=>M.no
def fV{α:Type}:List Nat->List α->List (Option α)->Option (List (Option α))
 |[],[],J=>some J|i::is,d::ds,J=>fV is ds (J.set i (some d))|_,_,_=>none
def jV:D->Option (List D)
 |.tup xs=>some xs|_=>none
def dz(tg:List Nat)(x:D)(J:Vs):Option Vs:=match tg with
 |[i]=>some (J.set i (some (.d x)))|is=>(jV x).bind λds=>fV is (ds.map .d) J
def blk(many:Nat)(fr:List Nat)(J:Vs):Vs:=List.replicate many none++fr.map λj=>J[j]?.join
section
variable (aq:Nat->Nat->Bool)(aj:Bool)(F:Fn)
mutual
noncomputable def ev:E->Vs->M Xv
 |.c d,_=>M.ret (.d d)|.v i,J=>M.opt (J[i]?.join)|.pr fz p xs,J=>M.bd (evs xs J) λvs=>M.bd (gH vs) λds=>b_ fz (prim p ds)|.yX p q a b c,J=>M.bd (ev a J) λx=>M.bd (ev b J) λy=>M.bd (gH [x,y]) λds=>M.bd (b_ true (prim p ds)) λt=>M.bd (bool t) λk=>
   if k=true then M.bd (ev c J) λz=>M.bd (gH [y,z]) λds=>b_ true (prim q ds) else M.ret (.d (.bl false))
 |.ch3 p q r a b c d,J=>M.bd (ev a J) λx=>M.bd (ev b J) λy=>M.bd (gH [x,y]) λds=>M.bd (b_ true (prim p ds)) λt=>M.bd (bool t) λk=>
   if k=true then M.bd (ev c J) λz=>M.bd (gH [y,z]) λds=>M.bd (b_ true (prim q ds)) λt=>M.bd (bool t) λk2=>
    if k2=true then M.bd (ev d J) λw=>M.bd (gH [z,w]) λds=>b_ true (prim r ds) else M.ret (.d (.bl false))
   else M.ret (.d (.bl false))
 |.and a b,J=>M.bd (ev a J) λx=>M.bd (bool x) λk=>if k=true then ev b J else M.ret (.d (.bl false))|.or a b,J=>M.bd (ev a J) λx=>M.bd (bool x) λk=>if k=true then M.ret (.d (.bl true)) else ev b J|.not a,J=>M.bd (ev a J) λx=>M.bd (bool x) λk=>M.ret (.d (.bl (!k)))|.ite c a b,J=>M.bd (ev c J) λx=>M.bd (bool x) λk=>if k=true then ev a J else ev b J|.tup xs,J=>M.bd (evs xs J) λvs=>M.bd (cG vs) λds=>M.ret (.d (.tup ds))|.lst fz xs,J=>M.bd (evs xs J) λvs=>M.bd (cG vs) λds=>newL fz ds|.Jl k i,_=>M.ret (.d (.fd [.str k] [.int i]))|.call f xs,J=>M.bd (evs xs J) λvs=>bY (F f) vs|.qK a k,J=>M.bd (ev a J) λx=>M.bd (rd x) λd=>M.bd (M.opt (lR aq d k)) λb=>M.ret (.d (.bl b))|.sl fz a lo hi,J=>M.bd (ev a J) λx=>M.bd (w6 lo J) λl=>M.bd (w6 hi J) λh=>M.bd (rd x) λd=>b_ fz (cutD d l h)|.meth fz p k o xs,J=>M.bd (ev o J) λx=>M.bd (rd x) λd=>if mU k d=true then M.bd (evs xs J) λys=>M.bd (gH (x::ys)) λds=>b_ fz (prim p ds) else M.no|.push o a,J=>M.bd (ev o J) λx=>M.bd (cX x) λ_=>M.bd (ev a J) λy=>M.bd (dat y) λd=>M.bd (cX x) λnx=>if nx.2.length<sizeLine then M.bd (putL nx.1 (nx.2++[d])) λ_=>M.ret (.d .non) else M.no|.pop o,J=>M.bd (ev o J) λx=>M.bd (cX x) λnx=>match nx.2.getLast? with
   |some d=>M.bd (putL nx.1 nx.2.dropLast) λ_=>M.ret (.d d)|none=>M.no
 |.comp fz elt tg it fr many cond,J=>if aj=true then M.bd (g8 it J) λcn=>
   M.bd (walk cn.1 (λd acc=>M.bd (M.opt (dz tg d (blk many fr J))) λJ'=>M.bd (M.qt (nu cond J')) λok=>
    if ok=true then M.bd (M.qt (ev elt J')) λy=>M.bd (dat y) λe=>if acc.length<sizeLine then M.ret (acc++[e]) else M.no else M.ret acc) (cn.2+1) 0 []) λxs=>newL fz xs
  else M.no
 |.lQ fz elt tg it Jm yW fr many cond,J=>if aj=true then M.bd (g8 it J) λcn=>
   M.bd (walk cn.1 (λd acc=>M.bd (M.opt (dz tg d (blk many fr J))) λJ'=>M.bd (M.qt (g8 yW J')) λp8=>
    walk p8.1 (λd2 acc=>M.bd (M.opt (dz Jm d2 J')) λYt=>M.bd (M.qt (nu cond Yt)) λok=>
     if ok=true then M.bd (M.qt (ev elt Yt)) λy=>M.bd (dat y) λe=>if acc.length<sizeLine then M.ret (acc++[e]) else M.no else M.ret acc) (p8.2+1) 0 acc) (cn.2+1) 0 []) λxs=>newL fz xs
  else M.no
 |.fld o cs i,J=>M.bd (ev o J) λx=>match x with
   |.d (.exc c fs)=>if cs.contains c=true then M.opt (fs[i]?.map .d) else M.no|_=>M.no
 |.of o c i,J=>M.bd (ev o J) λx=>M.bd (p7 c x) λfs=>M.opt (fs[i]?.map .d)|.mk c f xs,J=>M.bd (evs xs J) λvs=>Sv (F f) c vs|.cm c f o xs,J=>M.bd (ev o J) λx=>M.bd (p7 c x) λ_=>M.bd (evs xs J) λvs=>M.qt (bY (F f) (x::vs))|.ou,_=>λs=>some (.ok (.l s.length),s++[.dct []])|.wY b k d,J=>M.bd (ev k J) λx=>M.bd (ev d J) λy=>M.bd (key x) λkx=>M.bd (fU y) λnk=>M.ret (.d (.bl ((bW kx nk.2).isSome==b)))|.k_ d k,J=>M.bd (ev d J) λy=>M.bd (ev k J) λx=>M.bd (key x) λkx=>M.bd (fU y) λnk=>M.opt ((bW kx nk.2).map .d)|.Fl a,J=>M.bd (ev a J) λx=>M.bd (rd x) λd=>M.bd (M.opt (wZ d)) λk=>M.ret (.d (.bl k))|.Jo fz a b,J=>if aj=true then M.bd (ev a J) λx=>match x with
   |.d (.fl xs)=>M.bd (M.opt (zj (λd=>ev b [some (.d d)]) xs)) λks=>M.bd (M.opt (qM (ltK ks) xs)) λys=>newL fz ys|_=>M.no else M.no
 |.orv a b,J=>M.bd (ev a J) λx=>M.bd (rd x) λd=>M.bd (M.opt (wZ d)) λk=>if k=true then M.ret x else ev b J|.ins o i a,J=>M.bd (ev o J) λx=>M.bd (cX x) λ_=>M.bd (ev i J) λz=>M.bd (int z) λj=>M.bd (ev a J) λy=>M.bd (dat y) λd=>M.bd (cX x) λnx=>if 0<=j/\j<=nx.2.length/\nx.2.length<sizeLine then M.bd (putL nx.1 (nx.2.take j.toNat++d::nx.2.drop j.toNat)) λ_=>M.ret (.d .non) else M.no|.no,_=>M.no
noncomputable def g8:Wk->Vs->M (Src×Nat)
 |.seq e,J=>M.bd (ev e J) src|.rg a b,J=>M.bd (ev a J) λx=>M.bd (ev b J) λy=>M.bd (int x) λi=>M.bd (int y) λj=>if eY i&&eY j then M.ret (.fix (gw i j),(gw i j).length) else M.no|.zip a b,J=>M.bd (ev a J) λx=>M.bd (ev b J) λy=>M.bd (pZ x) λxs=>M.bd (pZ y) λys=>M.ret (.fix (List.zipWith (λp q=>.tup [p,q]) xs ys),(List.zipWith (λ(p q:D)=>D.tup [p,q]) xs ys).length)|.enum a,J=>M.bd (ev a J) oF|.Jp a,J=>M.bd (ev a J) λx=>M.bd (int x) λi=>if eY i then M.ret (.fix (gw 0 i).reverse,(gw 0 i).length) else M.no
noncomputable def w6:Eo->Vs->M (Option Int)
 |.no,_=>M.ret none|.yes a,J=>M.bd (ev a J) λx=>M.bd (int x) λi=>M.ret (some i)
noncomputable def nu:Eo->Vs->M Bool
 |.no,_=>M.ret true|.yes a,J=>M.bd (ev a J) bool
noncomputable def evs:Es->Vs->M (List Xv)
 |.nil,_=>M.ret []|.cons a r,J=>M.bd (ev a J) λx=>M.bd (evs r J) λxs=>M.ret (x::xs)
end
end
inductive Out where
 |nx (J:Vs)|rt (x:Xv)|bk (J:Vs)|ct (J:Vs)|er (c:Nat) (fs:List D) (J:Vs)
noncomputable abbrev MS:=S->Option (Out×S)
def ofM{α:Type}(m:M α)(J:Vs)(k:α->MS):MS:=λs=>match m s with
 |some (.ok a,s')=>k a s'|some (.er c fs,s')=>some (.er c fs J,s')|none=>none
def cM(m:MS)(k:Vs->MS):MS:=λs=>match m s with
 |some (.nx J,s')=>k J s'|r=>r
section
variable (aq:Nat->Nat->Bool)
def store(aj:Bool)(F:Fn)(t:Tg)(x:Xv)(J:Vs):MS:=match t with
 |.nm i=>λs=>some (.nx (J.set i (some x)),s)|.tp is=>if aj=true then ofM (M.bd (dat x) λd=>M.opt ((jV d).bind λds=>fV is (ds.map .d) J)) J (λJ' s=>some (.nx J',s)) else λ_=>none|.aq o i=>ofM (M.bd (dat x) λd=>M.bd (ev aq aj F o J) λy=>M.bd (ev aq aj F i J) λz=>M.bd (int z) λj=>M.bd (cX y) λnx=>
   match L2.rQ nx.2.length j with
   |some q=>putL nx.1 (nx.2.set q d)|none=>M.no) J (λ_ s=>some (.nx J,s))
def gW(c:Vs->M Bool)(b:Vs->MS):Nat->Vs->MS
 |0,_=>λ_=>none|k+1,J=>ofM (c J) J λok=>if ok=true then λs=>match b J s with
   |some (.nx J',s')=>gW c b k J' s'|some (.ct J',s')=>gW c b k J' s'|some (.bk J',s')=>some (.nx J',s')|r=>r
  else λs=>some (.nx J,s)
def dR(c:Src)(b:D->Vs->MS):Nat->Nat->Vs->MS
 |0,_,_=>λ_=>none|k+1,i,J=>λs=>match c.at i s with
  |none=>none|some none=>some (.nx J,s)|some (some d)=>match b d J s with
   |some (.nx J',s')=>dR c b k (i+1) J' s'|some (.ct J',s')=>dR c b k (i+1) J' s'|some (.bk J',s')=>some (.nx J',s')|r=>r
def goes(i:Nat):Out->Out
 |.nx J=>.nx (J.set i none)|.bk J=>.bk (J.set i none)|.ct J=>.ct (J.set i none)|r=>r
def qN:Nat:=1000000000000
mutual
noncomputable def ex(aj:Bool)(F:Bool->Fn):St->Vs->MS
 |.pass,J=>λs=>some (.nx J,s)|.ex e,J=>ofM (ev aq aj (F aj) e J) J λ_ s=>some (.nx J,s)|.asg t e,J=>ofM (ev aq aj (F aj) e J) J λx=>store aq aj (F aj) t x J|.par i j a b,J=>if aj=true then ofM (M.bd (ev aq aj (F aj) a J) λx=>M.bd (ev aq aj (F aj) b J) λy=>M.ret (x,y)) J λxy s=>some (.nx ((J.set i (some xy.1)).set j (some xy.2)),s) else λ_=>none|.aug i e,J=>ofM (M.bd (M.opt (J[i]?.join)) λx=>M.bd (ev aq aj (F aj) e J) λy=>M.bd (int x) λp=>M.bd (int y) λq=>M.ret (p+q)) J λr s=>some (.nx (J.set i (some (.d (.int r)))),s)|.ret e,J=>ofM (ev aq aj (F aj) e J) J λx s=>some (.rt x,s)|.rise c kp xs,J=>if aj=true then ofM (M.bd (evs aq aj (F aj) xs J) cG) J λds s=>some (.er c (if kp=true then ds else []) J,s) else λ_=>none|.iff c t e,J=>ofM (M.bd (ev aq aj (F aj) c J) bool) J λb=>if b=true then exs aj F t J else exs aj F e J|.wh c b,J=>gW (λJ=>M.bd (ev aq aj (F aj) c J) bool) (λJ=>exs aj F b J) qN J|.fr t w b,J=>if aj=true then ofM (g8 aq aj (F aj) w J) J λcn=>dR cn.1 (λd J=>cM (store aq aj (F aj) t (.d d) J) λJ'=>exs aj F b J') (cn.2+1) 0 J else λ_=>none|.Sd b d i h,J=>if aj=true then λs=>match exs aj F b J s with
   |some (.er c fs J',s')=>if aq c d=true then (match exs false F h (J'.set i (some (.d (.exc c fs)))) s' with
    |some (r,s'')=>(match r with
     |.er _ _ _=>none|r=>some (goes i r,s''))
    |none=>none) else none
   |r=>r
  else λ_=>none
 |.dput d k v,J=>ofM (M.bd (ev aq aj (F aj) v J) λz=>M.bd (dat z) λw=>M.bd (ev aq aj (F aj) d J) λy=>M.bd (ev aq aj (F aj) k J) λx=>M.bd (key x) λkx=>M.bd (fU y) λnk=>if nk.2.length<sizeLine then putD nk.1 (jd kx w nk.2) else M.no) J (λ_ s=>some (.nx J,s))|.no,_=>λ_=>none
noncomputable def exs(aj:Bool)(F:Bool->Fn):bM->Vs->MS
 |.nil,J=>λs=>some (.nx J,s)|.cons a r,J=>cM (ex aj F a J) λJ'=>exs aj F r J'
end
structure Df where
 many:Nat
 iB:Nat
 body:bM
def call(T:Nat->Option Df):Nat->Bool->Fn
 |0,_,_,_=>M.no|k+1,aj,f,xs=>match T f with
  |none=>M.no|some d=>if xs.length=d.iB then λs=>match exs aq aj (λc=>call T k c) d.body (xs.map some++List.replicate (d.many-d.iB) none) s with
    |some (.nx _,s')=>some (.ok (.d .non),s')|some (.rt v,s')=>some (.ok v,s')|some (.er c fs _,s')=>some (.er c fs,s')|_=>none
   else M.no
end
end Mi
namespace Mi
open PySem L2
structure Ph where
 z:Addr->Prop
 l:List Addr
structure Cl where
 a:Nat->Addr
 f:Nat->List Str
 b:Nat->Addr
 g:Nat->List Str
section
variable (K:W.Frag)(cA:Cl)
def KT(a:Addr)(vs:List V):Prop:=fC K (λ_=>none) a vs
def KL(a:Addr)(vs:List V):Prop:=c7 K (λ_=>none) a vs
def TupAt(U:Ph)(H:Hp)(a:Addr)(vs:List V):Prop:=(Rd H a (.tup vs)/\¬U.z a)\/KT K a vs
def LstAt(U:Ph)(H:Hp)(a:Addr)(vs:List V):Prop:=(Rd H a (.lst vs)/\¬U.z a)\/KL K a vs
def ExcAt(U:Ph)(H:Hp)(a:Addr)(c:Nat)(vs:List V):Prop:=¬U.z a/\((cA.f c=[]/\vs=[]/\H a=some (Jd a (cA.a c) none))\/∃dx,H a=some (Jd a (cA.a c) (some dx))/\¬U.z dx/\H dx=some (.xd ((cA.f c).zip vs))/\(cA.f c).length=vs.length)
def qb(U:Ph)(H:Hp)(a:Addr)(c:Nat)(vs:List V):Prop:=¬U.z a/\∃dx,H a=some (.ins (cA.b c) dx ((cA.g c).zip vs))/\(cA.g c).length=vs.length
mutual
inductive Rep (U:Ph) (H:Hp):D->V->Prop where
 |non:Rep U H .non .non
 |bl (b:Bool):Rep U H (.bl b) (.bl b)
 |int (i:Int):Rep U H (.int i) (.int i)
 |str (x:Str):Rep U H (.str x) (.str x)
 |tup {a:Addr} {xs:List D} {vs:List V} (h:TupAt K U H a vs) (r:aD U H xs vs):Rep U H (.tup xs) (.ref a)
 |fl {a:Addr} {xs:List D} {vs:List V} (h:LstAt K U H a vs) (r:aD U H xs vs):Rep U H (.fl xs) (.ref a)
 |fd {a:Addr} {k:Str} {i:Int} (h:H a=some (.dK [(.inr k,.int i)])) (n:¬U.z a):Rep U H (.fd [.str k] [.int i]) (.ref a)
 |exc {a:Addr} {c:Nat} {xs:List D} {vs:List V} (h:ExcAt cA U H a c vs) (r:aD U H xs vs):Rep U H (.exc c xs) (.ref a)
 |ob {a:Addr} {c:Nat} {xs:List D} {vs:List V} (h:qb cA U H a c vs) (r:aD U H xs vs):Rep U H (.ob c xs) (.ref a)
 |any (a:Addr):Rep U H .any (.ref a)
inductive aD (U:Ph) (H:Hp):List D->List V->Prop where
 |nil:aD U H [] []
 |cons {d:D} {v:V} {ds:List D} {vs:List V} (h:Rep U H d v) (r:aD U H ds vs):aD U H (d::ds) (v::vs)
end
inductive aR (U:Ph) (H:Hp):Xv->V->Prop where
 |d {x:D} {v:V} (h:Rep K cA U H x v):aR U H (.d x) v
 |l {n:Nat} {a:Addr} (h:U.l[n]?=some a):aR U H (.l n) (.ref a)
inductive aZ (U:Ph) (H:Hp):List Xv->List V->Prop where
 |nil:aZ U H [] []
 |cons {d:Xv} {v:V} {ds:List Xv} {vs:List V} (h:aR K cA U H d v) (r:aZ U H ds vs):aZ U H (d::ds) (v::vs)
def Sw:Kx->Int
 |.non=>reduceHash 0xFCA86420|.int i=>hashInt i|.row is=>reduceHash (Builtin.Tuple.tupleHashOf (is.map hashInt))
def qO(k:List Kx):Int:=reduceHash (Builtin.Tuple.tupleHashOf (k.map Sw))
def rY:Kx->D
 |.non=>.non|.int i=>.int i|.row is=>.tup (is.map .int)
def jf(k:List Kx):D:=.tup (k.map rY)
noncomputable abbrev mX:=List (List Kx×Addr×Value)
def uP(a:Addr)(xs:mX):HO:=.ext λh=>(a==sysModules)=false/\xs.length<=sizeLine/\∃o es ep,h.get? a=some o/\o.ExactDict/\o.data=.dict es ep/\es.toList=xs.map (λx=>⟨qO x.1,.ref x.2.1,x.2.2⟩)/\(xs.map (·.1)).Nodup
inductive jt (U:Ph) (H:Hp):gJ->mX->Prop where
 |nil:jt U H [] []
 |cons {k:List Kx} {d:D} {ka:Addr} {u:Value} {v:V} {r:gJ} {xs:mX} (hk:Rep K cA U H (jf k) (.ref ka)) (hu:RelV v u) (hv:Rep K cA U H d v) (q:jt U H r xs):jt U H ((k,d)::r) ((k,ka,u)::xs)
def kh(U:Ph)(H:Hp)(a:Addr):SO->Prop
 |.lst xs=>∃vs,H a=some (.lst vs)/\aD K cA U H xs vs|.dct kvs=>∃xs,H a=some (uP a xs)/\jt K cA U H kvs xs
structure aG(U:Ph)(H:Hp)(s:S):Prop where
 len:U.l.length=s.length
 obj:∀(n:Nat) o a,s[n]?=some o->U.l[n]?=some a->kh K cA U H a o
 uniq:U.l.Nodup
 lz:∀a∈U.l,U.z a
 zt:∀a,U.z a->∃o,H a=some o
structure Ext(U:Ph)(H:Hp)(U':Ph)(H':Hp):Prop where
 more:∃r,U'.l=U.l++r/\∀b∈r,H b=none
 rZ:∀a,U.z a->U'.z a
 lg:∀a,U'.z a->U.z a\/H a=none
 frame:∀a o,H a=some o->a∉U.l->H' a=some o
 stay:∀a o,H a=some o->∃o',H' a=some o'
def aW(U:Ph)(H:Hp)(Z:L2.St)(J:Vs):Prop:=Z.length=J.length/\∀(i:Nat) (x:Xv),J[i]?=some (some x)->∃v,Z[i]?=some (some v)/\aR K cA U H x v
end
section
variable {K:W.Frag}{cA:Cl}{U U' jW:Ph}{H H' mY:Hp}{s:S}{Z:L2.St}{J:Vs}
theorem Ext.refl:Ext U H U H:=⟨⟨[],by simp,by simp⟩,λ_ h=>h,λ_ h=>.inl h,λ_ _ h _=>h,λ_ o h=>⟨o,h⟩⟩
def Ext.lV(x:Ext U H U' H'){a:Addr}(h:H' a=none):H a=none:=by
 cases e:H a with
 |none=>rfl|some o=>let⟨o',q⟩:=x.stay a o e;rw[h]at q;cases q
def Ext.trans(x:Ext U H U' H')(y:Ext U' H' jW mY):Ext U H jW mY:=by
 let⟨r,e,hr⟩:=x.more;let⟨r',e',Fw⟩:=y.more;show⟨⟨r++r',by rw[e',e,yC],λb hb=>?_⟩,λa h=>y.rZ a (x.rZ a h),λa h=>?_,λa o h n=>y.frame a o (x.frame a o h n) ?_,λa o h=>?_⟩
 .rcases mj.mp hb with z|z
  .exact hr b z
  .exact x.lV (Fw b z)
 .rcases y.lg a h with z|z
  .exact x.lg a z
  .exact .inr (x.lV z)
 .rw[e];intro z;rcases mj.mp z with z|z
  .exact n z
  .rw[hr a z]at h;cases h
 .obtain⟨o',q⟩:=x.stay a o h;show y.stay a o' q
def Ext.get(x:Ext U H U' H'){n:Nat}{a:Addr}(h:U.l[n]?=some a):U'.l[n]?=some a:=by
 let⟨r,e,_⟩:=x.more;rw[e,nH (cJ.mp h).1];show h
theorem Ext.out(x:Ext U H U' H')(hz:∀a∈U.l,U.z a){a:Addr}{o:HO}(h:H a=some o)(n:¬U.z a):H' a=some o/\¬U'.z a:=
 ⟨x.frame a o h λz=>n (hz a z),λz=>by
  rcases x.lg a z with y|y
  .exact n y
  .rw[h]at y;cases y⟩
def TupAt.mono(x:Ext U H U' H')(hz:∀a∈U.l,U.z a){a:Addr}{vs:List V}(h:TupAt K U H a vs):TupAt K U' H' a vs:=by
 rcases h with ⟨h|⟨o,h⟩,n⟩|h
 .obtain⟨p,q⟩:=x.out hz h n;show .inl ⟨.inl p,q⟩
 .obtain⟨p,q⟩:=x.out hz h n;show .inl ⟨.inr ⟨o,p⟩,q⟩
 .exact .inr h
def LstAt.mono(x:Ext U H U' H')(hz:∀a∈U.l,U.z a){a:Addr}{vs:List V}(h:LstAt K U H a vs):LstAt K U' H' a vs:=by
 rcases h with ⟨h|⟨o,h⟩,n⟩|h
 .obtain⟨p,q⟩:=x.out hz h n;show .inl ⟨.inl p,q⟩
 .obtain⟨p,q⟩:=x.out hz h n;show .inl ⟨.inr ⟨o,p⟩,q⟩
 .exact .inr h
def ExcAt.mono(x:Ext U H U' H')(hz:∀a∈U.l,U.z a){a:Addr}{c:Nat}{vs:List V}(h:ExcAt cA U H a c vs):ExcAt cA U' H' a c vs:=by
 obtain⟨n,⟨e1,e2,h⟩|⟨dx,h,n2,h2,h3⟩⟩:=h
 .obtain⟨p,q⟩:=x.out hz h n;show⟨q,.inl ⟨e1,e2,p⟩⟩
 .obtain⟨p,q⟩:=x.out hz h n;let⟨p2,q2⟩:=x.out hz h2 n2;show⟨q,.inr ⟨dx,p,q2,p2,h3⟩⟩
def qb.mono(x:Ext U H U' H')(hz:∀a∈U.l,U.z a){a:Addr}{c:Nat}{vs:List V}(h:qb cA U H a c vs):qb cA U' H' a c vs:=by
 let⟨n,dx,h,h3⟩:=h;let⟨p,q⟩:=x.out hz h n;show⟨q,dx,p,h3⟩
theorem Rep.mono(x:Ext U H U' H')(hz:∀a∈U.l,U.z a){d:D}{v:V}(h:Rep K cA U H d v):Rep K cA U' H' d v:=
 Rep.rec (motive_1:=λd v _=>Rep K cA U' H' d v) (motive_2:=λd v _=>aD K cA U' H' d v) .non .bl .int .str (λh _ i=>.tup (h.mono x hz) i) (λh _ i=>.fl (h.mono x hz) i) (λh n=>.fd (x.out hz h n).1 (x.out hz h n).2) (λh _ i=>.exc (h.mono x hz) i) (λh _ i=>.ob (h.mono x hz) i) .any .nil (λ_ _ i j=>.cons i j) h
theorem aD.mono(x:Ext U H U' H')(hz:∀a∈U.l,U.z a){d:List D}{v:List V}(h:aD K cA U H d v):aD K cA U' H' d v:=
 aD.rec (motive_1:=λd v _=>Rep K cA U' H' d v) (motive_2:=λd v _=>aD K cA U' H' d v) .non .bl .int .str (λh _ i=>.tup (h.mono x hz) i) (λh _ i=>.fl (h.mono x hz) i) (λh n=>.fd (x.out hz h n).1 (x.out hz h n).2) (λh _ i=>.exc (h.mono x hz) i) (λh _ i=>.ob (h.mono x hz) i) .any .nil (λ_ _ i j=>.cons i j) h
def aD.map(m:∀d v,Rep K cA U H d v->Rep K cA U' H' d v):∀{d:List D} {v:List V},aD K cA U H d v->aD K cA U' H' d v:=by
 intro d
 induction d with
 |nil=>intro v h;cases h;show .nil|cons a d ih=>intro v h;cases h with|cons h r=>show .cons (m _ _ h) (ih r)
def jt.map(m:∀d v,Rep K cA U H d v->Rep K cA U' H' d v){d:gJ}{v:mX}(h:jt K cA U H d v):jt K cA U' H' d v:=by
 induction h with
 |nil=>show .nil|cons a b c _ ih=>show .cons (m _ _ a) b (m _ _ c) ih
def kh.map{a:Addr}{o:SO}(h:kh K cA U H a o)(e:∀u,H a=some u->H' a=some u)(m:∀d v,Rep K cA U H d v->Rep K cA U' H' d v):kh K cA U' H' a o:=by
 cases o with
 |lst xs=>let⟨vs,q,r⟩:=h;show⟨vs,e _ q,r.map m⟩|dct xs=>let⟨vs,q,r⟩:=h;show⟨vs,e _ q,r.map m⟩
def aR.mono(x:Ext U H U' H')(hz:∀a∈U.l,U.z a){d:Xv}{v:V}(h:aR K cA U H d v):aR K cA U' H' d v:=by
 cases h with
 |d h=>show .d (h.mono x hz)|l h=>show .l (x.get h)
def aZ.mono(x:Ext U H U' H')(hz:∀a∈U.l,U.z a){ds:List Xv}{vs:List V}(h:aZ K cA U H ds vs):aZ K cA U' H' ds vs:=by
 induction h with
 |nil=>show .nil|cons h _ ih=>show .cons (h.mono x hz) ih
theorem aW.mono(x:Ext U H U' H')(hz:∀a∈U.l,U.z a)(h:aW K cA U H Z J):aW K cA U' H' Z J:=⟨h.1,λi d e=>let ⟨v,a,b⟩:=h.2 i d e;⟨v,a,b.mono x hz⟩⟩
def aD.len{ds:List D}{vs:List V}(r:aD K cA U H ds vs):ds.length=vs.length:=by
 induction ds generalizing vs with
 |nil=>cases r;rfl|cons a d ih=>cases r with|cons _ r=>rw[eE,eE,ih r]
def aZ.len{ds:List Xv}{vs:List V}(r:aZ K cA U H ds vs):ds.length=vs.length:=by
 induction r with
 |nil=>rfl|cons _ _ ih=>rw[eE,eE,ih]
def aD.get{ds:List D}{vs:List V}{i:Nat}{d:D}(r:aD K cA U H ds vs)(e:ds[i]?=some d):∃v,vs[i]?=some v/\Rep K cA U H d v:=by
 induction ds generalizing vs i with
 |nil=>cases e|cons a ds ih=>
  cases r with
  |cons h r=>cases i with
   |zero=>cases e;show⟨_,rfl,h⟩|succ i=>let⟨w,p,q⟩:=ih r e;show⟨w,p,q⟩
def aZ.get{ds:List Xv}{vs:List V}{i:Nat}{d:Xv}(r:aZ K cA U H ds vs)(e:ds[i]?=some d):∃v,vs[i]?=some v/\aR K cA U H d v:=by
 induction r generalizing i with
 |nil=>cases e|cons h _ ih=>cases i with
  |zero=>cases e;show⟨_,rfl,h⟩|succ i=>let⟨w,p,q⟩:=ih e;show⟨w,p,q⟩
theorem aD.none:∀{ds:List D} {vs:List V} {i:Nat},aD K cA U H ds vs->ds[i]?=none->vs[i]?=none:=λ{ds vs i} r e=>by
 let:=r.len;let h2:ds.length<=i:=qm.mp e;show qm.mpr gV
def aD.app{ds es:List D}{vs us:List V}(h:aD K cA U H ds vs)(s:aD K cA U H es us):aD K cA U H (ds++es) (vs++us):=by
 induction ds generalizing vs with
 |nil=>cases h;show s|cons a d ih=>cases h with|cons h r=>show .cons h (ih r)
def aD.take{ds:List D}{vs:List V}(n:Nat)(r:aD K cA U H ds vs):aD K cA U H (ds.take n) (vs.take n):=by
 induction n generalizing ds vs with
 |zero=>show .nil|succ n ih=>cases r with
  |nil=>show .nil|cons h r=>show .cons h (ih r)
def aD.drop{ds:List D}{vs:List V}(n:Nat)(r:aD K cA U H ds vs):aD K cA U H (ds.drop n) (vs.drop n):=by
 induction n generalizing ds vs with
 |zero=>show r|succ n ih=>cases r with
  |nil=>show .nil|cons h r=>show ih r
def aD.set{d:D}{v:V}(h:Rep K cA U H d v){ds:List D}{vs:List V}(i:Nat)(r:aD K cA U H ds vs):aD K cA U H (ds.set i d) (vs.set i v):=by
 induction i generalizing ds vs with
 |zero=>cases r with
  |nil=>show .nil|cons _ r=>show .cons h r
 |succ i ih=>cases r with
  |nil=>show .nil|cons q r=>show .cons q (ih r)
def aD.cut{ds:List D}{vs:List V}{l h:Option Int}(r:aD K cA U H ds vs):aD K cA U H (Mi.cut ds l h) (mK vs l h):=by
 unfold Mi.cut mK;rw[<-r.len];show(r.drop _).take _
def bB(H H':Hp):Prop:=∀a o,H a=some o->H' a=some o
theorem bB.refl:bB H H:=λ_ _ h=>h
theorem bB.trans(x:bB H H')(y:bB H' mY):bB H mY:=λa o h=>y a o (x a o h)
theorem bB.new{p:Addr}{o:HO}(hp:H p=none):bB H (upd H p o):=λa u h=>by rw[dj (Ez h hp)];show h
theorem bB.ext(g:bB H H'):Ext U H U H':=⟨⟨[],by simp,by simp⟩,λ_ h=>h,λ_ h=>.inl h,λa o h _=>g a o h,λa o h=>⟨o,g a o h⟩⟩
theorem kh.grow{a:Addr}{o:SO}(g:bB H H')(hz:∀a∈U.l,U.z a)(h:kh K cA U H a o):kh K cA U H' a o:=h.map (g _) λ_ _ r=>r.mono g.ext hz
theorem aG.grow(g:bB H H')(h:aG K cA U H s):aG K cA U H' s:=
 ⟨h.len,λn o a e1 e2=>(h.obj n o a e1 e2).grow g h.lz,h.uniq,h.lz,λa z=>let ⟨o,e⟩:=h.zt a z;⟨o,g _ _ e⟩⟩
theorem aG.nz(h:aG K cA U H s){p:Addr}(hp:H p=none):¬U.z p:=λz=>by let⟨o,e⟩:=h.zt p z;rw[hp]at e;cases e
def Ph.add(U:Ph)(p:Addr):Ph:=⟨λa=>U.z a\/a=p,U.l++[p]⟩
theorem Ext.add{p:Addr}{o:HO}(hp:H p=none):Ext U H (U.add p) (upd H p o):=
 ⟨⟨[p],rfl,by simpa using hp⟩,λ_ h=>.inl h,λa h=>h.imp id λe=>by rw[e];show hp,λa u h _=>bB.new hp a u h,λa u h=>⟨u,bB.new hp a u h⟩⟩
def aG.Ju{p:Addr}{so:SO}{ho:HO}(h:aG K cA U H s)(hp:H p=none)(hr:kh K cA (U.add p) (upd H p ho) p so):aG K cA (U.add p) (upd H p ho) (s++[so]):=by
 let pn:p∉U.l:=λz=>h.nz hp (h.lz p z);show⟨by change (U.l++[p]).length=_;rw[jk,jk,h.len];rfl,λn o a e1 e2=>?_,?_,λa ha=>?_,λa ha=>?_⟩
 .let e2:(U.l++[p])[n]?=some a:=e2;by_cases hn:n<s.length
  .rw[nH hn]at e1;rw[nH (by rw[h.len];show hn)]at e2;show(h.obj n o a e1 e2).map (bB.new hp _) λ_ _ r=>r.mono (Ext.add hp) h.lz
  .let hl:n=s.length:=by
    let z:=(cJ.mp e1).1;rw[jk]at z;simp at z
    lia
   subst hl;rw[nG (bQ _)]at e1;rw[nG (by rw[h.len];show bQ _)]at e2;simp at e1;simp[h.len]at e2;subst e1 e2;show hr
 .show (U.l++[p]).Nodup;rw[Li];show⟨h.uniq,by simp,λa ha b hb e=>?_⟩;simp at hb;subst hb e;show pn ha
 .let ha:a∈U.l++[p]:=ha;rcases mj.mp ha with z|z
  .exact .inl (h.lz a z)
  .simp at z;show .inr z
 .rcases ha with z|z
  .obtain⟨o,e⟩:=h.zt a z;show⟨o,bB.new hp _ _ e⟩
  .subst z;show⟨_,jE⟩
theorem aG.add{p:Addr}{xs:List D}{vs:List V}(h:aG K cA U H s)(hp:H p=none)(r:aD K cA U H xs vs):aG K cA (U.add p) (upd H p (.lst vs)) (s++[.lst xs]):=h.Ju hp ⟨vs,jE,r.mono (Ext.add hp) h.lz⟩
def Ext.write{n:Nat}{p:Addr}{o:HO}(hp:U.l[n]?=some p)(hv:∃u,H p=some u):Ext U H U (upd H p o):=by
 let hm:p∈U.l:=dG hp;show⟨⟨[],by simp,by simp⟩,λ_ h=>h,λ_ h=>.inl h,λa u h n=>by
  let ne:a≠p:=λe=>n (by rw[e];show hm);rw[dj ne];show h,λa u h=>?_⟩
 by_cases e:a=p
 .subst e;show⟨o,jE⟩
 .exact⟨u,by rw[dj e];show h⟩
def aG.uQ{n:Nat}{p:Addr}{so:SO}{ho:HO}(h:aG K cA U H s)(hl:n<s.length)(hp:U.l[n]?=some p)(hr:kh K cA U (upd H p ho) p so):aG K cA U (upd H p ho) (s.set n so):=by
 let hv:=h.zt p (h.lz p (dG hp));let x:Ext U H U (upd H p ho):=Ext.write hp hv;show⟨by rw[pq];show h.len,λm o a e1 e2=>?_,h.uniq,h.lz,λa ha=>?_⟩
 .by_cases hm:n=m
  .subst hm;rw[qp hl]at e1;cases e1;rw[hp]at e2;cases e2;show hr
  .rw[lF hm]at e1;let ne:a≠p:=λy=>by
    subst y;show hm ((P0 (cJ.mp hp).1 h.uniq).mp (hp.trans e2.symm))
   show(h.obj m o a e1 e2).map (λ_ q=>by rw[dj ne];show q) λ_ _ r=>r.mono x h.lz
 .obtain⟨o,e⟩:=h.zt a ha;let⟨o',e'⟩:=x.stay a o e;show⟨o',e'⟩
theorem aG.write{n:Nat}{p:Addr}{xs ys:List D}{us:List V}(h:aG K cA U H s)(hn:s[n]?=some (.lst xs))(hp:U.l[n]?=some p)(r:aD K cA U H ys us):aG K cA U (upd H p (.lst us)) (s.set n (.lst ys)):=
 h.uQ (cJ.mp hn).1 hp ⟨us,jE,r.mono (Ext.write hp (h.zt p (h.lz p (dG hp)))) h.lz⟩
def aW.set{i:Nat}{d:Xv}{v:V}(hL:aW K cA U H Z J)(r:aR K cA U H d v):aW K cA U H (Z.set i (some v)) (J.set i (some d)):=by
 show⟨by rw[pq,pq];show hL.1,λj e h=>?_⟩;by_cases hij:i=j
 .subst hij;by_cases hl:i<J.length
  .rw[qp hl]at h;cases h;show⟨v,by rw[qp (by rw[hL.1];show hl)],r⟩
  .rw[yq (by rw[pq];lia)]at h;cases h
 .rw[lF hij]at h;let⟨u,a,b⟩:=hL.2 j e h;show⟨u,by rw[lF hij];show a,b⟩
def TupAt.iC{a:Addr}{vs:List V}(h:TupAt K U H a vs):fC K H a vs:=by
 rcases h with ⟨h,_⟩|(h|h)
 .exact .inl h
 .rcases h with h|⟨o,h⟩<;>cases h
 .exact .inr h
def LstAt.sY{a:Addr}{vs:List V}(h:LstAt K U H a vs):c7 K H a vs:=by
 rcases h with ⟨h,_⟩|(h|h)
 .exact .inl h
 .rcases h with h|⟨o,h⟩<;>cases h
 .exact .inr h
theorem TupAt.new{p:Addr}{vs:List V}(hz:¬U.z p):TupAt K U (upd H p (.tup vs)) p vs:=.inl ⟨.inl jE,hz⟩
theorem LstAt.new{p:Addr}{vs:List V}(hz:¬U.z p):LstAt K U (upd H p (.lst vs)) p vs:=.inl ⟨.inl jE,hz⟩
end
end Mi
namespace Mi
open PySem PySem.Spec PyProof.Rows L2
def un{α β γ:Type}{A B C:α->β->γ->Prop}{R:Prop}(h:∃a b c,A a b c/\B a b c/\C a b c)(f:∀a b c,A a b c->B a b c->C a b c->R):R:=by
 let⟨a,b,c,x,y,z⟩:=h;show f a b c x y z
section
variable (K:W.Frag)(cA:Cl)
def Run{α:Type}(m:M α)(U:Ph)(H:Hp)(s:S)(P:α->S->Ph->Hp->Prop)(Ee:Nat->List D->S->Ph->Hp->Prop):Prop:=
 match m s with
 |some (.ok a,s')=>∀U' H',Ext U H U' H'->aG K cA U' H' s'->P a s' U' H'|some (.er c f,s')=>∀U' H',Ext U H U' H'->aG K cA U' H' s'->Ee c f s' U' H'|none=>False
def jX(U:Ph)(H:Hp)(c:Nat)(fs:List D)(dx:Option Addr):Prop:=
 (cA.f c=[]/\fs=[]/\dx=none)\/∃d vs,dx=some d/\¬U.z d/\H d=some (.xd ((cA.f c).zip vs))/\(cA.f c).length=vs.length/\aD K cA U H fs vs
def eX(EX:XS)(Z:L2.St):Nat->List D->S->Ph->Hp->Prop:=λc fs _ U' H'=>∀dx,jX K cA U' H' c fs dx->EX Z (.ref (cA.a c)) dx H'
def tE(EX:XS)(m:Vs->M Xv):TE:=λZ H Q=>∃U J s,aW K cA U H Z J/\aG K cA U H s/\Run K cA (m J) U H s (λd _ U' H'=>∀v,aR K cA U' H' d v->Q v H') (eX K cA EX Z)
def Sx(EX:XS)(m:Vs->M (List Xv)):TA:=λZ H Q=>∃U J s,aW K cA U H Z J/\aG K cA U H s/\Run K cA (m J) U H s (λd _ U' H'=>∀v,aZ K cA U' H' d v->Q v H') (eX K cA EX Z)
def qP(EX:XS)(m:Vs->M Bool):TT:=λZ H Q=>∃U J s,aW K cA U H Z J/\aG K cA U H s/\Run K cA (m J) U H s (λd _ U' H'=>Q d H') (eX K cA EX Z)
def Rv(U:Ph)(H:Hp)(d:D)(v:V):Prop:=match d with
 |.fl xs=>∃a vs,v=.ref a/\c7 K H a vs/\aD K cA U H xs vs|d=>Rep K cA U H d v
inductive xq (U:Ph) (H:Hp):List D->List V->Prop where
 |nil:xq U H [] []
 |cons {d:D} {v:V} {ds:List D} {vs:List V} (h:Rv K cA U H d v) (r:xq U H ds vs):xq U H (d::ds) (v::vs)
def bC(U:Ph)(H:Hp)(o:Option Rz)(Q:VK):Prop:=match o with
 |none=>False|some (.dat d)=>∀H' v,bB H H'->Rep K cA U H' d v->Q v H'|some (.nw xs)=>∀p vs,H p=none->aD K cA U H xs vs->Q (.ref p) (upd H p (.lst vs))
structure Zt(U:Ph)(H:Hp):Prop where
 lz:∀a∈U.l,U.z a
 zt:∀a,U.z a->∃o,H a=some o
def bD(p:Pr)(r:List V->Hp->VK->Prop):Prop:=∀(U:Ph) (H:Hp) (ds:List D) (vs:List V) (Q:VK),Zt U H->xq K cA U H ds vs->bC K cA U H (prim p ds) Q->r vs H Q
end
section
variable {K:W.Frag}{cA:Cl}{U U':Ph}{H H':Hp}{s:S}{Z:L2.St}{J:Vs}{EX:XS}
theorem aG.zs(h:aG K cA U H s):Zt U H:=⟨h.lz,h.zt⟩
theorem Zt.nz(h:Zt U H)(hp:H p=none):¬U.z p:=λz=>by let⟨o,e⟩:=h.zt p z;rw[hp]at e;cases e
def Rep.rv{d:D}{v:V}(h:Rep K cA U H d v):Rv K cA U H d v:=by
 cases h with
 |fl h r=>show⟨_,_,rfl,h.sY,r⟩|non=>show .non|bl b=>show .bl b|int b=>show .int b|str b=>show .str b|tup h r=>show .tup h r|fd h n=>show .fd h n|exc h r=>show .exc h r|ob h r=>show .ob h r|any v=>show .any v
def Run.bd{α β:Type}{m:M α}{k:α->M β}{P:β->S->Ph->Hp->Prop}{Ee:Nat->List D->S->Ph->Hp->Prop}(h:Run K cA (M.bd m k) U H s P Ee):Run K cA m U H s (λa s1 U1 H1=>Ext U H U1 H1/\aG K cA U1 H1 s1/\Run K cA (k a) U1 H1 s1 P Ee) Ee:=by
 unfold Run M.bd at *;cases e:m s with
 |none=>rw[e]at h;show h|some r=>
  let⟨r,s1⟩:=r;rw[e]at h;cases r with
  |er c f=>show h|ok a=>
   intro U1 H1 x1 r1;show⟨x1,r1,?_⟩;dsimp only at h ⊢;cases e2:k a s1 with
   |none=>rw[e2]at h;show h|some q=>
    let⟨q,s2⟩:=q;rw[e2]at h;cases q with
    |ok b=>show λU2 H2 x2 r2=>h U2 H2 (x1.trans x2) r2|er c f=>show λU2 H2 x2 r2=>h U2 H2 (x1.trans x2) r2
def Run.imp{α:Type}{m:M α}{P P':α->S->Ph->Hp->Prop}{Ee:Nat->List D->S->Ph->Hp->Prop}(h:Run K cA m U H s P Ee)(f:∀a s' U' H',P a s' U' H'->P' a s' U' H'):Run K cA m U H s P' Ee:=by
 unfold Run at *;split at h
 .exact λU' H' x r=>f _ _ _ _ (h U' H' x r)
 .exact h
 .exact h
def Run.ext(x:Ext U H U' H')(h:Run K cA m U H s P Ee):Run K cA m U' H' s P Ee:=by
 unfold Run at *;split at h
 .exact λU2 H2 y r=>h U2 H2 (x.trans y) r
 .exact λU2 H2 y r=>h U2 H2 (x.trans y) r
 .exact h.elim
theorem Run.bF{α:Type}{a:α}{P:α->S->Ph->Hp->Prop}{Ee:Nat->List D->S->Ph->Hp->Prop}(r:aG K cA U H s)(h:Run K cA (M.ret a) U H s P Ee):P a s U H:=h U H Ext.refl r
def Run.opt{α:Type}{o:Option α}{P:α->S->Ph->Hp->Prop}{Ee:Nat->List D->S->Ph->Hp->Prop}(r:aG K cA U H s)(h:Run K cA (M.opt o) U H s P Ee):∃a,o=some a/\P a s U H:=by
 cases o with
 |none=>show h.elim|some a=>show⟨a,rfl,h U H Ext.refl r⟩
def Fx(h:Run K cA (M.bd (M.opt o) k) U H s P Ee):∃a,o=some a/\Run K cA (k a) U H s P Ee:=by
 cases o with
 |none=>show h.elim|some a=>show⟨a,rfl,h⟩
def Jv{β:Type}{x:Xv}{v:V}{k:Bool->M β}{P:β->S->Ph->Hp->Prop}{Ee:Nat->List D->S->Ph->Hp->Prop}(r:aR K cA U H x v)(h:Run K cA (M.bd (bool x) k) U H s P Ee):∃b,x=.d (.bl b)/\v=.bl b/\Run K cA (k b) U H s P Ee:=by
 cases r with
 |l _=>show h.elim|d r=>cases r with
  |bl b=>show⟨b,rfl,rfl,h⟩|_=>show h.elim
def Fy(r:aR K cA U H x v)(h:Run K cA (M.bd (int x) k) U H s P Ee):∃b,x=.d (.int b)/\v=.int b/\Run K cA (k b) U H s P Ee:=by
 cases r with
 |l _=>show h.elim|d r=>cases r with
  |int b=>show⟨b,rfl,rfl,h⟩|_=>show h.elim
def M_(r:aR K cA U H x v)(h:Run K cA (M.bd (dat x) k) U H s P Ee):∃d,x=.d d/\Rep K cA U H d v/\Run K cA (k d) U H s P Ee:=by
 cases r with
 |l _=>show h.elim|d r=>show⟨_,rfl,r,h⟩
def Sy:∀{xs:List Xv} {vs:List V} {k:List D->M β} {P:β->S->Ph->Hp->Prop} {Ee:Nat->List D->S->Ph->Hp->Prop},aZ K cA U H xs vs->Run K cA (M.bd (cG xs) k) U H s P Ee->∃ds,xs=ds.map .d/\aD K cA U H ds vs/\Run K cA (k ds) U H s P Ee:=by
 intro xs
 induction xs with
 |nil=>intro vs k P Ee r h;cases r;show⟨[],rfl,.nil,h⟩|cons x xs ih=>
  intro vs k P Ee r h;cases r with
  |cons a r=>
   cases a with
   |l _=>show h.elim|@d y v a=>
    let h2:Run K cA (M.bd (cG xs) λds=>k (y::ds)) U H s P Ee:=by
     unfold Run M.bd cG dat at h;unfold Run M.bd;simp only[M.bd,M.ret]at h;cases e:cG xs s with
     |none=>simp only[e]at h|some q=>
      let⟨q,s1⟩:=q;simp only[e]at h;cases q with
      |ok ds=>show h|er c f=>show h
    let⟨ds,e,rs,h3⟩:=ih r h2;show⟨y::ds,by rw[e];rfl,.cons a rs,h3⟩
def Jw(hS:aG K cA U H s)(r:aR K cA U H x v)(h:Run K cA (M.bd (rd x) k) U H s P Ee):∃d,Rv K cA U H d v/\Run K cA (k d) U H s P Ee:=by
 cases r with
 |d r=>show⟨_,r.rv,h⟩|@l n a hl=>
  unfold Run M.bd rd at h;dsimp only at h;cases e:s[n]? with
  |none=>rw[e]at h;show h.elim|some o=>
   rw[e]at h;cases o with
   |lst xs=>
    let⟨vs,q1,q2⟩:=hS.obj n _ _ e hl;show⟨.fl xs,⟨a,vs,rfl,c7.of q1,q2⟩,h⟩
   |_=>show h.elim
def gK{α β γ:Type}(m:M α)(f:α->M β)(g:β->M γ):M.bd (M.bd m f) g=M.bd m λx=>M.bd (f x) g:=by
 funext s
 unfold M.bd;cases m s with
 |none=>rfl|some r=>
  let⟨r,s1⟩:=r;cases r<;>rfl
def uR{β:Type}:∀{xs:List Xv} {vs:List V} {k:List D->M β} {P:β->S->Ph->Hp->Prop} {Ee:Nat->List D->S->Ph->Hp->Prop},aG K cA U H s->aZ K cA U H xs vs->Run K cA (M.bd (gH xs) k) U H s P Ee->∃ds,xq K cA U H ds vs/\Run K cA (k ds) U H s P Ee:=by
 intro xs
 induction xs with
 |nil=>intro vs k P Ee hS r h;cases r;show⟨[],.nil,h⟩|cons x xs ih=>
  intro vs k P Ee hS r h;cases r with
  |cons a r=>
   let h2:Run K cA (M.bd (rd x) λd=>M.bd (gH xs) λds=>k (d::ds)) U H s P Ee:=by
    let e:M.bd (gH (x::xs)) k=M.bd (rd x) λd=>M.bd (gH xs) λds=>k (d::ds):=by
     change M.bd (M.bd (rd x) λd=>M.bd (gH xs) λds=>M.ret (d::ds)) k=_;rw[gK]
     congr 1
     funext d
     rw[gK];rfl
    rw[e]at h;show h
   let⟨d,rd,h3⟩:=Jw hS a h2;let⟨ds,rs,h4⟩:=ih hS r h3;show⟨d::ds,.cons rd rs,h4⟩
def sZ{fz:Bool}{o:Option Rz}{Q:VK}{Ee:Nat->List D->S->Ph->Hp->Prop}(hS:aG K cA U H s)(h:Run K cA (b_ fz o) U H s (λx _ U' H'=>∀v,aR K cA U' H' x v->Q v H') Ee):bC K cA U H o Q:=by
 cases o with
 |none=>show h.elim|some z=>
  cases z with
  |dat d=>show λH' v g r=>h U H' g.ext (hS.grow g) v (.d r)|nw xs=>
   intro p vs hp r;cases fz with
   |true=>show h U _ (bB.new hp).ext (hS.grow (bB.new hp)) _ (.d (.fl (LstAt.new (hS.nz hp)) (r.mono (bB.new hp).ext hS.lz)))|false=>show h (U.add p) _ (Ext.add hp) (hS.add hp r) _ (.l (by change (U.l++[p])[s.length]?=_;rw[<-hS.len];simp))
theorem zhJ{fz:Bool}{xs:List D}{Q:VK}{Ee:Nat->List D->S->Ph->Hp->Prop}(hS:aG K cA U H s)(h:Run K cA (newL fz xs) U H s (λx _ U' H'=>∀v,aR K cA U' H' x v->Q v H') Ee):∀p vs,H p=none->aD K cA U H xs vs->Q (.ref p) (upd H p (.lst vs)):=
 sZ (o:=some (.nw xs)) hS h
theorem bf{β:Type}{ma:Vs->M Xv}{k:Xv->M β}{P:β->S->Ph->Hp->Prop}(hL:aW K cA U H Z J)(hS:aG K cA U H s)(h:Run K cA (M.bd (ma J) k) U H s P (eX K cA EX Z)){Q:VK}
  (f:∀x H1 U1 d s1,Ext U H U1 H1->aW K cA U1 H1 Z J->aG K cA U1 H1 s1->aR K cA U1 H1 d x->Run K cA (k d) U1 H1 s1 P (eX K cA EX Z)->Q x H1):tE K cA EX ma Z H Q:=
 ⟨U,J,s,hL,hS,h.bd.imp λd s1 U1 H1 ⟨x1,r1,h1⟩ v rv=>f v H1 U1 d s1 x1 (hL.mono x1 hS.lz) r1 rv h1⟩
theorem oG{β:Type}{ma:Vs->M (List Xv)}{k:List Xv->M β}{P:β->S->Ph->Hp->Prop}(hL:aW K cA U H Z J)(hS:aG K cA U H s)(h:Run K cA (M.bd (ma J) k) U H s P (eX K cA EX Z)){Q:List V->Hp->Prop}
  (f:∀x H1 U1 d s1,Ext U H U1 H1->aW K cA U1 H1 Z J->aG K cA U1 H1 s1->aZ K cA U1 H1 d x->Run K cA (k d) U1 H1 s1 P (eX K cA EX Z)->Q x H1):Sx K cA EX ma Z H Q:=
 ⟨U,J,s,hL,hS,h.bd.imp λd s1 U1 H1 ⟨x1,r1,h1⟩ v rv=>f v H1 U1 d s1 x1 (hL.mono x1 hS.lz) r1 rv h1⟩
theorem xr(hL:aW K cA U H Z J)(hS:aG K cA U H s)(h:Run K cA (M.bd (ma J) k) U H s P (eX K cA EX Z))
  (f:∀b H1 U1 s1,Ext U H U1 H1->aW K cA U1 H1 Z J->aG K cA U1 H1 s1->Run K cA (k b) U1 H1 s1 P (eX K cA EX Z)->Q b H1):qP K cA EX ma Z H Q:=
 ⟨U,J,s,hL,hS,h.bd.imp λd s1 U1 H1 ⟨x1,r1,h1⟩=>f d H1 U1 s1 x1 (hL.mono x1 hS.lz) r1 h1⟩
end
section
variable (X:Cx)(cA:Cl)(aq:Nat->Nat->Bool)(aj:Bool)(F:Fn)(EX:XS)
def SE(e:Expr)(m:E):Prop:=PE X e (tE X.K cA EX (ev aq aj F m))
def SA(es:List Expr)(m:Es):Prop:=PA X es (Sx X.K cA EX (evs aq aj F m))
def ST(e:Expr)(m:E):Prop:=PT X e (qP X.K cA EX (λJ=>M.bd (ev aq aj F m J) bool))
def SW(e:Expr)(m:E):Prop:=PW X e (qP X.K cA EX (λJ=>M.bd (ev aq aj F m J) bool))
end
section
variable {X:Cx}{cA:Cl}{aq:Nat->Nat->Bool}{aj:Bool}{F:Fn}{EX:XS}{a b c d e:Expr}{A B C Dd E':E}{pos:Pos}{es:List Expr}{Xs:Es}{fz:Bool}{p:Pr}
theorem PE.weak{t t':TE}(h:PE X e t)(f:∀Z H Q,t' Z H Q->t Z H Q):PE X e t':=λao s Z H Q I q=>h ao s Z H Q I (f Z H Q q)
theorem PT.weak{t t':TT}(h:PT X e t)(f:∀Z H Q,t' Z H Q->t Z H Q):PT X e t':=λao s Z H Q I q=>h ao s Z H Q I (f Z H Q q)
theorem PW.weak{t t':TT}(h:PW X e t)(f:∀Z H Q,t' Z H Q->t Z H Q):PW X e t':=λwh ao s Z H Q I q=>h wh ao s Z H Q I (f Z H Q q)
theorem PA.weak{t t':TA}(h:PA X es t)(f:∀Z H Q,t' Z H Q->t Z H Q):PA X es t':=λp ao s Z H Q I q=>h p ao s Z H Q I (f Z H Q q)
theorem znq{i j p}:SE X cA aq aj F EX (.Constant (.int i) j p) (.c (.int i)):=PE.weak zm3 λZ H Q hh=>un hh λU J s hL hS h=>h.bF hS _ (.d (.int i))
theorem zoI{i j p}:SE X cA aq aj F EX (.Constant (.bool i) j p) (.c (.bl i)):=PE.weak zom λZ H Q hh=>un hh λU J s hL hS h=>h.bF hS _ (.d (.bl i))
theorem zm0{j p}:SE X cA aq aj F EX (.Constant .none j p) (.c .non):=PE.weak znv λZ H Q hh=>un hh λU J s hL hS h=>h.bF hS _ (.d .non)
theorem znY{i j p}:SE X cA aq aj F EX (.Constant (.str i) j p) (.c (.str i)):=PE.weak zni λZ H Q hh=>un hh λU J s hL hS h=>h.bF hS _ (.d (.str i))
def SJ{α:Type}{o:Option (Option α)}{x:α}(h:o.join=some x):o=some (some x):=by
 cases o with
 |none=>cases h|some y=>cases y with
  |none=>cases h|some z=>cases h;rfl
theorem zqw(i:Nat){x:Str}(hN:X.N[i]?=some x:=by rfl)(hv:Ql X.env.scope x:=by first|exact Or.inl rfl|exact Or.inr (Or.inl rfl)|exact Or.inr (Or.inr rfl))(hd:(x==("__debug__" : Str))=false:=by decide)
  (j_:(x==("__classdict__" : Str))=false:=by decide):SE X cA aq aj F EX (.Name x pos) (.v i):=PE.weak (Xe hN hv hd j_) λZ H Q hh=>un hh λU J s hL hS h=>by
 let⟨dd,e1,q⟩:=Run.opt hS h;let⟨v,q1,q2⟩:=hL.2 i dd (SJ e1);show⟨v,q1,q v q2⟩
theorem zjr{x:Str}{i:Int}{t:Tok}(hg:Gl X x)(hm:X.mg x=some (.int i t))(hd:(x==("__debug__" : Str))=false:=by decide):SE X cA aq aj F EX (.Name x pos) (.c (.int i)):=PE.weak (Xf (v:=.int i) hg hm ⟨t,rfl⟩ hd) λZ H Q hh=>un hh λU J s hL hS h=>h.bF hS _ (.d (.int i))
theorem zjA{x y:Str}{t:Tok}(hg:Gl X x)(hm:X.mg x=some (.str y t))(hd:(x==("__debug__" : Str))=false:=by decide):SE X cA aq aj F EX (.Name x pos) (.c (.str y)):=PE.weak (Xf (v:=.str y) hg hm ⟨t,rfl⟩ hd) λZ H Q hh=>un hh λU J s hL hS h=>h.bF hS _ (.d (.str y))
theorem zlZ:SA X cA aq aj F EX [] .nil:=PA.weak wL λZ H Q hh=>un hh λU J s hL hS h=>h.bF hS _ .nil
theorem zkO(ha:SE X cA aq aj F EX a A)(hr:SA X cA aq aj F EX es Xs)(hs:starEach (a::es) X.env=(false,eval a X.env)::starEach es X.env:=by rfl):SA X cA aq aj F EX (a::es) (.cons A Xs):=PA.weak (rN ha hr hs) λZ H Q hh=>un hh λU J s hL hS h=>by
 show bf hL hS h λx H1 U1 d1 s1 x1 hL1 aH r1 h1=>oG hL1 aH h1 λys H2 U2 d2 s2 x2 hL2 aO r2 h2=>h2.bF aO _ (.cons (r1.mono x2 aH.lz) r2)
def Nb{U U1 U2:Ph}{H1 H2:Hp}{s1 s2:S}{d1 d2:Xv}{x y:V}{Q:VK}{Ee:Nat->List D->S->Ph->Hp->Prop}(x2:Ext U1 H1 U2 H2)(aH:aG X.K cA U1 H1 s1)(aO:aG X.K cA U2 H2 s2)(r1:aR X.K cA U1 H1 d1 x)(r2:aR X.K cA U2 H2 d2 y)
  (h:Run X.K cA (M.bd (gH [d1,d2]) λds=>b_ fz (prim p ds)) U2 H2 s2 (λx _ U' H'=>∀v,aR X.K cA U' H' x v->Q v H') Ee) {r:List V->Hp->VK->Prop} (hp:bD X.K cA p r):r [x,y] H2 Q:=by
 let⟨ds,rs,h2⟩:=uR aO (.cons (r1.mono x2 aH.lz) (.cons r2 .nil)) h;show hp U2 H2 ds _ Q aO.zs rs (sZ aO h2)
def r2(r:R2):List V->Hp->VK->Prop:=λvs H Q=>∃x y,vs=[x,y]/\r x y H Q
def Fz{r:R2}{x y:V}{H:Hp}{Q:VK}(h:r2 r [x,y] H Q):r x y H Q:=by
 let⟨_,_,e,q⟩:=h;cases e;show q
theorem zl4{op:Operator}{r:R2}(ho:dX X (binaryOp op) r)(hp:bD X.K cA p (r2 r))(ha:SE X cA aq aj F EX a A)(hb:SE X cA aq aj F EX b B):SE X cA aq aj F EX (.BinOp a op b pos) (.pr fz p (.cons A (.cons B .nil))):=PE.weak (zpp ho ha hb) λZ H Q hh=>un hh λU J s hL hS h=>by
 let h:Run X.K cA (M.bd (M.bd (ev aq aj F A J) λx=>M.bd (M.bd (ev aq aj F B J) λy=>M.bd (M.ret []) λz=>M.ret (y::z)) λys=>M.ret (x::ys)) λvs=>M.bd (gH vs) λds=>b_ fz (prim p ds)) U H s _ _:=h;simp only[gK]at h;show bf hL hS h λx H1 U1 d1 s1 x1 hL1 aH r1 h1=>bf hL1 aH h1 λy H2 U2 d2 s2 x2 hL2 aO r2' h2=>?_;show Fz (Nb (fz:=fz) (U:=U) x2 aH aO r1 r2' h2 hp)
theorem zmp{op:CmpOp}{r:R2}(ho:dX X (compareOp op) r)(hp:bD X.K cA p (r2 r))(ha:SE X cA aq aj F EX a A)(hb:SE X cA aq aj F EX b B)(hm:behindInMarks op b=false):SE X cA aq aj F EX (.Compare a [op] [b] pos) (.pr true p (.cons A (.cons B .nil))):=PE.weak (zkK ho ha hb hm) λZ H Q hh=>un hh λU J s hL hS h=>by
 let h:Run X.K cA (M.bd (M.bd (ev aq aj F A J) λx=>M.bd (M.bd (ev aq aj F B J) λy=>M.bd (M.ret []) λz=>M.ret (y::z)) λys=>M.ret (x::ys)) λvs=>M.bd (gH vs) λds=>b_ true (prim p ds)) U H s _ _:=h;simp only[gK]at h;show bf hL hS h λx H1 U1 d1 s1 x1 hL1 aH r1 h1=>bf hL1 aH h1 λy H2 U2 d2 s2 x2 hL2 aO r2' h2=>?_;show Fz (Nb (fz:=true) (U:=U) x2 aH aO r1 r2' h2 hp)
def iT{A B:Prop}(h:A):if true=true then A else B:=by rw[if_pos rfl];show h
def iF{A B:Prop}(h:B):if false=true then A else B:=by rw[if_neg yw];show h
theorem zme{op:CmpOp}{r:R2}(ho:dX X (compareOp op) r)(hp:bD X.K cA p (r2 r))(ha:SE X cA aq aj F EX a A)(hb:SE X cA aq aj F EX b B)(hm:behindInMarks op b=false):ST X cA aq aj F EX (.Compare a [op] [b] pos) (.pr true p (.cons A (.cons B .nil))):=PT.weak (zkw ho ha hb hm) λZ H Q hh=>un hh λU J s hL hS h=>by
 let h:Run X.K cA (M.bd (M.bd (M.bd (ev aq aj F A J) λx=>M.bd (M.bd (ev aq aj F B J) λy=>M.bd (M.ret []) λz=>M.ret (y::z)) λys=>M.ret (x::ys)) λvs=>M.bd (gH vs) λds=>b_ true (prim p ds)) bool) U H s _ _:=h;simp only[gK]at h;show bf hL hS h λx H1 U1 d1 s1 x1 hL1 aH r1 h1=>bf hL1 aH h1 λy H2 U2 d2 s2 x2 hL2 aO r2' h2=>?_;let⟨ds,rs,h3⟩:=uR aO (.cons (r1.mono x2 aH.lz) (.cons r2' .nil)) h2;show Fz (hp U2 H2 ds _ _ aO.zs rs (sZ (Ee:=eX X.K cA EX Z) aO (h3.bd.imp λt s3 U3 H3 ⟨x3,gA,h4⟩ v rv=>?_)));cases rv with
 |l _=>show h4.elim|d rv=>cases rv with
  |bl k=>show⟨k,rfl,h4 U3 H3 Ext.refl gA⟩|_=>show h4.elim
theorem zlC{op op':CmpOp}{r r':R2}{q:Pr}(ho:dX X (compareOp op) r)(hp:bD X.K cA p (r2 r))(uf:dX X (compareOp op') r')(hp':bD X.K cA q (r2 r'))(ha:SE X cA aq aj F EX a A)(hb:SE X cA aq aj F EX b B)(hc:SE X cA aq aj F EX c C)(hm:lastMarks [op,op'] [b,c]=false:=by with_unfolding_all rfl) :
  SE X cA aq aj F EX (.Compare a [op,op'] [b,c] pos) (.yX p q A B C):=PE.weak (zif ho uf ha hb hc hm) λZ H Q hh=>un hh λU J s hL hS h=>by
 show bf hL hS h λx H1 U1 d1 s1 x1 hL1 aH r1 h1=>bf hL1 aH h1 λy H2 U2 d2 s2 x2 hL2 aO r2' h2=>?_;let⟨ds,rs,h3⟩:=uR aO (.cons (r1.mono x2 aH.lz) (.cons r2' .nil)) h2;show Fz (hp U2 H2 ds _ _ aO.zs rs (sZ (Ee:=eX X.K cA EX Z) aO (h3.bd.imp λt s3 U3 H3 ⟨x3,gA,h4⟩ v rv=>?_)));let⟨k,_,e,h5⟩:=Jv rv h4;show⟨k,e,?_⟩;cases k with
 |false=>show iF (h5.bF gA _ (.d (.bl _)))|true=>
  let oH:=hL2.mono x3 aO.lz;show iT (bf oH gA h5 λz H4 U4 d4 s4 x4 hL4 qQ r4 h6=>?_);show Fz (Nb (fz:=true) (U:=U) x4 gA qQ (r2'.mono x3 aO.lz) r4 h6 hp')
theorem zms(ha:SE X cA aq aj F EX a A):SE X cA aq aj F EX (.UnaryOp .Not a pos) (.not A):=PE.weak (zmH ha) λZ H Q hh=>un hh λU J s hL hS h=>by
 show bf hL hS h λx H1 U1 d1 s1 x1 hL1 aH r1 h1=>?_;let⟨i,_,e,h3⟩:=Jv r1 h1;show⟨i,e,h3.bF aH _ (.d (.bl _))⟩
theorem zmX{op}(ha:SE X cA aq aj F EX a A):SE X cA aq aj F EX (.BoolOp op [a] pos) A:=znZ ha
theorem zn2{rest:List Expr}(ha:SE X cA aq aj F EX a A)(hb:SE X cA aq aj F EX (.BoolOp .And (b::rest) pos) B):SE X cA aq aj F EX (.BoolOp .And (a::b::rest) pos) (.and A B):=PE.weak (zl7 ha hb) λZ H Q hh=>un hh λU J s hL hS h=>by
 show bf hL hS h λx H1 U1 d1 s1 x1 hL1 aH r1 h1=>?_;let⟨i,_,e,h3⟩:=Jv r1 h1;show⟨i,e,?_⟩;cases i with
 |true=>show iT ⟨U1,J,s1,hL1,aH,h3⟩|false=>show iF (h3.bF aH _ (.d (.bl _)))
theorem zpj{rest:List Expr}(ha:SE X cA aq aj F EX a A)(hb:SE X cA aq aj F EX (.BoolOp .Or (b::rest) pos) B):SE X cA aq aj F EX (.BoolOp .Or (a::b::rest) pos) (.or A B):=PE.weak (zpa ha hb) λZ H Q hh=>un hh λU J s hL hS h=>by
 show bf hL hS h λx H1 U1 d1 s1 x1 hL1 aH r1 h1=>?_;let⟨i,_,e,h3⟩:=Jv r1 h1;show⟨i,e,?_⟩;cases i with
 |true=>show iT (h3.bF aH _ (.d (.bl _)))|false=>show iF ⟨U1,J,s1,hL1,aH,h3⟩
end
section
variable {X:Cx}{cA:Cl}{aq:Nat->Nat->Bool}{aj:Bool}{F:Fn}{EX:XS}{a b c d e o:Expr}{A B C Dd E' O:E}{pos pp p2 apos:Pos}{es:List Expr}{Xs:Es}{fz:Bool}{p:Pr}{x:Str}
theorem zlz(ha:SE X cA aq aj F EX a A)(he:∀whole,isTrue a X.env whole=(do let v <-whole;standAt a.pos;holding [v] (truthy v)):=by intro _;rfl):ST X cA aq aj F EX a A:=PT.weak (zll ha he) λZ H Q hh=>un hh λU J s hL hS h=>by
 show bf hL hS h λx H1 U1 d1 s1 x1 hL1 aH r1 h1=>?_;let h1:Run X.K cA (M.bd (bool d1) M.ret) U1 H1 s1 (λd _ U' H'=>Q d H') (eX X.K cA EX Z):=by
  cases d1 with
  |l n=>show h1|d v=>cases v<;>show h1
 let⟨k,_,e,q⟩:=Jv r1 h1;show⟨k,e,q.bF aH⟩
def zh1{m:M Xv}{g:Bool->Bool}:M.bd (M.bd m λx=>M.bd (bool x) λk=>M.ret (Xv.d (.bl (g k)))) bool=M.bd (M.bd m bool) λk=>M.ret (g k):=by
 rw[gK,gK]
 congr 1
 funext x
 rw[gK];rfl
theorem znj(ha:ST X cA aq aj F EX a A):ST X cA aq aj F EX (.UnaryOp .Not a pos) (.not A):=PT.weak (zmo ha) λZ H Q hh=>un hh λU J s hL hS h=>by
 let h:Run X.K cA (M.bd (M.bd (ev aq aj F A J) λx=>M.bd (bool x) λk=>M.ret (Xv.d (.bl (!k)))) bool) U H s _ _:=h;rw[zh1 (g:=λk=>!k)]at h;show xr hL hS h λk H1 U1 s1 x1 hL1 aH h1=>h1.bF aH
theorem zkD(ha:ST X cA aq aj F EX a A):SW X cA aq aj F EX (.BoolOp .And [a] pos) A:=zjW ha
theorem zna(ha:ST X cA aq aj F EX a A):SW X cA aq aj F EX (.BoolOp .Or [a] pos) A:=zlt ha
def Yu{m:M Xv}{k:Bool->M Xv}:M.bd (M.bd m λx=>M.bd (bool x) k) bool=M.bd (M.bd m bool) λb=>M.bd (k b) bool:=by
 rw[gK,gK]
 congr 1
 funext x
 rw[gK]
theorem zl2{rest:List Expr}(ha:ST X cA aq aj F EX a A)(hb:SW X cA aq aj F EX (.BoolOp .And (b::rest) pos) B):SW X cA aq aj F EX (.BoolOp .And (a::b::rest) pos) (.and A B):=PW.weak (zm7 ha hb) λZ H Q hh=>un hh λU J s hL hS h=>by
 let h:Run X.K cA (M.bd (M.bd (ev aq aj F A J) λx=>M.bd (bool x) λk=>if k=true then ev aq aj F B J else M.ret (Xv.d (.bl false))) bool) U H s _ _:=h;rw[Yu]at h;show xr hL hS h λk H1 U1 s1 x1 hL1 aH h3=>?_;cases k with
 |true=>show iT ⟨U1,J,s1,hL1,aH,h3⟩|false=>show iF (Run.bF aH (a:=false) h3)
theorem zoX{rest:List Expr}(ha:ST X cA aq aj F EX a A)(hb:SW X cA aq aj F EX (.BoolOp .Or (b::rest) pos) B):SW X cA aq aj F EX (.BoolOp .Or (a::b::rest) pos) (.or A B):=PW.weak (zo4 ha hb) λZ H Q hh=>un hh λU J s hL hS h=>by
 let h:Run X.K cA (M.bd (M.bd (ev aq aj F A J) λx=>M.bd (bool x) λk=>if k=true then M.ret (Xv.d (.bl true)) else ev aq aj F B J) bool) U H s _ _:=h;rw[Yu]at h;show xr hL hS h λk H1 U1 s1 x1 hL1 aH h3=>?_;cases k with
 |true=>show iT (Run.bF aH (a:=true) h3)|false=>show iF ⟨U1,J,s1,hL1,aH,h3⟩
theorem zqx(h:SW X cA aq aj F EX a A):ST X cA aq aj F EX a A:=Kad h
def zk3:(M.bd m λx=>M.bd (bool x) k)=M.bd (M.bd m bool) k:=by rw[gK]
theorem zm2(hc:ST X cA aq aj F EX c C)(ha:SE X cA aq aj F EX a A)(hb:SE X cA aq aj F EX b B):SE X cA aq aj F EX (.IfExp c a b pos) (.ite C A B):=PE.weak (zhy hc ha hb) λZ H Q hh=>un hh λU J s hL hS h=>by
 let h:Run X.K cA (M.bd (ev aq aj F C J) λx=>M.bd (bool x) λk=>if k=true then ev aq aj F A J else ev aq aj F B J) U H s _ _:=h;rw[zk3]at h;show xr hL hS h λk H1 U1 s1 x1 hL1 aH h3=>?_;cases k with
 |true=>show iT ⟨U1,J,s1,hL1,aH,h3⟩|false=>show iF ⟨U1,J,s1,hL1,aH,h3⟩
theorem Yv:∀(Xs:Es) (J:Vs) (s:S) (ds:List Xv) (s':S),evs aq aj F Xs J s=some (.ok ds,s')->ds.length=Es.len Xs
 |.nil,J,s,ds,s',h=>by cases h;rfl|.cons a r,J,s,ds,s',h=>by
  let h:M.bd (ev aq aj F a J) (λx=>M.bd (evs aq aj F r J) λxs=>M.ret (x::xs)) s=some (.ok ds,s'):=h;unfold M.bd at h;cases e1:ev aq aj F a J s with
  |none=>rw[e1]at h;cases h|some q=>
   let⟨q,s1⟩:=q;rw[e1]at h;cases q with
   |er c f=>cases h|ok d=>
    dsimp only at h;cases e2:evs aq aj F r J s1 with
    |none=>rw[e2]at h;cases h|some q=>
     let⟨q,s2⟩:=q;rw[e2]at h;cases q with
     |er c f=>cases h|ok ds'=>
      cases h;rw[eE,Yv r J s1 ds' _ e2];rfl
def Jx{β:Type}{K:W.Frag}{U:Ph}{H:Hp}{s:S}{Z:L2.St}{J:Vs}{k:List Xv->M β}{P:β->S->Ph->Hp->Prop}(hL:aW K cA U H Z J)(hS:aG K cA U H s)(h:Run K cA (M.bd (evs aq aj F Xs J) k) U H s P (eX K cA EX Z)){Q:List V->Hp->Prop}
  (f:∀x H1 U1 d s1,d.length=Es.len Xs->Ext U H U1 H1->aW K cA U1 H1 Z J->aG K cA U1 H1 s1->aZ K cA U1 H1 d x->Run K cA (k d) U1 H1 s1 P (eX K cA EX Z)->Q x H1):Sx K cA EX (evs aq aj F Xs) Z H Q:=by
 show⟨U,J,s,hL,hS,?_⟩;let h2:=h.bd;unfold Run at h2 ⊢;cases e:evs aq aj F Xs J s with
 |none=>rw[e]at h2;show h2|some r=>
  let⟨r,s1⟩:=r;rw[e]at h2;cases r with
  |er c f=>show h2|ok ds=>
   intro U1 H1 x1 r1 v rv;let⟨_,_,h3⟩:=h2 U1 H1 x1 r1;show f v H1 U1 ds s1 (Yv Xs J s ds s1 e) x1 (hL.mono x1 hS.lz) r1 rv h3
theorem zmw{k}(ha:SA X cA aq aj F EX es Xs)(hz:Es.len Xs<=sizeLine):SE X cA aq aj F EX (.Tuple es k pos) (.tup Xs):=PE.weak (znS ha) λZ H Q hh=>un hh λU J s hL hS h=>by
 show Jx hL hS h λvs H1 U1 xs s1 hl x1 hL1 aH rv h1=>?_;let⟨ds,e,rs,h2⟩:=Sy rv h1;show⟨by rw[<-rv.len,hl];show hz,λp hp=>?_⟩;show h2 U1 (upd H1 p (.tup vs)) (bB.new hp).ext (aH.grow (bB.new hp)) _ (.d (.tup (TupAt.new (aH.nz hp)) (rs.mono (bB.new hp).ext aH.lz)))
theorem znr(ha:SA X cA aq aj F EX es Xs)(hz:Es.len Xs<=sizeLine):SE X cA aq aj F EX (.List es pos) (.lst fz Xs):=PE.weak (zmu ha) λZ H Q hh=>un hh λU J s hL hS h=>by
 show Jx hL hS h λvs H1 U1 xs s1 hl x1 hL1 aH rv h1=>?_;let⟨ds,e,rs,h2⟩:=Sy rv h1;show⟨by rw[<-rv.len,hl];show hz,λp hp=>zhJ aH h2 p vs hp rs⟩
theorem zm{id:String}{r:List V->Hp->VK->Prop}(hc:cV X (.builtin id) r)(hp:bD X.K cA p r)
  (hg:Gl X x) (hm:X.mg x=none) (hv:bootBuiltins x=some (.builtin id)) (ha:SA X cA aq aj F EX (e::es) Xs) (hn:x≠"__name__":=by decide) (rP:(x==("__debug__" : Str))=false:=by decide)
  (he:starEach (e::es) X.env=(false,eval e X.env)::starEach es X.env:=by rfl) (cF:(backTo pos (starEach es X.env)).any (·.1)=false:=by rfl):SE X cA aq aj F EX (.Call (.Name x pp) (e::es) [] pos) (.pr fz p Xs):=PE.weak (XQ hc hg hm hv ha hn rP he cF) λZ H Q hh=>un hh λU J s hL hS h=>
 oG hL hS h λvs H1 U1 ds s1 x1 hL1 aH r1 h1=>by
  let⟨ds,rs,h3⟩:=uR aH r1 h1;show hp U1 H1 ds _ _ aH.zs rs (sZ aH h3)
theorem SM{id:String}{r:List V->Hp->VK->Prop}(hc:cV X (.type id) r)(hp:bD X.K cA p r)
  (hg:Gl X x) (hm:X.mg x=none) (hv:bootBuiltins x=some (.type id)) (ha:SA X cA aq aj F EX (e::es) Xs) (hn:x≠"__name__":=by decide) (rP:(x==("__debug__" : Str))=false:=by decide)
  (he:starEach (e::es) X.env=(false,eval e X.env)::starEach es X.env:=by rfl) (cF:(backTo pos (starEach es X.env)).any (·.1)=false:=by rfl):SE X cA aq aj F EX (.Call (.Name x pp) (e::es) [] pos) (.pr fz p Xs):=PE.weak (zhi hc hg hm hv ha hn rP he cF) λZ H Q hh=>un hh λU J s hL hS h=>
 oG hL hS h λvs H1 U1 ds s1 x1 hL1 aH r1 h1=>by
  let⟨ds,rs,h3⟩:=uR aH r1 h1;show hp U1 H1 ds _ _ aH.zs rs (sZ aH h3)
theorem zos(hp:bD X.K cA p (r2 (Rg X.K)))(ha:SE X cA aq aj F EX a A)(hb:SE X cA aq aj F EX b B)(hs:qH b:=by intro _ _;rfl):SE X cA aq aj F EX (.Subscript a b pos) (.pr true p (.cons A (.cons B .nil))):=PE.weak (zoz znT ha hb hs) λZ H Q hh=>un hh λU J s hL hS h=>by
 let h:Run X.K cA (M.bd (M.bd (ev aq aj F A J) λx=>M.bd (M.bd (ev aq aj F B J) λy=>M.bd (M.ret []) λz=>M.ret (y::z)) λys=>M.ret (x::ys)) λvs=>M.bd (gH vs) λds=>b_ true (prim p ds)) U H s _ _:=h;simp only[gK]at h;show bf hL hS h λx H1 U1 d1 s1 x1 hL1 aH r1 h1=>bf hL1 aH h1 λy H2 U2 d2 s2 x2 hL2 aO r2' h2=>?_;show Fz (Nb (fz:=true) (U:=U) x2 aH aO r1 r2' h2 hp)
theorem zoS(ho:Mr X (unaryOp op) r)(hp:bD X.K cA p (λvs H Q=>∃x,vs=[x]/\r x H Q))(ha:SE X cA aq aj F EX a A):SE X cA aq aj F EX (.UnaryOp op a pos) (.pr true p (.cons A .nil)):=PE.weak (zo9 ho ha) λZ H Q hh=>un hh λU J s hL hS h=>by
 let h:Run X.K cA (M.bd (M.bd (ev aq aj F A J) λx=>M.bd (M.ret []) λz=>M.ret (x::z)) λvs=>M.bd (gH vs) λds=>b_ true (prim p ds)) U H s _ _:=h;simp only[gK]at h;show bf hL hS h λx H1 U1 d1 s1 x1 hL1 aH r1 h1=>?_;let⟨ds,rs,h3⟩:=uR aH (.cons r1 .nil) h1;let⟨_,e,q⟩:=hp U1 H1 ds _ _ aH.zs rs (sZ aH h3);cases e;show q
theorem zl3{j p'}(ha:SE X cA aq aj F EX a A):SE X cA aq aj F EX (.Compare a [.Is] [.Constant .none j p'] pos) (.pr true .pW (.cons A .nil)):=PE.weak (Xi (Xg ha)) λZ H Q hh=>un hh λU J s hL hS h=>by
 let h:Run X.K cA (M.bd (M.bd (ev aq aj F A J) λx=>M.bd (M.ret []) λz=>M.ret (x::z)) λvs=>M.bd (gH vs) λds=>b_ true (prim .pW ds)) U H s _ _:=h;simp only[gK]at h;show bf hL hS h λx H1 U1 d1 s1 x1 hL1 aH r1 h1=>?_;let⟨ds,rs,h3⟩:=uR aH (.cons r1 .nil) h1;cases rs with
 |cons r rs=>cases rs with
  |nil=>
   rename_i d;let h4:=sZ aH h3;let q:=h4 H1 _ bB.refl (.bl _);cases d<;>first
    |(let⟨_,_,rfl,_,_⟩:=r;show q)
    |(cases (show Rep _ _ _ _ _ x from r)<;>show q)
theorem zku{j p'}(ha:SE X cA aq aj F EX a A):SE X cA aq aj F EX (.Compare a [.IsNot] [.Constant .none j p'] pos) (.pr true .lO (.cons A .nil)):=PE.weak (Xi (Xh ha)) λZ H Q hh=>un hh λU J s hL hS h=>by
 let h:Run X.K cA (M.bd (M.bd (ev aq aj F A J) λx=>M.bd (M.ret []) λz=>M.ret (x::z)) λvs=>M.bd (gH vs) λds=>b_ true (prim .lO ds)) U H s _ _:=h;simp only[gK]at h;show bf hL hS h λx H1 U1 d1 s1 x1 hL1 aH r1 h1=>?_;let⟨ds,rs,h3⟩:=uR aH (.cons r1 .nil) h1;cases rs with
 |cons r rs=>cases rs with
  |nil=>
   rename_i d;let h4:=sZ aH h3;let q:=h4 H1 _ bB.refl (.bl _);cases d<;>first
    |(let⟨_,_,rfl,_,_⟩:=r;show q)
    |(cases (show Rep _ _ _ _ _ x from r)<;>show q)
theorem Yw(q:Pr)(hq:prim q=BP f)(hh:qP X.K cA EX (λJ=>M.bd (ev aq aj F (.pr true q (.cons A .nil)) J) bool) Z H Q):tE X.K cA EX (ev aq aj F A) Z H λx H1=>Q (f (decide (x=.non))) H1:=un hh λU J s hL hS h=>by
 let h:Run X.K cA (M.bd (M.bd (M.bd (ev aq aj F A J) λx=>M.bd (M.ret []) λz=>M.ret (x::z)) λvs=>M.bd (gH vs) λds=>b_ true (prim q ds)) bool) U H s _ _:=h;simp only[gK]at h;show bf hL hS h λx H1 U1 d1 s1 x1 hL1 aH r1 h1=>?_;let⟨ds,rs,h3⟩:=uR aH (.cons r1 .nil) h1;cases rs with
 |cons r rs=>cases rs with
  |nil=>
   rename_i d;rw[hq]at h3;let h4:Run X.K cA (M.bd (M.ret (Xv.d (.bl (f d.gG)))) bool) U1 H1 s1 (λd _ U' H'=>Q d H') (eX X.K cA EX Z):=h3;let q:=h4 U1 H1 Ext.refl aH;cases d<;>first
    |(let⟨_,_,rfl,_,_⟩:=r;show q)
    |(cases (show Rep _ _ _ _ _ x from r)<;>show q)
theorem zlN{j p'}(ha:SE X cA aq aj F EX a A):ST X cA aq aj F EX (.Compare a [.Is] [.Constant .none j p'] pos) (.pr true .pW (.cons A .nil)):=PT.weak (Qw (Xg ha)) λZ H Q hh=>by
 let:=Yw .pW (f:=id) rfl hh;let⟨U,J,s,a,b,c⟩:=this;show⟨U,J,s,a,b,c.imp λd s' U' H' k v rv=>⟨_,rfl,k v rv⟩⟩
theorem zjs{j p'}(ha:SE X cA aq aj F EX a A):ST X cA aq aj F EX (.Compare a [.IsNot] [.Constant .none j p'] pos) (.pr true .lO (.cons A .nil)):=PT.weak (Qw (Xh ha)) λZ H Q hh=>by
 let:=Yw .lO (f:=not) rfl hh;let⟨U,J,s,a,b,c⟩:=this;show⟨U,J,s,a,b,c.imp λd s' U' H' k v rv=>⟨_,rfl,k v rv⟩⟩
def zhN{K:W.Frag}{U:Ph}{H:Hp}{s:S}{x:Xv}{v:V}{Q:Bool->Hp->Prop}{Ee:Nat->List D->S->Ph->Hp->Prop}(hS:aG K cA U H s)(r:aR K cA U H x v)(h:Run K cA (bool x) U H s (λd _ U' H'=>Q d H') Ee):∃k,v=.bl k/\Q k H:=by
 cases r with
 |l _=>show h.elim|d rv=>cases rv with
  |bl k=>show⟨k,rfl,h U H Ext.refl hS⟩|_=>show h.elim
end
mutual
inductive Is (h:Heap):D->Value->Prop where
 |non:Is h .non .none
 |bl (b:Bool):Is h (.bl b) (.bool b)
 |int (i:Int) (t:Tok):Is h (.int i) (.int i t)
 |str (x:Str) (t:Tok):Is h (.str x) (.str x t)
 |tup {a:Addr} {xs:List D} {its:List Value} (p:h.IsTuple a its.toArray) (r:iQ h xs its):Is h (.tup xs) (.ref a)
 |fl {a:Addr} {xs:List D} {its:List Value} (p:h.IsList a its.toArray) (r:iQ h xs its):Is h (.fl xs) (.ref a)
 |oth {d:D} {u:Value} (k:kq d=none):Is h d u
inductive iQ (h:Heap):List D->List Value->Prop where
 |nil:iQ h [] []
 |cons {d:D} {u:Value} {ds:List D} {us:List Value} (a:Is h d u) (r:iQ h ds us):iQ h (d::ds) (u::us)
end
section
variable {X:Cx}{cA:Cl}{ao:List (Addr×Obj)}{Z:L2.St}{H:Hp}{s:Shared}{U:Ph}{h:Heap}
theorem SN(I:Inv X ao Z H s){ds:List D}{vs:List V}{us:List Value}(h:aD X.K cA U H ds vs)(r:Vals vs us):iQ s.heap ds us:=
 aD.rec (motive_1:=λd v _=>∀{u:Value},RelV v u->Is s.heap d u) (motive_2:=λd v _=>∀{u:List Value},Vals v u->iQ s.heap d u) (λr=>by cases r;show .non) (λb _ r=>by cases r;show .bl b) (λi _ r=>by let⟨t,rfl⟩:=r;show .int i t) (λi _ r=>by let⟨t,rfl⟩:=r;show .str i t)
 (λh _ ih _ r=>by
  cases r;let⟨its,rv,ht,_⟩:=I.tuple h.iC;show .tup ht (ih rv))
 (λh _ ih _ r=>by
  cases r;let⟨its,rv,ht,_⟩:=I.list h.sY;show .fl ht.isList (ih rv))
 (λ_ _ _ _=>.oth rfl) (λ_ _ _ _ _=>.oth rfl) (λ_ _ _ _ _=>.oth rfl) (λ_ _ _=>.oth rfl)
 (λr=>by cases r;show .nil)
 (λ_ _ i j _ r=>by
  cases r with
  |cons a b=>show .cons (i a) (j b)) h r
def su(I:Inv X ao Z H s){d:D}{v:V}{u:Value}(h:Rep X.K cA U H d v)(r:RelV v u):Is s.heap d u:=by
 cases h with
 |non=>cases r;show .non|bl b=>cases r;show .bl b|int i=>let⟨t,rfl⟩:=r;show .int i t|str i=>let⟨t,rfl⟩:=r;show .str i t|tup h q=>
  cases r;let⟨its,rv,ht,_⟩:=I.tuple h.iC;show .tup ht (SN I q rv)
 |fl h q=>
  cases r;let⟨its,rv,ht,_⟩:=I.list h.sY;show .fl ht.isList (SN I q rv)
 |fd _ _=>show .oth rfl|exc _ _=>show .oth rfl|ob _ _=>show .oth rfl|any _=>show .oth rfl
def zp(I:Inv X ao Z H s){d:D}{v:V}{u:Value}(q:Rv X.K cA U H d v)(r:RelV v u):Is s.heap d u:=by
 cases d with
 |fl xs=>
  let⟨a,vs,rfl,sq,rs⟩:=q;cases r;let⟨its,rv,ht,_⟩:=I.list sq;show .fl ht.isList (SN I rs rv)
 |non=>show su I q r|bl b=>show su I q r|int b=>show su I q r|str b=>show su I q r|tup b=>show su I q r|fd b c=>show su I q r|exc b c=>show su I q r|ob b c=>show su I q r|any=>show su I q r
def iQ.len{ds:List D}{us:List Value}(r:iQ h ds us):ds.length=us.length:=by
 induction ds generalizing us with
 |nil=>cases r;rfl|cons a d ih=>cases r with|cons _ r=>rw[eE,eE,ih r]
theorem iQ.get:∀{ds:List D} {us:List Value} {i:Nat} {d:D},iQ h ds us->ds[i]?=some d->∃u,us[i]?=some u/\Is h d u
 |_,_,_,_,.nil,e=>by simp at e|_,_,0,_,.cons h _,e=>by simp at e;subst e;show⟨_,rfl,h⟩|_,_,i+1,d,.cons _ r,e=>by
  let⟨v,a,b⟩:=iQ.get (i:=i) (d:=d) r (by simpa using e);show⟨v,by simpa using a,b⟩
def Yx{a:Addr}{is js:Array Value}(p:h.IsTuple a is)(q:h.IsTuple a js):is=js:=by
 let⟨o,e,c,n,d⟩:=p;let⟨o',e',c',n',d'⟩:=q;rw[e]at e';cases e';rw[d]at d';cases d';rfl
def Yy{a:Addr}{is js:Array Value}(p:h.IsList a is)(q:h.IsList a js):is=js:=by
 let⟨o,e,c,n,d⟩:=p;let⟨o',e',c',n',d'⟩:=q;rw[e]at e';cases e';rw[d]at d';cases d';rfl
def FJ{a:Addr}{is js:Array Value}(p:h.IsList a is)(q:h.IsTuple a js):False:=by
 let⟨o,e,c,n,d⟩:=p;let⟨o',e',c',n',d'⟩:=q;rw[e]at e';cases e';rw[c]at c';show absurd c' R3
theorem Jy{eq:D->D->Option Bool}:∀{xs ys:List D} {b:Bool},dO eq xs ys=some b->∃e:Nat->Bool,(∀(j:Nat) x y,xs[j]?=some x->ys[j]?=some y->eq x y=some (e j))/\b=((List.range (min xs.length ys.length)).all e&&xs.length==ys.length)
 |[],[],b,h=>by cases h;show⟨λ_=>true,λj x y q=>by simp at q,by simp⟩|[],y::ys,b,h=>by cases h;show⟨λ_=>true,λj x y q=>by simp at q,by simp⟩|x::xs,[],b,h=>by cases h;show⟨λ_=>true,λj x y q r=>by simp at r,by simp⟩|x::xs,y::ys,b,h=>by
  simp only[dO]at h;cases e1:eq x y with
  |none=>rw[e1]at h;cases h|some a=>
   cases e2:dO eq xs ys with
   |none=>rw[e1,e2]at h;cases h|some c=>
    rw[e1,e2]at h;cases h;let⟨e,h1,h2⟩:=Jy e2;show⟨λj=>match j with|0=>a|j+1=>e j,λj p q r1 r2=>?_,?_⟩
    .cases j with
     |zero=>
      simp at r1 r2;subst r1 r2;show e1
     |succ j=>show h1 j p q (by simpa using r1) (by simpa using r2)
    .rw[h2];simp only[eE,Nat.succ_min_succ,Pk,wA,Er,Function.comp_def];rw[Bool.and_assoc]
     congr 2
     simp
def tu{n:Nat}{d e:D}(k:kq d=none):cO n d e=none:=by
 cases n<;>cases d<;>first|cases k;done|(cases e<;>rfl)
def g_{n:Nat}{d e:D}(k:kq e=none):cO n d e=none:=by
 cases n<;>cases e<;>first|cases k;done|(cases d<;>rfl)
def SQ:∀(n:Nat) {d1 d2:D} {u:Value} {b:Bool},Is h d1 u->Is h d2 u->cO n d1 d2=some b->b=true:=by
 intro n;let rows:∀(n:Nat),(∀{d1 d2:D} {u:Value} {b:Bool},Is h d1 u->Is h d2 u->cO n d1 d2=some b->b=true)->∀{xs ys:List D} {is js:List Value} {b:Bool},iQ h xs is->iQ h ys js->is.toArray=js.toArray->dO (cO n) xs ys=some b->b=true:=by
  intro n ih xs ys is js b q1 q2 e hd;let e:is=js:=by simpa using e
  subst e;let⟨e,a1,a2⟩:=Jy (eq:=cO n) hd;rw[a2];let hl:_=_:=q1.len.trans q2.len.symm;rw[fH];show⟨cT.mpr λj hj=>?_,by rw[hl];simp⟩;let hj:=vK.mp hj;obtain⟨x,hx⟩ : ∃x,_=some x:=⟨_,cB (jm hj (Nat.min_le_left _ _))⟩;obtain⟨y,hy⟩ : ∃y,_=some y:=⟨_,cB (jm hj (Nat.min_le_right _ _))⟩;let⟨v1,e1,p1⟩:=q1.get hx;let⟨v2,e2,p2⟩:=q2.get hy;rw[e1]at e2;cases e2;show ih p1 p2 (a1 j x y hx hy)
 induction n with
 |zero=>
  intro d1 d2 u b r1 r2 hd;cases r1 with
  |oth k=>rw[tu k]at hd;cases hd|non=>cases r2 with
   |oth k=>rw[g_ k]at hd;cases hd|non=>cases hd;rfl
  |bl x=>cases r2 with
   |oth k=>rw[g_ k]at hd;cases hd|bl y=>cases hd;simp
  |int x t=>cases r2 with
   |oth k=>rw[g_ k]at hd;cases hd|int y=>cases hd;simp
  |str x t=>cases r2 with
   |oth k=>rw[g_ k]at hd;cases hd|str y=>cases hd;simp
  |tup p q=>cases r2 with
   |oth k=>rw[g_ k]at hd;cases hd|tup p2 q2=>cases hd|fl p2 q2=>show(FJ p2 p).elim
  |fl p q=>cases r2 with
   |oth k=>rw[g_ k]at hd;cases hd|fl p2 q2=>cases hd|tup p2 q2=>show(FJ p p2).elim
 |succ n ih=>
  intro d1 d2 u b r1 r2 hd;cases r1 with
  |oth k=>rw[tu k]at hd;cases hd|non=>cases r2 with
   |oth k=>rw[g_ k]at hd;cases hd|non=>cases hd;rfl
  |bl x=>cases r2 with
   |oth k=>rw[g_ k]at hd;cases hd|bl y=>cases hd;simp
  |int x t=>cases r2 with
   |oth k=>rw[g_ k]at hd;cases hd|int y=>cases hd;simp
  |str x t=>cases r2 with
   |oth k=>rw[g_ k]at hd;cases hd|str y=>cases hd;simp
  |tup p q=>cases r2 with
   |oth k=>rw[g_ k]at hd;cases hd|tup p2 q2=>show rows n ih q q2 (Yx p p2) hd|fl p2 q2=>show(FJ p2 p).elim
  |fl p q=>cases r2 with
   |oth k=>rw[g_ k]at hd;cases hd|fl p2 q2=>show rows n ih q q2 (Yy p p2) hd|tup p2 q2=>show(FJ p p2).elim
def parts{n:Nat}{A:Around}{xs ys:List D}{is js:List Value}{b:Bool}(r1:iQ s.heap xs is)(r2:iQ s.heap ys js)(hd:dO (cO n) xs ys=some b)
  (ih:∀{d1 d2:D} {u1 u2:Value} {b:Bool},Is s.heap d1 u1->Is s.heap d2 u2->cO n d1 d2=some b->SeqAt.EqAt A s u1 u2 b) :
  ∃e:Nat->Bool,(∀j (h1:j<is.toArray.size) (h2:j<js.toArray.size),SeqAt.EqAt A s is.toArray[j] js.toArray[j] (e j))/\b=((List.range (min is.toArray.size js.toArray.size)).all e&&is.toArray.size==js.toArray.size):=by
 let⟨e,a1,a2⟩:=Jy hd;let z1:=r1.len;let z2:=r2.len;show⟨e,λj h1 h2=>?_,by simp only[gj,<-z1,<-z2];show a2⟩;simp only[gj]at h1 h2;obtain⟨x,hx⟩ : ∃x,xs[j]?=some x:=⟨_,cB (by rw[z1];show h1)⟩;obtain⟨y,hy⟩ : ∃y,ys[j]?=some y:=⟨_,cB (by rw[z2];show h2)⟩;let⟨u,f1,g1⟩:=r1.get hx;let⟨u',f2,g2⟩:=r2.get hy;let k1:is.toArray[j]=u:=by
  let:=cJ.mp f1;simpa using this.2
 let k2:js.toArray[j]=u':=by
  let:=cJ.mp f2;simpa using this.2
 rw[k1,k2];show ih g1 g2 (a1 j x y hx hy)
def Yz{A:Around}{l m:Addr}{is js:Array Value}{e:Nat->Bool}{b:Bool}(p1:s.heap.IsList l is)(p2:s.heap.IsList m js)(hu:A.units<cLine)(he:∀j (h1:j<is.size) (h2:j<js.size),SeqAt.EqAt A.in1 s is[j] js[j] (e j))(hb:b=((List.range (min is.size js.size)).all e&&is.size==js.size)):SeqAt.RcAt A s (.ref l) (.ref m) b:=by
 by_cases hz:is.size=js.size
 .let:b=(List.range is.size).all e:=by rw[hb,hz];simp
  rw[this];show SeqAt.RcAt.lists p1 p2 hz hu he
 .let SX:(is.size != js.size)=true:=by simpa using hz
  let:b=false:=by rw[hb];simp[hz]
  rw[this];show SeqAt.RcAt.lists_lengths p1 p2 SX hu
def zf6{A:Around}{l m:Addr}{is js:Array Value}{e:Nat->Bool}{b:Bool}(p1:s.heap.IsList l is)(p2:s.heap.IsList m js)(hu:A.units<cLine)(he:∀j (h1:j<is.size) (h2:j<js.size),SeqAt.EqAt A.in1 s is[j] js[j] (e j))(hb:b=((List.range (min is.size js.size)).all e&&is.size==js.size)):SeqAt.RcNeAt A s (.ref l) (.ref m) (!b):=by
 by_cases hz:is.size=js.size
 .let:b=(List.range is.size).all e:=by rw[hb,hz];simp
  rw[this];show SeqAt.RcNeAt.lists p1 p2 hz hu he
 .let SX:(is.size != js.size)=true:=by simpa using hz
  let:b=false:=by rw[hb];simp[hz]
  rw[this];show SeqAt.RcNeAt.lists_lengths p1 p2 SX hu
open SeqAt in
def FN:∀(n:Nat) {A:Around} {d1 d2:D} {u1 u2:Value} {b:Bool},A.units+n<cLine->Is s.heap d1 u1->Is s.heap d2 u2->cO n d1 d2=some b->SeqAt.EqAt A s u1 u2 b:=by
 intro n
 induction n with
 |zero=>
  intro A d1 d2 u1 u2 b hu r1 r2 hd;let hu:A.units<cLine:=by lia
  cases r1 with
  |oth k=>rw[tu k]at hd;cases hd|non=>cases r2 with
   |oth k=>rw[g_ k]at hd;cases hd|non=>cases hd;show EqAt.same _|bl y=>cases hd;show EqAt.none_bool _|int y t=>cases hd;show EqAt.none_int _ _|str y t=>cases hd;show EqAt.none_str _ _|tup p q=>cases hd;show EqAt.none_tuple p hu|fl p q=>cases hd;show EqAt.none_list p hu
  |bl x=>cases r2 with
   |oth k=>rw[g_ k]at hd;cases hd|non=>cases hd;show EqAt.bool_none _|bl y=>cases hd;show EqAt.bool_bool _ _|int y t=>cases hd;show EqAt.bool_int _ _ _|str y t=>cases hd;show EqAt.bool_str _ _ _|tup p q=>cases hd;show EqAt.bool_tuple _ p hu|fl p q=>cases hd;show EqAt.bool_list _ p hu
  |int x t=>cases r2 with
   |oth k=>rw[g_ k]at hd;cases hd|non=>cases hd;show EqAt.int_none _ _|bl y=>cases hd;show EqAt.int_bool _ _ _|int y t=>cases hd;show EqAt.int_int _ _ _ _|str y t=>cases hd;show EqAt.int_str _ _ _ _|tup p q=>cases hd;show EqAt.int_tuple _ _ p hu|fl p q=>cases hd;show EqAt.int_list _ _ p hu
  |str x t=>cases r2 with
   |oth k=>rw[g_ k]at hd;cases hd|non=>cases hd;show EqAt.str_none _ _|bl y=>cases hd;show EqAt.str_bool _ _ _|int y t=>cases hd;show EqAt.str_int _ _ _ _|str y t=>cases hd;show EqAt.str_str _ _ _ _|tup p q=>cases hd;show EqAt.str_tuple _ _ p hu|fl p q=>cases hd;show EqAt.str_list _ _ p hu
  |tup p q=>cases r2 with
   |oth k=>rw[g_ k]at hd;cases hd|non=>cases hd;show EqAt.tuple_none p hu|bl y=>cases hd;show EqAt.tuple_bool _ p hu|int y t=>cases hd;show EqAt.tuple_int _ _ p hu|str y t=>cases hd;show EqAt.tuple_str _ _ p hu|tup p2 q2=>cases hd|fl p2 q2=>cases hd;show EqAt.tuple_list p p2 hu
  |fl p q=>cases r2 with
   |oth k=>rw[g_ k]at hd;cases hd|non=>cases hd;show EqAt.list_none p hu|bl y=>cases hd;show EqAt.list_bool _ p hu|int y t=>cases hd;show EqAt.list_int _ _ p hu|str y t=>cases hd;show EqAt.list_str _ _ p hu|tup p2 q2=>cases hd;show EqAt.list_tuple p p2 hu|fl p2 q2=>cases hd
 |succ n ih=>
  intro A d1 d2 u1 u2 b xu r1 r2 hd;let hu:A.units<cLine:=by lia
  let dD:A.in1.units+n<cLine:=by change A.units+1+n<cLine;lia
  cases r1 with
  |oth k=>rw[tu k]at hd;cases hd|non=>cases r2 with
   |oth k=>rw[g_ k]at hd;cases hd|non=>cases hd;show EqAt.same _|bl y=>cases hd;show EqAt.none_bool _|int y t=>cases hd;show EqAt.none_int _ _|str y t=>cases hd;show EqAt.none_str _ _|tup p q=>cases hd;show EqAt.none_tuple p hu|fl p q=>cases hd;show EqAt.none_list p hu
  |bl x=>cases r2 with
   |oth k=>rw[g_ k]at hd;cases hd|non=>cases hd;show EqAt.bool_none _|bl y=>cases hd;show EqAt.bool_bool _ _|int y t=>cases hd;show EqAt.bool_int _ _ _|str y t=>cases hd;show EqAt.bool_str _ _ _|tup p q=>cases hd;show EqAt.bool_tuple _ p hu|fl p q=>cases hd;show EqAt.bool_list _ p hu
  |int x t=>cases r2 with
   |oth k=>rw[g_ k]at hd;cases hd|non=>cases hd;show EqAt.int_none _ _|bl y=>cases hd;show EqAt.int_bool _ _ _|int y t=>cases hd;show EqAt.int_int _ _ _ _|str y t=>cases hd;show EqAt.int_str _ _ _ _|tup p q=>cases hd;show EqAt.int_tuple _ _ p hu|fl p q=>cases hd;show EqAt.int_list _ _ p hu
  |str x t=>cases r2 with
   |oth k=>rw[g_ k]at hd;cases hd|non=>cases hd;show EqAt.str_none _ _|bl y=>cases hd;show EqAt.str_bool _ _ _|int y t=>cases hd;show EqAt.str_int _ _ _ _|str y t=>cases hd;show EqAt.str_str _ _ _ _|tup p q=>cases hd;show EqAt.str_tuple _ _ p hu|fl p q=>cases hd;show EqAt.str_list _ _ p hu
  |@tup a1 xs is p q=>cases r2 with
   |oth k=>rw[g_ k]at hd;cases hd|non=>cases hd;show EqAt.tuple_none p hu|bl y=>cases hd;show EqAt.tuple_bool _ p hu|int y t=>cases hd;show EqAt.tuple_int _ _ p hu|str y t=>cases hd;show EqAt.tuple_str _ _ p hu|@tup a2 ys js p2 q2=>
    by_cases ea:a1=a2
    .subst ea;let:=SQ (n+1) (.tup p q) (.tup p2 q2) hd;subst this;show EqAt.same _
    .obtain⟨e,he,hb⟩:=parts (A:=A.in1) q q2 hd λa b c=>ih dD a b c;rw[hb];show EqAt.of_refs ea (RcAt.tuples p p2 hu he)
   |fl p2 q2=>cases hd;show EqAt.tuple_list p p2 hu
  |@fl a1 xs is p q=>cases r2 with
   |oth k=>rw[g_ k]at hd;cases hd|non=>cases hd;show EqAt.list_none p hu|bl y=>cases hd;show EqAt.list_bool _ p hu|int y t=>cases hd;show EqAt.list_int _ _ p hu|str y t=>cases hd;show EqAt.list_str _ _ p hu|tup p2 q2=>cases hd;show EqAt.list_tuple p p2 hu|@fl a2 ys js p2 q2=>
    by_cases ea:a1=a2
    .subst ea;let:=SQ (n+1) (.fl p q) (.fl p2 q2) hd;subst this;show EqAt.same _
    .obtain⟨e,he,hb⟩:=parts (A:=A.in1) q q2 hd λa b c=>ih dD a b c;show EqAt.of_refs ea (Yz p p2 hu he hb)
end
section
variable {X:Cx}{cA:Cl}{ao:List (Addr×Obj)}{Z:L2.St}{H:Hp}{s:Shared}{U:Ph}{h:Heap}
open SeqAt in
def YB(xu:A.units+(n+1)<cLine)(r1:Is s.heap d1 u1)(r2:Is s.heap d2 u2)(hd:cO (n+1) d1 d2=some b):RcAt A s u1 u2 b/\RcNeAt A s u1 u2 (!b):=by
 let hu:A.units<cLine:=by lia
 let dD:A.in1.units+n<cLine:=by change A.units+1+n<cLine;lia
 cases r1 with
 |oth k=>rw[tu k]at hd;cases hd|non=>cases r2 with
  |oth k=>rw[g_ k]at hd;cases hd|non=>cases hd;show⟨RcAt.none_none,RcNeAt.none_none⟩|bl y=>cases hd;show⟨RcAt.none_bool _,RcNeAt.none_bool _⟩|int y t=>cases hd;show⟨RcAt.none_int _ _,RcNeAt.none_int _ _⟩|str y t=>cases hd;show⟨RcAt.none_str _ _,RcNeAt.none_str _ _⟩|tup p q=>cases hd;show⟨RcAt.none_tuple p hu,RcNeAt.none_tuple p hu⟩|fl p q=>cases hd;show⟨RcAt.none_list p hu,RcNeAt.none_list p hu⟩
 |bl x=>cases r2 with
  |oth k=>rw[g_ k]at hd;cases hd|non=>cases hd;show⟨RcAt.bool_none _,RcNeAt.bool_none _⟩|bl y=>cases hd;show⟨RcAt.bool_bool _ _,RcNeAt.bool_bool _ _⟩|int y t=>cases hd;show⟨RcAt.bool_int _ _ _,RcNeAt.bool_int _ _ _⟩|str y t=>cases hd;show⟨RcAt.bool_str _ _ _,RcNeAt.bool_str _ _ _⟩|tup p q=>cases hd;show⟨RcAt.bool_tuple _ p hu,RcNeAt.bool_tuple _ p hu⟩|fl p q=>cases hd;show⟨RcAt.bool_list _ p hu,RcNeAt.bool_list _ p hu⟩
 |int x t=>cases r2 with
  |oth k=>rw[g_ k]at hd;cases hd|non=>cases hd;show⟨RcAt.int_none _ _,RcNeAt.int_none _ _⟩|bl y=>cases hd;show⟨RcAt.int_bool _ _ _,RcNeAt.int_bool _ _ _⟩|int y t=>cases hd;show⟨RcAt.int_int _ _ _ _,RcNeAt.int_int _ _ _ _⟩|str y t=>cases hd;show⟨RcAt.int_str _ _ _ _,RcNeAt.int_str _ _ _ _⟩|tup p q=>cases hd;show⟨RcAt.int_tuple _ _ p hu,RcNeAt.int_tuple _ _ p hu⟩|fl p q=>cases hd;show⟨RcAt.int_list _ _ p hu,RcNeAt.int_list _ _ p hu⟩
 |str x t=>cases r2 with
  |oth k=>rw[g_ k]at hd;cases hd|non=>cases hd;show⟨RcAt.str_none _ _,RcNeAt.str_none _ _⟩|bl y=>cases hd;show⟨RcAt.str_bool _ _ _,RcNeAt.str_bool _ _ _⟩|int y t=>cases hd;show⟨RcAt.str_int _ _ _ _,RcNeAt.str_int _ _ _ _⟩|str y t=>cases hd;show⟨RcAt.str_str _ _ _ _,RcNeAt.str_str _ _ _ _⟩|tup p q=>cases hd;show⟨RcAt.str_tuple _ _ p hu,RcNeAt.str_tuple _ _ p hu⟩|fl p q=>cases hd;show⟨RcAt.str_list _ _ p hu,RcNeAt.str_list _ _ p hu⟩
 |@tup a1 xs is p q=>cases r2 with
  |oth k=>rw[g_ k]at hd;cases hd|non=>cases hd;show⟨RcAt.tuple_none p hu,RcNeAt.tuple_none p hu⟩|bl y=>cases hd;show⟨RcAt.tuple_bool _ p hu,RcNeAt.tuple_bool _ p hu⟩|int y t=>cases hd;show⟨RcAt.tuple_int _ _ p hu,RcNeAt.tuple_int _ _ p hu⟩|str y t=>cases hd;show⟨RcAt.tuple_str _ _ p hu,RcNeAt.tuple_str _ _ p hu⟩|@tup a2 ys js p2 q2=>
   let⟨e,he,hb⟩:=parts (A:=A.in1) q q2 hd λa b c=>FN n dD a b c;rw[hb];show⟨RcAt.tuples p p2 hu he,RcNeAt.tuples p p2 hu he⟩
  |fl p2 q2=>cases hd;show⟨RcAt.tuple_list p p2 hu,RcNeAt.tuple_list p p2 hu⟩
 |@fl a1 xs is p q=>cases r2 with
  |oth k=>rw[g_ k]at hd;cases hd|non=>cases hd;show⟨RcAt.list_none p hu,RcNeAt.list_none p hu⟩|bl y=>cases hd;show⟨RcAt.list_bool _ p hu,RcNeAt.list_bool _ p hu⟩|int y t=>cases hd;show⟨RcAt.list_int _ _ p hu,RcNeAt.list_int _ _ p hu⟩|str y t=>cases hd;show⟨RcAt.list_str _ _ p hu,RcNeAt.list_str _ _ p hu⟩|tup p2 q2=>cases hd;show⟨RcAt.list_tuple p p2 hu,RcNeAt.list_tuple p p2 hu⟩|@fl a2 ys js p2 q2=>
   let⟨e,he,hb⟩:=parts (A:=A.in1) q q2 hd λa b c=>FN n dD a b c;show⟨Yz p p2 hu he hb,zf6 p p2 hu he hb⟩
def xG(K:W.Frag)(cA:Cl)(f:Bool->Bool):R2:=λx y H Q=>∃U d1 d2 b,Rv K cA U H d1 x/\Rv K cA U H d2 y/\cO 50 d1 d2=some b/\Q (.bl (f b)) H
def zm4(hu:X.A.units+60<cLine):dX X (compareOp .Eq) (xG X.K cA id):=by
 rintro ao s Z H x y v u Q I rx ry ⟨U,d1,d2,b,r1,r2,hd,q⟩;show(YB (n:=49) gV (zp I r1 rx) (zp I r2 ry) hd).1 X.prog X.w X.xe _ ⟨.bl b,H,I,rfl,q⟩
def zlO(hu:X.A.units+60<cLine):dX X (compareOp .NotEq) (xG X.K cA not):=by
 rintro ao s Z H x y v u Q I rx ry ⟨U,d1,d2,b,r1,r2,hd,q⟩;show(YB (n:=49) gV (zp I r1 rx) (zp I r2 ry) hd).2 X.prog X.w X.xe _ ⟨.bl (!b),H,I,rfl,q⟩
def zjg:∀(n:Nat) {d d' x:D} {u:Value} {b b':Bool},Is h d u->Is h d' u->cO n d x=some b->cO n d' x=some b'->b=b':=by
 intro n;let tn:∀{n:Nat} {xs xs':List D} {x:D},(∀ys,x=.tup ys->False)->cO n (.tup xs) x=cO n (.tup xs') x:=λ{n xs xs' x} hx=>by
  cases n<;>cases x<;>first|rfl|exact(hx _ rfl).elim
 let ln:∀{n:Nat} {xs xs':List D} {x:D},(∀ys,x=.fl ys->False)->cO n (.fl xs) x=cO n (.fl xs') x:=λ{n xs xs' x} hx=>by
  cases n<;>cases x<;>first|rfl|exact(hx _ rfl).elim
 let main:∀{n:Nat},(∀{xs xs' ys:List D} {is js:List Value} {b b':Bool},iQ h xs is->iQ h xs' js->is.toArray=js.toArray->cO n (.tup xs) (.tup ys)=some b->cO n (.tup xs') (.tup ys)=some b'->b=b')->(∀{xs xs' ys:List D} {is js:List Value} {b b':Bool},iQ h xs is->iQ h xs' js->is.toArray=js.toArray->cO n (.fl xs) (.fl ys)=some b->cO n (.fl xs') (.fl ys)=some b'->b=b')->∀{d d' x:D} {u:Value} {b b':Bool},Is h d u->Is h d' u->cO n d x=some b->cO n d' x=some b'->b=b':=by
  intro n R L d d' x u b b' r1 r2 h1 h2;cases r1 with
  |oth k=>rw[tu k]at h1;cases h1|non=>cases r2 with
   |oth k=>rw[tu k]at h2;cases h2|non=>rw[h1]at h2;show cP h2
  |bl y=>cases r2 with
   |oth k=>rw[tu k]at h2;cases h2|bl=>rw[h1]at h2;show cP h2
  |int y=>cases r2 with
   |oth k=>rw[tu k]at h2;cases h2|int=>rw[h1]at h2;show cP h2
  |str y=>cases r2 with
   |oth k=>rw[tu k]at h2;cases h2|str=>rw[h1]at h2;show cP h2
  |tup p q=>cases r2 with
   |oth k=>rw[tu k]at h2;cases h2|tup p2 q2=>
    cases x with
    |tup ys=>show R q q2 (Yx p p2) h1 h2|_=>rw[tn (by intro ys z;cases z),h2]at h1;show(cP h1).symm
   |fl p2 q2=>show(FJ p2 p).elim
  |fl p q=>cases r2 with
   |oth k=>rw[tu k]at h2;cases h2|fl p2 q2=>
    cases x with
    |fl ys=>show L q q2 (Yy p p2) h1 h2|_=>rw[ln (by intro ys z;cases z),h2]at h1;show(cP h1).symm
   |tup p2 q2=>show(FJ p p2).elim
 induction n with
 |zero=>
  intro d d' x u b b' r1 r2;show main (n:=0) (λ_ _ _ z=>by cases z) (λ_ _ _ z=>by cases z) r1 r2
 |succ n ih=>
  let rows:∀{xs xs' ys:List D} {is js:List Value} {b b':Bool},iQ h xs is->iQ h xs' js->is.toArray=js.toArray->dO (cO n) xs ys=some b->dO (cO n) xs' ys=some b'->b=b':=by
   intro xs xs' ys is js b b' q1 q2 e h1 h2;let e:is=js:=by simpa using e
   subst e;let⟨e1,a1,b1⟩:=Jy h1;let⟨e2,a2,b2⟩:=Jy h2;let hl:xs.length=xs'.length:=q1.len.trans q2.len.symm;rw[b1,b2,hl]
   congr 1
   rw[G6,cT,cT];let key:∀j∈List.range (min xs'.length ys.length),e1 j=e2 j:=λj hj=>by
    let hj:=vK.mp hj;obtain⟨x1,YC⟩ : ∃x,xs[j]?=some x:=⟨_,cB (by rw[hl];show jm hj (Nat.min_le_left _ _))⟩;obtain⟨x2,YD⟩ : ∃x,xs'[j]?=some x:=⟨_,cB (jm hj (Nat.min_le_left _ _))⟩;obtain⟨y,hy⟩ : ∃y,ys[j]?=some y:=⟨_,cB (jm hj (Nat.min_le_right _ _))⟩;let⟨v1,f1,p1⟩:=q1.get YC;let⟨v2,f2,p2⟩:=q2.get YD;rw[f1]at f2;cases f2;show ih p1 p2 (a1 j x1 y YC hy) (a2 j x2 y YD hy)
   show⟨λz j hj=>by rw[<-key j hj];show z j hj,λz j hj=>by rw[key j hj];show z j hj⟩
  intro d d' x u b b' r1 r2;show main (n:=n+1) rows rows r1 r2
theorem YF:∀{xs:List D} {b:Bool},memD x xs=some b->∀d∈xs,∃k,cO 50 d x=some k
 |[],_,_,d,hd=>by cases hd|y::xs,b,h,d,hd=>by
  unfold memD at h;cases e1:cO 50 y x with
  |none=>simp only[e1]at h;cases h|some a=>
   cases e2:memD x xs with
   |none=>simp only[e1,e2]at h;cases h|some c=>
    rcases jo.mp hd with rfl|hd
    .exact⟨a,e1⟩
    .exact YF e2 d hd
def YG:∀{xs:List D} {us:List Value} {b:Bool},memD x xs=some b->iQ h xs us->∃e:Value->Bool,(∀u∈us,∃d,Is h d u/\cO 50 d x=some (e u))/\us.any e=b:=by
 intro xs us b hm r;let ex:∀u∈us,∃d k,Is h d u/\cO 50 d x=some k:=by
  intro u hu;let⟨i,hi,e⟩:=pH hu;let hl:=r.len;obtain⟨d,hd⟩ : ∃d,xs[i]?=some d:=⟨_,cB gV⟩;let⟨u',e1,q⟩:=r.get hd;rw[cB hi,e]at e1;cases e1;let⟨k,hk⟩:=YF hm d (dG hd);show⟨d,k,q,hk⟩
 show⟨λu=>by classical show if z:∃k,∃d,Is h d u/\cO 50 d x=some k then z.choose else false,λu hu=>?_,?_⟩
 .obtain⟨d,k,q,hk⟩:=ex u hu;let z:∃k,∃d,Is h d u/\cO 50 d x=some k:=⟨k,d,q,hk⟩;dsimp only;rw[dif_pos z];show z.choose_spec
 .clear ex;let key:∀(xs:List D) (us:List Value) (b:Bool),memD x xs=some b->iQ h xs us->us.any (λu=>by classical show if z:∃k,∃d,Is h d u/\cO 50 d x=some k then z.choose else false)=b:=by
   intro xs
   induction xs with
   |nil=>intro us b hm r;cases r;cases hm;rfl|cons d ds ih=>
    intro us b hm r;cases r with
    |@cons _ u _ us a r=>
     unfold memD at hm;cases e1:cO 50 d x with
     |none=>simp only[e1]at hm;cases hm|some k=>
      cases e2:memD x ds with
      |none=>simp only[e1,e2]at hm;cases hm|some c=>
       simp only[e1,e2]at hm;cases hm;rw[List.any_cons];let z:∃k,∃d,Is h d u/\cO 50 d x=some k:=⟨k,d,a,e1⟩;let hk:z.choose=k:=by
        let⟨d',q,HF⟩:=z.choose_spec;show zjg 50 q a HF e1
       rw[dif_pos z,hk,ih us c e2 r]
  show key xs us b hm r
def Jz(K:W.Frag)(cA:Cl)(f:Bool->Bool):R2:=λx y H Q=>∃U d1 d2 xs b,Rv K cA U H d1 x/\Rv K cA U H d2 y/\pX d2=some xs/\memD d1 xs=some b/\Q (.bl (f b)) H
def znF(hu:X.A.units+60<cLine):dX X (compareOp .In) (Jz X.K cA id):=by
 rintro ao s Z H x y v u Q I rx ry ⟨U,d1,d2,xs,b,r1,r2,hq,hm,q⟩;let dD:X.A.in1.units+50<cLine:=by change X.A.units+1+50<cLine;lia
 let i1:=zp I r1 rx;cases zp I r2 ry with
 |tup p r=>
  cases hq;let⟨e,he,hb⟩:=YG hm r;show SeqAt.in_tupleAt e p (λw hw=>?_) ⟨.bl b,H,I,by rw[<-hb];simp[L2.RelV],q⟩;let⟨d,q1,q2⟩:=he w (by simpa using hw);show FN 50 dD q1 i1 q2
 |fl p r=>
  cases hq;let⟨e,he,hb⟩:=YG hm r;show SeqAt.in_listAt e p (λw hw=>?_) ⟨.bl b,H,I,by rw[<-hb];simp[L2.RelV],q⟩;let⟨d,q1,q2⟩:=he w (by simpa using hw);show FN 50 dD q1 i1 q2
 |oth k=>cases d2<;>cases hq<;>cases k|_=>cases hq
end
end Mi
namespace HT
open PySem PyProof.Rows
section
variable {prog:Program}{w:World}{A:Around}{E:Value->Shared->Prop}{s:Shared}
def uT{t b:Addr}{vs ws:List Value}{Q:Value->Shared->Prop}(ht:IsTup s.heap t vs.toArray)(hb:IsTup s.heap b ws.toArray)(hv:vs=[])
  (h1:Q (.ref b) s):wpAny (model prog w) A (binaryOp .Add (.ref t) (.ref b)) Q E s:=by
 let⟨⟨cls,dd,data,sl⟩,ho,hc,n,hd⟩:=id ht;let⟨⟨cls2,dd2,data2,sl2⟩,kO,kW,n2,hd2⟩:=id hb;simp only at hc hd kW hd2;subst hc hd kW hd2;show concat_meets ⟨_,ho,rfl⟩ ⟨_,kO,rfl⟩ noFill_tuple_add seq_tuple_add Pj Pb (O_ _ _)
   (tuple_addW0 t b vs.toArray ws.toArray n n2 dd dd2 sl sl2 (by simp[hv])) ⟨ho,kO,h1⟩
def gB{t sl:Addr}{items:Array Value}{vl vu:Value}{lo hi:Option Int}{Q:Value->Shared->Prop}(ht:IsTup s.heap t items)(hs:s.heap.IsSliceOf sl vl vu .none)(pl:IsPart vl lo)(pu:IsPart vu hi)
  (hw:bU items.size 0 lo=0/\bU items.size items.size hi=items.size) (h:Q (.ref t) s):wpAny (model prog w) A (getItem (.ref t) (.ref sl)) Q E s:=by
 let⟨os,Bp,Mv,Iz⟩:=id hs;let Q_:s.TypeIs (.ref sl) "slice":=⟨os,Bp,Mv⟩;unfold getItem
 try with_reducible show vM ?_
 first|refine aC (aQ ?_)|skip
 show aC (wpAny_sequenceKey ht.typeIs J0 ?_);show aC (Ab (name:=Str.ofString "__getitem__") ht.typeIs DK
  (yF DK ht.typeIs entry_tuple_getitem ?_ (args_tuple_getitem _ _)))
 change wpAny _ _ (Builtin.Tuple.tupleItemsOf (.ref t) >>= _) _ _ s;show aC (tupleItemsOf_ ht ?_);show aC (wpAny_typeOf Q_ ?_);rw[if_pos J0];show aC (X4 hs pl pu ?_);let S5:(((bU items.size 0 lo:Nat):Int)==0&&(1:Int)==1&&(bU items.size items.size hi-bU items.size 0 lo)==items.size)=true:=by
  rw[hw.1,hw.2];simp
 change wpAny _ _ (if (((bU items.size 0 lo:Nat):Int)==0&&(1:Int)==1&&(bU items.size items.size hi-bU items.size 0 lo)==items.size)=true then _ else _) _ _ s;rw[if_pos S5];show aC ?_;unfold Builtin.Tuple.tupleIsExact;show aC (wpAny_typeOf ht.typeIs ?_);show aQ ?_;rw[if_pos J0];show aC (yJ ?_);show aQ ⟨_,rfl,aQ h⟩
end
end HT
namespace L2
open PySem PySem.Spec PyProof.Rows
section
variable {X:Cx}{e:Expr}{te:TE}{pos p2:Pos}
def uU(K:W.Frag):R2:=λx y H Q=>∃a b xs ys,x=.ref a/\y=.ref b/\fC K H a xs/\fC K H b ys/\xs.length+ys.length<=sizeLine /\
 (xs=[]->Q (.ref b) H)/\(ys=[]->Q (.ref a) H)/\∀p,H p=none->Q (.ref p) (upd H p (.tup (xs++ys)))
def uV:dX X (binaryOp .Add) (uU X.K):=by
 intro ao s Z H x y v u Q I rx ry h;let⟨a,b,xs,ys,rfl,rfl,ha,hb,hz,q0,q1,q2⟩:=h;cases rx;cases ry;let⟨its,r1,p1,_⟩:=I.tuple ha;let⟨its2,r2,p2,_⟩:=I.tuple hb;by_cases hx:xs=[]
 .exact HT.uT p1 p2 (r1.mL.mpr hx) ⟨.ref b,H,I,rfl,q0 hx⟩
 .refine HT.wN p1 p2 (λz=>hx (r1.mL.mp z)) (λz=>⟨.ref a,H,I,rfl,q1 (r2.mL.mp z)⟩) (λz=>?_) (by rw[<-r1.length,<-r2.length];show hz);show⟨.ref s.heap.objs.size,_,I.laid (t':=s.toks) (o:=.tup (xs++ys)) (λb ob q=>cR _ q) (bQ _) ?_,rfl,q2 _ (I.hok.fresh (bQ _))⟩;show⟨by rw[jk];show hz,_,r1.append r2,jO.new _ _⟩
def zu(K:W.Frag):V->Option Int->Option Int->Hp->VK->Prop:=λx lo hi H Q=>∃a xs,x=.ref a/\fC K H a xs /\
 ((HT.bU xs.length 0 lo=0/\HT.bU xs.length xs.length hi=xs.length)->Q (.ref a) H)/\∀p,H p=none->Q (.ref p) (upd H p (.tup (mK xs lo hi)))
def zkI:wQ X (zu X.K):=by
 intro ao s Z H x v vl vu lo hi sl Q I rx hs pl pu h;let⟨a,xs,rfl,hx,hw,q⟩:=h;by_cases hz:HT.bU xs.length 0 lo=0/\HT.bU xs.length xs.length hi=xs.length
 .cases rx;let⟨its,r,ht,_⟩:=I.tuple hx;let hlen:its.toArray.size=xs.length:=by rw[gj];show r.length.symm
  show⟨"tuple",_,DK.lookup,ht.typeIs,?_⟩;show HT.gB ht hs pl pu (by rw[hlen];show hz) ⟨.ref a,H,I,rfl,hw hz⟩
 .exact zlv ao s Z H (.ref a) v vl vu lo hi sl Q I rx hs pl pu ⟨a,xs,rfl,hx,hz,q⟩
end
section
variable {X:Cx}
def zx(K:W.Frag):R2:=λx y H Q=>∃l b xs zs,x=.ref l/\y=.ref b/\c7 K H l xs/\c7 K H b zs/\xs.length+zs.length<=sizeLine/\∀p,H p=none->Q (.ref p) (upd H p (.lst (xs++zs)))
def xH:dX X (binaryOp .Add) (zx X.K):=by
 intro ao s Z H x y v u Q I rx ry h;let⟨l,b,xs,zs,rfl,rfl,hH,hB,hz,q⟩:=h;cases rx;cases ry;let⟨its,r,pl,_⟩:=I.list hH;let⟨its2,r2,pl2,_⟩:=I.list hB;let⟨⟨cls,dd,data,sl⟩,ho,hc,n,hd⟩:=pl.isList;let⟨⟨cls2,dd2,data2,sl2⟩,kO,kW,n2,hd2⟩:=pl2.isList;simp only at hc hd kW hd2;subst hc hd kW hd2;show concat_meets ⟨_,ho,rfl⟩ ⟨_,kO,rfl⟩ noFill_list_add seq_list_add PySem.F.slot_list_add PySem.F.entry_list_add (PySem.F.args_list_add_2 _ _) (list_addW l b its.toArray its2.toArray n n2 dd dd2 sl sl2 (by rw[gj,gj,<-r.length,<-r2.length];show hz)) ⟨ho,kO,?_⟩;let ea:its.toArray++its2.toArray=(its++its2).toArray:=by simp
 rw[ea];show⟨.ref _,_,I.Rm (t':=s.toks) (r.append r2) (by rw[jk];omega),rfl,q _ I.fresh⟩
def qR(K:W.Frag):R2:=λx y H Q=>pN (λi j=>.int (i+j)) x y H Q\/zx K x y H Q\/uU K x y H Q\/∃i j,x=.str i/\y=.str j/\i.length+j.length<=sizeLine/\Q (.str (i++j)) H
theorem zgp:dX X (binaryOp .Add) (qR X.K):=Bj.or (xH.or (uV.or zfr))
end
end L2
namespace Mi
open PySem PySem.Spec PyProof.Rows L2
section
variable {K:W.Frag}{cA:Cl}{U:Ph}{H:Hp}{Q:VK}{p:Pr}
def bC.some'{o:Option Rz}(h:bC K cA U H o Q):∃z,o=some z:=by
 cases o with
 |none=>show h.elim|some z=>show⟨z,rfl⟩
theorem bC.of{o:Option Rz}{z:Rz}(h:bC K cA U H o Q)(e:o=some z):bC K cA U H (some z) Q:=e▸h
theorem bC.here{d:D}{v:V}(h:bC K cA U H (some (.dat d)) Q)(r:Rep K cA U H d v):Q v H:=h H v bB.refl r
theorem bC.tup{xs:List D}{vs:List V}{a:Addr}(h:bC K cA U H (some (.dat (.tup xs))) Q)(z:Zt U H)(r:aD K cA U H xs vs)(hp:H a=none):Q (.ref a) (upd H a (.tup vs)):=
 h _ _ (bB.new hp) (.tup (TupAt.new (z.nz hp)) (r.mono (bB.new hp).ext z.lz))
def xq.two{ds:List D}{vs:List V}{d d':D}(h:xq K cA U H [d,d'] vs):∃v v',vs=[v,v']/\Rv K cA U H d v/\Rv K cA U H d' v':=by
 cases h with
 |cons a r=>cases r with
  |cons b r=>cases r;show⟨_,_,rfl,a,b⟩
def xq.one(h:xq K cA U H [d] vs):∃v,vs=[v]/\Rv K cA U H d v:=by
 cases h with
 |cons a r=>cases r;show⟨_,rfl,a⟩
def Rv.int{i:Int}{v:V}(h:Rv K cA U H (.int i) v):v=.int i:=by cases (show Rep K cA U H (.int i) v from h);rfl
def Rv.bl{i:Bool}{v:V}(h:Rv K cA U H (.bl i) v):v=.bl i:=by cases (show Rep K cA U H (.bl i) v from h);rfl
def Rv.str{i:Str}{v:V}(h:Rv K cA U H (.str i) v):v=.str i:=by cases (show Rep K cA U H (.str i) v from h);rfl
def Rv.tup{xs:List D}{v:V}(h:Rv K cA U H (.tup xs) v):∃a vs,v=.ref a/\TupAt K U H a vs/\aD K cA U H xs vs:=by
 cases (show Rep K cA U H (.tup xs) v from h) with
 |tup a r=>show⟨_,_,rfl,a,r⟩
def Rv.sq{d:D}{xs:List D}{v:V}(h:Rv K cA U H d v)(e:pX d=some xs):∃a vs,v=.ref a/\(c7 K H a vs\/fC K H a vs)/\aD K cA U H xs vs:=by
 cases d with
 |tup ys=>
  cases e;let⟨a,vs,e,t,r⟩:=Rv.tup h;show⟨a,vs,e,.inr t.iC,r⟩
 |fl ys=>
  cases e;let⟨a,vs,e,l,r⟩:=h;show⟨a,vs,e,.inl l,r⟩
 |_=>cases e
def YH{f:Int->Int->Option D}{ds:List D}{z:Rz}(h:dw f ds=some z):∃i j d,ds=[.int i,.int j]/\f i j=some d/\z=.dat d:=by
 cases ds with
 |nil=>cases h|cons a t=>
 cases a with
 |int i=>
  cases t with
  |nil=>cases h|cons b t=>
  cases b with
  |int j=>
   cases t with
   |cons _ _=>cases h|nil=>
    let⟨d,e1,e2⟩:=iI.mp h;show⟨_,_,d,rfl,e1,e2.symm⟩
  |_=>cases h
 |_=>cases h
def JD{f:Int->Int->Option D}(hp:prim p=dw f){C:Int->Int->Prop}{g:Int->Int->V}(hf:∀i j d,f i j=some d->C i j/\∀U H,Rep K cA U H d (g i j)):bD K cA p (r2 (rI C g)):=by
 intro U H ds vs Q zt rs o;rw[hp]at o;let⟨z,e⟩:=o.some';let⟨i,j,d,rfl,e1,rfl⟩:=YH e;let⟨c,r⟩:=hf i j d e1;let⟨v,v',rfl,r1,r2⟩:=rs.two (ds:=[]);rw[r1.int,r2.int];show⟨_,_,rfl,i,j,rfl,rfl,c,(o.of e).here (r U H)⟩
def FP{f:Int->Int->D}(hp:prim p=dw λi j=>some (f i j)){g:Int->Int->V}(hf:∀i j U H,Rep K cA U H (f i j) (g i j)):bD K cA p (r2 (pN g)):=by
 intro U H ds vs Q zt rs o;let⟨x,y,e,i,j,a,b,_,q⟩:=JD (K:=K) (cA:=cA) (C:=λ_ _=>True) hp (λi j d e=>⟨trivial,λU H=>by cases e;show hf i j U H⟩) U H ds vs Q zt rs o;show⟨x,y,e,i,j,a,b,q⟩
def JF{α:Type}{c:Prop}[Decidable c]{x y:α}(h:(if c then some x else none)=some y):c/\y=x:=by
 split at h
 .rename_i z;cases h;show⟨z,rfl⟩
 .cases h
theorem zm6:bD K cA .aq (r2 (pN λi j=>.int (i-j))):=FP (f:=λi j=>.int (i-j)) rfl λi j _ _=>.int _
theorem znU:bD K cA .mul (r2 (rI wK λi j=>.int (i*j))):=JD rfl λi j d e=>by let⟨c,rfl⟩:=JF e;show⟨c,λ_ _=>.int _⟩
theorem zka:bD K cA .fdiv (r2 (rI wJ λi j=>.int (i/j))):=JD rfl λi j d e=>by let⟨c,rfl⟩:=JF e;show⟨c,λ_ _=>.int _⟩
theorem zlj:bD K cA .mod (r2 (rI (λ_ j=>0<j) λi j=>.int (i%j))):=JD rfl λi j d e=>by let⟨c,rfl⟩:=JF e;show⟨c,λ_ _=>.int _⟩
theorem zlp:bD K cA .pow (r2 (rI Ih λi j=>.int (i^j.toNat))):=JD rfl λi j d e=>by let⟨c,rfl⟩:=JF e;show⟨c,λ_ _=>.int _⟩
theorem zo1:bD K cA .le (r2 (pN λi j=>.bl (decide (i<=j)))):=FP (f:=λi j=>.bl (decide (i<=j))) rfl λi j _ _=>.bl _
theorem zoe:bD K cA .gt (r2 (pN λi j=>.bl (decide (j<i)))):=FP (f:=λi j=>.bl (decide (j<i))) rfl λi j _ _=>.bl _
theorem zoM:bD K cA .ge (r2 (pN λi j=>.bl (decide (j<=i)))):=FP (f:=λi j=>.bl (decide (j<=i))) rfl λi j _ _=>.bl _
def zmW:bD K cA .neg (λvs H Q=>∃x,vs=[x]/\rU (λi=>.int (-i)) x H Q):=by
 intro U H ds vs Q zt rs o;let⟨z,e⟩:=o.some';let e:qL (λi=>.int (-i)) ds=some z:=e;cases ds with
 |nil=>cases e|cons a t=>
 cases a with
 |int i=>
  cases t with
  |cons _ _=>cases e|nil=>
   cases e;let⟨v,rfl,r1⟩:=rs.one;show⟨_,rfl,_,r1.int,bC.here (o.of rfl) (.int _)⟩
 |_=>cases e
def zoT:bD K cA .eq (r2 (xG K cA id)):=by
 intro U H ds vs Q zt rs o;let⟨z,e⟩:=o.some';let e:BL id ds=some z:=e;unfold BL at e;split at e
 .obtain⟨b,e1,e2⟩:=iI.mp e;let⟨v,v',rfl,r1,r2⟩:=rs.two (ds:=[]);subst e2;show⟨_,_,rfl,U,_,_,b,r1,r2,e1,(o.of e).here (.bl _)⟩
 .cases e
def zpk:bD K cA .ne (r2 (xG K cA not)):=by
 intro U H ds vs Q zt rs o;let⟨z,e⟩:=o.some';let e:BL not ds=some z:=e;unfold BL at e;split at e
 .obtain⟨b,e1,e2⟩:=iI.mp e;let⟨v,v',rfl,r1,r2⟩:=rs.two (ds:=[]);subst e2;show⟨_,_,rfl,U,_,_,b,r1,r2,e1,(o.of e).here (.bl _)⟩
 .cases e
def zkT{f:Bool->Bool}{ds:List D}{z:Rz}(h:Fp f ds=some z):∃a b xs k,ds=[a,b]/\pX b=some xs/\memD a xs=some k/\z=.dat (.bl (f k)):=by
 unfold Fp at h;split at h
 .obtain⟨k,e1,e2⟩:=iI.mp h;let⟨xs,e3,e4⟩:=v8.mp e1;show⟨_,_,xs,k,rfl,e3,e4,e2.symm⟩
 .cases h
def zpy:bD K cA .inn (r2 (Jz K cA id)):=by
 intro U H ds vs Q zt rs o;let⟨z,e⟩:=o.some';let⟨a,b,xs,k,rfl,e1,e2,rfl⟩:=zkT (show Fp id ds=some z from e);let⟨v,v',rfl,r1,r2⟩:=rs.two (ds:=[]);show⟨_,_,rfl,U,_,_,xs,k,r1,r2,e1,e2,(o.of e).here (.bl _)⟩
theorem FQ:∀{xs:List D} {ns:List Int} {vs:List V},bI xs=some ns->aD K cA U H xs vs->vs=ns.map V.int
 |[],ns,vs,h,r=>by cases h;cases r;rfl|d::xs,ns,vs,h,r=>by
  cases d with
  |int i=>
   simp only[bI,iI]at h;let⟨ns',h1,rfl⟩:=h;cases r with
   |cons a r=>cases a;rw[FQ h1 r];rfl
  |_=>simp[bI]at h
theorem JL:∀(a b:List Int),ltI a b=HT.lexLt a b
 |_,[]=>by cases ‹List Int›<;>rfl|[],_::_=>rfl|x::xs,y::ys=>by
  unfold ltI;rw[JL xs ys,HT.eU]
def zoh:bD K cA .lt (r2 λx y H Q=>pN (λi j=>.bl (decide (i<j))) x y H Q\/IV K x y H Q):=by
 intro U H ds vs Q zt rs o;let⟨z,e⟩:=o.some';let e:Jq ds=some z:=e;unfold Jq at e;split at e
 .cases e;let⟨v,v',rfl,r1,r2⟩:=rs.two (ds:=[]);show⟨_,_,rfl,.inl ⟨_,_,r1.int,r2.int,bC.here (o.of rfl) (.bl _)⟩⟩
 .split at e
  .rename_i a b h1 h2;cases e;let⟨v,v',rfl,r1,r2⟩:=rs.two (ds:=[]);let⟨p,us,rfl,t1,q1⟩:=r1.tup;let⟨p',us',rfl,t2,q2⟩:=r2.tup;let o2:bC K cA U H (some (.dat (.bl (ltI a b)))) Q:=by
    let o3:bC K cA U H (Jq [.tup _,.tup _]) Q:=o;unfold Jq at o3;simp only[h1,h2]at o3;show o3
   show⟨_,_,rfl,.inr ⟨p,p',a,b,rfl,rfl,by rw[<-FQ h1 q1];show t1.iC,by rw[<-FQ h2 q2];show t2.iC,?_⟩⟩;rw[<-JL];show o2.here (.bl _)
  .cases e
 .cases e
def zlP:bD K cA .add (r2 (qR K)):=by
 intro U H ds vs Q zt rs o;let o:bC K cA U H (BK ds) Q:=o;cases ds with
 |nil=>show False.elim o|cons a t=>
 cases a with
 |int i=>
  cases t with
  |nil=>show False.elim o|cons b t=>
  cases b with
  |int j=>
   cases t with
   |cons _ _=>show False.elim o|nil=>
    let⟨v,v',rfl,r1,r2⟩:=rs.two (ds:=[]);show⟨_,_,rfl,.inl ⟨_,_,r1.int,r2.int,bC.here o (.int _)⟩⟩
  |_=>show False.elim o
 |tup xs=>
  cases t with
  |nil=>show False.elim o|cons b t=>
  cases b with
  |tup ys=>
   cases t with
   |cons _ _=>show False.elim o|nil=>
    let⟨v,v',rfl,r1,r2⟩:=rs.two (ds:=[]);let⟨p,us,rfl,t1,q1⟩:=r1.tup;let⟨p',us',rfl,t2,q2⟩:=r2.tup;let o:bC K cA U H (if xs.length+ys.length<=sizeLine then some (.dat (.tup (xs++ys))) else none) Q:=o;by_cases hz:xs.length+ys.length<=sizeLine
    .rw[if_pos hz]at o;show⟨_,_,rfl,.inr (.inr (.inl ⟨p,p',us,us',rfl,rfl,t1.iC,t2.iC,by rw[<-q1.len,<-q2.len];show hz,λe=>?_,λe=>?_,λa ha=>o.tup zt (q1.app q2) ha⟩))⟩
     .subst e;cases q1;show o.here (.tup t2 q2)
     .subst e;cases q2;rw[vI]at o;show o.here (.tup t1 q1)
    .rw[if_neg hz]at o;show o.elim
  |_=>show False.elim o
 |fl xs=>
  cases t with
  |nil=>show False.elim o|cons b t=>
  cases b with
  |fl ys=>
   cases t with
   |cons _ _=>show False.elim o|nil=>
    let⟨v,v',rfl,⟨p,us,rfl,t1,q1⟩,⟨p',us',rfl,t2,q2⟩⟩:=rs.two (ds:=[]);let o:bC K cA U H (if xs.length+ys.length<=sizeLine then some (.nw (xs++ys)) else none) Q:=o;by_cases hz:xs.length+ys.length<=sizeLine
    .rw[if_pos hz]at o;show⟨_,_,rfl,.inr (.inl ⟨p,p',us,us',rfl,rfl,t1,t2,by rw[<-q1.len,<-q2.len];show hz,λa ha=>o a _ ha (q1.app q2)⟩)⟩
    .rw[if_neg hz]at o;show o.elim
  |_=>show False.elim o
 |str x=>
  cases t with
  |nil=>show False.elim o|cons b t=>
  cases b with
  |str y=>
   cases t with
   |cons _ _=>show False.elim o|nil=>
    let⟨v,v',rfl,r1,r2⟩:=rs.two (ds:=[]);let o:bC K cA U H (if x.length+y.length<=sizeLine then some (.dat (.str (x++y))) else none) Q:=o;by_cases hz:x.length+y.length<=sizeLine
    .rw[if_pos hz]at o;show⟨_,_,rfl,.inr (.inr (.inr ⟨_,_,r1.str,r2.str,hz,o.here (.str _)⟩))⟩
    .rw[if_neg hz]at o;show o.elim
  |_=>show False.elim o
 |_=>show False.elim o
def zmN:bD K cA .len (λxs H Q=>∃p ys,xs=[.ref p]/\(c7 K H p ys\/fC K H p ys)/\Q (.int ys.length) H):=by
 intro U H ds vs Q zt rs o;let o:bC K cA U H (rT (λxs=>some (.dat (.int xs.length))) ds) Q:=o;unfold rT at o;split at o
 .obtain⟨v,rfl,r1⟩:=rs.one;let⟨z,e⟩:=o.some';let⟨xs,e1,e2⟩:=v8.mp e;let⟨a,us,rfl,sq,q⟩:=r1.sq e1;cases e2;show⟨a,us,rfl,sq,?_⟩;rw[<-q.len];show(o.of e).here (.int _)
 .exact o.elim
def zkq:bD K cA .list (λxs H Q=>∃p ys,xs=[.ref p]/\(c7 K H p ys\/fC K H p ys)/\∀l,H l=none->Q (.ref l) (upd H l (.lst ys))):=by
 intro U H ds vs Q zt rs o;let o:bC K cA U H (rT (λxs=>some (.nw xs)) ds) Q:=o;unfold rT at o;split at o
 .obtain⟨v,rfl,r1⟩:=rs.one;let⟨z,e⟩:=o.some';let⟨xs,e1,e2⟩:=v8.mp e;let⟨a,us,rfl,sq,q⟩:=r1.sq e1;cases e2;show⟨a,us,rfl,sq,λl hl=>(o.of e) l us hl q⟩
 .exact o.elim
def zhX:bD K cA .tuple (λxs H Q=>∃p ys,xs=[.ref p]/\((c7 K H p ys/\∀l,H l=none->Q (.ref l) (upd H l (.tup ys)))\/(fC K H p ys/\Q (.ref p) H))):=by
 intro U H ds vs Q zt rs o;let o:bC K cA U H (pY ds) Q:=o;unfold pY at o;split at o
 .rename_i d _;let⟨v,rfl,r1⟩:=rs.one;cases d with
  |tup xs=>
   let⟨a,us,rfl,t,q⟩:=r1.tup;show⟨a,us,rfl,.inr ⟨t.iC,bC.here o (.tup t q)⟩⟩
  |fl xs=>
   let⟨a,us,rfl,t,q⟩:=r1;show⟨a,us,rfl,.inl ⟨t,λl hl=>bC.tup o zt q hl⟩⟩
  |_=>show o.elim
 .exact o.elim
def znp:bD K cA .abs (λxs H Q=>∃i,xs=[.int i]/\Q (.int (if i<0 then -i else i)) H):=by
 intro U H ds vs Q zt rs o;let o:bC K cA U H (qL (λi=>.int (if i<0 then -i else i)) ds) Q:=o;cases ds with
 |nil=>show False.elim o|cons a t=>
 cases a with
 |int i=>
  cases t with
  |cons _ _=>show False.elim o|nil=>
   let⟨v,rfl,r1⟩:=rs.one;rw[r1.int];show⟨_,rfl,bC.here o (.int _)⟩
 |_=>show False.elim o
def zj4:bD K cA .wX (λxs H Q=>(∃i,xs=[.int i]/\Q (.int i) H)\/∃k,xs=[.bl k]/\Q (.int (if k then 1 else 0)) H):=by
 intro U H ds vs Q zt rs o;let o:bC K cA U H (Jr ds) Q:=o;cases ds with
 |nil=>show False.elim o|cons a t=>
 cases a with
 |int i=>
  cases t with
  |cons _ _=>show False.elim o|nil=>
   let⟨v,rfl,r1⟩:=rs.one;rw[r1.int];show .inl ⟨_,rfl,bC.here o (.int _)⟩
 |bl k=>
  cases t with
  |cons _ _=>show False.elim o|nil=>
   let⟨v,rfl,r1⟩:=rs.one;rw[r1.bl];show .inr ⟨_,rfl,bC.here o (.int _)⟩
 |_=>show False.elim o
def zj3:bD K cA .max2 (λxs H Q=>∃i j,xs=[.int i,.int j]/\Q (.int (if j>i then j else i)) H):=by
 intro U H ds vs Q zt rs o;let⟨x,y,e,i,j,rfl,rfl,q⟩:=FP (K:=K) (cA:=cA) (p:=.max2) (f:=λi j=>.int (if j>i then j else i)) rfl (λi j _ _=>.int _) U H ds vs Q zt rs o;show⟨i,j,e,q⟩
def zjh:bD K cA .min2 (λxs H Q=>∃i j,xs=[.int i,.int j]/\Q (.int (if j<i then j else i)) H):=by
 intro U H ds vs Q zt rs o;let⟨x,y,e,i,j,rfl,rfl,q⟩:=FP (K:=K) (cA:=cA) (p:=.min2) (f:=λi j=>.int (if j<i then j else i)) rfl (λi j _ _=>.int _) U H ds vs Q zt rs o;show⟨i,j,e,q⟩
def zf9:bD K cA .divmod (λxs H Q=>∃i j,xs=[.int i,.int j]/\wJ i j/\∀p,H p=none->Q (.ref p) (upd H p (.tup [.int (i/j),.int (i%j)]))):=by
 intro U H ds vs Q zt rs o;let o:bC K cA U H (dw (λi j=>if 0<j/\j<1073741824 then some (.tup [.int (i/j),.int (i%j)]) else none) ds) Q:=o;let⟨z,e⟩:=o.some';let⟨i,j,d,rfl,e1,rfl⟩:=YH e;let⟨c,rfl⟩:=JF e1;let⟨v,v',rfl,r1,r2⟩:=rs.two (ds:=[]);rw[r1.int,r2.int];show⟨i,j,rfl,c,λp hp=>(o.of e).tup zt (.cons (.int _) (.cons (.int _) .nil)) hp⟩
theorem YJ:∀{xs:List D} {bs:List Bool} {vs:List V},fP xs=some bs->aD K cA U H xs vs->vs=bs.map V.bl
 |[],bs,vs,h,r=>by cases h;cases r;rfl|d::xs,bs,vs,h,r=>by
  cases d with
  |bl b=>
   simp only[fP,iI]at h;let⟨bs',h1,rfl⟩:=h;cases r with
   |cons q r=>cases q;rw[YJ h1 r];rfl
  |_=>simp[fP]at h
def zo2:bD K cA .ix (r2 (Rg K)):=by
 intro U H ds vs Q zt rs o;let o:bC K cA U H (Ss ds) Q:=o;unfold Ss at o;split at o
 .rename_i d i _;let⟨v,v',rfl,r1,r2⟩:=rs.two (ds:=[]);let⟨z,e⟩:=o.some';let⟨y,e1,e2⟩:=iI.mp e;let⟨xs,e3,e4⟩:=v8.mp e1;let⟨a,us,rfl,sq,q⟩:=r1.sq e3;let key:∃w,L2.qG us i=some w/\Rep K cA U H y w:=by
   unfold L2.qG at *;rw[<-q.len];let⟨j,h1,h2⟩:=v8.mp e4;let⟨w,h3,h4⟩:=q.get h2;show⟨w,by rw[h1];show h3,h4⟩
  let⟨w,hw,kJ⟩:=key;subst e2;let q':=(o.of e).here kJ;rcases sq with sq|sq
  .exact⟨_,_,rfl,.inl ⟨a,us,i,w,rfl,r2.int,sq,hw,q'⟩⟩
  .exact⟨_,_,rfl,.inr (.inl ⟨a,us,i,w,rfl,r2.int,sq,hw,q'⟩)⟩
 .exact o.elim
def YK(K:W.Frag):V->Option Int->Option Int->Hp->VK->Prop:=λx lo hi H Q=>Ja K x lo hi H Q\/zu K x lo hi H Q
theorem zlg:wQ X (YK X.K):=wV.or zkI
def zki{d:D}{lo hi:Option Int}{v:V}(zt:Zt U H)(r:Rv K cA U H d v)(o:bC K cA U H (cutD d lo hi) Q):YK K v lo hi H Q:=by
 cases d with
 |tup xs=>
  let⟨a,us,rfl,t,q⟩:=r.tup;show .inr ⟨a,us,rfl,t.iC,λe=>?_,λp hp=>bC.tup o zt q.cut hp⟩;let hc:cut xs lo hi=xs:=by
   unfold cut;rw[q.len,e.1,e.2,List.drop_zero,Nat.sub_zero,<-q.len,wu]
  let o:bC K cA U H (some (.dat (.tup (cut xs lo hi)))) Q:=o;rw[hc]at o;show o.here (.tup t q)
 |fl xs=>
  let⟨a,us,rfl,t,q⟩:=r;show .inl ⟨a,us,rfl,t,λp hp=>o p _ hp q.cut⟩
 |_=>show o.elim
end
end Mi
namespace L2
open PySem PySem.Spec PyProof.Rows
section
variable {X:Cx}{ao:List (Addr×Obj)}{Z:St}{H:Hp}{s:Shared}{a:Addr}{y v:V}{u r:Value}{o:Option V}{A:Around}{E:Value->Shared->Prop}
def Inv.big(I:Inv X ao Z H s):sysModules<s.heap.objs.size:=by
 let h:mainGlobals<s.heap.objs.size:=(I.mod.glob.keeps I.bk).lt;show Nat.lt_trans J0 h
theorem zjE(I:Inv X ao Z H s)(mu:Hy (H a))(hs:Heap.SameBut a s.heap h')(he:∃q,h'.get? a=some q)(new:bT X.prog X.w (upd H a ob) h' a ob) :
  Inv X ao Z (upd H a ob) {s with heap:=h',toks:=t'}:=
 I.write (x:=a) (e:=a) mu (.inl rfl) (λb q hb z=>(hs.2 b hb).trans z) he new
end
def Cd(i:Expr):Prop:=∀ov iv,subscripted i false ov iv=operate [ov,iv] (getItem ov iv)
def zkH{prog:Program}{w:World}{A:Around}{E:Value->Shared->Prop}{s:Shared}{env:Env}{value slice:Expr}{pos:Pos}{T id:String}{Q:Value->Shared->Prop}
  (hl:typeLookup (.type T) "__getitem__"=pure (some (.builtin id))) (hs:Cd slice)
  (h:wpAny (model prog w) A (eval value env) (λo s₁=>wpAny (model prog w) A (eval slice env) (λi s₂=>s₂.TypeIs o T/\wpAny (model prog w) A (getItem o i) Q E s₂) E s₁) E s) :
  wpAny (model prog w) A (eval (.Subscript value slice pos) env) Q E s:=by
 show Subscript_ (iM h (λo s₁ h₁=>iM h₁ (λi s₂ h₂=>?_) λ_ _ x=>x) λ_ _ x=>x);let⟨hT,h₂⟩:=h₂;unfold subscriptTail;show aC ?_;rw[getitemInPython_of_ne hT.not_modules];show aC (Lr hT hl ?_);let fin:wpAny (model prog w) A (subscripted slice false o i) (λr s₃=>wpAny (model prog w) A (letTemporaryGo value o r >>= λ_=>pure r) Q E s₃) E s₂:=by
  rw[hs o i];show wpAny_operating (iM h₂ (λr s₃ h₃=>aC (wpAny_letTemporaryGo (aQ h₃))) λ_ _ x=>x)
 first
  |exact aQ (aC fin)
  |exact aC (aQ (aC fin))
  |exact aC fin
end L2
namespace Mi
open PySem PySem.Spec PyProof.Rows L2
section
variable {X:Cx}{cA:Cl}{aq:Nat->Nat->Bool}{aj:Bool}{F:Fn}{EX:XS}{a b c d e o:Expr}{A B C Dd E' O:E}{pos pp p2 apos cpos:Pos}{es:List Expr}{Xs:Es}{fz:Bool}{p:Pr}{x:Str}{U:Ph}{H:Hp}{s:S}{lo hi:Option Expr}{Lo Hi:Eo}
def JM(X:Cx)(cA:Cl)(aq:Nat->Nat->Bool)(aj:Bool)(F:Fn)(EX:XS)(oe:Option Expr)(m:Eo):Prop:=
 PO X oe (λZ H Q=>∃U J s,aW X.K cA U H Z J/\aG X.K cA U H s/\Run X.K cA (w6 aq aj F m J) U H s (λi _ U' H'=>Q i H') (eX X.K cA EX Z))
def PO.weak{oe:Option Expr}{t t':TO}(h:PO X oe t)(f:∀Z H Q,t' Z H Q->t Z H Q):PO X oe t':=by
 intro ao s Z H Q I q;show h ao s Z H Q I (f Z H Q q)
theorem zob:JM X cA aq aj F EX none .no:=PO.weak zkL λZ H Q hh=>un hh λU J s hL hS h=>h.bF hS
theorem zlH(ha:SE X cA aq aj F EX a A):JM X cA aq aj F EX (some a) (.yes A):=PO.weak (zkS ha) λZ H Q hh=>un hh λU J s hL hS h=>by
 show bf hL hS h λx H1 U1 d1 s1 x1 hL1 aH r1 h1=>?_;let⟨i,_,e,h3⟩:=Fy r1 h1;show⟨i,e,h3.bF aH⟩
theorem JV{β:Type}{Z:L2.St}{J:Vs}{m:Eo}{k:Option Int->M β}{P:β->S->Ph->Hp->Prop}(hL:aW X.K cA U H Z J)(hS:aG X.K cA U H s)(h:Run X.K cA (M.bd (w6 aq aj F m J) k) U H s P (eX X.K cA EX Z)){Q:Option Int->Hp->Prop}
  (f:∀i H1 U1 s1,Ext U H U1 H1->aW X.K cA U1 H1 Z J->aG X.K cA U1 H1 s1->Run X.K cA (k i) U1 H1 s1 P (eX X.K cA EX Z)->Q i H1) :
  ∃U J s,aW X.K cA U H Z J/\aG X.K cA U H s/\Run X.K cA (w6 aq aj F m J) U H s (λi _ U' H'=>Q i H') (eX X.K cA EX Z):=
 ⟨U,J,s,hL,hS,h.bd.imp λi s1 U1 H1 ⟨x1,r1,h1⟩=>f i H1 U1 s1 x1 (hL.mono x1 hS.lz) r1 h1⟩
theorem zpo(ha:SE X cA aq aj F EX a A)(hl:JM X cA aq aj F EX lo Lo)(hh:JM X cA aq aj F EX hi Hi):SE X cA aq aj F EX (.Subscript a (.Slice lo hi none p2) pos) (.sl fz A Lo Hi):=PE.weak (zh3 zlg ha hl hh) λZ H Q hh=>un hh λU J s hL hS h=>by
 show bf hL hS h λx H1 U1 d1 s1 x1 hL1 aH r1 h1=>JV hL1 aH h1 λl H2 U2 s2 x2 hL2 aO h2=>JV hL2 aO h2 λu H3 U3 s3 x3 oH gA h3=>?_;let⟨dd,rv,h4⟩:=Jw gA ((r1.mono x2 aH.lz).mono x3 aO.lz) h3;show zki gA.zs rv (sZ gA h4)
theorem zdt:∀bs:List Bool,(List.range bs.length).all (λi=>(bs[i]?).getD false)=bs.all id
 |[]=>rfl|b::r=>by
  rw[eE,Pk,wA,Er,wA];let:=zdt r;simp only[Function.comp_def,Ac,List.getElem?_cons_zero,Option.getD_some,id];rw[this]
def zhj(hc:X.aj=true):cV X (.builtin "all") (λxs H Q=>∃(p:Addr) (bs:List Bool),xs=[.ref p]/\c7 X.K H p (bs.map V.bl)/\Q (.bl (bs.all id)) H):=by
 rintro ao s Z H xs us Q I r ⟨p,bs,e,hp,q⟩;subst e;let⟨u,rfl,ru⟩:=Vals.one r;cases (show u=Value.ref p from ru);let⟨its,rv,pl,hz⟩:=I.list hp;let hl:s.heap.IsList p its.toArray:=pl.isList;let hpn:p≠s.heap.objs.size:=by
  let⟨o,hg,_⟩:=hl;show dN (bZ hg)
 show call_all_walk (Lh hl ?_);show⟨_,_,_,_,_,_,λi=>(bs[i]?).getD false,rfl,Walks.list (A:=X.A.in1) (I.ok.hd hc) _ p hpn its.toArray,⟨⟨_,fB _ rfl,rfl,rfl⟩,hl.push _⟩,?_,λh' tk hk=>?_⟩
 .intro i v s' Q' E' hP hQ;let hi:its[i]?=some v:=by simpa using hP
  let hb:∃b,bs[i]?=some b:=by
   let cW:i<its.length:=(cJ.mp hi).1;let z:=rv.length;rw[bN]at z;show⟨_,cB gV⟩
  let⟨b,hb⟩:=hb;let⟨u,e1,e2⟩:=rv.get (i:=i) (x:=V.bl b) (by rw[dH,hb];rfl);rw[hi]at e1;cases e1;cases (show v=Value.bool b from e2);let hQ:Q' ((bs[i]?).getD false) s':=hQ;rw[hb]at hQ;show vG hQ
 .let ez:(List.range its.toArray.size).all (λi=>(bs[i]?).getD false)=bs.all id:=by
   let z:=rv.length;rw[bN]at z;rw[gj,<-z];show zdt bs
  rw[ez];show⟨.bl (bs.all id),H,I.kept (h':=h') (t':=tk) (old_kept hk),rfl,q⟩
def zl5{K:W.Frag}:bD K cA .all (λxs H Q=>∃(p:Addr) (bs:List Bool),xs=[.ref p]/\c7 K H p (bs.map V.bl)/\Q (.bl (bs.all id)) H):=by
 intro U H ds vs Q zt rs o;let o:bC K cA U H (BR ds) Q:=o;unfold BR at o;split at o
 .obtain⟨v,rfl,⟨ad,us,rfl,l,q⟩⟩:=rs.one;let⟨z,e⟩:=o.some';let⟨bs,e1,e2⟩:=iI.mp e;subst e2;show⟨ad,bs,rfl,by rw[<-YJ e1 q];show l,(o.of e).here (.bl _)⟩
 .exact o.elim
def YL(K:W.Frag)(cA:Cl)(p:Pr)(r:V->List V->Hp->VK->Prop):Prop:=bD K cA p (λvs H Q=>∃x xs,vs=x::xs/\r x xs H Q)
def kdT:Kd->String
 |.list=>"list"|.str=>"str"|.tuple=>"tuple"|_=>"dict"
def zkh{K:W.Frag}{k:Kd}{dd:D}{v:V}(h:mU k dd=true)(r:Rv K cA U H dd v):Rh K (kdT k) v H:=by
 cases k<;>cases dd<;>first
  |(cases h;done)
  |(let⟨a,vs,rfl,l,_⟩:=r;show .inl ⟨rfl,vs,l⟩)
  |(rw[r.str];show rfl)
  |(cases (show Rep K cA U H (.fd _ _) v from r) with|@fd _ _ _ q n=>show .inr (.inr (.inl ⟨rfl,.inl ⟨_,q⟩⟩)))|(cases (show Rep K cA U H (.tup _) v from r) with|tup l _=>show .inr (.inl ⟨rfl,_,l.iC⟩))
theorem zkc{k:Kd}{id:String}{name:Str}{r:V->List V->Hp->VK->Prop}(pa:PlainAttrs (kdT k))(slot:Slot (kdT k) name id)(Ri:typeOf (.builtin id)=pure (.type "method_descriptor"))(hm:Rf X id r)(hr:YL X.K cA p r)
  (ho:SE X cA aq aj F EX o O) (ha:SA X cA aq aj F EX (e::es) Xs)
  (iy:attributeBase o name X.env (eval o X.env)=eval o X.env:=by rfl)
  (pQ:((backTo cpos (starEach (e::es) X.env)).all (λx=>!x.1)&&(backToKw cpos (keywordEach [] X.env)).all (λx=>x.1.isSome)
  &&decide ((e::es).length+([]:List Keyword).length+(if ([]:List Keyword).isEmpty then 0 else 1)<30))=true:=by rfl)
  (iz:(apos.endLine==cpos.line)=true:=by rfl) (hs:starEach (e::es) X.env=(false,eval e X.env)::starEach es X.env:=by rfl) (fL:(backTo cpos (starEach es X.env)).any (·.1)=false:=by rfl) :
  SE X cA aq aj F EX (.Call (.Attribute o name apos) (e::es) [] cpos) (.meth fz p k O Xs):=PE.weak (X7 pa slot Ri hm ho ha iy pQ iz hs fL) λZ H Q hh=>un hh λU J s hL hS h=>by
 show bf hL hS h λx H1 U1 d1 s1 x1 hL1 aH r1 h1=>?_;let⟨dd,rv,h2⟩:=Jw aH r1 h1;by_cases hk:mU k dd=true
 .rw[if_pos hk]at h2;show⟨zkh hk rv,oG hL1 aH h2 λys H2 U2 ds s2 x2 hL2 aO r2 h3=>?_⟩;let⟨ds,rs,h4⟩:=uR aO (.cons (r1.mono x2 aH.lz) r2) h3;let⟨_,_,e,q⟩:=hr U2 H2 ds _ _ aO.zs rs (sZ aO h4);cases e;show q
 .rw[if_neg hk]at h2;show h2.elim
def Nf:Kd->String->Bool
 |.int,"int"=>true|.int,"bool"=>true|.bool,"bool"=>true|.str,"str"=>true|.tuple,"tuple"=>true|.list,"list"=>true|.dict,"dict"=>true|_,_=>false
def uW:Kd->Option Value
 |.int=>some (.type "int")|.bool=>some (.type "bool")|.str=>some (.type "str")|.tuple=>some (.type "tuple")|.list=>some (.type "list")|.dict=>some (.type "dict")|_=>none
def znQ{K:W.Frag}{k:Kd}{cu:Value}(h:uW k=some cu){T:String}(hT:T∈["NoneType","bool","int","str","tuple","list","dict"]):PySem.W.kitOne K (.type T) cu=some (Nf k T):=by
 simp only[jo,List.mem_nil_iff,or_false]at hT;cases k<;>simp only[uW]at h<;>cases h<;>rcases hT with rfl|rfl|rfl|rfl|rfl|rfl|rfl<;>rfl
structure JZ(K:W.Frag)(cA:Cl)(aq:Nat->Nat->Bool):Prop where
 xc:∀c,XC K (cA.a c)
 aq:∀c e,PySem.W.kitOne K (.ref (cA.a c)) (.ref (cA.a e))=some (aq c e)
 BJ:∀c,PySem.W.kitOne K (.ref (cA.a c)) (.type "ValueError")=some true
def FT(cA:Cl):Kd->V
 |.cls e=>.ref (cA.a e)|.BJ=>.ty "ValueError"|.int=>.ty "int"|.bool=>.ty "bool"|.str=>.ty "str"|.tuple=>.ty "tuple"|.list=>.ty "list"|.dict=>.ty "dict"
def zhV(Cs:uW k=none->JZ X.K cA aq) :
  cV X (.builtin "isinstance") (λxs H Q=>∃U d v bb,xs=[v,FT cA k]/\Rv X.K cA U H d v/\lR aq d k=some bb/\Q (.bl bb) H):=by
 rintro ao sh Z H xs us Q I r ⟨U,d,v,bb,e,rd,hi,q⟩;subst e;let⟨u,w,rfl,ru,rw_⟩:=Vals.two r;let J1:∀tk,EP X ao Z Q (.bool bb) {sh with toks:=tk}:=λtk=>⟨.bl bb,H,I.tok tk,rfl,q⟩;let bt:∀{T:String} {Hh:Heap->Prop},PySem.W.KitX X.K u (.type T) Hh->Hh sh.heap->T∈["NoneType","bool","int","str","tuple","list","dict"]->u≠Value.builtin "__main__.__loader__#opaque"->(∃cu,uW k=some cu/\w=cu/\Nf k T=bb)->wpAny (model X.prog X.w) X.A (PySem.call (.builtin "isinstance") [u,w]) (EP X ao Z Q) X.xe sh:=λ{T Hh} zzZ hh hT hx ⟨cu,h1,h2,h3⟩=>by
  subst h2 h3;show PySem.W.kia_one zzZ I.qy hh (znQ h1 hT) hx J1
 let wv:∀cu,uW k=some cu->w=cu:=λcu h=>by
  cases k<;>simp only[uW]at h<;>cases h<;>show rw_
 let fin:∀T,lR aq d k=(match uW k with|some _=>some (Nf k T)|none=>none)->∃cu,uW k=some cu/\w=cu/\Nf k T=bb:=λT h=>by
  rw[hi]at h;cases z:uW k with
  |none=>rw[z]at h;cases h|some cu=>rw[z]at h;cases h;show⟨cu,rfl,wv cu z,rfl⟩
 cases d with
 |non=>
  cases (show Rep X.K cA U H .non v from rd);cases (show u=Value.none from ru);show bt PySem.W.kitx_none trivial R3 (λz=>nomatch z) (fin "NoneType" (by cases k<;>rfl))
 |bl b=>
  cases rd.bl;cases (show u=Value.bool b from ru);show bt PySem.W.kitx_bool trivial R3 (λz=>nomatch z) (fin "bool" (by cases k<;>rfl))
 |int i=>
  cases rd.int;let⟨t,z⟩:=(show ∃t,u=Value.int i t from ru);cases z;show bt PySem.W.kitx_int trivial R3 (λz=>nomatch z) (fin "int" (by cases k<;>rfl))
 |str y=>
  cases rd.str;let⟨t,z⟩:=(show ∃t,u=Value.str y t from ru);cases z;show bt PySem.W.kitx_str trivial R3 (λz=>nomatch z) (fin "str" (by cases k<;>rfl))
 |tup xs=>
  let⟨ad,vs,rfl,h1,h2⟩:=rd.tup;cases (show u=Value.ref ad from ru);let⟨its,_,ht,_⟩:=I.tuple h1.iC;let⟨o,q1,q2,_⟩:=ht;show bt PySem.W.kitx_tuple ⟨o,q1,q2⟩ R3 (λz=>nomatch z) (fin "tuple" (by cases k<;>rfl))
 |fl xs=>
  let⟨ad,vs,rfl,h1,h2⟩:=rd;cases (show u=Value.ref ad from ru);let⟨its,_,ht,_⟩:=I.list h1;let⟨o,q1,q2,_⟩:=ht.isList;show bt PySem.W.kitx_list ⟨o,q1,q2⟩ R3 (λz=>nomatch z) (fin "list" (by cases k<;>rfl))
 |fd ks vs=>
  cases (show Rep X.K cA U H (.fd ks vs) v from rd) with
  |@fd ad kk ii q1 n=>
   cases (show u=Value.ref ad from ru);let⟨_,_,vs,_,o,es',ep,g1,g2,_⟩:=(show bT X.prog X.w H sh.heap ad (.dK [(.inr kk,.int ii)]) from I.hok ad _ q1);show bt PySem.W.kitx_dict ⟨o,g1,g2.1⟩ R3 (λz=>nomatch z) (fin "dict" (by cases k<;>rfl))
 |ob c fs=>cases k<;>cases hi|any=>cases k<;>cases hi|exc c fs=>cases k<;>cases hi
theorem zmh(Cs:uW k=none->JZ X.K cA aq)(hg:Gl X "isinstance")(hm:X.mg "isinstance"=none)(ha:SE X cA aq aj F EX a A)(hk:PE X kx (tC (FT cA k)))(h1:starEach [a,kx] X.env=(false,eval a X.env)::starEach [kx] X.env:=by rfl)(h2:starEach [kx] X.env=(false,eval kx X.env)::starEach [] X.env:=by rfl)
  (cF:(backTo pos (starEach [kx] X.env)).any (·.1)=false:=by rfl):SE X cA aq aj F EX (.Call (.Name "isinstance" pp) [a,kx] [] pos) (.qK A k):=PE.weak (XQ (zhV (cA:=cA) (k:=k) Cs) hg hm PyProof.Rows.boot_isinstance (rN ha (rN hk wL h2) h1) J0 J0 h1 cF) λZ H Q hh=>un hh λU J s hL hS h=>
 bf hL hS h λv H1 U1 d s1 x1 hL1 aH r1 h1=>by
  change ∃U d' v' bb,[v,FT cA k]=[v',FT cA k]/\_;let⟨dd,rv,h2⟩:=Jw aH r1 h1;let⟨bb,e,h3⟩:=Fx h2;show⟨U1,dd,v,bb,rfl,rv,e,h3.bF aH _ (.d (.bl bb))⟩
end
theorem YM(n:Nat):∀is js:List Int,dO (cO n) (is.map .int) (js.map .int)=some (decide (is=js))
 |[],[]=>rfl|[],_::_=>rfl|_::_,[]=>rfl|i::is,j::js=>by
  let e:cO n (.int i) (.int j)=some (i==j):=by cases n<;>rfl
  simp only[iV,dO,YM n is js,e]
  congr 1
  by_cases h:i=j
  .subst h;by_cases h2:is=js<;>simp[h2]
  .simp[h]
def zlK{a b:Kx}:cO 2 (rY a) (rY b)=some (decide (a=b)):=by
 cases a with
 |non=>cases b<;>rfl|int i=>cases b with
  |int j=>
   change some (i==j)=_;by_cases h:i=j
   .subst h;simp
   .let hn:¬Kx.int i=Kx.int j:=λz=>h (by cases z;rfl);simp[h,hn]
  |_=>rfl
 |row is=>cases b with
  |row js=>
   change dO (cO 1) (is.map .int) (js.map .int)=_;rw[YM];by_cases h:is=js
   .subst h;simp
   .let hn:¬Kx.row is=Kx.row js:=λz=>h (by cases z;rfl);simp[h,hn]
  |_=>rfl
def YQ{x y:List Kx}:cO 3 (jf x) (jf y)=some (decide (x=y)):=by
 change dO (cO 2) (x.map rY) (y.map rY)=_
 induction x generalizing y with
 |nil=>cases y<;>rfl|cons a x ih=>cases y with
  |nil=>rfl|cons b y=>
   simp only[iV,dO,ih,zlK]
   congr 1
   by_cases h:a=b
   .subst h;by_cases h2:x=y<;>simp[h2]
   .simp[h]
theorem YS:∀{xs:List D} {is:List Int},bI xs=some is->xs=is.map .int
 |[],is,h=>by cases h;rfl|x::r,is,h=>by
  cases x with
  |int i=>
   simp only[bI,iI]at h;let⟨js,h1,rfl⟩:=h;rw[YS h1];rfl
  |_=>cases h
def zjH{d:D}{k:Kx}(h:uO d=some k):d=rY k:=by
 cases d with
 |non=>cases h;rfl|int i=>cases h;rfl|tup xs=>
  simp only[uO,iI]at h;let⟨js,h1,rfl⟩:=h;rw[YS h1];rfl
 |_=>cases h
theorem YT:∀{xs:List D} {k:List Kx},Ca xs=some k->xs=k.map rY
 |[],k,h=>by cases h;rfl|x::r,k,h=>by
  unfold Ca at h;cases e1:uO x with
  |none=>simp only[e1]at h;cases h|some a=>cases e2:Ca r with
   |none=>simp only[e1,e2]at h;cases h|some b=>
    simp only[e1,e2]at h;cases h;rw[zjH e1,YT e2];rfl
def zlJ{d:D}{k:List Kx}(h:kOf d=some k):d=jf k:=by
 cases d with
 |tup xs=>change D.tup xs=.tup _;rw[YT h]|_=>cases h
def YW:Kx->Nat
 |.row is=>is.length+1|_=>1
def uX:List Kx->Nat
 |[]=>0|x::r=>YW x+uX r
section
variable {prog:Program}{w:World}{A:Around}{E:Value->Shared->Prop}{s:Shared}{h h':Heap}
theorem YX:∀{is:List Int} {us:List Value},iQ h (is.map .int) us->ItemsAre (intKind prog w) is us
 |[],us,r=>by cases r;show .nil|i::is,us,r=>by
  cases r with
  |cons a r=>cases a with
   |int i t=>show .cons (by simp[intKind,Value.isInt]) (YX r)|oth k=>cases k
def uY{is:List Int}{a:Value}(x:Is h (.tup (is.map .int)) a):∃b,a=.ref b/\IsTupleKey (intKind prog w) h is b:=by
 cases x with
 |tup p r=>
  let⟨o,e,c,n,d⟩:=p;show⟨_,rfl,o,_,n,e,c,d,by simpa using YX r⟩
 |oth k=>cases k
def zjM{x:Kx}{u:Value}{Q:Int->Shared->Prop}(hu:A.units<cLine)(hx:Is s.heap (rY x) u)(q:Q (Sw x) {s with toks:=s.toks+YW x}):wpAny (model prog w) A (pyHash u) Q E s:=by
 cases x with
 |non=>
  cases hx with
  |non=>show PySem.W.pyHash_slot (T:="NoneType") rfl F.slot_NoneType_hash F.entry_NoneType_hash (F.args_NoneType_hash_1 _) (beq_builtin_none _) (.inr hu) (aC (aQ (aC (wpAny_mkInt (aQ ⟨_,_,rfl,q⟩)))))|oth k=>cases k
 |int i=>
  cases hx with
  |int i t=>show wpAny_pyHash_int q|oth k=>cases k
 |row is=>
  let⟨b,rfl,k⟩:=uY (prog:=prog) (w:=w) hx;show wpAny_pyHash_tuple hu k q
theorem YZ{k:List Kx}:∀{r:List Kx} {us:List Value} {b:Array Int} {s:Shared} {Q:Array Int->Shared->Prop},A.units<cLine->iQ s.heap (r.map rY) us->(∀b':Array Int,b'.toList=b.toList++r.map Sw->Q b' {s with toks:=s.toks+uX r})->
  wpAny (model prog w) A (forIn us b λx r=>do let h <-pyHash x;pure PUnit.unit;pure (ForInStep.yield (r.push h))) Q E s
 |[],us,b,s,Q,hu,x,q=>by cases x;show aQ (q b R3)|a::r,us,b,s,Q,hu,x,q=>by
  cases x with
  |cons x1 x2=>
   rw[Ek];show aC (aC (zjM hu x1 (aC (aQ (aQ ?_)))));show YZ (k:=k) hu x2 λb' e=>?_;let:=q b' (by simp[e]);simpa [uX,Nat.add_assoc] using this
def ziC{k:List Kx}{a:Addr}{Q:Int->Shared->Prop}(hu:A.units+1<cLine)(hk:Is s.heap (jf k) (.ref a))(q:Q (qO k) {s with toks:=s.toks+(uX k+1)}):wpAny (model prog w) A (pyHash (.ref a)) Q E s:=by
 cases hk with
 |oth k=>cases k|tup p r=>
  let⟨o,e,c,n,d⟩:=p;show PySem.W.pyHash_slot (T:="tuple") ⟨_,e,c⟩ F.slot_tuple_hash F.entry_tuple_hash (F.args_tuple_hash_1 _) (beq_builtin_none _) (.inr gV) ?_;change wpAny _ _ (Builtin.Tuple.tupleItemsOf (.ref a) >>= _) _ _ s;show aC (wpAny_tupleItemsOf e d (aC ?_));rw[<-PL];show YZ (A:=A.in1) (k:=k) (show A.units+1<cLine from hu) (by simpa using r) λb hb=>?_;change wpAny _ _ (retInt (Builtin.Tuple.tupleHashOf b.toList)) _ _ _;rw[hb];show aC (wpAny_mkInt (aQ ⟨_,_,rfl,by simpa [Nat.add_assoc,qO] using q⟩))
theorem zio(ht:∀a xs,h.IsTuple a xs->h'.IsTuple a xs)(hl:∀a xs,h.IsList a xs->h'.IsList a xs){d:D}{u:Value}(x:Is h d u):Is h' d u:=
 Is.rec (motive_1:=λd u _=>Is h' d u) (motive_2:=λd u _=>iQ h' d u) .non .bl .int .str (λp _ r=>.tup (ht _ _ p) r) (λp _ r=>.fl (hl _ _ p) r) (λk=>.oth k) .nil (λ_ _ a r=>.cons a r) x
def zhG:∀{n:Nat} {x:Kx} {u:Value} {Q:Bool->Shared->Prop},Is s.heap (rY x) u->Q true s->wpAny (model prog w) A (eqIsQuiet (n+1) u) Q E s:=by
 intro n x u Q hx q;cases x with
 |non=>
  cases hx with
  |non=>rw[eqIsQuiet_byValue _ rfl];show aQ q|oth k=>cases k
 |int i=>
  cases hx with
  |int i t=>rw[eqIsQuiet_byValue _ rfl];show aQ q|oth k=>cases k
 |row is=>
  let⟨b,rfl,k⟩:=uY (prog:=prog) (w:=w) hx;let ty:=k.typeIs;let⟨o,items,m,ho,_,hd,hi⟩:=k;unfold eqIsQuiet;show aC (Lr ty F.slot_tuple_eq.lookup ?_);change wpAny _ A (isInstance (.ref b) (.type "tuple") >>= _) Q E s;show aC (Ln ty isSubtype_tuple_tuple ?_);simp only[Bool.not_true,vD,qu];show aC (rE ho hd (aC ?_));change wpAny _ A (forIn items _ _) _ E s;rw[<-PL];show Ef _ (λl r t=>r.1=none/\t=s/\∀v∈l,carriedByValue v=true) _ (λv l r t z=>?_) (λr t z=>?_) _ _ ⟨rfl,rfl,hi.byValue⟩
  .obtain⟨_,rfl,jR⟩:=z;rw[eqIsQuiet_byValue _ (jR v lG)];show aC (aQ (aQ ⟨rfl,rfl,λy hy=>jR y (iJ _ hy)⟩))
  .obtain⟨r1,r2⟩:=r;let⟨z1,rfl,_⟩:=z;cases z1;show aQ q
def zgF{k:List Kx}{a:Addr}{Q:Bool->Shared->Prop}(hk:Is s.heap (jf k) (.ref a))(q:Q true s):wpAny (model prog w) A (eqIsQuiet 8 (.ref a)) Q E s:=by
 cases hk with
 |oth k=>cases k|@tup _ _ its p r=>
  let⟨o,ho,c,n,hd⟩:=p;unfold eqIsQuiet;show aC (Lr ⟨_,ho,c⟩ F.slot_tuple_eq.lookup ?_);change wpAny _ A (isInstance (.ref a) (.type "tuple") >>= _) Q E s;show aC (Ln ⟨_,ho,c⟩ isSubtype_tuple_tuple ?_);simp only[Bool.not_true,vD,qu];show aC (rE ho hd (aC ?_));change wpAny _ A (forIn its.toArray _ _) _ E s;rw[<-PL];show Ef _ (λl r t=>r.1=none/\t=s/\∀v∈l,∃x,Is s.heap (rY x) v) _ (λv l r t z=>?_) (λr t z=>?_) _ _ ⟨rfl,rfl,?_⟩
  .obtain⟨_,rfl,jR⟩:=z;let⟨x,hx⟩:=jR v lG;show aC (zhG (n:=6) hx (aQ ⟨rfl,rfl,λy hy=>jR y (iJ _ hy)⟩))
  .obtain⟨r1,r2⟩:=r;let⟨z1,rfl,_⟩:=z;cases z1;show aQ q
  .intro v hv;let:∀{ks:List Kx} {us:List Value},iQ s.heap (ks.map rY) us->∀v∈us,∃x,Is s.heap (rY x) v:=λ{ks}=>by
    induction ks with
    |nil=>intro us r v hv;cases r;cases hv|cons y ks ih=>
     intro us r v hv;cases r with
     |cons a r=>
      rcases jo.mp hv with rfl|hv
      .exact⟨y,a⟩
      .exact ih r v hv
   show this r v (by simpa using hv)
end
def jH(prog:Program)(w:World):HeapKind prog w (List Kx) where
 is:=λh k a=>Is h (jf k) (.ref a)
 hash:=qO
 draws:=λk=>uX k+1
 room:=λA=>A.units+4<cLine
 inj:=λx y=>gP (SQ 3 x y YQ)
 keeps:=λ{h h' k a d o es ep} x ho hd hs=>zio (λb xs ⟨q,e,c,n,z⟩=>⟨q,(hs.2 b λy=>by subst y;rw[ho]at e;cases e;rw[hd]at z;cases z).trans e,c,n,z⟩) (λb xs ⟨q,e,c,n,z⟩=>⟨q,(hs.2 b λy=>by subst y;rw[ho]at e;cases e;rw[hd]at z;cases z).trans e,c,n,z⟩) x
 pyHash:=λhu hk q=>ziC gV hk q
 eqBool:=λ{A E s x y a b Q} hu hx hy q=>FN 3 (show A.units+3<cLine by lia) hx hy YQ _ _ _ _ q
 quiet:=λhk q=>zgF hk q
section
variable {K:W.Frag}{cA:Cl}{U U':Ph}{H H':Hp}{s:S}
theorem TupAt.jY(e:∀a,U'.z a->U.z a){a:Addr}{vs:List V}(h:TupAt K U H a vs):TupAt K U' H a vs:=h.imp (λ⟨p,n⟩=>⟨p,λz=>n (e a z)⟩) id
theorem LstAt.jY(e:∀a,U'.z a->U.z a){a:Addr}{vs:List V}(h:LstAt K U H a vs):LstAt K U' H a vs:=h.imp (λ⟨p,n⟩=>⟨p,λz=>n (e a z)⟩) id
theorem ExcAt.jY(e:∀a,U'.z a->U.z a){a:Addr}{c:Nat}{vs:List V}(h:ExcAt cA U H a c vs):ExcAt cA U' H a c vs:=
 ⟨λz=>h.1 (e a z),h.2.imp id λ⟨dx,p,n,q,l⟩=>⟨dx,p,λz=>n (e dx z),q,l⟩⟩
theorem qb.jY(e:∀a,U'.z a->U.z a){a:Addr}{c:Nat}{vs:List V}(h:qb cA U H a c vs):qb cA U' H a c vs:=⟨λz=>h.1 (e a z),h.2⟩
theorem Rep.jY(e:∀a,U'.z a->U.z a){d:D}{v:V}(h:Rep K cA U H d v):Rep K cA U' H d v:=
 Rep.rec (motive_1:=λd v _=>Rep K cA U' H d v) (motive_2:=λd v _=>aD K cA U' H d v) .non .bl .int .str (λh _ i=>.tup (h.jY e) i) (λh _ i=>.fl (h.jY e) i) (λh n=>.fd h (λz=>n (e _ z))) (λh _ i=>.exc (h.jY e) i) (λh _ i=>.ob (h.jY e) i) .any .nil (λ_ _ i j=>.cons i j) h
theorem aD.jY(e:∀a,U'.z a->U.z a){d:List D}{v:List V}(h:aD K cA U H d v):aD K cA U' H d v:=
 aD.rec (motive_1:=λd v _=>Rep K cA U' H d v) (motive_2:=λd v _=>aD K cA U' H d v) .non .bl .int .str (λh _ i=>.tup (h.jY e) i) (λh _ i=>.fl (h.jY e) i) (λh n=>.fd h (λz=>n (e _ z))) (λh _ i=>.exc (h.jY e) i) (λh _ i=>.ob (h.jY e) i) .any .nil (λ_ _ i j=>.cons i j) h
theorem kh.jY(e:∀a,U'.z a->U.z a){a:Addr}{o:SO}(h:kh K cA U H a o):kh K cA U' H a o:=h.map (λ_ q=>q) λ_ _ r=>r.jY e
theorem Rep.zl{d:D}{v:V}(h:Rep K cA U H d v)(l:List Addr):Rep K cA ⟨U.z,l⟩ H d v:=Rep.jY (U:=U) (U':=⟨U.z,l⟩) (λ_ z=>z) h
theorem aD.zl{d:List D}{v:List V}(h:aD K cA U H d v)(l:List Addr):aD K cA ⟨U.z,l⟩ H d v:=aD.jY (U:=U) (U':=⟨U.z,l⟩) (λ_ z=>z) h
theorem kh.zl{a:Addr}{o:SO}(h:kh K cA U H a o)(l:List Addr):kh K cA ⟨U.z,l⟩ H a o:=kh.jY (U:=U) (U':=⟨U.z,l⟩) (λ_ z=>z) h
def adr(l:List Addr):List Nat->List Addr
 |[]=>[]|n::r=>match l[n]? with
  |some a=>a::adr l r|none=>adr l r
theorem FW{l:List Addr}:∀{ns:List Nat} {a:Addr},a∈adr l ns->∃n∈ns,l[n]?=some a
 |[],a,h=>by cases h|n::r,a,h=>by
  unfold adr at h;cases e:l[n]? with
  |none=>
   simp only[e]at h;let⟨m,h1,h2⟩:=FW h;show⟨m,iJ _ h1,h2⟩
  |some b=>
   simp only[e]at h;rcases jo.mp h with rfl|h
   .exact⟨n,lG,e⟩
   .obtain⟨m,h1,h2⟩:=FW h;show⟨m,iJ _ h1,h2⟩
theorem Y0{s:S}:∀{ns:List Nat} {s0:S} {i n:Nat},je s ns=some s0->ns[i]?=some n->s0[i]?=s[n]?/\∃o,s[n]?=some o
 |[],s0,i,n,h,e=>by simp at e|m::r,s0,i,n,h,e=>by
  unfold je at h;cases e1:s[m]? with
  |none=>simp only[e1]at h;cases h|some o=>
   cases e2:je s r with
   |none=>simp only[e1,e2]at h;cases h|some q=>
    simp only[e1,e2]at h;cases h;cases i with
    |zero=>simp at e;subst e;show⟨by simp[e1],o,e1⟩|succ i=>simpa using Y0 e2 (by simpa using e)
theorem Y4{s:S}:∀{ns:List Nat} {s0:S},je s ns=some s0->s0.length=ns.length
 |[],s0,h=>by cases h;rfl|m::r,s0,h=>by
  unfold je at h;cases e1:s[m]? with
  |none=>simp only[e1]at h;cases h|some o=>
   cases e2:je s r with
   |none=>simp only[e1,e2]at h;cases h|some q=>
    simp only[e1,e2]at h;cases h;rw[eE,eE,Y4 e2]
theorem J3{l:List Addr}:∀{ns:List Nat} {i n:Nat},(∀n∈ns,∃a,l[n]?=some a)->ns[i]?=some n->(adr l ns)[i]?=l[n]?
 |[],i,n,_,e=>by simp at e|m::r,i,n,h,e=>by
  let⟨a,ha⟩:=h m lG;unfold adr;simp only[ha];cases i with
  |zero=>simp at e;subst e;simp[ha]|succ i=>simpa using J3 (λn hn=>h n (iJ _ hn)) (by simpa using e)
theorem J5{l:List Addr}:∀{ns:List Nat},(∀n∈ns,∃a,l[n]?=some a)->(adr l ns).length=ns.length
 |[],_=>rfl|m::r,h=>by
  let⟨a,ha⟩:=h m lG;unfold adr;simp only[ha];rw[eE,eE,J5 (λn hn=>h n (iJ _ hn))]
theorem Y5{l:List Addr}(hl:l.Nodup):∀{ns:List Nat},ns.Nodup->(∀n∈ns,∃a,l[n]?=some a)->(adr l ns).Nodup
 |[],_,_=>Em|m::r,hn,h=>by
  let⟨a,ha⟩:=h m lG;unfold adr;simp only[ha];let⟨h1,h2⟩:=yG.mp hn;show yG.mpr ⟨λz=>?_,Y5 hl h2 (λn hn=>h n (iJ _ hn))⟩;let⟨n,q1,q2⟩:=FW z;let:m=n:=(P0 (cJ.mp ha).1 hl).mp (ha.trans q2.symm);show h1 (this▸q1)
theorem FZ{s:S}:∀{ns:List Nat} {s1:S},(cZ s ns s1).length=s.length
 |[],s1=>by cases s1<;>rfl|n::r,[]=>rfl|n::r,o::q=>by
  change (cZ (s.set n o) r q).length=_;rw[FZ,pq]
theorem S6{s:S}:∀{ns:List Nat} {s1:S} {m:Nat},m∉ns->(cZ s ns s1)[m]?=s[m]?
 |[],s1,m,_=>by cases s1<;>rfl|n::r,[],m,_=>rfl|n::r,o::q,m,h=>by
  change (cZ (s.set n o) r q)[m]?=_;rw[S6 (λz=>h (iJ _ z)),lF (λz=>h (by rw[z];show lG))]
theorem Y6{s:S}:∀{ns:List Nat} {s1:S} {i m:Nat} {o:SO},ns.Nodup->ns[i]?=some m->s1[i]?=some o->m<s.length->(cZ s ns s1)[m]?=some o
 |[],s1,i,m,o,_,e,_,_=>by simp at e|n::r,[],i,m,o,_,_,e,_=>by simp at e|n::r,q::qs,i,m,o,hn,e1,e2,hm=>by
  change (cZ (s.set n q) r qs)[m]?=_;let⟨h1,h2⟩:=yG.mp hn;cases i with
  |zero=>
   simp at e1 e2;subst e1 e2;rw[S6 h1,qp hm]
  |succ i=>show Y6 h2 (by simpa using e1) (by simpa using e2) (by rw[pq];show hm)
def zhg:∀{xs:List Xv} {vs:List V} (l0:List Addr) (z:Addr->Prop) (k:Nat),aZ K cA U H xs vs->U.z=z->(∀i n,(locs xs)[i]?=some n->l0[k+i]?=U.l[n]?)->aZ K cA ⟨z,l0⟩ H (cY k xs) vs
 :=by
 intro xs vs l0 z k r0
 induction r0 generalizing k with
 |nil=>show λ_ _=>.nil|@cons x v xs vs a q ih=>
  intro ez h;cases a with
  |d a=>show .cons (.d (a.jY λb hb=>by rw[ez];show hb)) (ih k ez h)|@l n a' a=>
   show .cons (.l ?_) (ih (k+1) ez λi m e=>?_)
   .let:=h 0 n rfl;rw[Nat.add_zero]at this;change l0[k]?=_;rw[this];show a
   .let:=h (i+1) m (by simpa [locs] using e);rw[<-this]
    congr 1
    lia
def zfD:∀{xs:List Xv} {vs:List V},aZ K cA U H xs vs->∀n∈locs xs,∃a,U.l[n]?=some a
 :=by
 intro xs vs r0
 induction r0 with
 |nil=>show λn h=>by cases h|cons a q ih=>
  intro n h;cases a with
  |d a=>show ih n h|l a=>
   rcases jo.mp h with rfl|h
   .exact⟨_,a⟩
   .exact ih n h
def Y7{xs:List Xv}{U1:Ph}{s0 s1:S}(hS:aG K cA U H s)(hn:(locs xs).Nodup)(ht:∀n∈locs xs,∃a,U.l[n]?=some a)(x:Ext ⟨U.z,adr U.l (locs xs)⟩ H U1 H')(r1:aG K cA U1 H' s1) :
  Ext U H ⟨U1.z,U.l⟩ H'/\aG K cA ⟨U1.z,U.l⟩ H' (cZ s (locs xs) s1):=by
 let aq:∀a∈adr U.l (locs xs),a∈U.l:=λa ha=>by let⟨n,_,q⟩:=FW ha;show dG q
 let⟨r,er,hr⟩:=x.more;let er:U1.l=adr U.l (locs xs)++r:=er;show⟨⟨⟨[],by simp,by simp⟩,λa h=>x.rZ a h,λa h=>x.lg a h,λa o h n=>x.frame a o h λz=>n (aq a z),x.stay⟩,?_⟩;show⟨by rw[FZ];show hS.len,λn o a e1 e2=>?_,hS.uniq,λa ha=>x.rZ a (hS.lz a ha),r1.zt⟩;let e2:U.l[n]?=some a:=e2;by_cases dD:n∈locs xs
 .obtain⟨i,hi,ei⟩:=pH dD;let ei:(locs xs)[i]?=some n:=by rw[cB hi,ei]
  let ha:(adr U.l (locs xs))[i]?=some a:=by rw[J3 ht ei];show e2
  let Y8:U1.l[i]?=some a:=by rw[er,nH (cJ.mp ha).1];show ha
  let cW:i<s1.length:=by rw[<-r1.len];show(cJ.mp Y8).1
  let hb:=Y6 (s:=s) (s1:=s1) hn ei (cB cW) (by rw[<-hS.len];show(cJ.mp e2).1);rw[hb]at e1;cases e1;show kh.zl (r1.obj i _ a (cB cW) Y8) _
 .rw[S6 dD]at e1;let S7:a∉adr U.l (locs xs):=λz=>by
   let⟨m,q1,q2⟩:=FW z;let:n=m:=(P0 (cJ.mp e2).1 hS.uniq).mp (e2.trans q2.symm);show dD (this▸q1)
  show(hS.obj n o a e1 e2).map (λ_ q=>x.frame a _ q S7) λ_ _ r=>Rep.zl ((Rep.zl r _).mono x λa ha=>hS.lz a (aq a ha)) _
def Y9{F:List Xv->M Xv}{xs:List Xv}{vs:List V}{Q:VK}{EE:Nat->List D->Ph->Hp->Prop}(hS:aG K cA U H s)(r:aZ K cA U H xs vs)
  (hE:∀c fs U1 U2 H',U1.z=U2.z->EE c fs U1 H'->EE c fs U2 H')
  (h:Run K cA (bY F xs) U H s (λx _ U' H'=>∀v,aR K cA U' H' x v->Q v H') (λc fs _ U' H'=>EE c fs U' H')) :
  ∃U0 s0,aZ K cA U0 H (cY 0 xs) vs/\aG K cA U0 H s0/\Run K cA (F (cY 0 xs)) U0 H s0 (λx _ U' H'=>∀v,aR K cA U' H' x v->Q v H') (λc fs _ U' H'=>EE c fs U' H'):=by
 unfold Run bY at h;by_cases hn:(locs xs).Nodup
 .simp only[if_pos hn]at h;let ht:=zfD r;let aq:∀a∈adr U.l (locs xs),a∈U.l:=λa ha=>by let⟨n,_,q⟩:=FW ha;show dG q
  cases e0:je s (locs xs) with
  |none=>simp only[e0]at h|some s0=>
   simp only[e0]at h;show⟨⟨U.z,adr U.l (locs xs)⟩,s0,zhg _ _ 0 r rfl (λi n e=>by rw[G9];show J3 ht e),?_,?_⟩
   .refine⟨by rw[Y4 e0];show J5 ht,λi o a e1 e2=>?_,Y5 hS.uniq hn ht,λa ha=>hS.lz a (aq a ha),hS.zt⟩;let e2:(adr U.l (locs xs))[i]?=some a:=e2;let hi:i<(locs xs).length:=by rw[<-J5 ht];show(cJ.mp e2).1
    let ei:(locs xs)[i]?=some ((locs xs)[i]):=cB hi;rw[J3 ht ei]at e2;rw[(Y0 e0 ei).1]at e1;show kh.zl (hS.obj _ o a e1 e2) _
   .unfold Run;cases e1:F (cY 0 xs) s0 with
    |none=>simp only[e1]at h|some q=>
     let⟨q,s1⟩:=q;simp only[e1]at h;cases q with
     |er c fs=>
      intro U1 H' x r1;let⟨x2,r2⟩:=Y7 (s0:=s0) hS hn ht x r1;show hE c fs ⟨U1.z,U.l⟩ U1 H' rfl (h ⟨U1.z,U.l⟩ H' x2 r2)
     |ok y=>
      intro U1 H' x r1 v rv;let⟨x2,r2⟩:=Y7 (s0:=s0) hS hn ht x r1;cases y with
      |d w=>
       cases rv with
       |d rv=>show h ⟨U1.z,U.l⟩ H' x2 r2 v (.d (Rep.zl rv _))
      |l n=>
       cases rv with
       |@l _ a hl=>
        let⟨rr,er,hr⟩:=x.more;let er:U1.l=adr U.l (locs xs)++rr:=er;cases em:(locs xs)[n]? with
        |some m=>
         simp only[em]at h;show h _ H' x2 r2 _ (.l ?_);change U.l[m]?=some a;let ha:(adr U.l (locs xs))[n]?=U.l[m]?:=J3 ht em;let cW:n<(adr U.l (locs xs)).length:=by rw[J5 ht];show(cJ.mp em).1
         rw[er,nH cW]at hl;rw[<-ha];show hl
        |none=>
         simp only[em]at h;let Ce:(adr U.l (locs xs)).length<=n:=by rw[J5 ht];show qm.mp em
         let MK:a∈rr:=by
          rw[er,nG Ce]at hl;show dG hl
         let S7:a∉U.l:=λz=>by
          let⟨o,eo⟩:=hS.zt a (hS.lz a z);rw[hr a MK]at eo;cases eo
         cases eo:s1[n]? with
         |none=>simp only[eo]at h|some o=>
          simp only[eo]at h;let ho:=r1.obj n o a eo hl;show h ⟨U1.z,U.l++[a]⟩ H' ⟨⟨[a],rfl,by simpa using hr a MK⟩,x2.rZ,x2.lg,x2.frame,x2.stay⟩ ?_ _ (.l (by change (U.l++[a])[s.length]?=_;rw[<-hS.len];simp));show⟨by change (U.l++[a]).length=_;rw[jk,jk,FZ,hS.len];rfl,λm o' a' e1 e2=>?_,?_,λb hb=>?_,r1.zt⟩
          .let e2:(U.l++[a])[m]?=some a':=e2;by_cases hm:m<s.length
           .rw[nH (by rw[FZ];show hm)]at e1;rw[nH (by rw[hS.len];show hm)]at e2;show kh.zl (r2.obj m o' a' e1 e2) _
           .let zy:m=s.length:=by
             let z:=(cJ.mp e2).1;rw[jk,hS.len]at z;simp at z
             lia
            subst zy;rw[nG (by rw[FZ];show bQ _)]at e1;rw[nG (by rw[hS.len];show bQ _)]at e2;simp[FZ]at e1;simp[hS.len]at e2;subst e1 e2;show kh.zl ho _
          .show (U.l++[a]).Nodup;rw[Li];show⟨hS.uniq,by simp,λb hb c hc e=>?_⟩;simp at hc;subst hc e;show S7 hb
          .let hb:b∈U.l++[a]:=hb;rcases mj.mp hb with z|z
           .exact x2.rZ b (hS.lz b z)
           .simp at z;subst z;show r1.lz _ (dG hl)
 .simp only[if_neg hn]at h
end
section
variable {X:Cx}{cA:Cl}{aq:Nat->Nat->Bool}{aj:Bool}{F:Fn}{EX:XS}{a b c d e o:Expr}{A B C Dd E' O:E}{pos pp p2 apos cpos:Pos}{es:List Expr}{Xs:Es}{fz:Bool}{p:Pr}{x:Str}{U:Ph}{H:Hp}{s:S}
def S8{K:W.Frag}{β:Type}{x:Xv}{v:V}{k:Nat×List D->M β}{P:β->S->Ph->Hp->Prop}{Ee:Nat->List D->S->Ph->Hp->Prop}(hS:aG K cA U H s)(r:aR K cA U H x v)(h:Run K cA (M.bd (cX x) k) U H s P Ee) :
  ∃n ad xs vs,x=.l n/\v=.ref ad/\s[n]?=some (.lst xs)/\U.l[n]?=some ad/\H ad=some (.lst vs)/\aD K cA U H xs vs/\Run K cA (k (n,xs)) U H s P Ee:=by
 cases r with
 |d _=>show h.elim|@l n ad hl=>
  unfold Run M.bd cX at h;dsimp only at h;cases e:s[n]? with
  |none=>rw[e]at h;show h.elim|some o=>
   rw[e]at h;cases o with
   |lst xs=>
    let⟨vs,q1,q2⟩:=hS.obj n _ _ e hl;show⟨n,ad,xs,vs,rfl,rfl,e,hl,q1,q2,h⟩
   |_=>show h.elim
theorem zji(ho:SE X cA aq aj F EX o O)(ha:SE X cA aq aj F EX a A)
  (iy:attributeBase o "append" X.env (eval o X.env)=eval o X.env:=by rfl)
  (pQ:((backTo cpos (starEach [a] X.env)).all (λx=>!x.1)&&(backToKw cpos (keywordEach [] X.env)).all (λx=>x.1.isSome)
  &&decide ([a].length+([]:List Keyword).length+(if ([]:List Keyword).isEmpty then 0 else 1)<30))=true:=by rfl)
  (iz:(apos.endLine==cpos.line)=true:=by rfl) (hs:starEach [a] X.env=(false,eval a X.env)::starEach [] X.env:=by rfl) (fL:(backTo cpos (starEach [] X.env)).any (·.1)=false:=by rfl) :
  SE X cA aq aj F EX (.Call (.Attribute o "append" apos) [a] [] cpos) (.push O A):=PE.weak (X7 PySem.F.plainAttrs_list PySem.F.slot_list_append PySem.F.type_list_append Ro ho (rN ha wL hs) iy pQ iz hs fL) λZ H Q hh=>un hh λU J s hL hS h=>by
 show bf hL hS h λx H1 U1 d1 s1 x1 hL1 aH r1 h1=>?_;let⟨n,ad,xs,vs,rfl,rfl,e1,f1,g1,q1,h2⟩:=S8 aH r1 h1;show⟨.inl ⟨rfl,vs,c7.of g1⟩,bf hL1 aH h2 λy H2 U2 d2 s2 x2 hL2 aO r2 h3=>?_⟩;let⟨dd,_,rd,h4⟩:=M_ r2 h3;let⟨n',ad',ys,us,en,ea,e2,f2,g2,q2,h5⟩:=S8 aO (r1.mono x2 aH.lz) h4;cases en;cases ea;by_cases hz:ys.length<sizeLine
 .let h5:Run X.K cA (M.bd (putL n (ys++[dd])) λ_=>M.ret (Xv.d .non)) U2 H2 s2 (λd _ U' H'=>∀v,aR X.K cA U' H' d v->Q v H') (eX X.K cA EX Z):=by
   let h6:Run X.K cA (if ys.length<sizeLine then M.bd (putL n (ys++[dd])) λ_=>M.ret (Xv.d .non) else M.no) U2 H2 s2 (λd _ U' H'=>∀v,aR X.K cA U' H' d v->Q v H') (eX X.K cA EX Z):=h5;rw[if_pos hz]at h6;show h6
  show⟨ad,us,y,rfl,rfl,g2,by rw[<-q2.len];show hz,?_⟩;show h5 U2 _ (Ext.write f2 ⟨_,g2⟩) (aO.write e2 f2 (q2.app (.cons rd .nil))) _ (.d .non)
 .let h6:Run X.K cA (if ys.length<sizeLine then M.bd (putL n (ys++[dd])) λ_=>M.ret (Xv.d .non) else M.no) U2 H2 s2 (λd _ U' H'=>∀v,aR X.K cA U' H' d v->Q v H') (eX X.K cA EX Z):=h5;rw[if_neg hz]at h6;show h6.elim
def lq(K:W.Frag)(cA:Cl)(m:List Xv->M Xv):Sp:=λvs H Q E=>∃U xs s,aZ K cA U H xs vs/\aG K cA U H s/\Run K cA (m xs) U H s (λd _ U' H'=>∀v,aR K cA U' H' d v->Q v H') (λc fs _ U' H'=>∀dx,jX K cA U' H' c fs dx->E (.ref (cA.a c)) dx H')
theorem zjT{K:W.Frag}{U1 U2:Ph}{c:Nat}{fs:List D}{dx:Option Addr}(e:U1.z=U2.z)(h:jX K cA U2 H c fs dx):jX K cA U1 H c fs dx:=h.imp id λ⟨d,vs,a,b,c,l,r⟩=>⟨d,vs,a,by rw[e];show b,c,l,r.jY λ_ z=>by rw[<-e];show z⟩
theorem zjF{cm:Bool}{k f:Nat}{fa:Addr}{fd:FuncData}{ps:List Str}(Fo:cC X.prog X.w X.K X.mg X.base (gU X.prog X.w) cm k fa fd ps (lq X.K cA (F f)))(jA:cm=true->X.aj=true)(hr:bH k X.A)(hg:Gl X x)(hm:X.mg x=some (.ref fa))(hk:PySem.W.keepIn X.K (.ref fa)=true)(hb:Binds X.K fd ps [])(R:Raises X EX)
  (ha:SA X cA aq aj F EX (e::es) Xs) (rP:(x==("__debug__" : Str))=false:=by decide) (he:starEach (e::es) X.env=(false,eval e X.env)::starEach es X.env:=by rfl) (cF:(backTo pos (starEach es X.env)).any (·.1)=false:=by rfl) :
  SE X cA aq aj F EX (.Call (.Name x pp) (e::es) [] pos) (.call f Xs):=PE.weak (zhL Fo jA hr hg hm hk hb R ha rP he cF) λZ H Q hh=>un hh λU J s hL hS h=>
 oG hL hS h λvs H1 U1 ds s1 x1 hL1 aH r1 h1=>by
  let⟨U0,s0,a1,a2,a3⟩:=Y9 (EE:=λc fs U' H'=>∀dx,jX X.K cA U' H' c fs dx->EX Z (.ref (cA.a c)) dx H') aH r1 (λc fs U1 U2 H' ez z dx q=>z dx (zjT ez q)) h1;show⟨U0,_,s0,a1,a2,a3⟩
end
section
variable {K:W.Frag}{cA:Cl}{U U':Ph}{H H':Hp}{s:S}
def cH(U:Ph)(H H':Hp):Prop:=∀a o,H a=some o->¬U.z a->H' a=some o
theorem Rep.out(x:cH U H H'){d:D}{v:V}(h:Rep K cA U H d v):Rep K cA U H' d v:=
 Rep.rec (motive_1:=λd v _=>Rep K cA U H' d v) (motive_2:=λd v _=>aD K cA U H' d v) .non .bl .int .str
  (λh _ r=>.tup (h.imp (λz=>⟨z.1.imp (λq=>x _ _ q z.2) λw=>w.elim λo q=>⟨o,x _ _ q z.2⟩,z.2⟩) id) r)
  (λh _ r=>.fl (h.imp (λz=>⟨z.1.imp (λq=>x _ _ q z.2) λw=>w.elim λo q=>⟨o,x _ _ q z.2⟩,z.2⟩) id) r)
  (λh n=>.fd (x _ _ h n) n)
  (λh _ r=>.exc ⟨h.1,h.2.imp (λz=>z.elim λa z=>z.elim λb q=>⟨a,b,x _ _ q h.1⟩) λz=>z.elim λdx z=>⟨dx,x _ _ z.1 h.1,z.2.1,x _ _ z.2.2.1 z.2.1,z.2.2.2⟩⟩ r)
  (λh _ r=>.ob ⟨h.1,h.2.elim λdx z=>⟨dx,x _ _ z.1 h.1,z.2⟩⟩ r) .any .nil (λ_ _ a b=>.cons a b) h
theorem aD.out(x:cH U H H'){ds:List D}{vs:List V}(h:aD K cA U H ds vs):aD K cA U H' ds vs:=
 aD.rec (motive_1:=λ_ _ _=>True) (motive_2:=λd v _=>aD K cA U H' d v) trivial (λ_=>trivial) (λ_=>trivial) (λ_=>trivial) (λ_ _ _=>trivial) (λ_ _ _=>trivial) (λ_ _=>trivial) (λ_ _ _=>trivial) (λ_ _ _=>trivial) (λ_=>trivial) .nil (λh _ _ r=>.cons (h.out x) r) h
def aR.out(x:cH U H H'){d:Xv}{v:V}(h:aR K cA U H d v):aR K cA U H' d v:=by
 cases h with
 |d h=>show .d (h.out x)|l h=>show .l h
theorem aW.out(x:cH U H H')(h:aW K cA U H Z J):aW K cA U H' Z J:=⟨h.1,λi d e=>let ⟨v,a,b⟩:=h.2 i d e;⟨v,a,b.out x⟩⟩
theorem cH.refl:cH U H H:=λa o e _=>e
structure ju(K:W.Frag)(cA:Cl)(c:Src)(U:Ph)(H:Hp)(bK:L2.It):Prop where
 stop:∀U' H₁ H' s' i,Ext U H U' H₁->cH U' H₁ H'->aG K cA U' H' s'->c.at i s'=some none->bK.stop i H'
 go:∀U' H₁ H' s' i x,Ext U H U' H₁->cH U' H₁ H'->aG K cA U' H' s'->c.at i s'=some (some x)->bK.go i H'
 ur:∀U' H₁ H' s' i x v H2,Ext U H U' H₁->cH U' H₁ H'->aG K cA U' H' s'->c.at i s'=some (some x)->bK.ur i H' v H2->bB H' H2/\Rep K cA U' H2 x v
theorem LstAt.later(hz:∀a∈U.l,U.z a)(h:LstAt K U H a vs)(x:Ext U H U' H₁)(o:cH U' H₁ H'):LstAt K U' H' a vs:=
 (h.mono x hz).imp (λ⟨p,n⟩=>⟨p.imp (λq=>o _ _ q n) λ⟨w,q⟩=>⟨w,o _ _ q n⟩,n⟩) id
theorem TupAt.later(hz:∀a∈U.l,U.z a)(h:TupAt K U H a vs)(x:Ext U H U' H₁)(o:cH U' H₁ H'):TupAt K U' H' a vs:=
 (h.mono x hz).imp (λ⟨p,n⟩=>⟨p.imp (λq=>o _ _ q n) λ⟨w,q⟩=>⟨w,o _ _ q n⟩,n⟩) id
def ju.list(hz:∀a∈U.l,U.z a)(h:LstAt K U H a vs)(r:aD K cA U H xs vs):ju K cA (.fix xs) U H (Mq K a):=by
 show⟨λU' H₁ H' s' i x o hS e=>⟨vs,(h.later hz x o).sY,?_⟩,λU' H₁ H' s' i d x o hS e=>?_,λU' H₁ H' s' i d v H2 x o hS e y=>?_⟩
 .let e:xs[i]?=none:=cP e;show qm.mp ((r.mono x hz).none e)
 .let e:xs[i]?=some d:=cP e;let⟨v,q,_⟩:=r.get e;show⟨vs,v,(h.later hz x o).sY,q⟩
 .let e:xs[i]?=some d:=cP e;let⟨rfl,y⟩:=y;let⟨w,q,kJ⟩:=((r.mono x hz).out o).get e;let:=y vs (h.later hz x o).sY;rw[q]at this;cases this;show⟨bB.refl,kJ⟩
def ju.tuple(hz:∀a∈U.l,U.z a)(h:TupAt K U H a vs)(r:aD K cA U H xs vs):ju K cA (.fix xs) U H (QL K a):=by
 show⟨λU' H₁ H' s' i x o hS e=>⟨vs,(h.later hz x o).iC,?_⟩,λU' H₁ H' s' i d x o hS e=>?_,λU' H₁ H' s' i d v H2 x o hS e y=>?_⟩
 .let e:xs[i]?=none:=cP e;show qm.mp ((r.mono x hz).none e)
 .let e:xs[i]?=some d:=cP e;let⟨v,q,_⟩:=r.get e;show⟨vs,v,(h.later hz x o).iC,q⟩
 .let e:xs[i]?=some d:=cP e;let⟨rfl,y⟩:=y;let⟨w,q,kJ⟩:=((r.mono x hz).out o).get e;let:=y vs (h.later hz x o).iC;rw[q]at this;cases this;show⟨bB.refl,kJ⟩
def S9(h:(Src.live n).at i s=some o):∃xs,s[n]?=some (.lst xs)/\xs[i]?=o:=by
 unfold Src.at at h;dsimp only at h;cases e:s[n]? with
 |none=>rw[e]at h;cases h|some ob=>
  rw[e]at h;cases ob with
  |lst xs=>show⟨xs,rfl,cP h⟩|_=>cases h
def ju.live(h:U.l[n]?=some a):ju K cA (.live n) U H (Mq K a):=by
 show⟨λU' H₁ H' s' i x o hS e=>?_,λU' H₁ H' s' i d x o hS e=>?_,λU' H₁ H' s' i d v H2 x o hS e y=>?_⟩
 .obtain⟨xs,e1,e2⟩:=S9 e;let⟨vs,q1,q2⟩:=hS.obj n _ a e1 (x.get h);show⟨vs,c7.of q1,qm.mp (q2.none e2)⟩
 .obtain⟨xs,e1,e2⟩:=S9 e;let⟨vs,q1,q2⟩:=hS.obj n _ a e1 (x.get h);let⟨v,q3,_⟩:=q2.get e2;show⟨vs,v,c7.of q1,q3⟩
 .obtain⟨xs,e1,e2⟩:=S9 e;let⟨vs,q1,q2⟩:=hS.obj n _ a e1 (x.get h);let⟨w,q3,kJ⟩:=q2.get e2;let⟨rfl,y⟩:=y;let:=y vs (c7.of q1);rw[q3]at this;cases this;show⟨bB.refl,kJ⟩
def Ng:(gw a b)[i]?=if i<(b-a).toNat then some (.int (a+i)) else none:=by
 unfold gw;rw[dH,List.getElem?_range']
where
 List.getElem?_range' {n i:Nat}:Option.map (λ(i:Nat)=>D.int (a+i)) (List.range n)[i]?=if i<n then some (.int (a+i)) else none:=by
  by_cases h:i<n
  .rw[if_pos h,yu h];rfl
  .rw[if_neg h,yq (by simp;lia)];rfl
def ju.range{a b:Int}:ju K cA (.fix (gw a b)) U H (Ia a (b-a).toNat):=by
 show⟨λU' H₁ H' s' i x o hS e=>?_,λU' H₁ H' s' i d x o hS e=>?_,λU' H₁ H' s' i d v H2 x o hS e y=>?_⟩
 .let e:(gw a b)[i]?=none:=cP e;rw[Ng]at e;split at e
  .cases e
  .exact G4 (by assumption)
 .let e:(gw a b)[i]?=some d:=cP e;rw[Ng]at e;split at e
  .assumption
  .cases e
 .let e:(gw a b)[i]?=some d:=cP e;rw[Ng]at e;split at e
  .cases e;let⟨rfl,rfl⟩:=y;show⟨bB.refl,.int _⟩
  .cases e
end
def S_(K:W.Frag)(te:TE):TI:=λZ H R=>te Z H λv H1=>∃a,v=.ref a/\(((∃xs,c7 K H1 a xs)/\R (Mq K a) H1)\/((∃xs,fC K H1 a xs)/\R (QL K a) H1))
def zlf(he:PE X l te):PI X tg l (S_ X.K te):=by
 intro ao s Z H R I h;show aV (he ao s Z H _ I h) λv s1 hx=>Qi hx λx H1 I1 r1 a e q=>?_;subst e;cases r1;rcases q with ⟨⟨xs,hq⟩,q⟩|⟨⟨xs,hq⟩,q⟩
 .obtain⟨its,rv,p,hz⟩:=I1.list hq;show Lh p.isList ?_;show⟨s1.heap.objs.size,[s1.heap.objs.size],_,_,H1,rfl,I1.kept (t':=s1.toks) λb o e=>cR _ e,zgK a _,⟨_,fB _ rfl,rfl,rfl⟩,λb hb=>?_,q⟩;let e:b=s1.heap.objs.size:=by simpa using hb
  subst e;show I1.rM (bQ _) (I1.hok.fresh (bQ _))
 .obtain⟨its,rv,p,hz⟩:=I1.tuple hq;show wpAny_pyIter_tuple (show s1.heap.IsTuple a its.toArray from p) ?_;show⟨s1.heap.objs.size,[s1.heap.objs.size],_,_,H1,rfl,I1.kept (t':=s1.toks) λb o e=>cR _ e,zfu a _,⟨_,fB _ rfl,rfl,rfl⟩,λb hb=>?_,q⟩;let e:b=s1.heap.objs.size:=by simpa using hb
  subst e;show I1.rM (bQ _) (I1.hok.fresh (bQ _))
section
variable {X:Cx}{cA:Cl}{aq:Nat->Nat->Bool}{aj:Bool}{F:Fn}{EX:XS}{a b tg:Expr}{A B:E}{pos pp:Pos}
def tI(K:W.Frag)(cA:Cl)(EX:XS)(m:Vs->M (Src×Nat)):TI:=λZ H R=>∃U J s,aW K cA U H Z J/\aG K cA U H s/\Run K cA (m J) U H s (λcn _ U1 H1=>∀bK,ju K cA cn.1 U1 H1 bK->R bK H1) (eX K cA EX Z)
def SI(X:Cx)(cA:Cl)(aq:Nat->Nat->Bool)(aj:Bool)(F:Fn)(EX:XS)(tg iter:Expr)(w:Wk):Prop:=PI X tg iter (tI X.K cA EX (g8 aq aj F w))
theorem PI.weak{iter:Expr}{t t':TI}(h:PI X tg iter t)(f:∀Z H Q,t' Z H Q->t Z H Q):PI X tg iter t':=λao s Z H Q I q=>h ao s Z H Q I (f Z H Q q)
theorem znc(ha:SE X cA aq aj F EX a A):SI X cA aq aj F EX tg a (.seq A):=PI.weak (zlf ha) λZ H R hh=>un hh λU J s hL hS h=>by
 show bf hL hS h λv H1 U1 d s1 x1 hL1 aH r1 h1=>?_;cases r1 with
 |@l n ad hl=>
  unfold Run src at h1;dsimp only at h1;cases e:s1[n]? with
  |none=>rw[e]at h1;show h1.elim|some o=>
   rw[e]at h1;cases o with
   |lst xs=>
    let⟨vs,q1,q2⟩:=aH.obj n _ _ e hl;show⟨ad,rfl,.inl ⟨⟨vs,c7.of q1⟩,h1 U1 H1 Ext.refl aH _ (ju.live hl)⟩⟩
   |_=>show h1.elim
 |d r1=>
  cases r1 with
  |tup q r=>show⟨_,rfl,.inr ⟨⟨_,q.iC⟩,h1 U1 H1 Ext.refl aH _ (ju.tuple aH.lz q r)⟩⟩|fl q r=>show⟨_,rfl,.inl ⟨⟨_,q.sY⟩,h1 U1 H1 Ext.refl aH _ (ju.list aH.lz q r)⟩⟩|_=>show h1.elim
def Tc{i:Int}(h:eY i=true) : -(2^62)<=i/\i<2^62:=by
 unfold eY at h;rw[fH,tV,tV]at h;show⟨by lia,h.2⟩
def Y_{K:W.Frag}{U:Ph}{H:Hp}{s:S}{i j:Int}{P:Src×Nat->S->Ph->Hp->Prop}{Ee:Nat->List D->S->Ph->Hp->Prop}(hS:aG K cA U H s)(h:Run K cA (if (eY i&&eY j)=true then M.ret (Src.fix (gw i j),(gw i j).length) else M.no) U H s P Ee):(-(2^62)<=i/\i<2^62/\-(2^62)<=j/\j<2^62)/\P (.fix (gw i j),(gw i j).length) s U H:=by
 by_cases hk:(eY i&&eY j)=true
 .rw[if_pos hk]at h;rw[fH]at hk;let⟨a,b⟩:=Tc hk.1;let⟨c,d⟩:=Tc hk.2;show⟨⟨a,b,c,d⟩,h.bF hS⟩
 .rw[if_neg hk]at h;show h.elim
theorem zoC(jJ:Gl X "range")(hmg:X.mg "range"=none)(ha:SE X cA aq aj F EX a A)(hb:SE X cA aq aj F EX b B)(h1:starEach [a,b] X.env=(false,eval a X.env)::starEach [b] X.env)(h2:starEach [b] X.env=(false,eval b X.env)::starEach [] X.env) :
  SI X cA aq aj F EX tg (.Call (.Name "range" pp) [a,b] [] pos) (.rg A B):=PI.weak (zfO jJ hmg (rN ha (rN hb wL h2) h1) (by rw[h1,h2];rfl) (by rw[h2];rfl)) λZ H R hh=>un hh λU J s hL hS h=>by
 show bf hL hS h λx H1 U1 d1 s1 x1 hL1 aH r1 h1=>bf hL1 aH h1 λy H2 U2 d2 s2 x2 hL2 aO r2 h2=>?_;let⟨i,_,e1,h3⟩:=Fy (r1.mono x2 aH.lz) h2;let⟨j,_,e2,h4⟩:=Fy r2 h3;let⟨hz,q⟩:=Y_ aO h4;subst e1 e2;show⟨i,j,rfl,hz,q _ ju.range⟩
theorem zne(jJ:Gl X "range")(hmg:X.mg "range"=none)(hb:SE X cA aq aj F EX b B)(h2:starEach [b] X.env=(false,eval b X.env)::starEach [] X.env) :
  SI X cA aq aj F EX tg (.Call (.Name "range" pp) [b] [] pos) (.rg (.c (.int 0)) B):=PI.weak (zgR jJ hmg (rN hb wL h2) (by rw[h2];rfl)) λZ H R hh=>un hh λU J s hL hS h=>by
 let h:Run X.K cA (M.bd (ev aq aj F B J) λy=>M.bd (int (.d (.int 0))) λi=>M.bd (int y) λj=>if (eY i&&eY j)=true then M.ret (Src.fix (gw i j),(gw i j).length) else M.no) U H s _ _:=h;show bf hL hS h λy H2 U2 d2 s2 x2 hL2 aO r2 h2=>?_;let⟨j,_,e2,h4⟩:=Fy r2 (show Run X.K cA (M.bd (int d2) λj=>if (eY 0&&eY j)=true then M.ret (Src.fix (gw 0 j),(gw 0 j).length) else M.no) U2 H2 s2 _ _ from h2);let⟨hz,q⟩:=Y_ aO h4;subst e2;show⟨j,rfl,hz.2.2.1,hz.2.2.2,q _ ?_⟩;let:=ju.range (K:=X.K) (cA:=cA) (U:=U2) (H:=H2) (a:=0) (b:=j);rw[Int.sub_zero]at this;show this
end
section
variable {K:W.Frag}{cA:Cl}{U U' U0:Ph}{H H' H0:Hp}{s:S}
def Run.bd0(x:Ext U0 H0 U H)(h:Run K cA (M.bd m k) U0 H0 s P Ee) :
  Run K cA m U H s (λa s1 U1 H1=>Ext U H U1 H1/\aG K cA U1 H1 s1/\Run K cA (k a) U0 H0 s1 P Ee) Ee:=by
 unfold Run M.bd at *;cases e:m s with
 |none=>rw[e]at h;show h|some r=>
  let⟨r,s1⟩:=r;rw[e]at h;cases r with
  |er c f=>show λU1 H1 x1 r1=>h U1 H1 (x.trans x1) r1|ok a=>show λU1 H1 x1 r1=>⟨x1,r1,h⟩
def J6{α β:Type}{m:M α}{k:α->M β}{P:β->S->Ph->Hp->Prop}{Ee Ee':Nat->List D->S->Ph->Hp->Prop}(x:Ext U0 H0 U H)(h:Run K cA (M.bd (M.qt m) k) U0 H0 s P Ee) :
  Run K cA m U H s (λa s1 U1 H1=>Ext U H U1 H1/\aG K cA U1 H1 s1/\Run K cA (k a) U0 H0 s1 P Ee) Ee':=by
 let h2:=h.bd0 x;unfold Run at h2 ⊢;unfold M.qt at h2;cases e:m s with
 |none=>rw[e]at h2;show h2|some r=>
  let⟨r,s1⟩:=r;rw[e]at h2;cases r with
  |ok a=>show h2|er c f=>show h2.elim
def Td{α β:Type}{m m':M α}{k:α->M β}{P:β->S->Ph->Hp->Prop}{Ee:Nat->List D->S->Ph->Hp->Prop}(e:m s=m' s)(h:Run K cA (M.bd m k) U H s P Ee):Run K cA (M.bd m' k) U H s P Ee:=by
 unfold Run M.bd at *;rw[<-e];show h
end
section
variable {X:Cx}{cA:Cl}{aq:Nat->Nat->Bool}{aj:Bool}{F:Fn}{EX:XS}{elt iter tg:Expr}{A B:E}{pos p:Pos}{ifs:List Expr}{scope:Scope}{N:List Str}{cond:Eo}{fr aP:List Nat}{many:Nat}{fz:Bool}{w:Wk}
def Ga(X:Cx)(cA:Cl)(aq:Nat->Nat->Bool)(aj:Bool)(F:Fn)(EX:XS)(ifs:List Expr)(m:Eo):Prop:=Fd X ifs (qP X.K cA EX (nu aq aj F m))
theorem zmc:Ga X cA aq aj F EX [] .no:=λao s Z H Q I ⟨U,J,st,hL,hS,h⟩=>zkW ao s Z H Q I (h.bF hS)
theorem zkk(h:ST X cA aq aj F EX c C):Ga X cA aq aj F EX [c] (.yes C):=zkX h
structure fW(K:W.Frag)(cA:Cl)(g:TG)(aP:List Nat):Prop where
 run:∀(U:Ph) (H:Hp) (s:S) (Z:L2.St) (J J':Vs) (d:D) (v:V) (Q:L2.St->Hp->Prop),aW K cA U H Z J->aG K cA U H s->Rep K cA U H d v->dz aP d J=some J'->
  (∀Z',aW K cA U H Z' J'->Z'.length=Z.length->(∀i,i∉aP->Z'[i]?=Z[i]?)->Q Z' H)->g v Z H Q
theorem Cg{K:W.Frag}(i:Nat):fW K cA (dI i) [i] where
 run:=λU H s Z J J' d v Q hL hS r e k=>by
  cases e;show k _ (hL.set (.d r)) (pq ..) λj hj=>lF (by simpa using λz=>hj (by simp[z]))
theorem Te{K:W.Frag}(i j:Nat):fW K cA (uo K 2 (h_ (dI i) (h_ (dI j) uh))) [i,j] where
 run:=λU H s Z J J' d v Q hL hS r e k=>by
  let e:(jV d).bind (λds=>fV [i,j] (ds.map Xv.d) J)=some J':=e;let⟨ds,e1,e2⟩:=v8.mp e;cases r with
  |@tup ad xs vs h1 h2=>
   let e1:xs=ds:=cP e1;subst e1;cases h2 with
   |nil=>cases e2|cons r1 t1=>
    cases t1 with
    |nil=>cases e2|cons r2 t2=>
     cases t2 with
     |nil=>
      let e2:=cP e2;subst e2;show⟨ad,_,rfl,h1.iC,rfl,_,_,rfl,_,_,rfl,rfl,k _ ((hL.set (.d r1)).set (.d r2)) (by rw[pq,pq]) λm hm=>?_⟩;rw[lF (λz=>hm (by simp[z])),lF (λz=>hm (by simp[z]))]
     |cons r3 t3=>cases e2
  |_=>cases e1
def bJ(many:Nat)(fr:List Nat)(Z:L2.St):L2.St:=List.replicate many none++fr.map λj=>(Z[j]?).join
def Za{U:Ph}{H:Hp}{Z:L2.St}{J:Vs}(hL:aW X.K cA U H Z J){Z':L2.St}(hl:Z'.length=many+fr.length)(hf:∀(i:Nat) j v,fr[i]?=some j->Z[j]?=some (some v)->Z'[many+i]?=some (some v)):aW X.K cA U H Z' (blk many fr J):=by
 show⟨by unfold blk;simp[hl],λi d e=>?_⟩;unfold blk at e;by_cases hi:i<many
 .rw[nH (by simpa using hi),tQ,if_pos hi]at e;cases e
 .rw[nG (by simpa using G4 hi),Ad,dH]at e;cases z:fr[i-many]? with
  |none=>rw[z]at e;cases e|some j=>
   rw[z]at e;let e3:J[j]?.join=some d:=by simpa using e
   let⟨v,q1,q2⟩:=hL.2 j d (SJ e3);show⟨v,?_,q2⟩;let:=hf (i-many) j v z q1;rw[show many+(i-many)=i by omega]at this;show this
structure fu(U:Ph)(H:Hp)(Dd:Addr)(o:HO):Prop where
 at_:H Dd=some o
 nl:Dd∉U.l
 z:U.z Dd
abbrev Keep(U:Ph)(H:Hp)(Dd:Addr)(vs:List V):Prop:=fu U H Dd (.lst vs)
def fu.mono{U U':Ph}{H H':Hp}{Dd:Addr}{o:HO}(x:Ext U H U' H')(k:fu U H Dd o):fu U' H' Dd o:=by
 show⟨x.frame _ _ k.at_ k.nl,λz=>?_,x.rZ _ k.z⟩;let⟨r,er,hr⟩:=x.more;rw[er]at z;rcases mj.mp z with z|z
 .exact k.nl z
 .let:=hr _ z;rw[k.at_]at this;cases this
theorem fu.ext{U:Ph}{H:Hp}{Dd:Addr}{o u:HO}(k:fu U H Dd o):(∀a o,H a=some o->¬U.z a->(upd H Dd u) a=some o)/\fu U (upd H Dd u) Dd u:=
 ⟨λa o e n=>by rw[dj (λz=>n (by rw[z];show k.z))];show e,jE,k.nl,k.z⟩
end
section
variable {K:W.Frag}{cA:Cl}{U U':Ph}{H H':Hp}
def aG.keep{s:S}{Dd:Addr}{o u:HO}(h:aG K cA U H s)(k:fu U H Dd o):aG K cA U (upd H Dd u) s:=by
 let x:cH U H (upd H Dd u):=k.ext.1;show⟨h.len,λn o a e1 e2=>?_,h.uniq,h.lz,λa z=>?_⟩
 .let na:a≠Dd:=λy=>k.nl (by rw[<-y];show dG e2);show(h.obj n o a e1 e2).map (λ_ q=>by rw[dj na];show q) λ_ _ r=>r.out x
 .by_cases e:a=Dd
  .subst e;show⟨_,jE⟩
  .obtain⟨o,q⟩:=h.zt a z;show⟨o,by rw[dj e];show q⟩
def Ext.keep{U1:Ph}{H1:Hp}{Dd:Addr}{vs:List V}{u:HO}(x:Ext U1 H1 U H)(hD:H1 Dd=none):Ext U1 H1 U (upd H Dd u):=by
 show⟨x.more,x.rZ,x.lg,λa o h n=>?_,λa o h=>?_⟩
 .rw[dj (λz=>by rw[z,hD]at h;cases h)];show x.frame a o h n
 .rw[dj (λz=>by rw[z,hD]at h;cases h)];show x.stay a o h
def Zb{U1:Ph}{H1:Hp}{s':S}{fz:Bool}{acc:List D}{vs:List V}{Dd:Addr}{Q:VK}{Ee:Nat->List D->S->Ph->Hp->Prop}(h:Run K cA (newL fz acc) U1 H1 s' (λd _ U' H'=>∀v,aR K cA U' H' d v->Q v H') Ee)
  (x2:Ext U1 H1 U' H') (hD:H1 Dd=none) (nz:¬U1.z Dd) (aO:aG K cA U' H' s') (k:Keep U' H' Dd vs) (pC:aD K cA U' H' acc vs):Q (.ref Dd) H':=by
 cases fz with
 |true=>
  let zq:∀a,(λa=>U'.z a/\a≠Dd) a->U'.z a:=λa z=>z.1;show h ⟨λa=>U'.z a/\a≠Dd,U'.l⟩ H' ⟨x2.more,λa z=>⟨x2.rZ a z,λe=>nz (by rw[<-e];show z)⟩,λa z=>x2.lg a z.1,x2.frame,x2.stay⟩ ?_ _ (.d (.fl (.inl ⟨.inl k.at_,λz=>z.2 rfl⟩) (aD.jY (U:=U') zq pC)));show⟨aO.len,λn o a e1 e2=>kh.jY (U:=U') zq (aO.obj n o a e1 e2),aO.uniq,λa ha=>⟨aO.lz a ha,λe=>k.nl (by rw[<-e];show ha)⟩,λa z=>aO.zt a z.1⟩
 |false=>
  let⟨r,er,hr⟩:=x2.more;show h ⟨U'.z,U'.l++[Dd]⟩ H' ⟨⟨r++[Dd],by change U'.l++[Dd]=_;rw[er,yC],λb hb=>?_⟩,x2.rZ,x2.lg,x2.frame,x2.stay⟩ ?_ _ (.l (by change (U'.l++[Dd])[s'.length]?=_;rw[<-aO.len];simp))
  .rcases mj.mp hb with z|z
   .exact hr b z
   .simp at z;subst z;show hD
  .refine⟨by change (U'.l++[Dd]).length=_;rw[jk,jk,aO.len];rfl,λm o' a' e1 e2=>?_,?_,λb hb=>?_,aO.zt⟩
   .let e2:(U'.l++[Dd])[m]?=some a':=e2;by_cases hm:m<s'.length
    .rw[nH hm]at e1;rw[nH (by rw[aO.len];show hm)]at e2;show kh.zl (aO.obj m o' a' e1 e2) _
    .let zy:m=s'.length:=by
      let z:=(cJ.mp e2).1;rw[jk,aO.len]at z;simp at z;omega
     subst zy;rw[nG (bQ _)]at e1;rw[nG (by rw[aO.len];show bQ _)]at e2;simp at e1;simp[aO.len]at e2;subst e1 e2;show⟨vs,k.at_,aD.zl pC _⟩
   .show (U'.l++[Dd]).Nodup;rw[Li];show⟨aO.uniq,by simp,λb hb c hc e=>?_⟩;simp at hc;subst hc e;show k.nl hb
   .let hb:b∈U'.l++[Dd]:=hb;rcases mj.mp hb with z|z
    .exact aO.lz b z
    .simp at z;subst z;show k.z
def Ph.mark(U:Ph)(p:Addr):Ph:=⟨λa=>U.z a\/a=p,U.l⟩
def Zc{s:S}{p:Addr}(hS:aG K cA U H s)(hp:H p=none):Ext U H (U.mark p) (upd H p (.lst []))/\aG K cA (U.mark p) (upd H p (.lst [])) s/\Keep (U.mark p) (upd H p (.lst [])) p []:=by
 let g:=bB.new (o:=.lst []) hp;let nz:=hS.nz hp;show⟨⟨⟨[],by simp[Ph.mark],by simp⟩,λa z=>.inl z,λa z=>z.imp id λe=>by rw[e];show hp,λa o h _=>g a o h,λa o h=>⟨o,g a o h⟩⟩,⟨hS.len,λn o a e1 e2=>?_,hS.uniq,λa ha=>.inl (hS.lz a ha),λa z=>?_⟩,jE,λz=>nz (hS.lz p z),.inr rfl⟩
 .let x:Ext U H (U.mark p) (upd H p (.lst [])):=⟨⟨[],by simp[Ph.mark],by simp⟩,λa z=>.inl z,λa z=>z.imp id λe=>by rw[e];show hp,λa o h _=>g a o h,λa o h=>⟨o,g a o h⟩⟩;show(hS.obj n o a e1 e2).map (g _) λ_ _ r=>r.mono x hS.lz
 .rcases z with z|z
  .obtain⟨o,e⟩:=hS.zt a z;show⟨o,g _ _ e⟩
  .subst z;show⟨_,jE⟩
end
section
variable {X:Cx}{cA:Cl}{aq:Nat->Nat->Bool}{aj:Bool}{F:Fn}{EX:XS}{elt iter tg:Expr}{A B:E}{pos p:Pos}{ifs:List Expr}{scope:Scope}{N:List Str}{cond:Eo}{fr aP:List Nat}{many:Nat}{fz:Bool}{w:Wk}
noncomputable abbrev bO(aq:Nat->Nat->Bool)(aj:Bool)(F:Fn)(B:E)(cond:Eo)(aP:List Nat)(Jb:Vs):D->List D->M (List D):=λd acc=>M.bd (M.opt (dz aP d Jb)) λJ'=>M.bd (M.qt (nu aq aj F cond J')) λok=>
    if ok=true then M.bd (M.qt (ev aq aj F B J')) λy=>M.bd (dat y) λe=>if acc.length<sizeLine then M.ret (acc++[e]) else M.no else M.ret acc
theorem Gb{H:Hp}{a:Addr}{o:HO}(h:H a=some o):upd H a o=H:=funext λb=>by
 by_cases z:b=a
 .subst z;rw[jE,h]
 .rw[dj z]
def zhM{K:W.Frag}{g:TG}{U1 U':Ph}{H1 H2:Hp}{s':S}{Z':L2.St}{Jb:Vs}{Dd:Addr}{acc:List D}{vs:List V}{xi:D}{v:V}{β:Type}{kk:List D->M β}{P:β->S->Ph->Hp->Prop}{Ee:Nat->List D->S->Ph->Hp->Prop}(hT:fW K cA g aP)(dD:∀i∈aP,i<many)
  (hD:H1 Dd=none) (x2:Ext U1 H1 U' H2) (hL2:aW K cA U' H2 Z' Jb) (aO:aG K cA U' H2 s') (kp:Keep U' H2 Dd vs) (pC:aD K cA U' H2 acc vs) (rx:Rep K cA U' H2 xi v)
  (h:Run K cA (M.bd (bO aq aj F B cond aP Jb xi acc) kk) U1 H1 s' P Ee) {Nn:L2.St->Hp->Prop}
  (hN:∀Z3 H3 U3 s3 mZ xJ,Z3.length=Z'.length->(∀i,many<=i->Z3[i]?=Z'[i]?)->Ext U1 H1 U3 H3->Ext U' H2 U3 (upd H3 Dd (.lst vs))->aG K cA U3 H3 s3->Keep U3 H3 Dd xJ->aD K cA U3 H3 mZ xJ->Run K cA (kk mZ) U1 H1 s3 P Ee->Nn Z3 H3) :
  g v Z' H2 λZ3 H3=>qP K cA (λ_ _ _ _=>False) (nu aq aj F cond) Z3 H3 λok H4=>
   if ok=true then tE K cA (λ_ _ _ _=>False) (ev aq aj F B) Z3 H4 λy H5=>∃ys,H5 Dd=some (.lst ys)/\ys.length<sizeLine/\Nn Z3 (upd H5 Dd (.lst (ys++[y]))) else Nn Z3 H4:=by
 unfold bO at h;rw[gK]at h;let⟨J',e1,h1⟩:=Fx h;show hT.run U' H2 s' Z' Jb J' xi v _ hL2 aO rx e1 λZ3 oH Cj Gd=>?_;rw[gK]at h1;let kf:∀i,many<=i->Z3[i]?=Z'[i]?:=λi hi=>Gd i λz=>absurd (dD i z) (Eu.mpr hi);show⟨U',J',s',oH,aO,(J6 x2 h1).imp λok s4 U4 H4 ⟨x4,qQ,h6⟩=>?_⟩;cases ok with
 |false=>
  show iF (hN Z3 H4 U4 s4 acc vs Cj kf (x2.trans x4) (by rw[Gb (kp.mono x4).at_];show x4) qQ (kp.mono x4) (pC.mono x4 aO.lz) ?_);rw[if_neg J0]at h6;show h6
 |true=>
  rw[if_pos rfl,gK]at h6;show iT ⟨U4,J',s4,oH.mono x4 aO.lz,qQ,(J6 (x2.trans x4) h6).imp λy s5 U5 H5 ⟨x5,J7,h7⟩ u ru=>?_⟩;rw[gK]at h7;let k5:=(kp.mono x4).mono x5;let r5:=(pC.mono x4 aO.lz).mono x5 qQ.lz;let Tf:=(x2.trans x4).trans x5;obtain⟨dd,ey,rd,h8⟩ : ∃d,y=.d d/\Rep K cA U5 H5 d u/\Run K cA (M.bd (if acc.length<sizeLine then M.ret (acc++[d]) else M.no) kk) U1 H1 s5 P Ee:=by
   cases ru with
   |l _=>show h7.elim|d r=>show⟨_,rfl,r,h7⟩
  by_cases hz:acc.length<sizeLine
  .rw[if_pos hz]at h8;show⟨vs,k5.at_,by rw[<-r5.len];show hz,?_⟩;let ox:cH U5 H5 (upd H5 Dd (.lst (vs++[u]))):=k5.ext.1;show hN Z3 _ U5 s5 (acc++[dd]) (vs++[u]) Cj kf (Ext.keep (vs:=vs) Tf hD) (by rw[W8,Gb k5.at_];show x4.trans x5) (J7.keep k5) k5.ext.2 ((r5.app (.cons rd .nil)).out ox) h8
  .rw[if_neg hz]at h8;show h8.elim
theorem Zd{g:TG}{iter':Expr}(hT:fW X.K cA g aP)(dD:∀i∈aP,i<many){Z:L2.St}{H:Hp}{Q:VK}(hh:tE X.K cA EX (ev aq aj F (.comp fz B aP w fr many cond)) Z H Q) :
  uH (tI X.K cA EX (g8 aq aj F w)) (bJ many fr) g (qP X.K cA (λ_ _ _ _=>False) (nu aq aj F cond)) (tE X.K cA (λ_ _ _ _=>False) (ev aq aj F B)) Z H Q:=un hh λU J s hL hS h=>by
 by_cases dB:aj=true
 .let h:Run X.K cA (if aj=true then M.bd (g8 aq aj F w J) λcn=>M.bd (walk cn.1 (bO aq aj F B cond aP (blk many fr J)) (cn.2+1) 0 []) λxs=>newL fz xs else M.no) U H s (λd _ U' H'=>∀v,aR X.K cA U' H' d v->Q v H') (eX X.K cA EX Z):=h;rw[if_pos dB]at h;show⟨U,J,s,hL,hS,h.bd.imp λcn s1 U1 H1 ⟨x1,aH,h1⟩ bK hJ=>?_⟩;let hL1:=hL.mono x1 hS.lz;let⟨c,n⟩:=cn;dsimp only at h1 hJ;intro Dd hD;let⟨x0,Ti,k0⟩:=Zc aH hD;let Cm:∀{Z':L2.St},(Z'.length=many+fr.length/\∀i,many<=i->Z'[i]?=(bJ many fr Z)[i]?)->∀{U' H'},Ext U1 H1 U' H'->aW X.K cA U' H' Z' (blk many fr J):=λ{Z'} hZ {U' H'} x=>Za (hL1.mono x aH.lz) hZ.1 λi j v e1 e2=>by
   rw[hZ.2 _ (by omega)];unfold bJ;rw[nG R3,Ad,dH,show many+i-many=i by omega,e1];simp[e2]
  show⟨λi m Z' H'=>m=n+1-i/\(Z'.length=many+fr.length/\∀i,many<=i->Z'[i]?=(bJ many fr Z)[i]?)/\∃U' s' acc vs,Ext U1 H1 U' H'/\aG X.K cA U' H' s'/\Keep U' H' Dd vs/\aD X.K cA U' H' acc vs /\
   Run X.K cA (M.bd (walk c (bO aq aj F B cond aP (blk many fr J)) (n+1-i) i acc) λxs=>newL fz xs) U1 H1 s' (λd _ U' H'=>∀v,aR X.K cA U' H' d v->Q v H') (eX X.K cA EX Z),⟨n+1,rfl,⟨by simp[bJ],λi _=>rfl⟩,U1.mark Dd,s1,[],[],x0,Ti,k0,.nil,h1⟩,?_⟩
  rintro i m Z' H' ⟨rfl,hZ,U',s',acc,vs,x2,aO,kp,pC,h3⟩;let hL2:=Cm hZ x2;cases ek:n+1-i with
  |zero=>rw[ek]at h3;show h3.elim|succ k=>
   rw[ek]at h3;cases ei:c.at i s' with
   |none=>
    exfalso
    unfold Run M.bd walk at h3;simp only[ei]at h3
   |some oi=>
    cases oi with
    |none=>
     show .inl ⟨hJ.stop U' H' H' s' i x2 cH.refl aO ei,?_⟩;let h4:Run X.K cA (newL fz acc) U1 H1 s' (λd _ U' H'=>∀v,aR X.K cA U' H' d v->Q v H') (eX X.K cA EX Z):=by
      unfold Run M.bd walk at h3;simp only[ei]at h3;show h3
     show Zb h4 x2 hD (aH.nz hD) aO kp pC
    |some xi=>
     show .inr ⟨hJ.go U' H' H' s' i xi x2 cH.refl aO ei,λZ2 H2=>(Z2.length=many+fr.length/\∀i,many<=i->Z2[i]?=(bJ many fr Z)[i]?)/\∃U' s' acc vs,Ext U1 H1 U' H2/\aG X.K cA U' H2 s'/\Keep U' H2 Dd vs/\aD X.K cA U' H2 acc vs /\
      Run X.K cA (M.bd (walk c (bO aq aj F B cond aP (blk many fr J)) k (i+1) acc) λxs=>newL fz xs) U1 H1 s' (λd _ U' H'=>∀v,aR X.K cA U' H' d v->Q v H') (eX X.K cA EX Z),λZ2 H2 hn=>⟨k,by omega,by omega,hn.1,?_⟩,λv H2 hy=>?_⟩
     .let:n+1-(i+1)=k:=by omega
      rw[this];show hn.2
     .obtain⟨gr,rx⟩:=hJ.ur U' H' H' s' i xi v H2 x2 cH.refl aO ei hy;let h4:Run X.K cA (M.bd (bO aq aj F B cond aP (blk many fr J) xi acc) λacc'=>M.bd (walk c (bO aq aj F B cond aP (blk many fr J)) k (i+1) acc') λxs=>newL fz xs) U1 H1 s' (λd _ U' H'=>∀v,aR X.K cA U' H' d v->Q v H') (eX X.K cA EX Z):=by
       let h5:=Td (m':=M.bd (bO aq aj F B cond aP (blk many fr J) xi acc) λacc'=>walk c (bO aq aj F B cond aP (blk many fr J)) k (i+1) acc') (by rw[walk];simp only[ei]) h3;rw[gK]at h5;show h5
      show zhM hT dD hD (x2.trans gr.ext) (hL2.mono gr.ext aO.lz) (aO.grow gr) (kp.mono gr.ext) (pC.mono gr.ext aO.lz) rx h4 λZ3 H3 U3 s3 mZ xJ l3 f3 x3 _ gA k3 r3 h6=>⟨⟨l3.trans hZ.1,λi hi=>(f3 i hi).trans (hZ.2 i hi)⟩,U3,s3,mZ,xJ,x3,gA,k3,r3,h6⟩
 .let h:Run X.K cA (if aj=true then M.bd (g8 aq aj F w J) λcn=>M.bd (walk cn.1 (bO aq aj F B cond aP (blk many fr J)) (cn.2+1) 0 []) λxs=>newL fz xs else M.no) U H s (λd _ U' H'=>∀v,aR X.K cA U' H' d v->Q v H') (eX X.K cA EX Z):=h;rw[if_neg dB]at h;show h.elim
def Tj{XN:List Str}(Cp:∀(i:Nat) (y:Str) (j:Nat),N[many+i]?=some y->fr[i]?=some j->scope.names.lookup y=some .free/\XN[j]?=some y)(Z:L2.St)(i:Nat)(x:Str)(v:V)(e1:N[i]?=some x)(e2:(bJ many fr Z)[i]?=some (some v)):scope.names.lookup x=some .free/\∃j:Nat,XN[j]?=some x/\Z[j]?=some (some v):=by
 unfold bJ at e2;by_cases hi:i<many
 .rw[nH (by simpa using hi),tQ,if_pos hi]at e2;cases e2
 .rw[nG (by simpa using G4 hi),Ad,dH]at e2;cases z:fr[i-many]? with
  |none=>rw[z]at e2;cases e2|some j=>
   rw[z]at e2;let e3:(Z[j]?).join=some v:=by simpa using e2
   let⟨a1,a2⟩:=Cp (i-many) x j (by rw[show many+(i-many)=i by omega];show e1) z;show⟨a1,j,a2,SJ e3⟩
theorem Ze{g:TG}(hc:X.aj=true)(B':cL X.env.scope scope)(hi:SI X cA aq aj F EX tg iter w)(hN:N.length=many+fr.length)
  (Cp:∀(i:Nat) (y:Str) (j:Nat),N[many+i]?=some y->fr[i]?=some j->scope.names.lookup y=some .free/\X.N[j]?=some y)
  (hg:∀cl C s3 H3 fp ao,PG (X.blk scope cl N C s3 H3 fp ao) tg g) (hT:fW X.K cA g aP) (dD:∀i∈aP,i<many)
  (ht:∀cl C s3 H3 fp ao,Ga (X.blk scope cl N C s3 H3 fp ao) cA aq aj F (λ_ _ _ _=>False) ifs cond) (he:∀cl C s3 H3 fp ao,SE (X.blk scope cl N C s3 H3 fp ao) cA aq aj F (λ_ _ _ _=>False) elt B)
  (hs:∀x,foldedSetIterable iter X.env x=pure x:=by intro _;rfl):SE X cA aq aj F EX (.ListComp elt [⟨tg,iter,ifs,0⟩] scope pos) (.comp fz B aP w fr many cond):=
 PE.weak (zjp hc B' hi (⟨hg,ht,he⟩ : Parts X elt tg ifs scope N g (qP X.K cA (λ_ _ _ _=>False) (nu aq aj F cond)) (tE X.K cA (λ_ _ _ _=>False) (ev aq aj F B))) (ZY:=bJ many fr) (λZ=>by simp[bJ,hN]) (λZ i x v e1 e2=>Tj Cp Z i x v e1 e2) hs) λZ H Q hh=>Zd (iter':=iter) hT dD hh
end
section
variable (K:W.Frag)(cA:Cl)
def aU(m:MS)(U:Ph)(H:Hp)(s:S)(D:Ends)(EX:XS):Prop:=match m s with
 |some (.nx J,s')=>∀U' H' Z',Ext U H U' H'->aG K cA U' H' s'->aW K cA U' H' Z' J->D.nx Z' H'|some (.bk J,s')=>∀U' H' Z',Ext U H U' H'->aG K cA U' H' s'->aW K cA U' H' Z' J->D.bk Z' H'|some (.ct J,s')=>∀U' H' Z',Ext U H U' H'->aG K cA U' H' s'->aW K cA U' H' Z' J->D.ct Z' H'|some (.rt d,s')=>∀U' H' v,Ext U H U' H'->aG K cA U' H' s'->aR K cA U' H' d v->D.rt v H'|some (.er c fs J,s')=>∀U' H' Z',Ext U H U' H'->aG K cA U' H' s'->aW K cA U' H' Z' J->∀dx,jX K cA U' H' c fs dx->EX Z' (.ref (cA.a c)) dx H'|none=>False
def tS(EX:XS)(m:Vs->MS):TS:=λD Z H=>∃U J s,aW K cA U H Z J/\aG K cA U H s/\aU K cA (m J) U H s D EX
end
section
variable {K:W.Frag}{cA:Cl}{U U':Ph}{H H':Hp}{s:S}{Z:L2.St}{J:Vs}{EX:XS}{D:Ends}
def aU.ext{m:MS}(x:Ext U H U' H')(h:aU K cA m U H s D EX):aU K cA m U' H' s D EX:=by
 unfold aU at *;split at h<;>first
  |exact λU2 H2 a y r l=>h U2 H2 a (x.trans y) r l|exact h.elim
def aU.ofM{α:Type}{m:M α}{k:α->MS}(hL:aW K cA U H Z J)(hz:∀a∈U.l,U.z a)(h:aU K cA (ofM m J k) U H s D EX):Run K cA m U H s (λa s1 U1 H1=>Ext U H U1 H1/\aG K cA U1 H1 s1/\aU K cA (k a) U1 H1 s1 D EX) (eX K cA EX Z):=by
 unfold aU Mi.ofM at h;unfold Run;cases e:m s with
 |none=>rw[e]at h;show h|some r=>
  let⟨r,s1⟩:=r;rw[e]at h;cases r with
  |er c fs=>show λU1 H1 x r=>h U1 H1 Z x r (hL.mono x hz)|ok a=>
   intro U1 H1 x r;show⟨x,r,?_⟩;let h2:aU K cA (k a) U H s1 D EX:=h;show h2.ext x
def aU.then_(h:aU K cA (cM m k) U H s D EX):aU K cA m U H s {D with nx:=λZ' H'=>∃U' J' s',aW K cA U' H' Z' J'/\aG K cA U' H' s'/\aU K cA (k J') U' H' s' D EX} EX:=by
 unfold aU cM at h;unfold aU;cases e:m s with
 |none=>rw[e]at h;show h|some r=>
  let⟨r,s1⟩:=r;rw[e]at h;cases r with
  |nx J=>
   intro U1 H1 Z1 x r l;let h2:aU K cA (k J) U H s1 D EX:=h;show⟨U1,J,s1,l,r,h2.ext x⟩
  |bk J=>show h|ct J=>show h|rt d=>show h|er c fs J=>show h
end
section
variable (X:Cx)(cA:Cl)(aq:Nat->Nat->Bool)(aj:Bool)(F:Bool->Fn)(EX:XS)
def SS(st:Stmt)(m:St):Prop:=PS X st (tS X.K cA EX (ex aq aj F m))
def vW(st:List Stmt)(m:bM):Prop:=pL X st (tS X.K cA EX (exs aq aj F m))
end
section
variable {X:Cx}{cA:Cl}{aq:Nat->Nat->Bool}{aj:Bool}{F:Bool->Fn}{EX:XS}{a b c d e:Expr}{A B C:E}{pos p p2:Pos}{st:Stmt}{sts body orelse:List Stmt}{m:St}{ms mb me mh:bM}{es:List Expr}{Xs:Es}{x y n:Str}{i j:Nat}
theorem PS.weak{t t':TS}(h:PS X st t)(f:∀D Z H,t' D Z H->t D Z H):PS X st t':=λao s Z H D I q=>h ao s Z H D I (f D Z H q)
theorem pL.weak{t t':TS}(h:pL X sts t)(f:∀D Z H,t' D Z H->t D Z H):pL X sts t':=λao s Z H D I q=>h ao s Z H D I (f D Z H q)
theorem zoA:SS X cA aq aj F EX st .no:=λ_ _ _ _ _ _ ⟨_,_,_,_,_,h⟩=>h.elim
theorem zjB:vW X cA aq aj F EX [] .nil:=pL.weak Xj λD Z H hh=>un hh λU J s hL hS h=>h U H Z Ext.refl hS hL
theorem ziw(h1:SS X cA aq aj F EX st m)(h2:vW X cA aq aj F EX sts ms):vW X cA aq aj F EX (st::sts) (.cons m ms):=pL.weak (Xk h1 h2) λD Z H hh=>un hh λU J s hL hS h=>by
 let h:aU X.K cA (cM (ex aq aj F m J) λJ'=>exs aq aj F ms J') U H s D EX:=h;show⟨U,J,s,hL,hS,h.then_⟩
theorem zpb(ha:SE X cA aq aj (F aj) EX a A)(hs:swapsWith a none pos.line X.env=pure false:=by rfl):SS X cA aq aj F EX (.Expr a pos) (.ex A):=PS.weak (zj5 ha hs) λD Z H hh=>un hh λU J s hL hS h=>
 ⟨U,J,s,hL,hS,(aU.ofM hL hS.lz h).imp λd s1 U1 H1 ⟨x1,aH,h1⟩ v rv=>h1 U1 H1 Z Ext.refl aH (hL.mono x1 hS.lz)⟩
theorem zny(ha:SE X cA aq aj (F aj) EX a A):SS X cA aq aj F EX (.Return (some a) pos) (.ret A):=PS.weak (znW ha) λD Z H hh=>un hh λU J s hL hS h=>
 ⟨U,J,s,hL,hS,(aU.ofM hL hS.lz h).imp λd s1 U1 H1 ⟨x1,aH,h1⟩ v rv=>h1 U1 H1 v Ext.refl aH rv⟩
theorem zmR(hN:X.N.Nodup)(hi:X.N[i]?=some x)(hx:Loc X.env.scope x)(ha:SE X cA aq aj (F aj) EX a A)(hs:swapsWith a (some (.Name x p)) pos.line X.env=pure false:=by rfl)(hf:X.fn x=true\/X.env.scope.names.lookup x=some .local:=by first|exact .inl rfl|exact .inr rfl) :
  SS X cA aq aj F EX (.Assign [.Name x p] a pos) (.asg (.nm i) A):=PS.weak (zmZ hN hi hx ha hs hf) λD Z H hh=>un hh λU J s hL hS h=>
 ⟨U,J,s,hL,hS,(aU.ofM hL hS.lz h).imp λd s1 U1 H1 ⟨x1,aH,h1⟩ v rv=>h1 U1 H1 _ Ext.refl aH ((hL.mono x1 hS.lz).set rv)⟩
theorem Tn{k}(hc:X.aj=true)(hN:X.N.Nodup)(hi:X.N[i]?=some x)(hj:X.N[j]?=some y)(hx:Loc X.env.scope x)(hy:Loc X.env.scope y)(xK:X.fn x=true\/X.env.scope.names.lookup x=some .local)(xM:X.fn y=true\/X.env.scope.names.lookup y=some .local) :
  PG X (.Tuple [.Name x px,.Name y py] k pos) (uo X.K 2 (h_ (dI i) (h_ (dI j) uh))):=zm8 hc (Xl (Ml hN hi hx xK) (Xl (Ml hN hj hy xM) zjt))
def Zf{K:W.Frag}{U:Ph}{H:Hp}{s:S}{J:Vs}{Z:L2.St}{D:Ends}{d:Xv}{v:V}(dB:aj=true)(hL:aW K cA U H Z J)(hS:aG K cA U H s)(rv:aR K cA U H d v)(h:aU K cA (store aq aj (F aj) (.tp [i,j]) d J) U H s D EX):uo K 2 (h_ (dI i) (h_ (dI j) uh)) v Z H D.nx:=by
 let h:aU K cA (if aj=true then ofM (M.bd (dat d) λd=>M.opt ((jV d).bind λds=>fV [i,j] (ds.map Xv.d) J)) J (λJ' s=>some (Out.nx J',s)) else λ_=>none) U H s D EX:=h;rw[if_pos dB]at h;let⟨dd,e0,rd,h1⟩:=M_ rv (aU.ofM hL hS.lz h);let⟨J',e,_,aH,h2⟩:=Run.opt hS h1;show(Te i j).run U H s Z J J' dd v _ hL hS rd e λZ' hL' _ _=>h2 U H Z' Ext.refl hS hL'
theorem zkM{k}(hc:X.aj=true)(dB:aj=true)(hN:X.N.Nodup)(hi:X.N[i]?=some x)(hj:X.N[j]?=some y)(hx:Loc X.env.scope x)(hy:Loc X.env.scope y)(xK:X.fn x=true\/X.env.scope.names.lookup x=some .local)(xM:X.fn y=true\/X.env.scope.names.lookup y=some .local)(ha:SE X cA aq aj (F aj) EX a A)
  (hs:swapsWithSole [.Tuple [.Name x px,.Name y py] k pt] a pos.line X.env=pure false:=by rfl) (hw:swappedStores [.Tuple [.Name x px,.Name y py] k pt] a X.env=pure none:=by rfl)
  (h1:(assignEach [.Tuple [.Name x px,.Name y py] k pt] X.env).map (·.2)=[assign (.Tuple [.Name x px,.Name y py] k pt) X.env]:=by rfl) :
  SS X cA aq aj F EX (.Assign [.Tuple [.Name x px,.Name y py] k pt] a pos) (.asg (.tp [i,j]) A):=PS.weak (Xm ha (Tn hc hN hi hj hx hy xK xM) hs hw h1) λD Z H hh=>un hh λU J s hL hS h=>
 ⟨U,J,s,hL,hS,(aU.ofM hL hS.lz h).imp λd s1 U1 H1 ⟨x1,aH,h1⟩ v rv=>Zf dB (hL.mono x1 hS.lz) aH rv h1⟩
theorem znA(hO:SE X cA aq aj (F aj) EX oo O)(hI:SE X cA aq aj (F aj) EX ii I')(ha:SE X cA aq aj (F aj) EX a A)
  (Cq:∀v,assign (.Subscript oo ii p) X.env v=(do
   let ov <-holding [v] (eval oo X.env)
   let iv <-holding [v,ov] (eval ii X.env)
   standAt p
   holding [v,ov,iv] (setItem ov iv v)
   release [v,ov,iv] []):=by intro _;rfl) (hs:swapsWithSole [.Subscript oo ii p] a pos.line X.env=pure false:=by rfl) (hw:swappedStores [.Subscript oo ii p] a X.env=pure none:=by rfl)
  (h1:(assignEach [.Subscript oo ii p] X.env).map (·.2)=[assign (.Subscript oo ii p) X.env]:=by rfl) :
  SS X cA aq aj F EX (.Assign [.Subscript oo ii p] a pos) (.asg (.aq O I') A):=PS.weak (Xm ha (zlM hO hI zhr Cq) hs hw h1) λD Z H hh=>un hh λU J s hL hS h=>by
 show⟨U,J,s,hL,hS,(aU.ofM hL hS.lz h).imp λd s1 U1 H1 ⟨x1,aH,h1⟩ v rv=>?_⟩;let⟨dd,e0,rd,h2⟩:=M_ rv (aU.ofM (hL.mono x1 hS.lz) aH.lz h1);show bf (hL.mono x1 hS.lz) aH h2 λxo H2 U2 d2 s2 x2 hL2 aO r2 h3=>bf hL2 aO h3 λyi H3 U3 d3 s3 x3 oH gA r3 h4=>?_;let⟨k,_,ek,h5⟩:=Fy r3 h4;let⟨n,ad,xs,vs,_,ea,e1,f1,g1,q1,h6⟩:=S8 gA (r2.mono x3 aO.lz) h5;subst ek ea;cases ej:L2.rQ xs.length k with
 |none=>simp only[ej]at h6;show h6.elim|some jj=>
  simp only[ej]at h6;show⟨ad,vs,k,jj,rfl,rfl,g1,by rw[<-q1.len];show ej,?_⟩;let rv3:=(rd.mono x2 aH.lz).mono x3 aO.lz;let qQ:=gA.write e1 f1 (q1.set rv3 jj);let x4:Ext U3 H3 U3 (upd H3 ad (.lst (vs.set jj v))):=Ext.write f1 ⟨_,g1⟩;let⟨_,_,h8⟩:=h6 U3 _ x4 qQ;show h8 U3 _ Z Ext.refl qQ (oH.mono x4 gA.lz)
theorem zlF{kt k2 uq}(hc:X.aj=true)(dB:aj=true)(hN:X.N.Nodup)(hi:X.N[i]?=some x)(hj:X.N[j]?=some y)(hij:i≠j)(hx:X.env.scope.names.lookup x=some .local)(hy:X.env.scope.names.lookup y=some .local)
  (ha:SE X cA aq aj (F aj) EX a A) (hb:SE X cA aq aj (F aj) EX b B) (h1:starEach [a,b] X.env=(false,eval a X.env)::starEach [b] X.env) (h2:starEach [b] X.env=(false,eval b X.env)::starEach [] X.env)
  (hw:swappedStores [.Tuple [.Name x px,.Name y py] kt pt] (.Tuple [a,b] k2 uq) X.env=pure (some [x,y]))
  (hs:swapsWithSole [.Tuple [.Name x px,.Name y py] kt pt] (.Tuple [a,b] k2 uq) pos.line X.env=pure false:=by rfl) :
  SS X cA aq aj F EX (.Assign [.Tuple [.Name x px,.Name y py] kt pt] (.Tuple [a,b] k2 uq) pos) (.par i j A B):=PS.weak (zmP hc hN hi hj hij hx hy (rN ha (rN hb wL h2) h1) hw hs) λD Z H hh=>un hh λU J s hL hS h=>by
 let h:aU X.K cA (if aj=true then ofM (M.bd (ev aq aj (F aj) A J) λx=>M.bd (ev aq aj (F aj) B J) λy=>M.ret (x,y)) J (λxy s=>some (.nx ((J.set i (some xy.1)).set j (some xy.2)),s)) else λ_=>none) U H s D EX:=h;rw[if_pos dB]at h;show bf hL hS (aU.ofM hL hS.lz h) λx H1 U1 d1 s1 x1 hL1 aH r1 h1=>bf hL1 aH h1 λy H2 U2 d2 s2 x2 hL2 aO r2 h2=>?_;let⟨_,_,h3⟩:=h2.bF aO;show⟨x,y,rfl,h3 U2 H2 _ Ext.refl aO ((hL2.set (r1.mono x2 aH.lz)).set r2)⟩
theorem zoj(hc:ST X cA aq aj (F aj) EX c C)(ht:vW X cA aq aj F EX body mb)(he:vW X cA aq aj F EX orelse me):SS X cA aq aj F EX (.If c body orelse pos) (.iff C mb me):=PS.weak (zoO hc ht he) λD Z H hh=>un hh λU J s hL hS h=>by
 show⟨U,J,s,hL,hS,(aU.ofM hL hS.lz h).imp λk s1 U1 H1 ⟨x1,aH,h1⟩=>?_⟩;cases k with
 |true=>show iT ⟨U1,J,s1,hL.mono x1 hS.lz,aH,h1⟩|false=>show iF ⟨U1,J,s1,hL.mono x1 hS.lz,aH,h1⟩
theorem zjq{g:TG}{elt iter tg:Expr}{ifs:List Expr}{scope:Scope}{N:List Str}{cond:Eo}{fr aP:List Nat}{many:Nat}{fz:Bool}{w:Wk}{spos py:Pos}(hc:X.aj=true)(qT:X.N.Nodup)(uI:X.N[i]?=some y)(hx:Loc X.env.scope y)(hf:X.fn y=true\/X.env.scope.names.lookup y=some .local)(B':cL X.env.scope scope)(hi:SI X cA aq aj (F aj) EX tg iter w)(hN:N.length=many+fr.length)
  (Cp:∀(i:Nat) (y:Str) (j:Nat),N[many+i]?=some y->fr[i]?=some j->scope.names.lookup y=some .free/\X.N[j]?=some y)
  (hg:∀cl C s3 H3 fp ao,PG (X.blk scope cl N C s3 H3 fp ao) tg g) (hT:fW X.K cA g aP) (dD:∀i∈aP,i<many)
  (ht:∀cl C s3 H3 fp ao,Ga (X.blk scope cl N C s3 H3 fp ao) cA aq aj (F aj) (λ_ _ _ _=>False) ifs cond) (he:∀cl C s3 H3 fp ao,SE (X.blk scope cl N C s3 H3 fp ao) cA aq aj (F aj) (λ_ _ _ _=>False) elt B)
  (uJ:swapsWith (.ListComp elt [⟨tg,iter,ifs,0⟩] scope pos) (some (.Name y py)) spos.line X.env=pure true) (hs:∀x,foldedSetIterable iter X.env x=pure x:=by intro _;rfl) :
  SS X cA aq aj F EX (.Assign [.Name y py] (.ListComp elt [⟨tg,iter,ifs,0⟩] scope pos) spos) (.asg (.nm i) (.comp fz B aP w fr many cond)):=
 PS.weak (zfp hc qT uI hx hf B' hi (⟨hg,ht,he⟩ : Parts X elt tg ifs scope N g (qP X.K cA (λ_ _ _ _=>False) (nu aq aj (F aj) cond)) (tE X.K cA (λ_ _ _ _=>False) (ev aq aj (F aj) B))) (ZY:=bJ many fr) (λZ=>by simp[bJ,hN]) (λZ i x v e1 e2=>Tj Cp Z i x v e1 e2) uJ hs) λD Z H hh=>un hh λU J s hL hS h=>
  Zd (iter':=iter) hT dD ⟨U,J,s,hL,hS,(aU.ofM hL hS.lz h).imp λd s1 U1 H1 ⟨x1,aH,h1⟩ v rv=>h1 U1 H1 _ Ext.refl aH ((hL.mono x1 hS.lz).set rv)⟩
def oJ(m:MS)(kN:Vs->MS):MS:=λs=>match m s with
 |some (.nx J',s')=>kN J' s'|some (.ct J',s')=>kN J' s'|some (.bk J',s')=>some (.nx J',s')|r=>r
def Zg{K:W.Frag}{U:Ph}{H:Hp}{s:S}{D:Ends}{m:MS}{kN:Vs->MS}{N:L2.St->Hp->Prop}(hN:∀U' J' s' Z' H',Ext U H U' H'->aW K cA U' H' Z' J'->aG K cA U' H' s'->aU K cA (kN J') U' H' s' D EX->N Z' H')(h:aU K cA (oJ m kN) U H s D EX) :
  aU K cA m U H s {D with nx:=N,ct:=N,bk:=D.nx} EX:=by
 unfold aU oJ at h;unfold aU;cases e:m s with
 |none=>rw[e]at h;show h|some r=>
  let⟨r,s1⟩:=r;rw[e]at h;cases r with
  |nx J'=>
   intro U1 H1 Z1 x r l;let h2:aU K cA (kN J') U H s1 D EX:=h;show hN U1 J' s1 Z1 H1 x l r (h2.ext x)
  |ct J'=>
   intro U1 H1 Z1 x r l;let h2:aU K cA (kN J') U H s1 D EX:=h;show hN U1 J' s1 Z1 H1 x l r (h2.ext x)
  |bk J'=>show h|rt d=>show h|er c fs J'=>show h
theorem zhD(hp:PassesOwn (model X.prog X.w) X.A X.env X.xe)(hc:ST X cA aq aj (F aj) EX c C)(hb:vW X cA aq aj F EX body mb):SS X cA aq aj F EX (.While c body [] pos) (.wh C mb):=PS.weak (zhP hp hc hb) λD Z H hh=>un hh λU J s hL hS h=>by
 show⟨λm Z H=>∃U J s,aW X.K cA U H Z J/\aG X.K cA U H s/\aU X.K cA (gW (λJ=>M.bd (ev aq aj (F aj) C J) bool) (λJ=>exs aq aj F mb J) m J) U H s D EX,⟨qN,U,J,s,hL,hS,h⟩,?_⟩;rintro m Z H ⟨U,J,s,hL,hS,h⟩;cases m with
 |zero=>show h.elim|succ m=>
  show⟨U,J,s,hL,hS,(aU.ofM (k:=λok=>if ok=true then oJ (exs aq aj F mb J) (gW (λJ=>M.bd (ev aq aj (F aj) C J) bool) (λJ=>exs aq aj F mb J) m) else λs=>some (.nx J,s)) hL hS.lz h).imp λk s1 U1 H1 ⟨x1,aH,h1⟩=>?_⟩;cases k with
  |true=>
   rw[if_pos rfl]at h1 ⊢;show⟨_,λZ' H' z=>⟨m,G3 m,z⟩,U1,J,s1,hL.mono x1 hS.lz,aH,Zg (λU' J' s' Z' H' _ l r q=>?_) h1⟩;show⟨U',J',s',l,r,q⟩
  |false=>
   rw[if_neg yw]at h1 ⊢;show h1 U1 H1 Z Ext.refl aH (hL.mono x1 hS.lz)
def SG(X:Cx)(cA:Cl)(aq:Nat->Nat->Bool)(aj:Bool)(F:Bool->Fn)(EX:XS)(tg:Expr)(t:Tg):Prop:=∃g:TG,PG X tg g/\∀(U:Ph) (H:Hp) (s:S) (Z:L2.St) (J:Vs) (d:Xv) (v:V) (D:Ends),aW X.K cA U H Z J->aG X.K cA U H s->aR X.K cA U H d v->
 aU X.K cA (store aq aj (F aj) t d J) U H s D EX->g v Z H D.nx
theorem zk5(hN:X.N.Nodup)(hi:X.N[i]?=some x)(hx:Loc X.env.scope x)(hf:X.fn x=true\/X.env.scope.names.lookup x=some .local:=by first|exact .inl rfl|exact .inr rfl):SG X cA aq aj F EX (.Name x pos) (.nm i):=
 ⟨_,Ml hN hi hx hf,λU H s Z J d v D hL hS r h=>h U H _ Ext.refl hS (hL.set r)⟩
theorem zko{k}(hc:X.aj=true)(dB:aj=true)(hN:X.N.Nodup)(hi:X.N[i]?=some x)(hj:X.N[j]?=some y)(hx:Loc X.env.scope x)(hy:Loc X.env.scope y)(xK:X.fn x=true\/X.env.scope.names.lookup x=some .local)(xM:X.fn y=true\/X.env.scope.names.lookup y=some .local) :
  SG X cA aq aj F EX (.Tuple [.Name x px,.Name y py] k pos) (.tp [i,j]):=
 ⟨_,Tn hc hN hi hj hx hy xK xM,λU H s Z J d v D hL hS r h=>Zf dB hL hS r h⟩
def znn(hp:PassesOwn (model X.prog X.w) X.A X.env X.xe)(hc:X.aj=true)(dB:aj=true)(ha:SI X cA aq aj (F aj) EX tg a w)(hg:SG X cA aq aj F EX tg t)(hb:vW X cA aq aj F EX body mb)
  (hs:∀x,foldedSetIterable a X.env x=pure x:=by intro _;rfl):SS X cA aq aj F EX (.For tg a body [] pos) (.fr t w mb):=by
 let⟨g,hG,hg⟩:=hg;show PS.weak (znB hp hc ha hG hb hs) λD Z H hh=>un hh λU J s hL hS h=>?_;let h:aU X.K cA (if aj=true then ofM (g8 aq aj (F aj) w J) J λcn=>dR cn.1 (λd J=>cM (store aq aj (F aj) t (.d d) J) λJ'=>exs aq aj F mb J') (cn.2+1) 0 J else λ_=>none) U H s D EX:=h;rw[if_pos dB]at h;show⟨U,J,s,hL,hS,(aU.ofM hL hS.lz h).imp λcn s1 U1 H1 ⟨x1,aH,h1⟩ bK hJ=>?_⟩;let hL1:=hL.mono x1 hS.lz;let⟨c,n⟩:=cn;dsimp only at h1 hJ;show⟨λi m Z' H'=>∃U' J' s',Ext U1 H1 U' H'/\aW X.K cA U' H' Z' J'/\aG X.K cA U' H' s'/\aU X.K cA (dR c (λd J=>cM (store aq aj (F aj) t (.d d) J) λJ'=>exs aq aj F mb J') m i J') U' H' s' D EX,⟨n+1,U1,J,s1,Ext.refl,hL1,aH,h1⟩,?_⟩;rintro i m Z' H' ⟨U',J',s',x2,hL2,aO,h4⟩;cases m with
 |zero=>show h4.elim|succ m=>
  cases ei:c.at i s' with
  |none=>
   exfalso
   unfold aU dR at h4;simp only[ei]at h4
  |some oi=>
   cases oi with
   |none=>
    show .inl ⟨hJ.stop U' H' H' s' i x2 cH.refl aO ei,?_⟩;unfold aU dR at h4;simp only[ei]at h4;show h4 U' H' Z' Ext.refl aO hL2
   |some xi=>
    show .inr ⟨hJ.go U' H' H' s' i xi x2 cH.refl aO ei,_,λZ3 H3 z=>⟨m,G3 m,z⟩,λv H3 hy=>?_⟩;let⟨gr,rx⟩:=hJ.ur U' H' H' s' i xi v H3 x2 cH.refl aO ei hy;let h5:aU X.K cA (oJ (cM (store aq aj (F aj) t (.d xi) J') λJ'=>exs aq aj F mb J') (dR c (λd J=>cM (store aq aj (F aj) t (.d d) J) λJ'=>exs aq aj F mb J') m (i+1))) U' H' s' D EX:=by
     unfold aU at h4 ⊢;let e:dR c (λd J=>cM (store aq aj (F aj) t (.d d) J) λJ'=>exs aq aj F mb J') (m+1) i J' s'=oJ (cM (store aq aj (F aj) t (.d xi) J') λJ'=>exs aq aj F mb J') (dR c (λd J=>cM (store aq aj (F aj) t (.d d) J) λJ'=>exs aq aj F mb J') m (i+1)) s':=by
      rw[dR];simp only[ei];rfl
     rw[e]at h4;show h4
    show hg U' H3 s' Z' J' (.d xi) v _ (hL2.mono gr.ext aO.lz) (aO.grow gr) (.d rx) (aU.then_ (Zg (λU4 J4 s4 Z4 H4 x4 l4 r4 q4=>⟨U4,J4,s4,(x2.trans gr.ext).trans x4,l4,r4,q4⟩) (h5.ext gr.ext)))
end
end Mi
namespace L2
open PySem PySem.Spec PyProof.Rows
structure oK(K:W.Frag)(x qual:Str)(st:Stmt)(f:Addr)(fd:FuncData):Prop where
 ex:∃(oc:Value) (od:Option Addr) (kV doc pm:Value) (an:Option Addr) (cdv ct:Value) (osl:Array (Option Value)),
  fd=PySem.W.fnOf x qual (aY st) (aK st) (aB st) .none kV doc pm an cdv ct/\K.lookup f=some ⟨oc,od,.func fd,osl⟩/\PySem.W.codeIn K cdv qual=true
 kp:PySem.W.keepIn K (.ref f)=true
end L2
namespace Mi
open PySem PySem.Spec PyProof.Rows L2
section
variable {P:Program}{w:World}{K:W.Frag}{mg:Str->Option Value}{base:Heap}{cA:Cl}{aq:Nat->Nat->Bool}{T:Nat->Option Df}
def Zh{U:Ph}{H:Hp}{N:List Str}{ds:List Xv}{vs:List V}{m p:Nat}(r:aZ K cA U H ds vs)(hp:p=ds.length)(hm:m=N.length):aW K cA U H (L2.start N vs) (ds.map some++List.replicate (m-p) none):=by
 subst hp hm;unfold L2.start;let hl:=r.len;show⟨by simp[hl],λi d e=>?_⟩;by_cases hi:i<ds.length
 .rw[nH (by simpa using hi),dH]at e;cases z:ds[i]? with
  |none=>rw[z]at e;cases e|some x=>
   rw[z]at e;cases e;let⟨v,a,b⟩:=r.get z;show⟨v,by rw[nH (by simp;lia),dH,a];rfl,b⟩
 .rw[nG (by simpa using hi),tQ]at e;split at e<;>cases e
def Zi{U:Ph}{H:Hp}{s:S}{ds:List Xv}{k n:Nat}{cm:Bool}{df:Df}{Q:VK}{E:XK}(hT:T n=some df)
  (h:Run K cA (call aq T (k+1) cm n ds) U H s (λd _ U' H'=>∀v,aR K cA U' H' d v->Q v H') (λc fs _ U' H'=>∀dx,jX K cA U' H' c fs dx->E (.ref (cA.a c)) dx H')) :
  ds.length=df.iB/\aU K cA (exs aq cm (λc=>call aq T k c) df.body (ds.map some++List.replicate (df.many-df.iB) none)) U H s {nx:=λ_ H'=>Q .non H',rt:=Q} (λ_ C dx H'=>E C dx H'):=by
 unfold call at h;simp only[hT]at h;by_cases hl:ds.length=df.iB
 .refine⟨hl,?_⟩;rw[if_pos hl]at h;unfold Run at h;unfold aU;cases e:exs aq cm (λc=>call aq T k c) df.body (ds.map some++List.replicate (df.many-df.iB) none) s with
  |none=>simp only[e]at h|some r=>
   let⟨r,s1⟩:=r;simp only[e]at h;cases r with
   |nx J=>show λU' H' Z' x r l=>h U' H' x r _ (.d .non)|rt d=>show λU' H' v x r rv=>h U' H' x r v rv|er c fs J=>show λU' H' Z' x r l=>h U' H' x r|bk J=>show h.elim|ct J=>show h.elim
 .rw[if_neg hl]at h;show h.elim
def cN{cm:Bool}{n:Nat}{f:Addr}{fd:FuncData}{ps:List Str}:cC P w K mg base (gU P w) cm 0 f fd ps (lq K cA (call aq T 0 cm n)):=by
 let no:∀vs H Q E,lq K cA (call aq T 0 cm n) vs H Q E->False:=by
  rintro vs H Q E ⟨_,_,_,_,_,h⟩;show h.elim
 show⟨λvs H Q E h=>(no _ _ _ _ h).elim,λA outer s H args us vs Q E _ _ _ _ _ h=>(no _ _ _ _ h).elim⟩
def Zj{x qual:Str}{st:Stmt}{f:Addr}{fd:FuncData}{N ps:List Str}{k n:Nat}{cm:Bool}{df:Df}(F:oK K x qual st f fd)(S:dh N ps (aB st))(hT:T n=some df)(hp:df.iB=ps.length)(hm:df.many=N.length)
  (hb:∀(cdv:Value) (A:Around) (outer:List Env) (s:Shared) (H:Hp) (E:XK),bH (k+1) A->
   vW (gR (gU P w) P w K mg base N qual (aB st) f cdv A outer s H E cm) cA aq cm (λc=>call aq T k c) (λ_ C dx H'=>E C dx H') (aK st) df.body) :
  cC P w K mg base (gU P w) cm (k+1) f fd ps (lq K cA (call aq T (k+1) cm n)):=by
 let⟨oc,od,kV,doc,pm,an,cdv,ct,osl,rfl,lk,j_⟩:=F.ex;show XM lk j_ S (λvs H Q E hz=>?_) λA outer s H vs Q E hr hz=>?_
 .obtain⟨U,ds,s,r,hS,h⟩:=hz;rw[<-r.len,(Zi hT h).1,hp]
 .obtain⟨U,ds,st',r,hS,h⟩:=hz;let⟨hl,h2⟩:=Zi hT h;show⟨_,hb cdv A outer s H E hr,U,_,st',Zh r hl.symm hm,hS,h2⟩
theorem zlL{x qual:Str}{st:Stmt}{f:Addr}{fd:FuncData}{N ps:List Str}{k n:Nat}{cm:Bool}{df:Df}(F:oK K x qual st f fd)(S:dh N ps (aB st))(hT:T n=some df)(hp:df.iB=ps.length)(hm:df.many=N.length)
  (hb:∀(cdv:Value) (A:Around) (outer:List Env) (s:Shared) (H:Hp) (E:XK),bH k (A.deeper (envOfC qual (aB st) s.heap.objs.size f cdv))->
   vW (gR (gU P w) P w K mg base N qual (aB st) f cdv A outer s H E cm) cA aq cm (λc=>call aq T k c) (λ_ C dx H'=>E C dx H') (aK st) df.body) :
  cC P w K mg base (gU P w) cm (k+1) f fd ps (lq K cA (call aq T (k+1) cm n)):=Zj F S hT hp hm λcdv A outer s H E hr=>hb cdv A outer s H E (hr.deeper _)
end
def zmv{K:W.Frag}{cA:Cl}{m:List Xv->M Xv}{H:Hp}{a:Addr}{ns:List Int}(hq:c7 K H a (ns.map V.int))(hm:∃s',m [.d (.fl (ns.map D.int))] []=some (.ok (.d (.bl true)),s')) :
  lq K cA m [.ref a] H (λv _=>v=.bl true) λ_ _ _=>False:=by
 let rs:∀(l:List Int) U,aD K cA U H (l.map D.int) (l.map V.int):=λl U=>by
  induction l with
  |nil=>show .nil|cons i l ih=>show .cons (.int i) ih
 let hl:LstAt K ⟨λ_=>False,[]⟩ H a (ns.map V.int):=by
  rcases hq with h|h
  .exact .inl ⟨h,λz=>z⟩
  .exact .inr (.inr h)
 show⟨⟨λ_=>False,[]⟩,[.d (.fl (ns.map D.int))],[],.cons (.d (.fl hl (rs ns _))) .nil,⟨rfl,(λn o b e1 e2=>by simp at e1),Em,(λb hb=>by cases hb),(λb z=>False.elim z)⟩,?_⟩;let⟨s',e⟩:=hm;unfold Run;rw[e];intro U' H' _ _ v rv;cases rv with
 |d rv=>cases rv;rfl
theorem zgH:Raises X (λ_ _ _ _=>False):=trivial
def sE(r:bH k A):A.units+60<cLine:=by let:=r.un;lia
def aF:Expr->Bool
 |.Starred _ _=>false|_=>true
def bx(h:aF e=true):starEach (e::es) env=(false,eval e env)::starEach es env:=by
 cases e<;>first|rfl|cases h
theorem bG:∀{es:List Expr} {env:Env} {pos:Pos},es.all aF=true->(backTo pos (starEach es env)).any (·.1)=false
 |[],_,_,_=>rfl|e::es,env,pos,h=>by
  rw[wA,fH]at h;rw[bx h.1];change (false||(backTo pos (starEach es env)).any (·.1))=false;rw[bG h.2];rfl
theorem qU:∀{es:List Expr} {env:Env} {pos:Pos},es.all aF=true->(backTo pos (starEach es env)).all (λx=>!x.1)=true
 |[],_,_,_=>rfl|e::es,env,pos,h=>by
  rw[wA,fH]at h;rw[bx h.1];change (true&&(backTo pos (starEach es env)).all (λx=>!x.1))=true;rw[qU h.2];rfl
def qW(h1:aF e=true)(h2:es.all aF=true)(h3:decide (es.length<28)=true):((backTo pos (starEach (e::es) env)).all (λx=>!x.1)&&(backToKw pos (keywordEach [] env)).all (λx=>x.1.isSome)&&decide ((e::es).length+([]:List Keyword).length+(if ([]:List Keyword).isEmpty then 0 else 1)<30))=true:=by
 rw[qU (es:=e::es) (by rw[wA,h1,h2];rfl)];let:=gP h3;let z:(e::es).length+([]:List Keyword).length+(if ([]:List Keyword).isEmpty then 0 else 1)<30:=by
  change es.length+1+0+0<30
  lia
 rw[cQ z];rfl
def oM(sc scope:Scope):Bool:=(match scope.kind with|.function=>true|_=>false)&&scope.names.all λy=>match y.2 with
 |.cell=>(match scope.names.lookup y.1 with|some .cell=>true|_=>false)
 |.free=>(match sc.names.lookup y.1 with|some .cell=>true|some .free=>true|_=>false)
 |.local=>(match scope.names.lookup y.1 with|some .local=>true|_=>false)
 |_=>true
def cL.of(h:oM sc scope=true):cL sc scope:=by
 unfold oM at h;rw[fH,cT]at h;let⟨h1,h2⟩:=h;show⟨?_,λy hy z=>?_,λy hy z=>?_,λy hy z=>?_⟩
 .split at h1
  .assumption
  .cases h1
 .let:=h2 y hy;rw[z]at this;dsimp only at this;split at this
  .assumption
  .cases this
 .let:=h2 y hy;rw[z]at this;dsimp only at this;split at this
  .exact .inl (by assumption)
  .exact .inr (by assumption)
  .cases this
 .let:=h2 y hy;rw[z]at this;dsimp only at this;split at this
  .assumption
  .cases this
def frB(scope:Scope)(XN:List Str):List Str->List Nat->Bool
 |y::N,j::fr=>(match scope.names.lookup y with|some .free=>true|_=>false)&&decide (XN[j]?=some y)&&frB scope XN N fr
 |[],[]=>true|_,_=>false
theorem Zk:∀{N:List Str} {fr:List Nat},frB scope XN N fr=true->N.length=fr.length/\∀(i:Nat) (y:Str) (j:Nat),N[i]?=some y->fr[i]?=some j->scope.names.lookup y=some .free/\XN[j]?=some y
 |[],[],_=>⟨rfl,λi y j h=>by simp at h⟩|[],_::_,h=>by cases h|_::_,[],h=>by cases h|y::N,j::fr,h=>by
  unfold frB at h;rw[fH,fH,tV]at h;let⟨⟨h1,h2⟩,h3⟩:=h;let⟨l,q⟩:=Zk h3;show⟨by simp[l],λi z m e1 e2=>?_⟩;cases i with
  |zero=>
   simp at e1 e2;subst e1 e2;show⟨?_,h2⟩;split at h1
   .assumption
   .cases h1
  |succ i=>show q i z m (by simpa using e1) (by simpa using e2)
def okN(x:Str):Bool:=!(x==("__debug__" : Str)) && !(x==("__classdict__" : Str)) && !decide (x="__name__")
def vX(h:okN x=true):(x==("__debug__" : Str))=false/\(x==("__classdict__" : Str))=false/\x≠"__name__":=by
 unfold okN at h;simp only[fH,Bool.not_eq_true',decide_eq_false_iff_not]at h;show⟨h.1.1,h.1.2,h.2⟩
theorem Nh{env:Env}{k:NameKind}(hk:k≠.free):∀{names:List (Str×NameKind)} {x:Str},names.lookup x=some k->
  (names.map λ(n,k)=>if (k==NameKind.free&&env.scope.kind==.function&&env.kindOf n==some .cell) then (n,NameKind.cell) else (n,k)).lookup x=some k
 |[],x,h=>by simp at h|(n,q)::r,x,h=>by
  rw[pI]at h;rw[iV,pI];let hd:∀c:Bool,(if c=true then (n,NameKind.cell) else (n,q)).1=n:=λc=>by cases c<;>rfl
  rw[hd];by_cases z:x=n
  .subst z;simp only[Ag]at h ⊢;cases h
   split
   .rename_i y;simp only[fH,rG]at y;show absurd y.1.1 hk
   .rfl
  .let z':(x==n)=false:=by simpa using z
   simp only[z']at h ⊢;show Nh hk h
def uZ(K:W.Frag):Sp:=λvs H Q _=>∃(a:Addr) (ns:List Int),vs=[.ref a]/\c7 K H a (ns.map V.int)/\ns.length<=63/\Only H/\∀H',Q (.bl true) H'
def zjO{K:W.Frag}{cA:Cl}{m:List Xv->M Xv}(hm:∀ns:List Int,ns.length<=63->∃s',m [.d (.fl (ns.map D.int))] []=some (.ok (.d (.bl true)),s'))(vs:List V)(H:Hp)(Q:VK)(E:XK)(h:uZ K vs H Q E):lq K cA m vs H Q E:=by
 let⟨a,ns,rfl,hq,hl,hO,k⟩:=h;let⟨U,ds,s,r1,r2,h⟩:=zmv (cA:=cA) (m:=m) hq (hm ns hl);show⟨U,ds,s,r1,r2,?_⟩;unfold Run at h ⊢;split at h
 .intro U' H' x r v rv;rw[h U' H' x r v rv];show k H'
 .exact λU' H' x r dx q=>(h U' H' x r dx q).elim
 .exact h
theorem Cr{K:W.Frag}{fd:FuncData}{p:Str}(h:∀a,bindArgs fd ⟨[a],[]⟩=pure [(p,a)]):Binds K fd [p] []:=.all λus hl=>by
 cases us with
 |nil=>cases hl|cons a r=>cases r with
  |nil=>show h a|cons b r=>cases hl
theorem u5{K:W.Frag}{fd:FuncData}{p q:Str}(h:∀a b,bindArgs fd ⟨[a,b],[]⟩=pure [(p,a),(q,b)]):Binds K fd [p,q] []:=.all λus hl=>by
 cases us with
 |nil=>cases hl|cons a r=>cases r with
  |nil=>cases hl|cons b r=>cases r with
   |nil=>show h a b|cons c r=>cases hl
theorem u6{K:W.Frag}{fd:FuncData}{p q t:Str}(h:∀a b c,bindArgs fd ⟨[a,b,c],[]⟩=pure [(p,a),(q,b),(t,c)]):Binds K fd [p,q,t] []:=.all λus hl=>by
 cases us with
 |nil=>cases hl|cons a r=>cases r with
  |nil=>cases hl|cons b r=>cases r with
   |nil=>cases hl|cons c r=>cases r with
    |nil=>show h a b c|cons d r=>cases hl
theorem u9{K:W.Frag}{fd:FuncData}{p q t u:Str}(h:∀a b c d,bindArgs fd ⟨[a,b,c,d],[]⟩=pure [(p,a),(q,b),(t,c),(u,d)]):Binds K fd [p,q,t,u] []:=.all λus hl=>by
 cases us with
 |nil=>cases hl|cons a r=>cases r with
  |nil=>cases hl|cons b r=>cases r with
   |nil=>cases hl|cons c r=>cases r with
    |nil=>cases hl|cons d r=>cases r with
     |nil=>show h a b c d|cons e r=>cases hl
def zls:bootBuiltins "int"=some (.type "int"):=by decide +kernel
def zjy:bootBuiltins "bool"=some (.type "bool"):=by decide +kernel
def Tt:bootBuiltins "tuple"=some (.type "tuple"):=by decide +kernel
def Zm:bootBuiltins "list"=some (.type "list"):=by decide +kernel
structure JE(X:Cx)(cA:Cl)(aq:Nat->Nat->Bool)(aj:Bool)(F:Fn)(EX:XS)(e:Expr)(m:E):Prop where
 o:SE X cA aq aj F EX e m
structure JA(X:Cx)(cA:Cl)(aq:Nat->Nat->Bool)(aj:Bool)(F:Fn)(EX:XS)(e:List Expr)(m:Es):Prop where
 o:SA X cA aq aj F EX e m
structure JT(X:Cx)(cA:Cl)(aq:Nat->Nat->Bool)(aj:Bool)(F:Fn)(EX:XS)(e:Expr)(m:E):Prop where
 o:ST X cA aq aj F EX e m
structure JW(X:Cx)(cA:Cl)(aq:Nat->Nat->Bool)(aj:Bool)(F:Fn)(EX:XS)(e:Expr)(m:E):Prop where
 o:SW X cA aq aj F EX e m
structure JC(X:Cx)(cA:Cl)(aq:Nat->Nat->Bool)(aj:Bool)(F:Fn)(EX:XS)(e:List Expr)(m:Eo):Prop where
 o:Ga X cA aq aj F EX e m
structure JO(X:Cx)(cA:Cl)(aq:Nat->Nat->Bool)(aj:Bool)(F:Fn)(EX:XS)(e:Option Expr)(m:Eo):Prop where
 o:JM X cA aq aj F EX e m
structure JI(X:Cx)(cA:Cl)(aq:Nat->Nat->Bool)(aj:Bool)(F:Fn)(EX:XS)(tg e:Expr)(m:Wk):Prop where
 o:SI X cA aq aj F EX tg e m
structure JG(X:Cx)(cA:Cl)(aq:Nat->Nat->Bool)(aj:Bool)(F:Bool->Fn)(EX:XS)(e:Expr)(m:Tg):Prop where
 o:SG X cA aq aj F EX e m
structure JS(X:Cx)(cA:Cl)(aq:Nat->Nat->Bool)(aj:Bool)(F:Bool->Fn)(EX:XS)(e:Stmt)(m:St):Prop where
 o:SS X cA aq aj F EX e m
structure JB(X:Cx)(cA:Cl)(aq:Nat->Nat->Bool)(aj:Bool)(F:Bool->Fn)(EX:XS)(e:List Stmt)(m:bM):Prop where
 o:vW X cA aq aj F EX e m
structure JK(X:Cx)(x:Str)(k:NameKind):Prop where
 o:X.env.scope.names.lookup x=some k
structure JP(X:Cx)(cA:Cl)(op:CmpOp)(p:Pr):Prop where
 o:∃r,dX X (compareOp op) r/\bD X.K cA p (r2 r)
structure JQ(X:Cx)(cA:Cl)(op:Operator)(p:Pr):Prop where
 o:∃r,dX X (binaryOp op) r/\bD X.K cA p (r2 r)
structure JN(X:Cx)(cA:Cl)(kx:Expr)(k:Kd):Prop where
 o:PE X kx (tC (FT cA k))
structure JR(X:Cx)(EX:XS):Prop where
 o:Raises X EX
structure JH(X:Cx):Prop where
 o:PassesOwn (model X.prog X.w) X.A X.env X.xe
structure JY(X:Cx)(tg:Expr)(g:TG):Prop where
 o:PG X tg g
def m5:NameKind->Bool
 |.local=>true|.cell=>true|_=>false
def Cu:NameKind->Bool
 |.local=>true|.cell=>true|.free=>true|_=>false
section
variable {X:Cx}{cA:Cl}{aq:Nat->Nat->Bool}{aj:Bool}{F:Fn}{EX:XS}{a b c d e:Expr}{A B C Dd E':E}{pos p p2 apos:Pos}{es:List Expr}{Xs:Es}{x y:Str}{k k':NameKind}{q q1 q2 q3:Pr}{fz:Bool}
theorem zqv(h:scope.names.lookup x=some k)(hk:(match k with|.free=>false|_=>true)=true):JK (X.blk scope cl N Cc s3 H3 fp ao) x k:=
 ⟨Nh (by intro z;subst z;cases hk) h⟩
theorem g_v(i:Nat)(hN:X.N[i]?=some x)(h:JK X x k)(hv:Cu k=true)(hd:okN x=true):JE X cA aq aj F EX (.Name x pos) (.v i):=
 ⟨zqw i hN (by cases k<;>first|exact .inl h.o|exact .inr (.inl h.o)|exact .inr (.inr h.o)|cases hv) (vX hd).1 (vX hd).2.1⟩
theorem zod{i j p}:JE X cA aq aj F EX (.Constant (.int i) j p) (.c (.int i)):=⟨znq⟩
theorem zqu{i j p}:JE X cA aq aj F EX (.Constant (.bool i) j p) (.c (.bl i)):=⟨zoI⟩
theorem zoc{j p}:JE X cA aq aj F EX (.Constant .none j p) (.c .non):=⟨zm0⟩
theorem zpg{i j p}:JE X cA aq aj F EX (.Constant (.str i) j p) (.c (.str i)):=⟨znY⟩
def zqt(h:∃t,X.mg x=some (.int i t))(hg:JK X x .globalImplicit)(hd:okN x=true):JE X cA aq aj F EX (.Name x pos) (.c (.int i)):=by
 let⟨t,h⟩:=h;show⟨zjr hg.o h (vX hd).1⟩
def Gf(h:∃t,X.mg x=some (.str i t))(hg:JK X x .globalImplicit)(hd:okN x=true):JE X cA aq aj F EX (.Name x pos) (.c (.str i)):=by
 let⟨t,h⟩:=h;show⟨zjA hg.o h (vX hd).1⟩
theorem Ni:JQ X cA .Add .add:=⟨_,zgp,zlP⟩
theorem zo6:JQ X cA .Sub .aq:=⟨_,znH,zm6⟩
theorem zoJ:JQ X cA .Mult .mul:=⟨_,zm1,znU⟩
theorem zlQ:JQ X cA .FloorDiv .fdiv:=⟨_,zjk,zka⟩
theorem zoF:JQ X cA .Mod .mod:=⟨_,zlu,zlj⟩
theorem zpl:JQ X cA .Pow .pow:=⟨_,znl,zlp⟩
def sG(h:JQ X cA op q)(ha:JE X cA aq aj F EX a A)(hb:JE X cA aq aj F EX b B):JE X cA aq aj F EX (.BinOp a op b pos) (.pr fz q (.cons A (.cons B .nil))):=by
 let⟨r,h1,h2⟩:=h.o;show⟨zl4 h1 h2 ha.o hb.o⟩
theorem zog(ha:JE X cA aq aj F EX a A):JE X cA aq aj F EX (.UnaryOp .USub a pos) (.pr true .neg (.cons A .nil)):=⟨zoS zlV zmW ha.o⟩
theorem zoQ(ha:JE X cA aq aj F EX a A):JE X cA aq aj F EX (.UnaryOp .Not a pos) (.not A):=⟨zms ha.o⟩
theorem Nj{op}(ha:JE X cA aq aj F EX a A):JE X cA aq aj F EX (.BoolOp op [a] pos) A:=⟨zmX ha.o⟩
theorem Cv{rest:List Expr}(ha:JE X cA aq aj F EX a A)(hb:JE X cA aq aj F EX (.BoolOp .And (b::rest) pos) B):JE X cA aq aj F EX (.BoolOp .And (a::b::rest) pos) (.and A B):=⟨zn2 ha.o hb.o⟩
theorem zqo{rest:List Expr}(ha:JE X cA aq aj F EX a A)(hb:JE X cA aq aj F EX (.BoolOp .Or (b::rest) pos) B):JE X cA aq aj F EX (.BoolOp .Or (a::b::rest) pos) (.or A B):=⟨zpj ha.o hb.o⟩
theorem Nk{k:Nat}(hr:bH k X.A):JP X cA .Eq .eq:=⟨_,zm4 (sE hr),zoT⟩
theorem Tv{k:Nat}(hr:bH k X.A):JP X cA .NotEq .ne:=⟨_,zlO (sE hr),zpk⟩
theorem Tw{k:Nat}(hr:bH k X.A):JP X cA .Lt .lt:=⟨_,Ii.or (znu (by let:=sE hr;lia)),zoh⟩
theorem Cw:JP X cA .LtE .le:=⟨_,zoE,zo1⟩
theorem Nm:JP X cA .Gt .gt:=⟨_,zpx,zoe⟩
theorem Zn:JP X cA .GtE .ge:=⟨_,zn9,zoM⟩
theorem Zo{k:Nat}(hr:bH k X.A):JP X cA .In .inn:=⟨_,znF (sE hr),zpy⟩
def oN:Expr->Bool
 |.Set _ _ _=>false|_=>true
def xO(h:oN b=true):behindInMarks op b=false:=by cases b<;>first|rfl|cases h
def u_(ho:JP X cA op q)(ha:JE X cA aq aj F EX a A)(hb:JE X cA aq aj F EX b B)(h1:oN b=true:=by rfl):JE X cA aq aj F EX (.Compare a [op] [b] pos) (.pr true q (.cons A (.cons B .nil))):=by
 let⟨r,h2,h3⟩:=ho.o;show⟨zmp h2 h3 ha.o hb.o (xO h1)⟩
def tD(ho:JP X cA op q)(ha:JE X cA aq aj F EX a A)(hb:JE X cA aq aj F EX b B)(h1:oN b=true:=by rfl):JT X cA aq aj F EX (.Compare a [op] [b] pos) (.pr true q (.cons A (.cons B .nil))):=by
 let⟨r,h2,h3⟩:=ho.o;show⟨zme h2 h3 ha.o hb.o (xO h1)⟩
def Zq(h1:JP X cA op q1)(h2:JP X cA op' q2)(ha:JE X cA aq aj F EX a A)(hb:JE X cA aq aj F EX b B)(hc:JE X cA aq aj F EX c C)(hm:oN c=true:=by rfl):JE X cA aq aj F EX (.Compare a [op,op'] [b,c] pos) (.yX q1 q2 A B C):=by
 let⟨r,h3,h4⟩:=h1.o;let⟨r',h5,h6⟩:=h2.o;show⟨zlC h3 h4 h5 h6 ha.o hb.o hc.o (xO hm)⟩
theorem zoK{j p}(ha:JE X cA aq aj F EX a A):JE X cA aq aj F EX (.Compare a [.Is] [.Constant .none j p] pos) (.pr true .pW (.cons A .nil)):=⟨zl3 ha.o⟩
theorem Zr{j p}(ha:JE X cA aq aj F EX a A):JE X cA aq aj F EX (.Compare a [.IsNot] [.Constant .none j p] pos) (.pr true .lO (.cons A .nil)):=⟨zku ha.o⟩
theorem zoV{j p}(ha:JE X cA aq aj F EX a A):JT X cA aq aj F EX (.Compare a [.Is] [.Constant .none j p] pos) (.pr true .pW (.cons A .nil)):=⟨zlN ha.o⟩
theorem zlw{j p}(ha:JE X cA aq aj F EX a A):JT X cA aq aj F EX (.Compare a [.IsNot] [.Constant .none j p] pos) (.pr true .lO (.cons A .nil)):=⟨zjs ha.o⟩
def zA:Expr->Bool
 |.Call _ _ _ _=>true|.Name _ _=>true|.Subscript _ _ _=>true|.Attribute _ _ _=>true|_=>false
theorem Np(ha:JE X cA aq aj F EX a A)(he:zA a=true:=by rfl):JT X cA aq aj F EX a A:=⟨zlz ha.o (by cases a<;>first|(intro _;rfl)|cases he)⟩
theorem Nq(ha:JT X cA aq aj F EX a A):JT X cA aq aj F EX (.UnaryOp .Not a pos) (.not A):=⟨znj ha.o⟩
theorem Tz(ha:JT X cA aq aj F EX a A):JW X cA aq aj F EX (.BoolOp .And [a] pos) A:=⟨zkD ha.o⟩
theorem TF(ha:JT X cA aq aj F EX a A):JW X cA aq aj F EX (.BoolOp .Or [a] pos) A:=⟨zna ha.o⟩
theorem TJ{rest:List Expr}(ha:JT X cA aq aj F EX a A)(hb:JW X cA aq aj F EX (.BoolOp .And (b::rest) pos) B):JW X cA aq aj F EX (.BoolOp .And (a::b::rest) pos) (.and A B):=⟨zl2 ha.o hb.o⟩
theorem Nr{rest:List Expr}(ha:JT X cA aq aj F EX a A)(hb:JW X cA aq aj F EX (.BoolOp .Or (b::rest) pos) B):JW X cA aq aj F EX (.BoolOp .Or (a::b::rest) pos) (.or A B):=⟨zoX ha.o hb.o⟩
theorem Gg(h:JW X cA aq aj F EX a A):JT X cA aq aj F EX a A:=⟨zqx h.o⟩
theorem Zu(hc:JT X cA aq aj F EX c C)(ha:JE X cA aq aj F EX a A)(hb:JE X cA aq aj F EX b B):JE X cA aq aj F EX (.IfExp c a b pos) (.ite C A B):=⟨zm2 hc.o ha.o hb.o⟩
theorem zoa:JA X cA aq aj F EX [] .nil:=⟨zlZ⟩
theorem fX(ha:JE X cA aq aj F EX a A)(hr:JA X cA aq aj F EX es Xs)(hs:aF a=true:=by rfl):JA X cA aq aj F EX (a::es) (.cons A Xs):=⟨zkO ha.o hr.o (bx hs)⟩
theorem Gh{k}(ha:JA X cA aq aj F EX es Xs)(hz:decide (Es.len Xs<=sizeLine)=true:=by rfl):JE X cA aq aj F EX (.Tuple es k pos) (.tup Xs):=⟨zmw ha.o (gP hz)⟩
theorem zpu(ha:JA X cA aq aj F EX es Xs)(hz:decide (Es.len Xs<=sizeLine)=true:=by rfl):JE X cA aq aj F EX (.List es pos) (.lst fz Xs):=⟨znr ha.o (gP hz)⟩
def vd:Expr->Bool
 |.Constant _ _ _=>true|.Name _ _=>true|.Call _ _ _ _=>true|.BinOp _ _ _ _=>true|.UnaryOp _ _ _=>true|.Subscript _ _ _=>true|.IfExp _ _ _ _=>true|.Attribute _ _ _=>true|.Compare _ _ _ _=>true|.BoolOp _ _ _=>true|_=>false
theorem Zv(ha:JE X cA aq aj F EX a A)(hb:JE X cA aq aj F EX b B)(hs:vd b=true:=by rfl):JE X cA aq aj F EX (.Subscript a b pos) (.pr true .ix (.cons A (.cons B .nil))):=⟨zos zo2 ha.o hb.o (by cases b<;>first|(intro _ _;rfl)|cases hs)⟩
theorem zqF:JO X cA aq aj F EX none .no:=⟨zob⟩
theorem zpf(ha:JE X cA aq aj F EX a A):JO X cA aq aj F EX (some a) (.yes A):=⟨zlH ha.o⟩
theorem zqB{lo hi:Option Expr}{Lo Hi:Eo}(ha:JE X cA aq aj F EX a A)(hl:JO X cA aq aj F EX lo Lo)(hh:JO X cA aq aj F EX hi Hi):JE X cA aq aj F EX (.Subscript a (.Slice lo hi none p2) pos) (.sl fz A Lo Hi):=⟨zpo ha.o hl.o hh.o⟩
theorem zmL(f:Nat){cm:Bool}{k:Nat}{fa:Addr}{fd:FuncData}{ps:List Str}(Fo:cC X.prog X.w X.K X.mg X.base (gU X.prog X.w) cm k fa fd ps (lq X.K cA (F f)))(jA:cm=true->X.aj=true)(hr:bH k X.A)(hm:X.mg x=some (.ref fa))(hk:PySem.W.keepIn X.K (.ref fa)=true)(hb:Binds X.K fd ps [])(R:JR X EX)(hg:JK X x .globalImplicit)
  (ha:JA X cA aq aj F EX (e::es) Xs) (hd:okN x=true) (he:aF e=true:=by rfl) (cF:es.all aF=true:=by rfl) :
  JE X cA aq aj F EX (.Call (.Name x p) (e::es) [] pos) (.call f Xs):=⟨zjF Fo jA hr hg.o hm hk hb R.o ha.o (vX hd).1 (bx he) (bG cF)⟩
theorem Nt(hv:FT cA kd=.ty T)(hm:X.mg x=none)(hb:bootBuiltins x=some (.type T))(hg:JK X x .globalImplicit)(hd:okN x=true):JN X cA (.Name x pos) kd:=⟨λao s Z H Q I h=>by
 rw[hv]at h;show ug I hg.o hm hb ⟨.ty T,H,I,rfl,h⟩ (vX hd).2.2 (vX hd).1⟩
theorem zlx(h0:(uW kd).isSome=true)(hm:X.mg "isinstance"=none)(hg:JK X "isinstance" .globalImplicit)(ha:JE X cA aq aj F EX a A)(hk:JN X cA kx kd)(h1:aF a=true:=by rfl)(h2:aF kx=true:=by rfl):JE X cA aq aj F EX (.Call (.Name "isinstance" p) [a,kx] [] pos) (.qK A kd):=
 ⟨zmh (λz=>by rw[z]at h0;cases h0) hg.o hm ha.o hk.o (bx h1) (bx h2) (bG (by rw[wA,h2];rfl))⟩
theorem TQ(hm:X.mg "len"=none)(hg:JK X "len" .globalImplicit)(ha:JA X cA aq aj F EX (e::es) Xs)(he:aF e=true:=by rfl)(cF:es.all aF=true:=by rfl):JE X cA aq aj F EX (.Call (.Name "len" p) (e::es) [] pos) (.pr fz .len Xs):=⟨zm zdC zmN hg.o hm PySem.boot_len ha.o J0 J0 (bx he) (bG cF)⟩
theorem Zw(hm:X.mg "abs"=none)(hg:JK X "abs" .globalImplicit)(ha:JA X cA aq aj F EX (e::es) Xs)(he:aF e=true:=by rfl)(cF:es.all aF=true:=by rfl):JE X cA aq aj F EX (.Call (.Name "abs" p) (e::es) [] pos) (.pr fz .abs Xs):=⟨zm ziD znp hg.o hm PyProof.Rows.boot_abs ha.o J0 J0 (bx he) (bG cF)⟩
theorem zmY(hc:X.aj=true)(hm:X.mg "max"=none)(hg:JK X "max" .globalImplicit)(ha:JA X cA aq aj F EX (e::es) Xs)(he:aF e=true:=by rfl)(cF:es.all aF=true:=by rfl):JE X cA aq aj F EX (.Call (.Name "max" p) (e::es) [] pos) (.pr fz .max2 Xs):=⟨zm (zgL hc) zj3 hg.o hm PyProof.Rows.boot_max ha.o J0 J0 (bx he) (bG cF)⟩
theorem Zx(hc:X.aj=true)(hm:X.mg "min"=none)(hg:JK X "min" .globalImplicit)(ha:JA X cA aq aj F EX (e::es) Xs)(he:aF e=true:=by rfl)(cF:es.all aF=true:=by rfl):JE X cA aq aj F EX (.Call (.Name "min" p) (e::es) [] pos) (.pr fz .min2 Xs):=⟨zm (zgX hc) zjh hg.o hm PyProof.Rows.boot_min ha.o J0 J0 (bx he) (bG cF)⟩
theorem zlc(hm:X.mg "int"=none)(hg:JK X "int" .globalImplicit)(ha:JA X cA aq aj F EX (e::es) Xs)(he:aF e=true:=by rfl)(cF:es.all aF=true:=by rfl):JE X cA aq aj F EX (.Call (.Name "int" p) (e::es) [] pos) (.pr fz .wX Xs):=⟨SM zg5 zj4 hg.o hm PyProof.Rows.boot_int ha.o J0 J0 (bx he) (bG cF)⟩
theorem zix(hm:X.mg "divmod"=none)(hg:JK X "divmod" .globalImplicit)(ha:JA X cA aq aj F EX (e::es) Xs)(he:aF e=true:=by rfl)(cF:es.all aF=true:=by rfl):JE X cA aq aj F EX (.Call (.Name "divmod" p) (e::es) [] pos) (.pr fz .divmod Xs):=⟨zm zd6 zf9 hg.o hm PyProof.Rows.boot_divmod ha.o J0 J0 (bx he) (bG cF)⟩
theorem zB(hc:X.aj=true)(hm:X.mg "all"=none)(hg:JK X "all" .globalImplicit)(ha:JA X cA aq aj F EX (e::es) Xs)(he:aF e=true:=by rfl)(cF:es.all aF=true:=by rfl):JE X cA aq aj F EX (.Call (.Name "all" p) (e::es) [] pos) (.pr fz .all Xs):=⟨zm (zhj hc) zl5 hg.o hm PyProof.Rows.boot_all ha.o J0 J0 (bx he) (bG cF)⟩
theorem zlB(hm:X.mg "list"=none)(hg:JK X "list" .globalImplicit)(ha:JA X cA aq aj F EX (e::es) Xs)(he:aF e=true:=by rfl)(cF:es.all aF=true:=by rfl):JE X cA aq aj F EX (.Call (.Name "list" p) (e::es) [] pos) (.pr fz .list Xs):=⟨SM zdD zkq hg.o hm Zm ha.o J0 J0 (bx he) (bG cF)⟩
theorem Gi(hm:X.mg "tuple"=none)(hg:JK X "tuple" .globalImplicit)(ha:JA X cA aq aj F EX (e::es) Xs)(he:aF e=true:=by rfl)(cF:es.all aF=true:=by rfl):JE X cA aq aj F EX (.Call (.Name "tuple" p) (e::es) [] pos) (.pr fz .tuple Xs):=⟨SM zcY zhX hg.o hm Tt ha.o J0 J0 (bx he) (bG cF)⟩
theorem Zy(ho:JE X cA aq aj F EX a A)(hb:JE X cA aq aj F EX b B)(iy:attributeBase a "append" X.env (eval a X.env)=eval a X.env:=by rfl)(iz:(apos.endLine==pos.line)=true:=by rfl)(hs:aF b=true:=by rfl) :
  JE X cA aq aj F EX (.Call (.Attribute a "append" apos) [b] [] pos) (.push A B):=⟨zji ho.o hb.o iy (qW hs rfl rfl) iz (bx hs) rfl⟩
theorem zqy:JC X cA aq aj F EX [] .no:=⟨zmc⟩
theorem zou(h:JT X cA aq aj F EX c C):JC X cA aq aj F EX [c] (.yes C):=⟨zkk h.o⟩
theorem zon(ha:JE X cA aq aj F EX a A):JI X cA aq aj F EX tg a (.seq A):=⟨znc ha.o⟩
theorem zqz(hmg:X.mg "range"=none)(jJ:JK X "range" .globalImplicit)(ha:JE X cA aq aj F EX a A)(hb:JE X cA aq aj F EX b B)(h1:aF a=true:=by rfl)(h2:aF b=true:=by rfl):JI X cA aq aj F EX tg (.Call (.Name "range" p) [a,b] [] pos) (.rg A B):=⟨zoC jJ.o hmg ha.o hb.o (bx h1) (bx h2)⟩
theorem Zz(hmg:X.mg "range"=none)(jJ:JK X "range" .globalImplicit)(hb:JE X cA aq aj F EX b B)(h2:aF b=true:=by rfl):JI X cA aq aj F EX tg (.Call (.Name "range" p) [b] [] pos) (.rg (.c (.int 0)) B):=⟨zne jJ.o hmg hb.o (bx h2)⟩
def zE(scope:Scope)(x:Str):Bool:=match scope.names.lookup x with
 |some .local=>true|some .cell=>true|_=>false
def Gj(h:zE scope x=true):Loc (X.blk scope cl N Cc s3 H3 fp ao).env.scope x/\((X.blk scope cl N Cc s3 H3 fp ao).fn x=true\/(X.blk scope cl N Cc s3 H3 fp ao).env.scope.names.lookup x=some .local):=by
 unfold zE at h;split at h
 .rename_i z;show⟨.inl (lookup_relabel_local z),.inr (lookup_relabel_local z)⟩
 .rename_i z;show⟨.inr (Nh (by intro y;cases y) z),.inl (by change (scope.names.lookup x==some NameKind.cell)=true;rw[z];rfl)⟩
 .cases h
theorem Cy(i:Nat)(TV:N.Nodup)(hi:N[i]?=some x)(hl:zE scope x=true):JY (X.blk scope cl N Cc s3 H3 fp ao) (.Name x tp) (dI i):=
 ⟨Ml TV hi (Gj hl).1 (Gj hl).2⟩
theorem ZC(i j:Nat)(hc:X.aj=true)(TV:N.Nodup)(hi:N[i]?=some x)(hj:N[j]?=some y)(hl:zE scope x=true)(zy:zE scope y=true):JY (X.blk scope cl N Cc s3 H3 fp ao) (.Tuple [.Name x px,.Name y py] kt tp) (uo X.K 2 (h_ (dI i) (h_ (dI j) uh))):=
 ⟨Tn (X:=X.blk scope cl N Cc s3 H3 fp ao) hc TV hi hj (Gj hl).1 (Gj zy).1 (Gj hl).2 (Gj zy).2⟩
def zF{scope:Scope}{XN:List Str}{M0 N:List Str}{fr:List Nat}(h:frB scope XN N fr=true):(M0++N).length=M0.length+fr.length/\∀(i:Nat) (y:Str) (j:Nat),(M0++N)[M0.length+i]?=some y->fr[i]?=some j->scope.names.lookup y=some .free/\XN[j]?=some y:=by
 let⟨l,q⟩:=Zk h;show⟨by rw[jk,l],λi y j e1 e2=>q i y j ?_ e2⟩;rw[nG gV]at e1;rw[show M0.length+i-M0.length=i by lia]at e1;show e1
theorem ZD{elt iter tg:Expr}{ifs:List Expr}{scope:Scope}{cond:Eo}{aP:List Nat}{g:TG}{w:Wk}(sc:Scope)(XN M0 N:List Str)(fr:List Nat)(hc:X.aj=true)(J8:X.env.scope=sc)(qT:X.N=XN)(hB:oM sc scope=true)(hf:frB scope XN N fr=true)(hT:fW X.K cA g aP)(dD:aP.all (λi=>decide (i<M0.length))=true)
  (hi:JI X cA aq aj F EX tg iter w) (hg:∀cl C s3 H3 fp ao,JY (X.blk scope cl (M0++N) C s3 H3 fp ao) tg g)
  (ht:∀cl C s3 H3 fp ao,JC (X.blk scope cl (M0++N) C s3 H3 fp ao) cA aq aj F (λ_ _ _ _=>False) ifs cond) (he:∀cl C s3 H3 fp ao,JE (X.blk scope cl (M0++N) C s3 H3 fp ao) cA aq aj F (λ_ _ _ _=>False) elt B)
  (hs:∀x,foldedSetIterable iter X.env x=pure x:=by intro _;rfl):JE X cA aq aj F EX (.ListComp elt [⟨tg,iter,ifs,0⟩] scope pos) (.comp fz B aP w fr M0.length cond):=
 ⟨Ze hc (cL.of (J8▸hB)) hi.o (zF (qT▸hf)).1 (zF (qT▸hf)).2 (λa b c d e f=>(hg a b c d e f).o) hT (λi hi=>gP (cT.mp dD i hi)) (λa b c d e f=>(ht a b c d e f).o) (λa b c d e f=>(he a b c d e f).o) hs⟩
theorem Kaa{scope eZ:Scope}{env:Env}(h:cL scope eZ):cL (relabel scope env) eZ:=⟨h.kind,h.Yd,λy hy z=>by
 rcases h.free y hy z with q|q
 .exact .inl (Nh (by intro y;cases y) q)
 .exact Ry q,h.loc⟩
def zjv{elt iter tg:Expr}{ifs:List Expr}{scope eZ:Scope}{cond:Eo}{aP:List Nat}{g:TG}{w:Wk}{cl:List (Str×Addr)}{zG:List Str}{Cc:Addr}{s3:Shared}{H3:Hp}{fp:List Addr}{ao:List (Addr×Obj)}(XN M0 N:List Str)(fr:List Nat)(hc:X.aj=true)(qT:zG=XN)(hB:oM scope eZ=true)(hf:frB eZ XN N fr=true)(hT:fW X.K cA g aP)(dD:aP.all (λi=>decide (i<M0.length))=true)
  (hi:JI (X.blk scope cl zG Cc s3 H3 fp ao) cA aq aj F EX tg iter w) (hg:∀cl2 C s3' J9 fp' jr,JY ((X.blk scope cl zG Cc s3 H3 fp ao).blk eZ cl2 (M0++N) C s3' J9 fp' jr) tg g)
  (ht:∀cl2 C s3' J9 fp' jr,JC ((X.blk scope cl zG Cc s3 H3 fp ao).blk eZ cl2 (M0++N) C s3' J9 fp' jr) cA aq aj F (λ_ _ _ _=>False) ifs cond) (he:∀cl2 C s3' J9 fp' jr,JE ((X.blk scope cl zG Cc s3 H3 fp ao).blk eZ cl2 (M0++N) C s3' J9 fp' jr) cA aq aj F (λ_ _ _ _=>False) elt B)
  (hs:∀x,foldedSetIterable iter (X.blk scope cl zG Cc s3 H3 fp ao).env x=pure x:=by intro _;rfl):JE (X.blk scope cl zG Cc s3 H3 fp ao) cA aq aj F EX (.ListComp elt [⟨tg,iter,ifs,0⟩] eZ pos) (.comp fz B aP w fr M0.length cond):=by
 subst qT;show⟨Ze (X:=X.blk scope cl zG Cc s3 H3 fp ao) hc (Kaa (cL.of hB)) hi.o (zF hf).1 (zF hf).2 (λa b c d e f=>(hg a b c d e f).o) hT (λi hi=>gP (cT.mp dD i hi)) (λa b c d e f=>(ht a b c d e f).o) (λa b c d e f=>(he a b c d e f).o) hs⟩
theorem zqr:JR X (λ_ _ _ _=>False):=⟨zgH⟩
theorem Gk{P:Program}{w:World}{K:W.Frag}{mg:Str->Option Value}{base:Heap}{N:List Str}{qual:Str}{scope:Scope}{f:Addr}{cd:Value}{A:Around}{outer:List Env}{s:Shared}{H:Hp}{E:XK}{cm:Bool} :
  JR (gR (gU P w) P w K mg base N qual scope f cd A outer s H E cm) (λ_ C dx H'=>E C dx H'):=⟨zfh⟩
theorem sH{CX:rO}{P:Program}{w:World}{K:W.Frag}{mg:Str->Option Value}{base:Heap}{N:List Str}{qual:Str}{scope:Scope}{f:Addr}{cd:Value}{A:Around}{outer:List Env}{s:Shared}{H:Hp}{E:XK}{cm:Bool} :
  JH (gR CX P w K mg base N qual scope f cd A outer s H E cm):=⟨PassesOwn.leaving⟩
end
section
variable {X:Cx}{cA:Cl}{aq:Nat->Nat->Bool}{aj:Bool}{F:Bool->Fn}{EX:XS}{a b c d e:Expr}{A B C:E}{pos p p2:Pos}{st:Stmt}{sts body orelse:List Stmt}{m:St}{ms mb me mh:bM}{es:List Expr}{Xs:Es}{x y n:Str}{k k':NameKind}
def zJ(h:JK X x k)(hv:m5 k=true):Loc X.env.scope x:=by cases k<;>first|exact .inl h.o|exact .inr h.o|cases hv
def zK(h:JK X x k)(hv:X.fn x=true\/k=.local):X.fn x=true\/X.env.scope.names.lookup x=some .local:=by
 rcases hv with hv|hv
 .exact .inl hv
 .subst hv;show .inr h.o
theorem zpt:JB X cA aq aj F EX [] .nil:=⟨zjB⟩
theorem bw(h1:JS X cA aq aj F EX st m)(h2:JB X cA aq aj F EX sts ms):JB X cA aq aj F EX (st::sts) (.cons m ms):=⟨ziw h1.o h2.o⟩
theorem zqD:JS X cA aq aj F EX st .no:=⟨zoA⟩
theorem ZF(ha:JE X cA aq aj (F aj) EX a A)(hs:swapsWith a none pos.line X.env=pure false:=by rfl):JS X cA aq aj F EX (.Expr a pos) (.ex A):=⟨zpb ha.o hs⟩
theorem lW(ha:JE X cA aq aj (F aj) EX a A):JS X cA aq aj F EX (.Return (some a) pos) (.ret A):=⟨zny ha.o⟩
theorem sI(i:Nat)(hN:X.N.Nodup)(hi:X.N[i]?=some x)(hx:JK X x k)(hl:m5 k=true)(ha:JE X cA aq aj (F aj) EX a A)(hs:swapsWith a (some (.Name x p)) pos.line X.env=pure false:=by rfl)(hf:X.fn x=true\/k=.local:=by first|exact .inl rfl|exact .inr rfl):JS X cA aq aj F EX (.Assign [.Name x p] a pos) (.asg (.nm i) A):=
 ⟨zmR hN hi (zJ hx hl) ha.o hs (zK hx hf)⟩
theorem Nu{elt iter tg:Expr}{ifs:List Expr}{scope:Scope}{cond:Eo}{aP:List Nat}{g:TG}{w:Wk}{fz:Bool}{py spos:Pos}(i:Nat)(sc:Scope)(XN M0 N:List Str)(fr:List Nat)(hN:X.N.Nodup)(uI:X.N[i]?=some y)(hx:JK X y k)(hl:m5 k=true)(hc:X.aj=true)(J8:X.env.scope=sc)(qT:X.N=XN)(hB:oM sc scope=true)(hf:frB scope XN N fr=true)(hT:fW X.K cA g aP)(dD:aP.all (λi=>decide (i<M0.length))=true)
  (hi:JI X cA aq aj (F aj) EX tg iter w) (hg:∀cl C s3 H3 fp ao,JY (X.blk scope cl (M0++N) C s3 H3 fp ao) tg g)
  (ht:∀cl C s3 H3 fp ao,JC (X.blk scope cl (M0++N) C s3 H3 fp ao) cA aq aj (F aj) (λ_ _ _ _=>False) ifs cond) (he:∀cl C s3 H3 fp ao,JE (X.blk scope cl (M0++N) C s3 H3 fp ao) cA aq aj (F aj) (λ_ _ _ _=>False) elt B)
  (uJ:swapsWith (.ListComp elt [⟨tg,iter,ifs,0⟩] scope pos) (some (.Name y py)) spos.line X.env=pure true:=by rfl) (TX:X.fn y=true\/k=.local:=by first|exact .inl rfl|exact .inr rfl) (hs:∀x,foldedSetIterable iter X.env x=pure x:=by intro _;rfl) :
  JS X cA aq aj F EX (.Assign [.Name y py] (.ListComp elt [⟨tg,iter,ifs,0⟩] scope pos) spos) (.asg (.nm i) (.comp fz B aP w fr M0.length cond)):=
 ⟨zjq hc hN uI (zJ hx hl) (zK hx TX) (cL.of (J8▸hB)) hi.o (zF (qT▸hf)).1 (zF (qT▸hf)).2 (λa b c d e f=>(hg a b c d e f).o) hT (λi hi=>gP (cT.mp dD i hi)) (λa b c d e f=>(ht a b c d e f).o) (λa b c d e f=>(he a b c d e f).o) uJ hs⟩
theorem J_(i j:Nat){k0}(hc:X.aj=true)(dB:aj=true)(hN:X.N.Nodup)(hi:X.N[i]?=some x)(hj:X.N[j]?=some y)(hx:JK X x k)(hy:JK X y k')(TY:m5 k=true)(T3:m5 k'=true)(ha:JE X cA aq aj (F aj) EX a A)
  (xK:X.fn x=true\/k=.local:=by first|exact .inl rfl|exact .inr rfl) (xM:X.fn y=true\/k'=.local:=by first|exact .inl rfl|exact .inr rfl)
  (hs:swapsWithSole [.Tuple [.Name x px,.Name y py] k0 pt] a pos.line X.env=pure false:=by rfl) (hw:swappedStores [.Tuple [.Name x px,.Name y py] k0 pt] a X.env=pure none:=by rfl) (h1:(assignEach [.Tuple [.Name x px,.Name y py] k0 pt] X.env).map (·.2)=[assign (.Tuple [.Name x px,.Name y py] k0 pt) X.env]:=by rfl) :
  JS X cA aq aj F EX (.Assign [.Tuple [.Name x px,.Name y py] k0 pt] a pos) (.asg (.tp [i,j]) A):=⟨zkM hc dB hN hi hj (zJ hx TY) (zJ hy T3) (zK hx xK) (zK hy xM) ha.o hs hw h1⟩
theorem ZG(hO:JE X cA aq aj (F aj) EX oo O)(hI:JE X cA aq aj (F aj) EX ii I')(ha:JE X cA aq aj (F aj) EX a A)
  (Cq:∀v,assign (.Subscript oo ii p) X.env v=(do
   let obj <-holding [v] (eval oo X.env)
   let at_ <-holding [v,obj] (eval ii X.env)
   standAt p
   holding [v,obj,at_] (setItem obj at_ v)
   release [v,obj,at_] []):=by intro _;rfl) (hs:swapsWithSole [.Subscript oo ii p] a pos.line X.env=pure false:=by rfl) (hw:swappedStores [.Subscript oo ii p] a X.env=pure none:=by rfl)
  (h1:(assignEach [.Subscript oo ii p] X.env).map (·.2)=[assign (.Subscript oo ii p) X.env]:=by rfl):JS X cA aq aj F EX (.Assign [.Subscript oo ii p] a pos) (.asg (.aq O I') A):=⟨znA hO.o hI.o ha.o Cq hs hw h1⟩
theorem zpw(i j:Nat){kt k2 uq}(hc:X.aj=true)(dB:aj=true)(hN:X.N.Nodup)(hi:X.N[i]?=some x)(hj:X.N[j]?=some y)(hij:i≠j)(hx:JK X x .local)(hy:JK X y .local)
  (ha:JE X cA aq aj (F aj) EX a A) (hb:JE X cA aq aj (F aj) EX b B) (hw:swappedStores [.Tuple [.Name x px,.Name y py] kt pt] (.Tuple [a,b] k2 uq) X.env=pure (some [x,y])) (h1:aF a=true:=by rfl) (h2:aF b=true:=by rfl)
  (hs:swapsWithSole [.Tuple [.Name x px,.Name y py] kt pt] (.Tuple [a,b] k2 uq) pos.line X.env=pure false:=by rfl):JS X cA aq aj F EX (.Assign [.Tuple [.Name x px,.Name y py] kt pt] (.Tuple [a,b] k2 uq) pos) (.par i j A B):=
 ⟨zlF hc dB hN hi hj hij hx.o hy.o ha.o hb.o (bx h1) (bx h2) hw hs⟩
theorem qX(hc:JT X cA aq aj (F aj) EX c C)(ht:JB X cA aq aj F EX body mb)(he:JB X cA aq aj F EX orelse me):JS X cA aq aj F EX (.If c body orelse pos) (.iff C mb me):=⟨zoj hc.o ht.o he.o⟩
theorem ZJ(hp:JH X)(hc:JT X cA aq aj (F aj) EX c C)(hb:JB X cA aq aj F EX body mb):JS X cA aq aj F EX (.While c body [] pos) (.wh C mb):=⟨zhD hp.o hc.o hb.o⟩
theorem zL(i:Nat)(hN:X.N.Nodup)(hi:X.N[i]?=some x)(hx:JK X x k)(hl:m5 k=true)(hf:X.fn x=true\/k=.local:=by first|exact .inl rfl|exact .inr rfl):JG X cA aq aj F EX (.Name x pos) (.nm i):=⟨zk5 hN hi (zJ hx hl) (zK hx hf)⟩
theorem T4(i j:Nat){k0}(hc:X.aj=true)(dB:aj=true)(hN:X.N.Nodup)(hi:X.N[i]?=some x)(hj:X.N[j]?=some y)(hx:JK X x k)(hy:JK X y k')(TY:m5 k=true)(T3:m5 k'=true)(xK:X.fn x=true\/k=.local:=by first|exact .inl rfl|exact .inr rfl)(xM:X.fn y=true\/k'=.local:=by first|exact .inl rfl|exact .inr rfl) :
  JG X cA aq aj F EX (.Tuple [.Name x px,.Name y py] k0 pos) (.tp [i,j]):=⟨zko hc dB hN hi hj (zJ hx TY) (zJ hy T3) (zK hx xK) (zK hy xM)⟩
theorem vf(hp:JH X)(hc:X.aj=true)(dB:aj=true)(ha:JI X cA aq aj (F aj) EX tg a w)(hg:JG X cA aq aj F EX tg t)(hb:JB X cA aq aj F EX body mb)(hs:∀x,foldedSetIterable a X.env x=pure x:=by intro _;rfl):JS X cA aq aj F EX (.For tg a body [] pos) (.fr t w mb):=
 ⟨znn hp.o hc dB ha.o hg.o hb.o hs⟩
end
theorem ZK{P:Program}{w:World}{K:W.Frag}{mg:Str->Option Value}{base:Heap}{cA:Cl}{aq:Nat->Nat->Bool}{T:Nat->Option Df}{x qual:Str}{st:Stmt}{f:Addr}{fd:FuncData}{N ps:List Str}{k n:Nat}{cm:Bool}{df:Df}(F:oK K x qual st f fd)(S:dh N ps (aB st))(hT:T n=some df)(hp:df.iB=ps.length)(hm:df.many=N.length)
  (hb:∀(cdv:Value) (A:Around) (outer:List Env) (s:Shared) (H:Hp) (E:XK),bH k (A.deeper (envOfC qual (aB st) s.heap.objs.size f cdv))->
   JB (gR (gU P w) P w K mg base N qual (aB st) f cdv A outer s H E cm) cA aq cm (λc=>call aq T k c) (λ_ C dx H'=>E C dx H') (aK st) df.body) :
  cC P w K mg base (gU P w) cm (k+1) f fd ps (lq K cA (call aq T (k+1) cm n)):=zlL F S hT hp hm λcdv A outer s H E hr=>(hb cdv A outer s H E hr).o
section
variable {K:W.Frag}{cA:Cl}{U:Ph}{H:Hp}{kvs:gJ}{xs:mX}{k:List Kx}
def jt.len(r:jt K cA U H kvs xs):kvs.length=xs.length:=by
 induction r with
 |nil=>rfl|cons _ _ _ _ ih=>rw[eE,eE,ih]
def zkF{j:List Kx}{a:Addr}{u:Value}{r:mX}:atKey ((j,a,u)::r) k=if j=k then some (a,u) else atKey r k:=by
 unfold atKey;rw[List.find?_cons];by_cases e:j=k
 .simp[e]
 .simp[e]
def jt.at(r:jt K cA U H kvs xs):(bW k kvs=none/\atKey xs k=none)\/∃d p v,bW k kvs=some d/\atKey xs k=some p/\RelV v p.2/\Rep K cA U H d v:=by
 induction r with
 |nil=>show .inl ⟨rfl,rfl⟩|@cons j d ka u v r xs hk hu hv q ih=>
  rw[zkF];unfold bW;by_cases e:j=k
  .rw[if_pos e,if_pos e];show .inr ⟨d,(ka,u),v,rfl,rfl,hu,hv⟩
  .rw[if_neg e,if_neg e];show ih
def jt.isSome(r:jt K cA U H kvs xs):(atKey xs k).isSome=(bW k kvs).isSome:=by
 rcases r.at (k:=k) with ⟨a,b⟩|⟨d,p,v,a,b,_⟩<;>rw[a,b]<;>rfl
def jt.app{kvs':gJ}{xs':mX}(r:jt K cA U H kvs xs)(r':jt K cA U H kvs' xs'):jt K cA U H (kvs++kvs') (xs++xs'):=by
 induction r with
 |nil=>show r'|cons a b c _ ih=>show .cons a b c ih
def jt.put{ka:Addr}{u:Value}{v:V}{d:D}(r:jt K cA U H kvs xs)(hk:Rep K cA U H (jf k) (.ref ka))(hu:RelV v u)(hv:Rep K cA U H d v):jt K cA U H (jd k d kvs) (storedH xs k ka u):=by
 unfold jd storedH;rw[r.isSome];by_cases e:(bW k kvs).isSome=true
 .rw[if_pos e,if_pos e];clear e
  induction r with
  |nil=>show .nil|@cons j d' ZL u' v' r xs ZM hu' QV q ih=>
   rw[iV,iV];change jt K cA U H ((if j=k then (j,d) else (j,d'))::_) ((if j=k then (j,ZL,u) else (j,ZL,u'))::_);by_cases e:j=k
   .rw[if_pos e,if_pos e];show .cons ZM hu hv ih
   .rw[if_neg e,if_neg e];show .cons ZM hu' QV ih
 .rw[if_neg e,if_neg e];show r.app (.cons hk hu hv .nil)
end
section
variable {X:Cx}{cA:Cl}{ao:List (Addr×Obj)}{Z:L2.St}{H:Hp}{s:Shared}{U:Ph}{a:Addr}{kvs:gJ}{xs:mX}{k:List Kx}{y v:V}{u:Value}{A:Around}{E:Value->Shared->Prop}
def T5(I:Inv X ao Z H s)(e:H a=some (uP a xs))(r:jt X.K cA U H kvs xs):(a==sysModules)=false/\xs.length<=sizeLine/\s.heap.DictOfH (jH X.prog X.w) a xs:=by
 let z:=(I.hok a _ e).1;let⟨h1,h2,o,es,ep,h3,h4,h5,h6,h7⟩:=z;show⟨h1,h2,o,es,ep,h3,h4,h5,h6,?_,h7⟩;clear h2 h6 h7 e
 induction r with
 |nil=>show λx hx=>nomatch hx
 |cons hk hu hv q ih=>show List.forall_mem_cons.mpr ⟨su I hk rfl,ih⟩
def T6{d:D}(hk:Rep X.K cA U H (jf k) y):∃b,y=.ref b:=by cases hk;show⟨_,rfl⟩
def tGx(K:W.Frag)(cA:Cl)(td ty:TE):TE:=λZ H Q=>td Z H λx H1=>ty Z H1 λy H2=>∃a U kvs xs k d,x=.ref a/\H2 a=some (uP a xs)/\jt K cA U H2 kvs xs/\Rep K cA U H2 (jf k) y/\bW k kvs=some d/\∀v,Rep K cA U H2 d v->Q v H2
def ZP(K:W.Frag)(cA:Cl)(f:Bool->Bool)(ty td:TE):TE:=λZ H Q=>ty Z H λy H1=>td Z H1 λx H2=>∃a U kvs xs k,x=.ref a/\H2 a=some (uP a xs)/\jt K cA U H2 kvs xs/\Rep K cA U H2 (jf k) y/\Q (.bl (f (bW k kvs).isSome)) H2
def sPx(K:W.Frag)(cA:Cl)(td ty tv:TE):TS:=λD Z H=>tv Z H λv H1=>td Z H1 λx H2=>ty Z H2 λy H3=>∃a b U kvs xs k d,x=.ref a/\H3 a=some (uP a xs)/\jt K cA U H3 kvs xs/\y=.ref b/\Rep K cA U H3 (jf k) y/\Rep K cA U H3 d v/\kvs.length<sizeLine /\
 ∀u,RelV v u->D.nx Z (upd H3 a (uP a (storedH xs k b u)))
variable {o i value:Expr}{pos pos':Pos}{td ty tv:TE}
def zpz(hu:X.A.units+5<cLine)(ho:PE X o td)(hi:PE X i ty)(hs:Cd i):PE X (.Subscript o i pos) (tGx X.K cA td ty):=by
 intro ao s Z H Q I h;show zkH PySem.F.slot_dict_getitem.lookup hs (aV (ho ao s Z H _ I h) λu s1 hx=>eO hx λx H1 I1 rx q1=>aV (hi ao s1 Z H1 _ I1 q1) λiv s2 hz=>?_);let⟨y,H2,I2,ry,a,U,kvs,xs,k,d,ex,ea,rr,rk,g,q2⟩:=hz;subst ex;obtain rfl:u=Value.ref a:=rx;let⟨b,rfl⟩:=T6 (d:=d) rk;obtain rfl:iv=Value.ref b:=ry;let⟨z1,z2,dd⟩:=T5 I2 ea rr;rcases rr.at (k:=k) with ⟨z,_⟩|⟨d',p,v,z,hp,rv,rd⟩
 .rw[g]at z;cases z
 .rw[g]at z;cases z;show⟨dd.typeIs,wpAny_getItem_heap (knd:=jH X.prog X.w) (show X.A.units+1+4<cLine by lia) (su I2 rk rfl) dd hp ⟨v,H2,I2.tok _,rv,q2 v rd⟩⟩
def znI(hu:X.A.units+5<cLine)(hi:PE X i ty)(ho:PE X o td):PC X .NotIn i o (ZP X.K cA not ty td):=by
 intro ao s Z H Q I h;show aV (hi ao s Z H _ I h) λiv s1 hx=>eO hx λy H1 I1 ry q1=>aV (ho ao s1 Z H1 _ I1 q1) λu s2 hz=>?_;let⟨x,H2,I2,rx,a,U,kvs,xs,k,ex,ea,rr,rk,q2⟩:=hz;subst ex;obtain rfl:u=Value.ref a:=rx;let⟨b,rfl⟩:=T6 (d:=.non) rk;obtain rfl:iv=Value.ref b:=ry;let⟨z1,z2,dd⟩:=T5 I2 ea rr;show wpAny_notIn_heap (knd:=jH X.prog X.w) (show X.A.units+1+4<cLine by lia) (su I2 rk rfl) z1 dd ⟨_,H2,I2.tok _,by rw[rr.isSome];rfl,q2⟩
def zfq{xs:mX}{b:Addr}{u:Value}:(storedH xs k b u).length<=xs.length+1:=by
 unfold storedH
 split
 .rw[bN];lia
 .simp
def zof(hu:X.A.units+5<cLine)(ho:PE X o td)(hi:PE X i ty)(hv:PE X value tv)(hs:swapsWith value (some (.Subscript o i pos')) pos.line X.env=pure false):PS X (.Assign [.Subscript o i pos'] value pos) (sPx X.K cA td ty tv):=by
 intro ao s Z H D I h;show wpAny_Assign_Subscript (aV (hv ao s Z H _ I h) λr s1 hx=>eO hx λv H1 I1 rv q1=>aV (ho ao s1 Z H1 _ I1 q1) λu s2 hx=>eO hx λx H2 I2 rx q2=>aV (hi ao s2 Z H2 _ I2 q2) λiv s3 hz=>?_) hs;let⟨y,H3,I3,ry,a,b,U,kvs,xs,k,d,ex,ea,rr,ey,rk,rd,hl,q3⟩:=hz;subst ex ey;obtain rfl:u=Value.ref a:=rx;obtain rfl:iv=Value.ref b:=ry;let⟨z1,z2,dd⟩:=T5 I3 ea rr;let zy:xs.length+1<=sizeLine:=by rw[<-rr.len];show hl
 show wpAny_setItem_heap (knd:=jH X.prog X.w) (hsz:=z2) (show X.A.units+1+4<cLine by lia) (su I3 rk rfl) dd λh' dd' hs'=>⟨Z,_,?_,q3 r rv⟩;let⟨q,es,ep,hq,h2,h3,h4,_,h5⟩:=dd';show zjE I3 (by rw[ea];show True.intro) hs' ⟨q,hq⟩ ⟨⟨z1,jz zfq zy,q,es,ep,hq,h2,h3,h4,h5⟩,⟨q,hq⟩,λh1 h2 ⟨a1,a2,o,es,ep,a3,a4⟩ kp=>⟨a1,a2,o,es,ep,kp o a3,a4⟩⟩
theorem zok:PE X (.Dict [] [] pos) (λ_ H Q=>∀p,H p=none->Q (.ref p) (upd H p (uP p []))):=λao s Z H Q I h=>
 wpAny_Dict_empty ⟨.ref s.heap.objs.size,_,I.laid (a:=s.heap.objs.size) (o:=uP s.heap.objs.size []) (t':=s.toks) (λ_ _ q=>cR _ q) (bQ _)
  ⟨⟨Ae.mpr (Ne.symm (dN I.big)),sW _,_,#[],0,fB _ rfl,⟨rfl,rfl,rfl⟩,rfl,rfl,Em⟩,⟨_,fB _ rfl⟩,λh1 h2 ⟨a1,a2,o,es,ep,a3,a4⟩ kp=>⟨a1,a2,o,es,ep,kp o a3,a4⟩⟩,rfl,h _ (I.hok.fresh (bQ _))⟩
end
section
variable {X:Cx}{cA:Cl}{aq:Nat->Nat->Bool}{aj:Bool}{F:Fn}{EX:XS}{a b:Expr}{A B:E}{pos p:Pos}{K:W.Frag}{U:Ph}{H:Hp}{s:S}
def T7{β:Type}{x:Xv}{v:V}{k:List Kx->M β}{P:β->S->Ph->Hp->Prop}{Ee:Nat->List D->S->Ph->Hp->Prop}(r:aR K cA U H x v)(h:Run K cA (M.bd (key x) k) U H s P Ee):∃kx,Rep K cA U H (jf kx) v/\Run K cA (k kx) U H s P Ee:=by
 cases r with
 |l _=>show h.elim|@d y _ r=>
  let⟨kx,e,h2⟩:=Fx (o:=kOf y) h;rw[zlJ e]at r;show⟨kx,r,h2⟩
def T8{β:Type}{x:Xv}{v:V}{k:Nat×gJ->M β}{P:β->S->Ph->Hp->Prop}{Ee:Nat->List D->S->Ph->Hp->Prop}(hS:aG K cA U H s)(r:aR K cA U H x v)(h:Run K cA (M.bd (fU x) k) U H s P Ee) :
  ∃n ad kvs xs,x=.l n/\v=.ref ad/\s[n]?=some (.dct kvs)/\U.l[n]?=some ad/\H ad=some (uP ad xs)/\jt K cA U H kvs xs/\Run K cA (k (n,kvs)) U H s P Ee:=by
 cases r with
 |d _=>show h.elim|@l n ad hl=>
  unfold Run M.bd fU at h;dsimp only at h;cases e:s[n]? with
  |none=>rw[e]at h;show h.elim|some o=>
   rw[e]at h;cases o with
   |dct kvs=>
    let⟨xs,q1,q2⟩:=hS.obj n _ _ e hl;show⟨n,ad,kvs,xs,rfl,rfl,e,hl,q1,q2,h⟩
   |_=>show h.elim
theorem zlR{k:Nat}(hr:bH k X.A)(ha:JE X cA aq aj F EX a A)(hb:JE X cA aq aj F EX b B)(hs:Cd b:=by show λ_ _=>rfl):JE X cA aq aj F EX (.Subscript a b pos) (.k_ A B):=⟨PE.weak (zpz (cA:=cA) (by let:=hr.un;lia) ha.o hb.o hs) λZ H Q hh=>un hh λU J s hL hS h=>by
 show bf hL hS h λx H1 U1 d1 s1 x1 hL1 aH r1 h1=>bf hL1 aH h1 λy H2 U2 d2 s2 x2 hL2 aO r2 h2=>?_;let⟨kx,rk,h3⟩:=T7 r2 h2;let⟨n,ad,kvs,xs,_,rfl,e1,e2,e3,rr,h4⟩:=T8 aO (r1.mono x2 aH.lz) h3;let h4:Run X.K cA (M.opt ((bW kx kvs).map Xv.d)) U2 H2 s2 (λd _ U' H'=>∀v,aR X.K cA U' H' d v->Q v H') (eX X.K cA EX Z):=h4;cases e:bW kx kvs with
 |none=>rw[e]at h4;show h4.elim|some d=>
  rw[e]at h4;show⟨ad,U2,kvs,xs,kx,d,rfl,e3,rr,rk,e,λv rv=>h4.bF aO v (.d rv)⟩⟩
theorem zkz{b':Bool}{Z:L2.St}{Q:VK}(f:Bool->Bool)(hf:∀c,f c=(c==b'))(hh:tE X.K cA EX (ev aq aj F (.wY b' A B)) Z H Q):ZP X.K cA f (tE X.K cA EX (ev aq aj F A)) (tE X.K cA EX (ev aq aj F B)) Z H Q:=un hh λU J s hL hS h=>by
 show bf hL hS h λx H1 U1 d1 s1 x1 hL1 aH r1 h1=>bf hL1 aH h1 λy H2 U2 d2 s2 x2 hL2 aO r2 h2=>?_;let⟨kx,rk,h3⟩:=T7 (r1.mono x2 aH.lz) h2;let⟨n,ad,kvs,xs,_,rfl,e1,e2,e3,rr,h4⟩:=T8 aO r2 h3;show⟨ad,U2,kvs,xs,kx,rfl,e3,rr,rk,?_⟩;rw[hf];show h4.bF aO _ (.d (.bl _))
theorem ZQ{m:Vs->M Xv}{Z:L2.St}{Q:Bool->Hp->Prop}(hh:qP K cA EX (λJ=>M.bd (m J) bool) Z H Q):tE K cA EX m Z H λx H1=>∃c,x=.bl c/\Q c H1:=un hh λU J s hL hS h=>
 ⟨U,J,s,hL,hS,h.bd.imp λd s1 U1 H1 ⟨_,r1,h1⟩ v rv=>zhN r1 rv h1⟩
theorem znw{k:Nat}(hr:bH k X.A)(ha:JE X cA aq aj F EX a A)(hb:JE X cA aq aj F EX b B)(h1:oN b=true:=by rfl):JT X cA aq aj F EX (.Compare a [.NotIn] [b] pos) (.wY false A B):=⟨PT.weak (Qw (znI (cA:=cA) (by let:=hr.un;lia) ha.o hb.o) (xO h1)) λZ H Q hh=>zkz not (λc=>by cases c<;>rfl) (ZQ hh)⟩
theorem zmC:JE X cA aq aj F EX (.Dict [] [] pos) .ou:=⟨PE.weak zok λZ H Q hh=>un hh λU J s hL hS h p hp=>
 h (U.add p) _ (Ext.add hp) (hS.Ju hp ⟨[],jE,.nil⟩) _ (.l (by change (U.l++[p])[s.length]?=_;rw[<-hS.len];simp))⟩
end
section
variable {X:Cx}{cA:Cl}{aq:Nat->Nat->Bool}{aj:Bool}{F:Bool->Fn}{EX:XS}{a oo ii:Expr}{A O I':E}{pos p:Pos}
theorem zmd{k:Nat}(hr:bH k X.A)(hO:JE X cA aq aj (F aj) EX oo O)(hI:JE X cA aq aj (F aj) EX ii I')(ha:JE X cA aq aj (F aj) EX a A)(hs:swapsWith a (some (.Subscript oo ii p)) pos.line X.env=pure false:=by rfl) :
  JS X cA aq aj F EX (.Assign [.Subscript oo ii p] a pos) (.dput O I' A):=⟨PS.weak (zof (cA:=cA) (by let:=hr.un;lia) hO.o hI.o ha.o hs) λD Z H hh=>un hh λU J s hL hS h=>by
 show bf hL hS (aU.ofM hL hS.lz h) λz H1 U1 d1 s1 x1 hL1 aH r1 h1=>?_;let⟨w,_,kJ,h2⟩:=M_ r1 h1;show bf hL1 aH h2 λx H2 U2 d2 s2 x2 hL2 aO r2 h3=>bf hL2 aO h3 λy H3 U3 d3 s3 x3 oH gA r3 h4=>?_;let⟨kx,rk,h5⟩:=T7 r3 h4;let⟨n,ad,kvs,xs,_,rfl,e1,e2,e3,rr,h6⟩:=T8 gA (r2.mono x3 aO.lz) h5;let⟨b,rfl⟩:=T6 (X:=X) (d:=.non) rk;let ZR:=(kJ.mono x2 aH.lz).mono x3 aO.lz;by_cases hz:kvs.length<sizeLine
 .refine⟨ad,b,U3,kvs,xs,kx,w,rfl,e3,rr,rfl,rk,ZR,hz,λu ru=>?_⟩;let h6:Run X.K cA (if kvs.length<sizeLine then putD n (jd kx w kvs) else M.no) U3 H3 s3 _ _:=h6;rw[if_pos hz]at h6;let x4:Ext U3 H3 U3 (upd H3 ad (uP ad (storedH xs kx b u))):=Ext.write e2 ⟨_,e3⟩;let rS:=gA.uQ (so:=.dct (jd kx w kvs)) (ho:=uP ad (storedH xs kx b u)) (cJ.mp e1).1 e2 ⟨_,jE,(rr.put rk ru ZR).map λ_ _ r=>r.mono x4 gA.lz⟩;let⟨x5,r5,h7⟩:=h6 U3 _ x4 rS;show h7 U3 _ Z Ext.refl rS (oH.mono x4 gA.lz)
 .let h6:Run X.K cA (if kvs.length<sizeLine then putD n (jd kx w kvs) else M.no) U3 H3 s3 _ _:=h6;rw[if_neg hz]at h6;show h6.elim⟩
end
end Mi
namespace Mi
open PySem PySem.Spec PyProof.Rows L2 PySem.W
def znx{fd:FuncData}{x:Str}{st:Stmt}(h:nJ fd=vP x st):fd=fnOf x x (aY st) (aK st) (aB st) .none fd.kwdefaults fd.doc fd.pyModule fd.annotations fd.code fd.closureTuple:=by
 cases fd;unfold nJ vP at h;cases h;rfl
def iD(K:Frag)(x:Str):Addr:=match Ao K x with
 |some p=>p.1|none=>0
def fdOf(K:Frag)(x:Str)(st:Stmt):FuncData:=match Ao K x with
 |some p=>p.2|none=>vP x st
structure FnAt(K:Frag)(x:Str)(st:Stmt):Prop where
 ns:nsIn K mainGlobals x=some (some (.ref (iD K x)))
 fn:oK K x x st (iD K x) (fdOf K x st)
def zoW{K:Frag}{x:Str}{st:Stmt}(h:(Ao K x).map (λp=>nJ p.2)=some (vP x st)):FnAt K x st:=by
 cases e:Ao K x with
 |none=>rw[e]at h;cases h|some p=>
  rw[e]at h;let hp:nJ p.2=vP x st:=cP h;let h1:iD K x=p.1:=by unfold iD;rw[e]
  let h2:fdOf K x st=p.2:=by unfold fdOf;rw[e]
  unfold Ao at e;split at e
  .rename_i f hf;split at e
   .rename_i oc od fd sl hl;split at e
    .rename_i hc;cases e;rw[fH]at hc;show⟨by rw[h1];show hf,?_⟩;rw[h1,h2];show⟨⟨oc,od,_,_,_,_,_,_,sl,znx hp,hl,hc.1⟩,hc.2⟩
    .cases e
   .cases e
  .cases e
theorem FnAt.m{K:Frag}{x:Str}{st:Stmt}(F:FnAt K x st){h:Heap}{mg:Str->Option Value}(X:K.In h)(G:h.Ns mainGlobals mg):mg x=some (.ref (iD K x)):=mg_of X G F.ns
def zph{K:Frag}{x:Str}(h:t_ K x=true){hp:Heap}{mg:Str->Option Value}(X:K.In hp)(G:hp.Ns mainGlobals mg):mg x=some (.ref (dU K x)):=by
 show mg_of X G ?_;unfold t_ at h;unfold dU;split at h
 .rename_i C e;rw[e]
 .cases h
def Nv{K:Frag}{x:Str}{i:Int}(h:mz K (x,i)=true){hp:Heap}{mg:Str->Option Value}(X:K.In hp)(G:hp.Ns mainGlobals mg):∃t,mg x=some (.int i t):=by
 unfold mz at h;split at h
 .rename_i j t e;rw[tV]at h;subst h;show⟨t,mg_of X G e⟩
 .cases h
def ZS{K:Frag}{x y:Str}(h:mC K (x,y)=true){hp:Heap}{mg:Str->Option Value}(X:K.In hp)(G:hp.Ns mainGlobals mg):∃t,mg x=some (.str y t):=by
 unfold mC at h;split at h
 .rename_i j t e;rw[tV]at h;subst h;show⟨t,mg_of X G e⟩
 .cases h
def pD{K:Frag}{x:Str}(h:qw K x=true){hp:Heap}{mg:Str->Option Value}(X:K.In hp)(G:hp.Ns mainGlobals mg):mg x=none:=by
 show mg_none_of X G ?_;unfold qw at h;split at h
 .rename_i e;show e
 .cases h
structure zM(l:Lk)(K:Frag):Prop where
 cl:∀x∈l.Ho,t_ K x=true
 cs:l.Ho.isEmpty=true\/yK K (l.L K)=true
 ra:∀k∈l.W2,Hl K (iW (l.L K) k)=true
 ca:∀k∈l.W3,subB K (l.L K) k=true
 it:∀p∈l.yL,mz K p=true
 no:∀x∈l.W0,qw K x=true
 st:∀p∈l.W4,mC K p=true
def Kac{l:Lk}{K:Frag}(h:l.good K=true):zM l K:=by
 unfold Lk.good at h;simp only[fH,Bool.or_eq_true,cT]at h;let⟨⟨⟨⟨⟨⟨h1,h2⟩,h3⟩,h4⟩,h5⟩,h6⟩,h7⟩:=h;show⟨h1,h2,h3,h4,h5,h6,h7⟩
def xP{K:Frag}{x:Str}{st:Stmt}{f:Addr}{fd:FuncData}{p:Str}(F:oK K x x st f fd)(h:∀(kV doc pm:Value) (an:Option Addr) (cdv ct a:Value),bindArgs (fnOf x x (aY st) (aK st) (aB st) .none kV doc pm an cdv ct) ⟨[a],[]⟩=pure [(p,a)]):Binds K fd [p] []:=by
 let⟨oc,od,kV,doc,pm,an,cdv,ct,osl,rfl,lk,j_⟩:=F.ex;show Cr (h kV doc pm an cdv ct)
def xQ{K:Frag}{x:Str}{st:Stmt}{f:Addr}{fd:FuncData}{p q:Str}(F:oK K x x st f fd)(h:∀(kV doc pm:Value) (an:Option Addr) (cdv ct a b:Value),bindArgs (fnOf x x (aY st) (aK st) (aB st) .none kV doc pm an cdv ct) ⟨[a,b],[]⟩=pure [(p,a),(q,b)]):Binds K fd [p,q] []:=by
 let⟨oc,od,kV,doc,pm,an,cdv,ct,osl,rfl,lk,j_⟩:=F.ex;show u5 (h kV doc pm an cdv ct)
def xR{K:Frag}{x:Str}{st:Stmt}{f:Addr}{fd:FuncData}{p q t:Str}(F:oK K x x st f fd)(h:∀(kV doc pm:Value) (an:Option Addr) (cdv ct a b c:Value),bindArgs (fnOf x x (aY st) (aK st) (aB st) .none kV doc pm an cdv ct) ⟨[a,b,c],[]⟩=pure [(p,a),(q,b),(t,c)]):Binds K fd [p,q,t] []:=by
 let⟨oc,od,kV,doc,pm,an,cdv,ct,osl,rfl,lk,j_⟩:=F.ex;show u6 (h kV doc pm an cdv ct)
def xT{K:Frag}{x:Str}{st:Stmt}{f:Addr}{fd:FuncData}{p q t u:Str}(F:oK K x x st f fd)(h:∀(kV doc pm:Value) (an:Option Addr) (cdv ct a b c d:Value),bindArgs (fnOf x x (aY st) (aK st) (aB st) .none kV doc pm an cdv ct) ⟨[a,b,c,d],[]⟩=pure [(p,a),(q,b),(t,c),(u,d)]):Binds K fd [p,q,t,u] []:=by
 let⟨oc,od,kV,doc,pm,an,cdv,ct,osl,rfl,lk,j_⟩:=F.ex;show u9 (h kV doc pm an cdv ct)
def Cz{K:Frag}{x:Str}{st:Stmt}{f:Addr}{fd:FuncData}{p:Str}(F:oK K x x st f fd)(h:∀(kV doc pm:Value) (an:Option Addr) (cdv ct a:Value),bindArgs (fnOf x x (aY st) (aK st) (aB st) .none kV doc pm an cdv ct) ⟨[a],[]⟩=pure [(p,a)]):∀(s:Shared) (u:Value),BindsTo s fd ⟨[u],[]⟩ [(p,u)]:=by
 let⟨oc,od,kV,doc,pm,an,cdv,ct,osl,rfl,lk,j_⟩:=F.ex;show λs u=>.of_eq (h kV doc pm an cdv ct u)
end Mi
namespace Mi
open PySem PySem.Spec PyProof.Rows L2
theorem ZV:∀{is:List Nat} {ds:List α} {J J':List (Option α)},fV is ds J=some J'->∀j,j∉is->J'[j]?=J[j]?
 |[],[],J,J',e,j,_=>by cases e;rfl|[],_::_,J,J',e,j,_=>by cases e|_::_,[],J,J',e,j,_=>by cases e|i::is,d::ds,J,J',e,j,h=>by
  let h1:=ZV (is:=is) (ds:=ds) e j (λz=>h (iJ _ z));rw[h1,lF (λz=>h (by rw[z];show lG))]
def zh4{tg:List Nat}{x:D}{J J':Vs}(e:dz tg x J=some J')(j:Nat)(h:j∉tg):J'[j]?=J[j]?:=by
 unfold dz at e;split at e
 .cases e;rw[lF (λz=>h (by simp[z]))]
 .cases ht:jV x with
  |none=>rw[ht]at e;cases e|some ds=>rw[ht]at e;show ZV e j h
def zhB{many:Nat}{fr:List Nat}{J:Vs}{i:Nat}(h:i<many):(blk many fr J)[i]?=some none:=by
 unfold blk;rw[nH (by simpa using h),tQ,if_pos h]
section
variable {K:W.Frag}{cA:Cl}{U U' jW:Ph}{H H' mY:Hp}{s:S}
def Ext.put{Dd:Addr}{us vs:List V}(x:Ext U H U' (upd H' Dd (.lst us)))(k:Keep U H Dd us):Ext U (upd H Dd (.lst vs)) U' (upd H' Dd (.lst vs)):=by
 let⟨r,er,hr⟩:=x.more;let nD:∀b,H b=none->b≠Dd:=λb e z=>by rw[z,k.at_]at e;cases e
 show⟨⟨r,er,λb hb=>by rw[dj (nD b (hr b hb))];show hr b hb⟩,x.rZ,λa z=>?_,λa o e n=>?_,λa o e=>?_⟩
 .rcases x.lg a z with z|z
  .exact .inl z
  .exact .inr (by rw[dj (nD a z)];show z)
 .by_cases z:a=Dd
  .subst z;rw[jE]at e ⊢;show e
  .rw[dj z]at e ⊢;let:=x.frame a o e n;rw[dj z]at this;show this
 .by_cases z:a=Dd
  .subst z;show⟨_,jE⟩
  .rw[dj z]at e ⊢;let:=x.stay a o e;rw[dj z]at this;show this
def aW.slots{Z Z':L2.St}{J:Vs}{is:List Nat}(h:aW K cA U H Z J)(hl:Z'.length=Z.length)(he:∀j,j∉is->Z'[j]?=Z[j]?)(hn:∀i∈is,∀x,J[i]?≠some (some x)):aW K cA U H Z' J:=by
 show⟨hl.trans h.1,λi x e=>?_⟩;let⟨v,a,b⟩:=h.2 i x e;show⟨v,by rw[he i λz=>hn i z x e];show a,b⟩
end
section
variable {X:Cx}{cA:Cl}{aq:Nat->Nat->Bool}{aj:Bool}{F:Fn}{EX:XS}{elt iter tg iter₂ tg₂:Expr}{A B:E}{pos p:Pos}{ifs:List Expr}{scope:Scope}{N:List Str}{cond:Eo}{fr aP aP₂:List Nat}{many:Nat}{fz:Bool}{w w₂:Wk}
def zkv{K:W.Frag}{g:TG}{U1 U':Ph}{H1 H':Hp}{s':S}{Z3:L2.St}{J':Vs}{Dd:Addr}{acc:List D}{vs:List V}{β:Type}{kk:List D->M β}{P:β->S->Ph->Hp->Prop}{Ee:Nat->List D->S->Ph->Hp->Prop}{c:Src}{n:Nat}{bK:It}
  (hT:fW K cA g aP) (dD:∀i∈aP,i<many) (gF:∀i∈aP,∀x,J'[i]?≠some (some x)) (hD:H1 Dd=none) (x2:Ext U1 H1 U' H') (hL:aW K cA U' H' Z3 J') (aO:aG K cA U' H' s') (kp:Keep U' H' Dd vs) (pC:aD K cA U' H' acc vs) (hJ:ju K cA c U' H' bK)
  (h:Run K cA (M.bd (walk c (bO aq aj F B cond aP J') (n+1) 0 acc) kk) U1 H1 s' P Ee) {Nn:L2.St->Hp->Prop}
  (hN:∀Z4 H4 U4 s4 Ka ZW,Z4.length=Z3.length->(∀i,i∉aP->Z4[i]?=Z3[i]?)->Ext U1 H1 U4 H4->Ext U' H' U4 (upd H4 Dd (.lst vs))->aG K cA U4 H4 s4->Keep U4 H4 Dd ZW->aD K cA U4 H4 Ka ZW->Run K cA (kk Ka) U1 H1 s4 P Ee->Nn Z4 H4) :
  RX g (qP K cA (λ_ _ _ _=>False) (nu aq aj F cond)) (tE K cA (λ_ _ _ _=>False) (ev aq aj F B)) Dd bK Z3 H' Nn:=by
 show⟨λi m Kc mY=>m=n+1-i/\(Kc.length=Z3.length/\∀j,j∉aP->Kc[j]?=Z3[j]?)/\∃jW s'' gM vs'',Ext U1 H1 jW mY/\Ext U' H' jW (upd mY Dd (.lst vs))/\aG K cA jW mY s''/\Keep jW mY Dd vs''/\aD K cA jW mY gM vs'' /\
  Run K cA (M.bd (walk c (bO aq aj F B cond aP J') (n+1-i) i gM) kk) U1 H1 s'' P Ee,⟨n+1,rfl,⟨rfl,λ_ _=>rfl⟩,U',s',acc,vs,x2,by rw[Gb kp.at_];show Ext.refl,aO,kp,pC,h⟩,?_⟩
 rintro i m Kc mY ⟨rfl,hZ,jW,s'',gM,vs'',x3,xb,gA,k3,r3,h3⟩;let ox:cH jW (upd mY Dd (.lst vs)) mY:=λa o e nz=>by
  rw[dj (λz=>nz (by rw[z];show k3.z))]at e;show e
 let oH:aW K cA jW mY Kc J':=((hL.mono xb aO.lz).out ox).slots hZ.1 hZ.2 gF;cases ek:n+1-i with
 |zero=>rw[ek]at h3;show h3.elim|succ k=>
  rw[ek]at h3;cases ei:c.at i s'' with
  |none=>
   exfalso
   unfold Run M.bd walk at h3;simp only[ei]at h3
  |some oi=>
   cases oi with
   |none=>
    show .inl ⟨hJ.stop jW _ mY s'' i xb ox gA ei,?_⟩;let h4:Run K cA (kk gM) U1 H1 s'' P Ee:=by
     unfold Run M.bd walk at h3;simp only[ei]at h3;show h3
    show hN Kc mY jW s'' gM vs'' hZ.1 hZ.2 x3 xb gA k3 r3 h4
   |some xi=>
    show .inr ⟨hJ.go jW _ mY s'' i xi xb ox gA ei,λZ2 H2=>(Z2.length=Z3.length/\∀j,j∉aP->Z2[j]?=Z3[j]?)/\∃jW s'' gM vs'',Ext U1 H1 jW H2/\Ext U' H' jW (upd H2 Dd (.lst vs))/\aG K cA jW H2 s''/\Keep jW H2 Dd vs''/\aD K cA jW H2 gM vs'' /\
     Run K cA (M.bd (walk c (bO aq aj F B cond aP J') k (i+1) gM) kk) U1 H1 s'' P Ee,λZ2 H2 hn=>⟨k,by omega,by omega,hn.1,?_⟩,λv H2 hy=>?_⟩
    .let:n+1-(i+1)=k:=by omega
     rw[this];show hn.2
    .obtain⟨gr,rx⟩:=hJ.ur jW _ mY s'' i xi v H2 xb ox gA ei hy;let h4:Run K cA (M.bd (bO aq aj F B cond aP J' xi gM) λacc'=>M.bd (walk c (bO aq aj F B cond aP J') k (i+1) acc') kk) U1 H1 s'' P Ee:=by
      let h5:=Td (m':=M.bd (bO aq aj F B cond aP J' xi gM) λacc'=>walk c (bO aq aj F B cond aP J') k (i+1) acc') (by rw[walk];simp only[ei]) h3;rw[gK]at h5;show h5
     let kg:=k3.mono gr.ext;let xg:Ext U' H' jW (upd H2 Dd (.lst vs)):=xb.trans (Ext.put (us:=vs'') (vs:=vs) (by rw[Gb kg.at_];show gr.ext) k3);show sJ hT (x3.trans gr.ext) hD (oH.mono gr.ext gA.lz) (gA.grow gr) kg (r3.mono gr.ext gA.lz) rx h4 λZ3' H3 U3 s3 mZ xJ l3 f3 x3' xe T9 k3' r3' h6=>⟨⟨l3.trans hZ.1,λj hj=>(f3 j hj).trans (hZ.2 j hj)⟩,U3,s3,mZ,xJ,x3',xg.trans (Ext.put (us:=vs'') (vs:=vs) xe kg),T9,k3',r3',h6⟩
where
 sJ {K:W.Frag} {g:TG} {U1 U':Ph} {H1 H2:Hp} {s':S} {Z':L2.St} {Jb:Vs} {Dd:Addr} {acc:List D} {vs:List V} {xi:D} {v:V} {β:Type} {kk:List D->M β} {P:β->S->Ph->Hp->Prop} {Ee:Nat->List D->S->Ph->Hp->Prop} (hT:fW K cA g aP)
  (x2:Ext U1 H1 U' H2) (hD:H1 Dd=none) (hL2:aW K cA U' H2 Z' Jb) (aO:aG K cA U' H2 s') (kp:Keep U' H2 Dd vs) (pC:aD K cA U' H2 acc vs) (rx:Rep K cA U' H2 xi v)
  (h:Run K cA (M.bd (bO aq aj F B cond aP Jb xi acc) kk) U1 H1 s' P Ee) {Nn:L2.St->Hp->Prop}
  (hN:∀Z3 H3 U3 s3 mZ xJ,Z3.length=Z'.length->(∀i,i∉aP->Z3[i]?=Z'[i]?)->Ext U1 H1 U3 H3->Ext U' H2 U3 (upd H3 Dd (.lst vs))->aG K cA U3 H3 s3->Keep U3 H3 Dd xJ->aD K cA U3 H3 mZ xJ->Run K cA (kk mZ) U1 H1 s3 P Ee->Nn Z3 H3) :
  g v Z' H2 λZ3 H3=>qP K cA (λ_ _ _ _=>False) (nu aq aj F cond) Z3 H3 λok H4=>
   if ok=true then tE K cA (λ_ _ _ _=>False) (ev aq aj F B) Z3 H4 λy H5=>∃ys,H5 Dd=some (.lst ys)/\ys.length<sizeLine/\Nn Z3 (upd H5 Dd (.lst (ys++[y]))) else Nn Z3 H4:=by
  unfold bO at h;rw[gK]at h;let⟨J',e1,h1⟩:=Fx h;show hT.run U' H2 s' Z' Jb J' xi v _ hL2 aO rx e1 λZ3 oH Cj Gd=>?_;rw[gK]at h1;show⟨U',J',s',oH,aO,(J6 x2 h1).imp λok s4 U4 H4 ⟨x4,qQ,h6⟩=>?_⟩;cases ok with
  |false=>
   show iF (hN Z3 H4 U4 s4 acc vs Cj Gd (x2.trans x4) (by rw[Gb (kp.mono x4).at_];show x4) qQ (kp.mono x4) (pC.mono x4 aO.lz) ?_);rw[if_neg J0]at h6;show h6
  |true=>
   rw[if_pos rfl,gK]at h6;show iT ⟨U4,J',s4,oH.mono x4 aO.lz,qQ,(J6 (x2.trans x4) h6).imp λy s5 U5 H5 ⟨x5,J7,h7⟩ u ru=>?_⟩;rw[gK]at h7;let k5:=(kp.mono x4).mono x5;let r5:=(pC.mono x4 aO.lz).mono x5 qQ.lz;let Tf:=(x2.trans x4).trans x5;obtain⟨dd,ey,rd,h8⟩ : ∃d,y=.d d/\Rep K cA U5 H5 d u/\Run K cA (M.bd (if acc.length<sizeLine then M.ret (acc++[d]) else M.no) kk) U1 H1 s5 P Ee:=by
    cases ru with
    |l _=>show h7.elim|d r=>show⟨_,rfl,r,h7⟩
   by_cases hz:acc.length<sizeLine
   .rw[if_pos hz]at h8;show⟨vs,k5.at_,by rw[<-r5.len];show hz,?_⟩;let ox:cH U5 H5 (upd H5 Dd (.lst (vs++[u]))):=k5.ext.1;show hN Z3 _ U5 s5 (acc++[dd]) (vs++[u]) Cj Gd (Ext.keep (vs:=vs) Tf hD) (by rw[W8,Gb k5.at_];show x4.trans x5) (J7.keep k5) k5.ext.2 ((r5.app (.cons rd .nil)).out ox) h8
   .rw[if_neg hz]at h8;show h8.elim
noncomputable abbrev gO(aq:Nat->Nat->Bool)(aj:Bool)(F:Fn)(B:E)(cond:Eo)(aP aP₂:List Nat)(w₂:Wk)(Jb:Vs):D->List D->M (List D):=λd acc=>M.bd (M.opt (dz aP d Jb)) λJ'=>M.bd (M.qt (g8 aq aj F w₂ J')) λp8=>
    walk p8.1 (bO aq aj F B cond aP₂ J') (p8.2+1) 0 acc
theorem zfL{g₁ g:TG}(hT:fW X.K cA g₁ aP)(dD:∀i∈aP,i<many)(hT₂:fW X.K cA g aP₂)(dD₂:∀i∈aP₂,i<many)(CG:∀i∈aP₂,i∉aP){Z:L2.St}{H:Hp}{Q:VK}(hh:tE X.K cA EX (ev aq aj F (.lQ fz B aP w aP₂ w₂ fr many cond)) Z H Q) :
  uK (tI X.K cA EX (g8 aq aj F w)) (bJ many fr) g₁ (tI X.K cA (λ_ _ _ _=>False) (g8 aq aj F w₂)) g (qP X.K cA (λ_ _ _ _=>False) (nu aq aj F cond)) (tE X.K cA (λ_ _ _ _=>False) (ev aq aj F B)) Z H Q:=un hh λU J s hL hS h=>by
 by_cases dB:aj=true
 .let h:Run X.K cA (if aj=true then M.bd (g8 aq aj F w J) λcn=>M.bd (walk cn.1 (gO aq aj F B cond aP aP₂ w₂ (blk many fr J)) (cn.2+1) 0 []) λxs=>newL fz xs else M.no) U H s (λd _ U' H'=>∀v,aR X.K cA U' H' d v->Q v H') (eX X.K cA EX Z):=h;rw[if_pos dB]at h;show⟨U,J,s,hL,hS,h.bd.imp λcn s1 U1 H1 ⟨x1,aH,h1⟩ bK hJ=>?_⟩;let hL1:=hL.mono x1 hS.lz;let⟨c,n⟩:=cn;dsimp only at h1 hJ;intro Dd hD;let⟨x0,Ti,k0⟩:=Zc aH hD;let Cm:∀{Z':L2.St},(Z'.length=many+fr.length/\∀i,many<=i->Z'[i]?=(bJ many fr Z)[i]?)->∀{U' H'},Ext U1 H1 U' H'->aW X.K cA U' H' Z' (blk many fr J):=λ{Z'} hZ {U' H'} x=>Za (hL1.mono x aH.lz) hZ.1 λi j v e1 e2=>by
   rw[hZ.2 _ (by omega)];unfold bJ;rw[nG R3,Ad,dH,show many+i-many=i by omega,e1];simp[e2]
  show⟨λi m Z' H'=>m=n+1-i/\(Z'.length=many+fr.length/\∀i,many<=i->Z'[i]?=(bJ many fr Z)[i]?)/\∃U' s' acc vs,Ext U1 H1 U' H'/\aG X.K cA U' H' s'/\Keep U' H' Dd vs/\aD X.K cA U' H' acc vs /\
   Run X.K cA (M.bd (walk c (gO aq aj F B cond aP aP₂ w₂ (blk many fr J)) (n+1-i) i acc) λxs=>newL fz xs) U1 H1 s' (λd _ U' H'=>∀v,aR X.K cA U' H' d v->Q v H') (eX X.K cA EX Z),⟨n+1,rfl,⟨by simp[bJ],λi _=>rfl⟩,U1.mark Dd,s1,[],[],x0,Ti,k0,.nil,h1⟩,?_⟩
  rintro i m Z' H' ⟨rfl,hZ,U',s',acc,vs,x2,aO,kp,pC,h3⟩;let hL2:=Cm hZ x2;cases ek:n+1-i with
  |zero=>rw[ek]at h3;show h3.elim|succ k=>
   rw[ek]at h3;cases ei:c.at i s' with
   |none=>
    exfalso
    unfold Run M.bd walk at h3;simp only[ei]at h3
   |some oi=>
    cases oi with
    |none=>
     show .inl ⟨hJ.stop U' H' H' s' i x2 cH.refl aO ei,?_⟩;let h4:Run X.K cA (newL fz acc) U1 H1 s' (λd _ U' H'=>∀v,aR X.K cA U' H' d v->Q v H') (eX X.K cA EX Z):=by
      unfold Run M.bd walk at h3;simp only[ei]at h3;show h3
     show Zb h4 x2 hD (aH.nz hD) aO kp pC
    |some xi=>
     show .inr ⟨hJ.go U' H' H' s' i xi x2 cH.refl aO ei,λZ2 H2=>(Z2.length=many+fr.length/\∀i,many<=i->Z2[i]?=(bJ many fr Z)[i]?)/\∃U' s' acc vs,Ext U1 H1 U' H2/\aG X.K cA U' H2 s'/\Keep U' H2 Dd vs/\aD X.K cA U' H2 acc vs /\
      Run X.K cA (M.bd (walk c (gO aq aj F B cond aP aP₂ w₂ (blk many fr J)) k (i+1) acc) λxs=>newL fz xs) U1 H1 s' (λd _ U' H'=>∀v,aR X.K cA U' H' d v->Q v H') (eX X.K cA EX Z),λZ2 H2 hn=>⟨k,by omega,by omega,hn.1,?_⟩,λv H2 hy=>?_⟩
     .let:n+1-(i+1)=k:=by omega
      rw[this];show hn.2
     .obtain⟨gr,rx⟩:=hJ.ur U' H' H' s' i xi v H2 x2 cH.refl aO ei hy;let h4:Run X.K cA (M.bd (M.opt (dz aP xi (blk many fr J))) λJ'=>M.bd (M.qt (g8 aq aj F w₂ J')) λp8=>M.bd (walk p8.1 (bO aq aj F B cond aP₂ J') (p8.2+1) 0 acc) λacc'=>M.bd (walk c (gO aq aj F B cond aP aP₂ w₂ (blk many fr J)) k (i+1) acc') λxs=>newL fz xs) U1 H1 s' (λd _ U' H'=>∀v,aR X.K cA U' H' d v->Q v H') (eX X.K cA EX Z):=by
       let h5:=Td (m':=M.bd (gO aq aj F B cond aP aP₂ w₂ (blk many fr J) xi acc) λacc'=>walk c (gO aq aj F B cond aP aP₂ w₂ (blk many fr J)) k (i+1) acc') (by rw[walk];simp only[ei]) h3;rw[gK]at h5;unfold gO at h5;rw[gK]at h5;let e:(λJ'=>M.bd (M.bd (M.qt (g8 aq aj F w₂ J')) λp8=>walk p8.1 (bO aq aj F B cond aP₂ J') (p8.2+1) 0 acc) λacc'=>M.bd (walk c (gO aq aj F B cond aP aP₂ w₂ (blk many fr J)) k (i+1) acc') λxs=>newL fz xs)=λJ'=>M.bd (M.qt (g8 aq aj F w₂ J')) λp8=>M.bd (walk p8.1 (bO aq aj F B cond aP₂ J') (p8.2+1) 0 acc) λacc'=>M.bd (walk c (gO aq aj F B cond aP aP₂ w₂ (blk many fr J)) k (i+1) acc') λxs=>newL fz xs:=funext λJ'=>gK _ _ _;rw[<-e];show h5
      let⟨J',e1,h6⟩:=Fx h4;let gA:=aO.grow gr;show hT.run U' H2 s' Z' _ J' xi v _ (hL2.mono gr.ext aO.lz) gA rx e1 λZ3 oH Cj Gd=>?_;let kg:=kp.mono gr.ext;let rg:=pC.mono gr.ext aO.lz;let xg:=x2.trans gr.ext;show⟨U',J',s',oH,gA,(J6 xg h6).imp λp8 s4 U4 H4 ⟨x4,qQ,h7⟩ bK₂ hJ₂=>?_⟩;show zkv (many:=many) hT₂ dD₂ (λi hi x z=>?_) hD (xg.trans x4) (oH.mono x4 gA.lz) qQ (kg.mono x4) (rg.mono x4 gA.lz) hJ₂ h7 λZ4 H5 U5 s5 T_ vs5 l5 f5 x5 _ J7 k5 r5 h8=>⟨⟨l5.trans (Cj.trans hZ.1),λi hi=>?_⟩,U5,s5,T_,vs5,x5,J7,k5,r5,h8⟩
      .rw[zh4 e1 i (CG i hi),zhB (dD₂ i hi)]at z;cases z
      .rw[f5 i λz=>absurd (dD₂ i z) (Eu.mpr hi),Gd i λz=>absurd (dD i z) (Eu.mpr hi)];show hZ.2 i hi
 .let h:Run X.K cA (if aj=true then M.bd (g8 aq aj F w J) λcn=>M.bd (walk cn.1 (gO aq aj F B cond aP aP₂ w₂ (blk many fr J)) (cn.2+1) 0 []) λxs=>newL fz xs else M.no) U H s (λd _ U' H'=>∀v,aR X.K cA U' H' d v->Q v H') (eX X.K cA EX Z):=h;rw[if_neg dB]at h;show h.elim
end
section
variable {X:Cx}{cA:Cl}{aq:Nat->Nat->Bool}{aj:Bool}{F:Bool->Fn}{EX:XS}{elt iter tg iter₂ tg₂:Expr}{A B:E}{pos p:Pos}{ifs:List Expr}{scope:Scope}{N:List Str}{cond:Eo}{fr aP aP₂:List Nat}{many:Nat}{fz:Bool}{w w₂:Wk}{i:Nat}{y:Str}
theorem zhz(hc:X.aj=true)(qT:X.N.Nodup)(uI:X.N[i]?=some y)(hx:Loc X.env.scope y)(hf:X.fn y=true\/X.env.scope.names.lookup y=some .local)(B':cL X.env.scope scope)(hi:SI X cA aq aj (F aj) EX tg iter w)(hN:N.length=many+fr.length)
  (Cp:∀(i:Nat) (y:Str) (j:Nat),N[many+i]?=some y->fr[i]?=some j->scope.names.lookup y=some .free/\X.N[j]?=some y)
  (hg₁:∀cl C s3 H3 fp ao,PG (X.blk scope cl N C s3 H3 fp ao) tg g₁) (hT:fW X.K cA g₁ aP) (dD:∀i∈aP,i<many) (hi₂:∀cl C s3 H3 fp ao,SI (X.blk scope cl N C s3 H3 fp ao) cA aq aj (F aj) (λ_ _ _ _=>False) tg₂ iter₂ w₂)
  (hg:∀cl C s3 H3 fp ao,PG (X.blk scope cl N C s3 H3 fp ao) tg₂ g) (hT₂:fW X.K cA g aP₂) (dD₂:∀i∈aP₂,i<many) (CG:∀i∈aP₂,i∉aP)
  (ht:∀cl C s3 H3 fp ao,Ga (X.blk scope cl N C s3 H3 fp ao) cA aq aj (F aj) (λ_ _ _ _=>False) ifs cond) (he:∀cl C s3 H3 fp ao,SE (X.blk scope cl N C s3 H3 fp ao) cA aq aj (F aj) (λ_ _ _ _=>False) elt B)
  (uJ:swapsWith (.ListComp elt [⟨tg,iter,[],0⟩,⟨tg₂,iter₂,ifs,0⟩] scope pos) (some (.Name y py)) spos.line X.env=pure true)
  (hs₂:∀env x,foldedSetIterable iter₂ env x=pure x) (hs:∀x,foldedSetIterable iter X.env x=pure x:=by intro _;rfl) :
  SS X cA aq aj F EX (.Assign [.Name y py] (.ListComp elt [⟨tg,iter,[],0⟩,⟨tg₂,iter₂,ifs,0⟩] scope pos) spos) (.asg (.nm i) (.lQ fz B aP w aP₂ w₂ fr many cond)):=
 PS.weak (zdY hc qT uI hx hf B' hi (⟨hg₁,hi₂,hg,ht,he⟩ : pU X elt tg tg₂ iter₂ ifs scope N g₁ (tI X.K cA (λ_ _ _ _=>False) (g8 aq aj (F aj) w₂)) g (qP X.K cA (λ_ _ _ _=>False) (nu aq aj (F aj) cond)) (tE X.K cA (λ_ _ _ _=>False) (ev aq aj (F aj) B))) hs₂ (ZY:=bJ many fr) (λZ=>by simp[bJ,hN]) (λZ i x v e1 e2=>Tj Cp Z i x v e1 e2) uJ hs) λD Z H hh=>un hh λU J s hL hS h=>
  zfL hT dD hT₂ dD₂ CG ⟨U,J,s,hL,hS,(aU.ofM hL hS.lz h).imp λd s1 U1 H1 ⟨x1,aH,h1⟩ v rv=>h1 U1 H1 _ Ext.refl aH ((hL.mono x1 hS.lz).set rv)⟩
def CJ(aP aP₂:List Nat)(m:Nat):Bool:=aP.all (λi=>decide (i<m))&&aP₂.all (λi=>decide (i<m) && !aP.contains i)
def Ua(h:CJ aP aP₂ m=true):(∀i∈aP,i<m)/\(∀i∈aP₂,i<m)/\∀i∈aP₂,i∉aP:=by
 unfold CJ at h;simp only[fH,cT,tV,Bool.not_eq_true']at h;show⟨h.1,λi hi=>(h.2 i hi).1,λi hi z=>by let:=(h.2 i hi).2;rw[List.contains_iff_mem.mpr z]at this;cases this⟩
def vg:Expr->Bool
 |.Call _ _ _ _=>true|.Name _ _=>true|.BinOp _ _ _ _=>true|.Subscript _ _ _=>true|.Attribute _ _ _=>true|_=>false
def zjJ(h:vg e=true):∀env x,foldedSetIterable e env x=pure x:=by cases e<;>first|(intro _ _;rfl)|cases h
theorem zk2(i:Nat)(sc:Scope)(XN M0 N:List Str)(fr:List Nat)(hN:X.N.Nodup)(uI:X.N[i]?=some y)(hx:JK X y k)(hl:m5 k=true)(hc:X.aj=true)(J8:X.env.scope=sc)(qT:X.N=XN)(hB:oM sc scope=true)(hf:frB scope XN N fr=true)(hT:fW X.K cA g₁ aP)(hT₂:fW X.K cA g aP₂)(dD:CJ aP aP₂ M0.length=true)
  (hi:JI X cA aq aj (F aj) EX tg iter w) (hg₁:∀cl C s3 H3 fp ao,JY (X.blk scope cl (M0++N) C s3 H3 fp ao) tg g₁) (hi₂:∀cl C s3 H3 fp ao,JI (X.blk scope cl (M0++N) C s3 H3 fp ao) cA aq aj (F aj) (λ_ _ _ _=>False) tg₂ iter₂ w₂) (hg:∀cl C s3 H3 fp ao,JY (X.blk scope cl (M0++N) C s3 H3 fp ao) tg₂ g)
  (ht:∀cl C s3 H3 fp ao,JC (X.blk scope cl (M0++N) C s3 H3 fp ao) cA aq aj (F aj) (λ_ _ _ _=>False) ifs cond) (he:∀cl C s3 H3 fp ao,JE (X.blk scope cl (M0++N) C s3 H3 fp ao) cA aq aj (F aj) (λ_ _ _ _=>False) elt B)
  (hp2:vg iter₂=true:=by rfl) (uJ:swapsWith (.ListComp elt [⟨tg,iter,[],0⟩,⟨tg₂,iter₂,ifs,0⟩] scope pos) (some (.Name y py)) spos.line X.env=pure true:=by rfl) (TX:X.fn y=true\/k=.local:=by first|exact .inl rfl|exact .inr rfl) (hs:∀x,foldedSetIterable iter X.env x=pure x:=by intro _;rfl) :
  JS X cA aq aj F EX (.Assign [.Name y py] (.ListComp elt [⟨tg,iter,[],0⟩,⟨tg₂,iter₂,ifs,0⟩] scope pos) spos) (.asg (.nm i) (.lQ fz B aP w aP₂ w₂ fr M0.length cond)):=
 ⟨zhz hc hN uI (zJ hx hl) (zK hx TX) (cL.of (J8▸hB)) hi.o (zF (qT▸hf)).1 (zF (qT▸hf)).2 (λa b c d e f=>(hg₁ a b c d e f).o) hT (Ua dD).1 (λa b c d e f=>(hi₂ a b c d e f).o) (λa b c d e f=>(hg a b c d e f).o) hT₂ (Ua dD).2.1 (Ua dD).2.2 (λa b c d e f=>(ht a b c d e f).o) (λa b c d e f=>(he a b c d e f).o) uJ (zjJ hp2) hs⟩
end
section
variable {K:W.Frag}{cA:Cl}{U:Ph}{H:Hp}
theorem aD.Ke(r:aD K cA U H xs ys):∀l:List Nat,aD K cA U H (l.map λi=>xs.getD i .non) (l.map λi=>ys.getD i .non)
 |[]=>.nil|i::l=>by
  show .cons ?_ (aD.Ke r l);change Rep K cA U H (xs.getD i .non) (ys.getD i .non);cases e:xs[i]? with
  |some x=>
   let⟨u,e1,e2⟩:=r.get e;rw[jL,jL,e,e1];show e2
  |none=>
   let e1:ys[i]?=Option.none:=r.none e;rw[jL,jL,e,e1];show .non
def aD.mem(r:aD K cA U H xs ys):∀v∈ys,∃d∈xs,Rep K cA U H d v:=by
 intro v hv;let⟨i,hi,e⟩:=pH hv;let e':ys[i]?=some v:=by rw[cB hi,e]
 cases ex:xs[i]? with
 |none=>rw[r.none ex]at e';cases e'|some d=>
  let⟨u,e1,e2⟩:=r.get ex;rw[e1]at e';cases e';show⟨d,dG ex,e2⟩
theorem ZX:∀{us ws:List D} {xs ys:List V},aD K cA U H us xs->aD K cA U H ws ys->∀{b:Bool},rW us ws=some b->kY xs ys=some b
 |[],ws,_,ys,r1,r2,b,h=>by
  cases r1;unfold rW at h;unfold kY;rw[<-r2.len];show h
 |_::_,[],_,_,r1,r2,b,h=>by
  cases r2;cases r1;unfold rW at h;unfold kY;show h
 |x::us,y::ws,_,_,r1,r2,b,h=>by
  cases r1 with
  |cons a1 b1=>
   cases r2 with
   |cons a2 b2=>
    unfold rW at h;split at h
    .rename_i z;cases z
    .rename_i z;cases z
    .rename_i p ps q qs e1 e2;cases e1;cases e2;cases a1;cases a2;unfold kY;by_cases e:p=q
     .rw[if_pos e]at h ⊢;show ZX b1 b2 h
     .rw[if_neg e]at h ⊢;show h
    .cases h
def zhR(r:aD K cA U H xs ys)(h:(xs.all mV||xs.all i_)=true):uM K H ys (yZ xs):=by
 rw[Bool.or_eq_true]at h;rcases h with h|h
 .left
  rw[cT]at h;show⟨λv hv=>?_,λi j b e=>?_⟩
  .obtain⟨d,hd,q⟩:=r.mem v hv;let:=h d hd;cases q<;>first|exact⟨_,rfl⟩|cases this
  .unfold yZ at e;cases e1:xs[i]? with
   |none=>rw[e1]at e;cases e|some d1=>
    cases e2:xs[j]? with
    |none=>rw[e1,e2]at e;cases d1<;>cases e|some d2=>
     let h1:=h d1 (dG e1);let h2:=h d2 (dG e2);rw[e1,e2]at e;let⟨v1,a1,b1⟩:=r.get e1;let⟨v2,a2,b2⟩:=r.get e2;cases d1<;>first|cases h1|skip
     cases d2<;>first|cases h2|skip
     cases b1;cases b2;cases e;show⟨_,_,a1,a2,rfl⟩
 .right
  rw[cT]at h;show⟨λv hv=>?_,λi j b e=>?_⟩
  .obtain⟨d,hd,q⟩:=r.mem v hv;let:=h d hd;unfold i_ at this;split at this
   .cases q with
    |tup t r'=>
     cases r' with
     |cons a1 b1=>
      cases a1;show⟨_,_,_,rfl,t.iC⟩
   .cases this
  .unfold yZ at e;cases e1:xs[i]? with
   |none=>rw[e1]at e;cases e|some d1=>
    cases e2:xs[j]? with
    |none=>rw[e1,e2]at e;cases d1<;>cases e|some d2=>
     let h1:=h d1 (dG e1);let h2:=h d2 (dG e2);rw[e1,e2]at e;let⟨v1,a1,b1⟩:=r.get e1;let⟨v2,a2,b2⟩:=r.get e2;unfold i_ at h1 h2;split at h1
     .split at h2
      .cases b1 with
       |tup t1 r1=>
        cases b2 with
        |tup t2 r2=>show⟨_,_,_,_,a1,a2,t1.iC,t2.iC,ZX r1 r2 e⟩
      .cases h2
     .cases h1
def zho:bD K cA .sorted (λxs H Q=>∃l ys lt p,xs=[.ref l]/\c7 K H l ys/\ys.length<64/\(2<=ys.length->uM K H ys lt/\bV lt (PySem.W.kas_sort ys.length)=some p/\p.size=ys.length)/\∀r,H r=none->Q (.ref r) (upd H r (.lst (kZ ys p)))):=by
 intro U H ds vs Q zt rs o;let o:bC K cA U H (mW ds) Q:=o;unfold mW at o;split at o
 .rename_i xs _;let⟨v,rfl,r1⟩:=rs.one;let⟨z,e⟩:=o.some';let⟨zs,e1,e2⟩:=iI.mp e;subst e2;obtain⟨a,us,rfl,sq,q⟩ : ∃a us,v=.ref a/\c7 K H a us/\aD K cA U H xs us:=r1;let hl:=q.len;unfold BX at e1;by_cases hk:(xs.all mV||xs.all i_)=true
  .rw[if_pos hk]at e1;unfold qM at e1;by_cases h2:xs.length<2
   .rw[if_pos h2]at e1;cases e1;show⟨a,us,λ_ _=>none,#[],rfl,sq,by lia,λz=>absurd z gV,λr hr=>?_⟩;let:kZ us #[]=us:=by unfold kZ;rw[if_pos gV]
    rw[this];show(o.of e) r us hr q
   .rw[if_neg h2]at e1;by_cases uL:xs.length<64
    .rw[if_pos uL]at e1;cases ek:bV (yZ xs) (PySem.W.kas_sort xs.length) with
     |none=>rw[ek]at e1;cases e1|some p=>
      rw[ek]at e1;dsimp only at e1;by_cases hp:p.size=xs.length
      .rw[if_pos hp]at e1;cases e1;show⟨a,us,yZ xs,p,rfl,sq,by lia,λ_=>⟨zhR q hk,by rw[<-hl];show ek,by lia⟩,λr hr=>?_⟩;let:kZ us p=p.toList.map λi=>us.getD i .non:=by unfold kZ;rw[if_neg gV]
       rw[this];show(o.of e) r _ hr (q.Ke p.toList)
      .rw[if_neg hp]at e1;cases e1
    .rw[if_neg uL]at e1;cases e1
  .rw[if_neg hk]at e1;cases e1
 .exact o.elim
end
section
variable {X:Cx}{cA:Cl}{aq:Nat->Nat->Bool}{aj:Bool}{F:Fn}{EX:XS}{e:Expr}{pos p:Pos}{es:List Expr}{Xs:Es}{fz:Bool}
def zd1:bootBuiltins "sorted"=some (.builtin "sorted"):=by decide +kernel
theorem zii(hm:X.mg "sorted"=none)(hg:JK X "sorted" .globalImplicit)(ha:JA X cA aq aj F EX (e::es) Xs)(he:aF e=true:=by rfl)(cF:es.all aF=true:=by rfl):JE X cA aq aj F EX (.Call (.Name "sorted" p) (e::es) [] pos) (.pr fz .sorted Xs):=⟨zm zek zho hg.o hm zd1 ha.o J0 J0 (bx he) (bG cF)⟩
end
section
variable {K:W.Frag}{cA:Cl}{U:Ph}{H:Hp}
theorem Ny:∀{xs:List D} {k i:Nat},(enumFrom k xs)[i]?=(xs[i]?).map λd=>.tup [.int ((k+i:Nat):Int),d]
 |[],k,i=>by simp[enumFrom]|x::r,k,0=>by simp[enumFrom]|x::r,k,i+1=>by
  unfold enumFrom;rw[Ac,Ac,Ny]
  congr 1
  funext d
  rw[show k+1+i=k+(i+1) by lia]
def sO(K:W.Frag)(U:Ph)(H:Hp):Bool->Addr->List V->Prop
 |true,a,vs=>LstAt K U H a vs|false,a,vs=>TupAt K U H a vs
def sO.sk{kd:Bool}{a:Addr}{vs:List V}(h:sO K U H kd a vs):Sk kd K H a vs:=by
 cases kd
 .exact TupAt.iC h
 .exact LstAt.sY h
def sO.later{U':Ph}{H₁ H':Hp}{kd:Bool}{a:Addr}{vs:List V}(hz:∀a∈U.l,U.z a)(h:sO K U H kd a vs)(x:Ext U H U' H₁)(o:cH U' H₁ H'):sO K U' H' kd a vs:=by
 cases kd
 .exact TupAt.later hz h x o
 .exact LstAt.later hz h x o
def ju.enum{kd:Bool}{l:Addr}{xs:List D}{vs:List V}(hz:∀a∈U.l,U.z a)(h:sO K U H kd l vs)(r:aD K cA U H xs vs):ju K cA (.fix (enumFrom 0 xs)) U H (Ite K kd l):=by
 show⟨λU' H₁ H' s' i x o hS e=>⟨vs,(h.later hz x o).sk,?_⟩,λU' H₁ H' s' i d x o hS e=>?_,λU' H₁ H' s' i d v H2 x o hS e y=>?_⟩
 .let e:(enumFrom 0 xs)[i]?=none:=cP e;rw[Ny,Option.map_eq_none_iff]at e;show qm.mp ((r.mono x hz).none e)
 .let e:(enumFrom 0 xs)[i]?=some d:=cP e;rw[Ny]at e;let⟨d',e',_⟩:=iI.mp e;let⟨v,q,_⟩:=r.get e';show⟨vs,v,(h.later hz x o).sk,q⟩
 .let e:(enumFrom 0 xs)[i]?=some d:=cP e;rw[Ny]at e;let⟨d',e',rfl⟩:=iI.mp e;let⟨a,u,hn,rfl,rfl,hu⟩:=y;let⟨w,q,kJ⟩:=((r.mono x hz).out o).get e';let:=hu vs (h.later hz x o).sk;rw[q]at this;cases this;let g:bB H' (upd H' a (.tup [.int i,u])):=bB.new hn;show⟨g,?_⟩;rw[show ((0+i:Nat):Int)=(i:Int) by simp];show .tup (.inl ⟨.inl jE,hS.nz hn⟩) (.cons (.int _) (.cons (kJ.mono g.ext hS.lz) .nil))
def Ub(h:(Src.lU n).at i s=some o):∃xs,s[n]?=some (.lst xs)/\(xs[i]?.map λx=>D.tup [.int i,x])=o:=by
 unfold Src.at at h;dsimp only at h;cases e:s[n]? with
 |none=>rw[e]at h;cases h|some ob=>
  rw[e]at h;cases ob with
  |lst xs=>show⟨xs,rfl,cP h⟩|_=>cases h
def ju.lU{a:Addr}{n:Nat}(h:U.l[n]?=some a):ju K cA (.lU n) U H (Ite K true a):=by
 show⟨λU' H₁ H' s' i x o hS e=>?_,λU' H₁ H' s' i d x o hS e=>?_,λU' H₁ H' s' i d v H2 x o hS e y=>?_⟩
 .obtain⟨xs,e1,e2⟩:=Ub e;rw[Option.map_eq_none_iff]at e2;let⟨vs,q1,q2⟩:=hS.obj n _ a e1 (x.get h);show⟨vs,c7.of q1,qm.mp (q2.none e2)⟩
 .obtain⟨xs,e1,e2⟩:=Ub e;let⟨d',e',_⟩:=iI.mp e2;let⟨vs,q1,q2⟩:=hS.obj n _ a e1 (x.get h);let⟨v,q3,_⟩:=q2.get e';show⟨vs,v,c7.of q1,q3⟩
 .obtain⟨xs,e1,e2⟩:=Ub e;let⟨d',e',rfl⟩:=iI.mp e2;let⟨vs,q1,q2⟩:=hS.obj n _ a e1 (x.get h);let⟨w,q3,kJ⟩:=q2.get e';let⟨b,u,hn,rfl,rfl,hu⟩:=y;let:=hu vs (c7.of q1);rw[q3]at this;cases this;let g:bB H' (upd H' b (.tup [.int i,w])):=bB.new hn;show⟨g,.tup (.inl ⟨.inl jE,hS.nz hn⟩) (.cons (.int _) (.cons (kJ.mono g.ext hS.lz) .nil))⟩
end
section
variable {X:Cx}{cA:Cl}{aq:Nat->Nat->Bool}{aj:Bool}{F:Fn}{EX:XS}{a b:Expr}{A B:E}{pos pp tpos:Pos}{elts:List Expr}{kk:Nat}
theorem zjQ(jJ:Gl X "enumerate")(hmg:X.mg "enumerate"=none)(hb:SE X cA aq aj F EX b B)(h2:starEach [b] X.env=(false,eval b X.env)::starEach [] X.env) :
  SI X cA aq aj F EX (.Tuple elts kk tpos) (.Call (.Name "enumerate" pp) [b] [] pos) (.enum B):=PI.weak (zj0 jJ hmg (rN hb wL h2) (by rw[h2];rfl)) λZ H R hh=>un hh λU J s hL hS h=>by
 show bf hL hS h λy H2 U2 d2 s2 x2 hL2 aO r2 h2=>?_;cases r2 with
 |@l n ad hl=>
  unfold Run oF at h2;dsimp only at h2;cases e:s2[n]? with
  |none=>rw[e]at h2;show h2.elim|some o=>
   rw[e]at h2;cases o with
   |lst xs=>
    let⟨vs,q1,q2⟩:=aO.obj n _ _ e hl;show⟨true,_,_,rfl,c7.of q1,h2 U2 H2 Ext.refl aO _ (ju.lU hl)⟩
   |_=>show h2.elim
 |d r2=>
  cases r2 with
  |fl q r=>show⟨true,_,_,rfl,q.sY,h2 U2 H2 Ext.refl aO _ (ju.enum (kd:=true) aO.lz q r)⟩|tup q r=>show⟨false,_,_,rfl,q.iC,h2 U2 H2 Ext.refl aO _ (ju.enum (kd:=false) aO.lz q r)⟩|_=>show h2.elim
theorem Z0:∀(ns:List Str) (vs:List V),((ns.zip vs).map (·.1)).Sublist ns
 |[],vs=>by simp|n::ns,[]=>by simp|n::ns,v::vs=>by
  rw[wg,iV];show(Z0 ns vs).cons₂ n
theorem zfl:∀{ns:List Str} {vs:List V} {i:Nat} {x:Str} {v:V},ns.Nodup->ns[i]?=some x->vs[i]?=some v->(ns.zip vs).lookup x=some v
 |ns,vs,i,x,v,hn,h1,h2=>by
  show Yo ?_ (zjU h1 h2);show List.Sublist.nodup (Z0 ns vs) hn
end
section
variable {X:Cx}{cA:Cl}{aq:Nat->Nat->Bool}{aj:Bool}{F:Fn}{EX:XS}{a b:Expr}{A B:E}{pos p tpos:Pos}{elts:List Expr}{kk:Nat}
theorem zmD(hmg:X.mg "enumerate"=none)(jJ:JK X "enumerate" .globalImplicit)(hb:JE X cA aq aj F EX b B)(h2:aF b=true:=by rfl):JI X cA aq aj F EX (.Tuple elts kk tpos) (.Call (.Name "enumerate" p) [b] [] pos) (.enum B):=⟨zjQ jJ.o hmg hb.o (bx h2)⟩
end
end Mi
namespace Mi
open PySem PySem.Spec PyProof.Rows L2 PySem.W
def zkN{fd:FuncData}{q:Str}{st:Stmt}(h:nJ fd=Aq q st):fd=fnOf "__init__" q (aY st) (aK st) (aB st) .none fd.kwdefaults fd.doc fd.pyModule fd.annotations fd.code fd.closureTuple:=by
 cases fd;unfold nJ Aq at h;cases h;rfl
structure Kf(K:Frag)(C:Addr)(q:Str)(st:Stmt):Prop where
 ex:∃(fI:Addr) (od:Option Addr) (kV doc pm:Value) (an:Option Addr) (cdv ct:Value) (osl:Array (Option Value)) (cd:ClassData),
  K.lookup fI=some ⟨.type "function",od,.func (fnOf "__init__" q (aY st) (aK st) (aB st) .none kV doc pm an cdv ct),osl⟩/\codeIn K cdv q=true/\tZ K C fI=true/\clsIn K C=some cd/\tY cd.mro=true/\cd.hasDict=true
def zpm{K:Frag}{C:Addr}{q:Str}{st:Stmt}(h:(Hq K C).map nJ=some (Aq q st)):Kf K C q st:=by
 cases e:Hq K C with
 |none=>rw[e]at h;cases h|some fd=>
  rw[e]at h;let hp:nJ fd=Aq q st:=cP h;unfold Hq at e;split at e
  .rename_i cd j_;split at e
   .rename_i f hf;split at e
    .rename_i od fd' sl hl;split at e
     .rename_i hc;cases e;simp only[fH]at hc;let⟨⟨⟨c1,c2⟩,c3⟩,c4⟩:=hc;let eq:=zkN hp;let qn:fd.qualname=q:=by rw[eq]
      show⟨⟨f,od,fd.kwdefaults,fd.doc,fd.pyModule,fd.annotations,fd.code,fd.closureTuple,sl,cd,?_,by rw[<-qn];show c1,c2,j_,c3,c4⟩⟩;rw[<-eq];show hl
     .cases e
    .cases e
   .cases e
  .cases e
def zoP{K:Frag}{C:Addr}{f:Str}(h:LC K C f=true):XF K C f:=by
 unfold LC at h;simp only[fH,rG]at h;let⟨⟨⟨⟨h1,h2⟩,h3⟩,h4⟩,h5⟩:=h;show⟨h1,h2,h3,h4,h5⟩
structure oO(fs:List (Str×Stmt))(ms:List uc)(xs:List (Nat×Str))(l:Lk)(K:Frag):Prop where
 fn:∀p∈fs,FnAt K p.1 p.2
 gd:zM l K
 mi:∀m∈ms,Kf K (iW (l.L K) m.c) m.q m.st
 se:∀m∈ms,setB K (iW (l.L K) m.c) m.fs=true
 xf:∀x∈xs,XF K (iW (l.L K) x.1) x.2
theorem Uc{a:Nat}{o:Obj}:∀{l:List Obj} {i:Nat},((a:Addr),o)∈Hr i l->i<=a/\l[a-i]?=some o/\o.isFreed=false
 |[],i,h=>by cases h|p::r,i,h=>by
  unfold Hr at h;split at h
  .obtain⟨h1,h2,h3⟩:=Uc h;show⟨by lia,?_,h3⟩;rw[show a-i=(a-(i+1))+1 by lia];show h2
  .rename_i hf;rcases jo.mp h with e|h
   .cases e;show⟨bQ _,by simp,hf⟩
   .obtain⟨h1,h2,h3⟩:=Uc h;show⟨by lia,?_,h3⟩;rw[show a-i=(a-(i+1))+1 by lia];show h2
theorem Z9:∀{K:Frag},K.lookup a=some o->(a,o)∈K
 |[],h=>by cases h|(b,p)::r,h=>by
  rw[pI]at h;by_cases e:a=b
  .subst e;simp only[Ag]at h;cases h;show lG
  .rw[show (a==b)=false by simpa using e]at h;show iJ _ (Z9 h)
theorem ziy:(bR h).In h:=λa o e=>by
 let hm:=Z9 e;unfold bR at hm;rcases mj.mp hm with z|z
 .unfold qx at z;split at z
  .rename_i p hp;rcases jo.mp z with e|z
   .cases e;show hp
   .cases z
  .cases z
 .obtain⟨_,h2,h3⟩:=Uc (List.mem_reverse.mp z);rw[Heap.get?_some_iff];show⟨?_,h3⟩;let:h.objs.toList[a]?=some o:=by simpa using h2
  simpa using this
end Mi
namespace Mi
open PySem PySem.Spec PyProof.Rows L2
section
variable {K:W.Frag}{cA:Cl}{U:Ph}{H:Hp}
def jw(K:W.Frag)(U:Ph)(H:Hp):Bool->Addr->List V->Prop
 |true,a,vs=>LstAt K U H a vs|false,a,vs=>TupAt K U H a vs
def jw.sk{kd:Bool}{a:Addr}{vs:List V}(h:jw K U H kd a vs):Sk kd K H a vs:=by
 cases kd
 .exact TupAt.iC h
 .exact LstAt.sY h
def jw.later{kd:Bool}{a:Addr}{vs:List V}{U':Ph}{H₁ H':Hp}(hz:∀a∈U.l,U.z a)(h:jw K U H kd a vs)(x:Ext U H U' H₁)(o:cH U' H₁ H'):jw K U' H' kd a vs:=by
 cases kd
 .exact TupAt.later hz h x o
 .exact LstAt.later hz h x o
theorem Ud{xs ys:List D}{i:Nat}:(List.zipWith (λp q=>D.tup [p,q]) xs ys)[i]?=match xs[i]?,ys[i]? with
  |some p,some q=>some (.tup [p,q])|_,_=>none:=by
 rw[List.getElem?_zipWith];cases xs[i]?<;>cases ys[i]?<;>rfl
def ju.zip{k1 k2:Bool}{l1 l2:Addr}{xs ys:List D}{us vs:List V}(hz:∀a∈U.l,U.z a)(h1:jw K U H k1 l1 us)(h2:jw K U H k2 l2 vs)(r1:aD K cA U H xs us)(r2:aD K cA U H ys vs):ju K cA (.fix (List.zipWith (λp q=>D.tup [p,q]) xs ys)) U H (R6 K k1 k2 l1 l2):=by
 show⟨λU' H₁ H' s' i x o hS e=>?_,λU' H₁ H' s' i d x o hS e=>?_,λU' H₁ H' s' i d v H2 x o hS e y=>?_⟩
 .let e:(List.zipWith (λp q=>D.tup [p,q]) xs ys)[i]?=none:=cP e;rw[Ud]at e;show⟨us,vs,(h1.later hz x o).sk,(h2.later hz x o).sk,?_⟩;cases ex:xs[i]? with
  |none=>show .inl (qm.mp (r1.none ex))|some p=>
   cases ey:ys[i]? with
   |none=>show .inr (qm.mp (r2.none ey))|some q=>rw[ex,ey]at e;cases e
 .let e:(List.zipWith (λp q=>D.tup [p,q]) xs ys)[i]?=some d:=cP e;rw[Ud]at e;cases ex:xs[i]? with
  |none=>rw[ex]at e;cases e|some p=>
   cases ey:ys[i]? with
   |none=>rw[ex,ey]at e;cases e|some q=>
    let⟨u,q1,_⟩:=r1.get ex;let⟨v,q2,_⟩:=r2.get ey;show⟨us,vs,u,v,(h1.later hz x o).sk,(h2.later hz x o).sk,q1,q2⟩
 .let e:(List.zipWith (λp q=>D.tup [p,q]) xs ys)[i]?=some d:=cP e;rw[Ud]at e;cases ex:xs[i]? with
  |none=>rw[ex]at e;cases e|some p=>
   cases ey:ys[i]? with
   |none=>rw[ex,ey]at e;cases e|some q=>
    rw[ex,ey]at e;cases e;let⟨a,u,w,hn,rfl,rfl,hu,hw⟩:=y;let⟨u',q1,ru⟩:=((r1.mono x hz).out o).get ex;let⟨w',q2,kJ⟩:=((r2.mono x hz).out o).get ey;let e1:=hu us (h1.later hz x o).sk;let e2:=hw vs (h2.later hz x o).sk;rw[q1]at e1;rw[q2]at e2;cases e1;cases e2;let g:bB H' (upd H' a (.tup [u,w])):=bB.new hn;show⟨g,.tup (.inl ⟨.inl jE,hS.nz hn⟩) (.cons (ru.mono g.ext hS.lz) (.cons (kJ.mono g.ext hS.lz) .nil))⟩
def Z_(r:aR K cA U H x v)(h:Run K cA (M.bd (pZ x) k) U H s P Ee) :
  ∃xs kd a vs,v=.ref a/\jw K U H kd a vs/\aD K cA U H xs vs/\Run K cA (k xs) U H s P Ee:=by
 cases r with
 |l _=>show h.elim|d r=>
  cases r with
  |tup q r=>show⟨_,false,_,_,rfl,q,r,h⟩|fl q r=>show⟨_,true,_,_,rfl,q,r,h⟩|_=>show h.elim
end
section
variable {X:Cx}{cA:Cl}{aq:Nat->Nat->Bool}{aj:Bool}{F:Fn}{EX:XS}{a b:Expr}{A B:E}{pos pp tpos:Pos}{elts:List Expr}{kk:Nat}
theorem zl8(jJ:Gl X "zip")(hmg:X.mg "zip"=none)(ha:SE X cA aq aj F EX a A)(hb:SE X cA aq aj F EX b B)(h1:starEach [a,b] X.env=(false,eval a X.env)::starEach [b] X.env)(h2:starEach [b] X.env=(false,eval b X.env)::starEach [] X.env) :
  SI X cA aq aj F EX (.Tuple elts kk tpos) (.Call (.Name "zip" pp) [a,b] [] pos) (.zip A B):=PI.weak (zno jJ hmg (rN ha (rN hb wL h2) h1) (by rw[h1,h2];rfl) (by rw[h2];rfl)) λZ H R hh=>un hh λU J s hL hS h=>by
 show bf hL hS h λx H1 U1 d1 s1 x1 hL1 aH r1 h1=>bf hL1 aH h1 λy H2 U2 d2 s2 x2 hL2 aO r2 h2=>?_;let⟨xs,k1,l1,us,e1,q1,p1,h3⟩:=Z_ (r1.mono x2 aH.lz) h2;let⟨ys,k2,l2,vs,e2,q2,p2,h4⟩:=Z_ r2 h3;subst e1 e2;show⟨k1,k2,l1,l2,us,vs,rfl,q1.sk,q2.sk,(h4.bF aO) _ (ju.zip aO.lz q1 q2 p1 p2)⟩
theorem zpr(hmg:X.mg "zip"=none)(jJ:JK X "zip" .globalImplicit)(ha:JE X cA aq aj F EX a A)(hb:JE X cA aq aj F EX b B)(h1:aF a=true:=by rfl)(h2:aF b=true:=by rfl):JI X cA aq aj F EX (.Tuple elts kk tpos) (.Call (.Name "zip" p) [a,b] [] pos) (.zip A B):=⟨zl8 jJ.o hmg ha.o hb.o (bx h1) (bx h2)⟩
end
def Gm(i:Int)(n:Nat):List V:=(List.range n).map λk=>.int (i+(k:Nat))
def zk9{i:Int}{acc:Array Value}:∀{n m:Nat},(∀k v,acc.toList[k]?=some (v:Value)->∃t,v=Value.int (i+((m+k:Nat):Int)) t)->acc.toList.length=n->Vals ((List.range n).map λk=>V.int (i+((m+k:Nat):Int))) acc.toList:=by
 generalize acc.toList=l
 induction l with
 |nil=>intro n m _ e;subst e;show .nil|cons v l ih=>
  intro n m h e;subst e;rw[eE,Pk,iV,tX];show .cons (h 0 v rfl) ?_;let:=ih (n:=l.length) (m:=m+1) (λk v e=>by
   let:=h (k+1) v e;rw[show m+1+k=m+(k+1) by lia];show this) rfl
  let e:((λk=>V.int (i+((m+k:Nat):Int)))∘Nat.succ)=λk=>V.int (i+((m+1+k:Nat):Int)):=by
   funext k
   change V.int (i+((m+(k+1):Nat):Int))=_;rw[show m+(k+1)=m+1+k by lia]
  rw[e];show this
section
variable {K:W.Frag}{cA:Cl}{U:Ph}{H:Hp}
theorem zhn:∀l:List Nat,aD K cA U H (l.map λk=>D.int (i+(k:Nat))) (l.map λk=>V.int (i+(k:Nat)))
 |[]=>.nil|_::l=>.cons (.int _) (zhn l)
end
end Mi
namespace Mi
open PySem PySem.Spec PyProof.Rows L2 PySem.W
structure D3(K:Frag)(mg:Str->Option Value)(x:Str)(st:Stmt)(ps:List Str):Prop where
 f:oK K x x st (iD K x) (fdOf K x st)
 m:mg x=some (.ref (iD K x))
 b:Binds K (fdOf K x st) ps []
theorem dk{p:Prop}(h:p:=by decide +kernel):p:=h
section
variable {fs:List (Str×Stmt)}{ms:List uc}{xs:List (Nat×Str)}{lk:Lk}{K:Frag}{h:Heap}{mg:Str->Option Value}{x:Str}{st:Stmt}
theorem xU(S:oO fs ms xs lk K)(X:K.In h)(G:h.Ns mainGlobals mg)(j:Nat)(hj:fs[j]?=some (x,st):=by rfl)(hb:∀(kV doc pm:Value) (an:Option Addr) (cdv ct a:Value),bindArgs (fnOf x x (aY st) (aK st) (aB st) .none kV doc pm an cdv ct) ⟨[a],[]⟩=pure [(p,a)]:=by intros;rfl):D3 K mg x st [p]:=have F:=S.fn (x,st) (dG hj);⟨F.fn,F.m X G,xP F.fn hb⟩
theorem pF(S:oO fs ms xs lk K)(X:K.In h)(G:h.Ns mainGlobals mg)(j:Nat)(hj:fs[j]?=some (x,st):=by rfl)(hb:∀(kV doc pm:Value) (an:Option Addr) (cdv ct a b:Value),bindArgs (fnOf x x (aY st) (aK st) (aB st) .none kV doc pm an cdv ct) ⟨[a,b],[]⟩=pure [(p,a),(q,b)]:=by intros;rfl):D3 K mg x st [p,q]:=have F:=S.fn (x,st) (dG hj);⟨F.fn,F.m X G,xQ F.fn hb⟩
theorem lu(S:oO fs ms xs lk K)(X:K.In h)(G:h.Ns mainGlobals mg)(j:Nat)(hj:fs[j]?=some (x,st):=by rfl)(hb:∀(kV doc pm:Value) (an:Option Addr) (cdv ct a b c:Value),bindArgs (fnOf x x (aY st) (aK st) (aB st) .none kV doc pm an cdv ct) ⟨[a,b,c],[]⟩=pure [(p,a),(q,b),(t,c)]:=by intros;rfl):D3 K mg x st [p,q,t]:=have F:=S.fn (x,st) (dG hj);⟨F.fn,F.m X G,xR F.fn hb⟩
theorem Nz(S:oO fs ms xs lk K)(X:K.In h)(G:h.Ns mainGlobals mg)(j:Nat)(hj:fs[j]?=some (x,st):=by rfl)(hb:∀(kV doc pm:Value) (an:Option Addr) (cdv ct a b c d:Value),bindArgs (fnOf x x (aY st) (aK st) (aB st) .none kV doc pm an cdv ct) ⟨[a,b,c,d],[]⟩=pure [(p,a),(q,b),(t,c),(u,d)]:=by intros;rfl):D3 K mg x st [p,q,t,u]:=have F:=S.fn (x,st) (dG hj);⟨F.fn,F.m X G,xT F.fn hb⟩
theorem mG{α:Type}{l:List α}{a:α}(j:Nat)(h:l[j]?=some a:=by rfl):a∈l:=dG h
end
end Mi
namespace L2
open PySem PySem.Spec PyProof.Rows
def Ue(hi:Int)(n:Nat):It:=⟨λi _=>i<n,λi H x H'=>H'=H/\x=.int (hi-i),λi _=>n<=i⟩
def zfW{P:Program}{w:World}{K:W.Frag}{tg:Expr}(it:Addr)(hi:Int)(n:Nat):Turn P w K tg (Ue hi n) [it] it (λi h=>IsRangeIter h it (hi+(i:Nat)*(-1)) ((n:Int)-(i:Nat)) (-1)) where
 mem:=by simp
 obj:=λi h st b hb=>by
  let e:b=it:=by simpa using hb
  subst e;show⟨_,st,λv z=>by
   let z':Data.fields _=Data.cell v:=z;cases z'⟩
 keep:=λi h h' st k=>k it R3 _ st
 item:=by
  intro X hP hw hK hc i ao s Z H E I hf st hg;subst hP hw hK;let⟨f0,f1,f2,f3,f4,f5⟩:=hf it R3;let W:=Walks.range (prog:=X.prog) (w:=X.w) (I.ok.hd hc) it hi (-1) n;show W.item i s _ _ hg st λv h' tk hv st' kk=>?_;let⟨t,rfl⟩:=hv;let I1:Inv X ao Z H {s with heap:=h',toks:=tk}:=I.turned (λb o hb e=>kk b o (by simpa using hb) e) f0 f1 f3 f4 f5;show⟨_,rfl,Mp (s:={s with heap:=h',toks:=tk}) (n:="range_iterator") st' rfl rfl J0 ⟨.int (hi-i),H,I1,⟨t,?_⟩,⟨rfl,rfl⟩,st',λb hb=>(hf b hb).1⟩⟩;rw[show hi+(i:Int)*(-1)=hi-i by lia]
 done:=by
  intro X hP hw hK hc i ao s Z H E I hf st hg;subst hP hw hK;let⟨f0,f1,f2,f3,f4,f5⟩:=hf it R3;show wpAny_pyNext_range_end (I.ok.hd hc) st (by let:n<=i:=hg;lia) λh' eb=>⟨rfl,I.turned (t':=s.toks) (λb o hb e=>eb b o hb e) f0 f1 f3 f4 f5⟩
 self:=λ_ _ _ _ _ st h=>zs1 st h
section
variable {prog:Program}{w:World}{A:Around}{E:Value->Shared->Prop}{s:Shared}
def vh(a b c:Int):Bool:=Builtin.Range.rangeFitsLong a&&Builtin.Range.rangeFitsLong b&&Builtin.Range.rangeFitsLong c&&Builtin.Range.rangeFitsLong (-c)&&Builtin.Range.rangeFitsLong (a-c)&&Builtin.Range.rangeFitsLong (Builtin.Range.rangeSize a b c)
def zkJ{a:Int}(h1 : -(2^62)<=a)(h2:a<2^62):vh 0 a 1=true:=by
 unfold vh;rw[rangeSize_one];simp only[Builtin.Range.rangeFitsLong,fH,tV]
 split<;>lia
theorem zgu(r:Addr)(a b c:Int)(t u v:Tok)(hc0:¬(!vh a b c)=true) :
  Meets (Builtin.«range.__reversed__» ⟨[.ref r],[]⟩) (λ_ R s=>s.heap.get? r=some {cls:=.type "range",dict:=none,data:=.fields #[.int a t,.int b u,.int c v],slots:=#[]} /\
   R (.ok (.ret (Value.ref s.heap.objs.size))) {s with heap:=s.heap.push {cls:=Value.type (if vh a b c=true then "range_iterator" else "longrange_iterator"),dict:=none,data:=.fields #[rawInt (a+(Builtin.Range.rangeSize a b c-1)*c),rawInt (Builtin.Range.rangeSize a b c),rawInt (-c)],slots:=#[]}}):=
 .of_wp λprog w A R s h=>by
  unfold vh at *;let⟨hp,g,d,tk,os⟩:=s;let⟨hl,h⟩:=h
  wp_walk
  show⟨_,rfl,h⟩
def zhv{r:Addr}{a:Int}{t u v:Tok}{Q:Value->Shared->Prop}(hr:IsRange s.heap r 0 a 1 t u v)(h1 : -(2^62)<=a)(h2:a<2^62)
  (h:Q (.ref s.heap.objs.size) {s with heap:=s.heap.push {cls:=.type "range_iterator",data:=.fields #[rawInt ((a.toNat:Int)-1),rawInt (a.toNat:Int),rawInt (-1)]}}):wpAny (model prog w) A (call (.builtin "range.__reversed__") [.ref r]) Q E s:=by
 let hT:s.TypeIs (.ref r) "range":=⟨_,hr,rfl⟩;let hf:=zkJ h1 h2;show Et Pn hT F.entry_range_reversed (F.args_range_reversed_1 _) (zgu r 0 a 1 t u v (by rw[hf];decide)) ⟨hr,?_⟩;rw[hf,if_pos rfl];let e:Builtin.Range.rangeSize 0 a 1=(a.toNat:Int):=by rw[rangeSize_one];split<;>lia
 rw[e,show (0:Int)+((a.toNat:Int)-1)*1=(a.toNat:Int)-1 by lia];show h
def zh0{r:Addr}{a:Int}{t u v:Tok}{Q₁:Value->Shared->Prop}(hr:IsRange s.heap r 0 a 1 t u v)(h1 : -(2^62)<=a)(h2:a<2^62)
  (h:Q₁ (.ref s.heap.objs.size) {s with heap:=s.heap.push {cls:=.type "range_iterator",data:=.fields #[rawInt ((a.toNat:Int)-1),rawInt (a.toNat:Int),rawInt (-1)]}}) :
  codeAny (model prog w) A (.call (.builtin "reversed.__new__") ⟨[.type "reversed",.ref r],[]⟩) (wants Q₁ E) s:=by
 let hT:s.TypeIs (.ref r) "range":=⟨_,hr,rfl⟩;show codeAny_of_tree (aC (yI (F.newCall_reversed_1 _) (aQ ⟨Ep F.plain_reversed_new _,El F.entry_reversed_new ?_⟩)));rw[DP F.plain_reversed_new _];unfold Builtin.«reversed.__new__»;show aC (yI (newClass_reversed _) ?_);dsimp only;show aC (yI (a:=()) rfl (aC (yI (a:=()) rfl ?_)));show aC (Lr hT Pn.lookup ?_);show aC (yI (Pn.bind _) ?_);change wpAny _ _ (if (Value.builtin "range.__reversed__"==Value.none)=true then _ else _) _ _ _;rw[if_neg (show ¬((Value.builtin "range.__reversed__"==Value.none)=true) from yw)];show aC (yJ (aC (m:=runValue (.call (.builtin "range.__reversed__") ⟨[.ref r],[]⟩)) (show wpAny _ _ (call (.builtin "range.__reversed__") [.ref r]) _ _ _ from zhv hr h1 h2 ?_)))
 first
  |exact aQ h
  |exact aC (aQ (aQ h))
def zmU:isSubtype (.type "range_iterator") (.type "reversed")=pure false:=by rw[isSubtype_type];kernel_rfl
def zgo{r:Addr}{a:Int}{t u v:Tok}{Q:Value->Shared->Prop}(hr:IsRange s.heap r 0 a 1 t u v)(h1 : -(2^62)<=a)(h2:a<2^62)
  (h:Q (.ref s.heap.objs.size) {s with heap:=s.heap.push {cls:=.type "range_iterator",data:=.fields #[rawInt ((a.toNat:Int)-1),rawInt (a.toNat:Int),rawInt (-1)]}}):wpAny (model prog w) A (call (.type "reversed") [.ref r]) Q E s:=by
 show callType_other (Q₁:=λx y=>x=.ref s.heap.objs.size/\y={s with heap:=s.heap.push {cls:=.type "range_iterator",data:=.fields #[rawInt ((a.toNat:Int)-1),rawInt (a.toNat:Int),rawInt (-1)]}}) Dc F.create_reversed ⟨_,_,F.mro_reversed⟩ F.made_reversed zmU (F.typeCall_reversed_1 _) (zh0 hr h1 h2 ⟨rfl,rfl⟩) λx y z=>?_;let⟨rfl,rfl⟩:=z;show⟨⟨_,fB _ rfl,rfl⟩,h⟩
end
section
variable {X:Cx}{tg:Expr}
def Ug(ta:TA):TI:=λZ H R=>ta Z H λvs H1=>∃j:Int,vs=[.int j]/\-(2^62)<=j/\j<2^62/\R (Ue ((j.toNat:Int)-1) j.toNat) H1
def zmy{a:Expr}{ta:TA}{p pos p2 pos2:Pos}(hg:Gl X "range")(hm:X.mg "range"=none)(hg2:Gl X "reversed")(NK:X.mg "reversed"=none)(ha:PA X [a] ta)(hs:starEach [a] X.env=[(false,eval a X.env)]:=by rfl) :
  PI X tg (.Call (.Name "reversed" p2) [.Call (.Name "range" p) [a] [] pos] [] pos2) (Ug ta):=by
 intro ao s Z H R I h;show Call_ (ug I hg2 NK boot_reversed (v7 ?_ rfl rfl));change wpAny _ _ (spliced [(false,_)]) _ _ s;show Calls.spliced_cons (Call_ (ug I hg hm boot_range (v7 (aV (ha pos ao s Z H _ I h) λus s1 hx=>eO hx λvs H1 I1 r1 q1=>?_) hs rfl)));let⟨j,e,q1,q2,q⟩:=q1;subst e;cases r1 with
 |cons r rr=>
  cases rr;let⟨t,rfl⟩:=r;show call_range_1 (Calls.spliced_nil (zgo (IsRange.new ..) q1 q2 ?_));let I2:Inv X ao Z H1 {s1 with heap:=s1.heap.push {cls:=.type "range",data:=.fields #[.int 0 s1.toks,.int j t,.int 1 (s1.toks+1)]},toks:=s1.toks+1+1}:=I1.kept λb o e=>cR _ e;generalize {s1 with heap:=s1.heap.push {cls:=.type "range",data:=.fields #[.int 0 s1.toks,.int j t,.int 1 (s1.toks+1)]},toks:=s1.toks+1+1}=s2 at I2;let st:IsRangeIter (s2.heap.push {cls:=.type "range_iterator",data:=.fields #[rawInt ((j.toNat:Int)-1),rawInt (j.toNat:Int),rawInt (-1)]}) s2.heap.objs.size ((j.toNat:Int)-1) (j.toNat:Int) (-1):=fB _ rfl;show zs1 st ?_;show⟨s2.heap.objs.size,[s2.heap.objs.size],_,_,H1,rfl,I2.kept (t':=s2.toks) λb o e=>cR _ e,zfW _ ((j.toNat:Int)-1) j.toNat,?_,λb hb=>?_,q⟩
  .show IsRangeIter _ _ ((j.toNat:Int)-1+((0:Nat):Int)*(-1)) ((j.toNat:Int)-((0:Nat):Int)) (-1);rw[show (j.toNat:Int)-1+((0:Nat):Int)*(-1)=(j.toNat:Int)-1 by lia,show (j.toNat:Int)-((0:Nat):Int)=j.toNat by lia];show st
  .let e:b=s2.heap.objs.size:=by simpa using hb
   subst e;show I2.rM (bQ _) (I2.hok.fresh (bQ _))
end
end L2
namespace Mi
open PySem PySem.Spec PyProof.Rows L2
section
variable {K:W.Frag}{cA:Cl}{U:Ph}{H:Hp}
def NP{b:Int}{i:Nat}:(gw 0 b).reverse[i]?=if i<b.toNat then some (.int ((b.toNat:Int)-1-i)) else none:=by
 let hl:(gw 0 b).length=b.toNat:=by unfold gw;simp
 by_cases h:i<b.toNat
 .rw[if_pos h,List.getElem?_reverse gV,hl,Ng,if_pos gV]
  congr 2
  lia
 .rw[if_neg h,yq (by rw[PB];lia)]
def Kab{b:Int}:ju K cA (.fix (gw 0 b).reverse) U H (Ue ((b.toNat:Int)-1) b.toNat):=by
 show⟨λU' H₁ H' s' i x o hS e=>?_,λU' H₁ H' s' i d x o hS e=>?_,λU' H₁ H' s' i d v H2 x o hS e y=>?_⟩
 .let e:(gw 0 b).reverse[i]?=none:=cP e;rw[NP]at e;split at e
  .cases e
  .exact G4 (by assumption)
 .let e:(gw 0 b).reverse[i]?=some d:=cP e;rw[NP]at e;split at e
  .assumption
  .cases e
 .let e:(gw 0 b).reverse[i]?=some d:=cP e;rw[NP]at e;split at e
  .cases e;let⟨rfl,rfl⟩:=y;show⟨bB.refl,.int _⟩
  .cases e
end
section
variable {X:Cx}{cA:Cl}{aq:Nat->Nat->Bool}{aj:Bool}{F:Fn}{EX:XS}{b:Expr}{B:E}{p pos p2 pos2:Pos}
theorem zlW{tg:Expr}(jJ:Gl X "range")(hmg:X.mg "range"=none)(CK:Gl X "reversed")(CP:X.mg "reversed"=none)(hb:SE X cA aq aj F EX b B)(h2:starEach [b] X.env=(false,eval b X.env)::starEach [] X.env) :
  SI X cA aq aj F EX tg (.Call (.Name "reversed" p2) [.Call (.Name "range" p) [b] [] pos] [] pos2) (.Jp B):=PI.weak (zmy jJ hmg CK CP (rN hb wL h2) (by rw[h2];rfl)) λZ H R hh=>un hh λU J s hL hS h=>by
 show bf hL hS h λy H2 U2 d2 s2 x2 hL2 aO r2 h2=>?_;let⟨j,_,e2,h4⟩:=Fy r2 h2;subst e2;by_cases hk:eY j=true
 .rw[if_pos hk]at h4;let hz:=Tc hk;let q:=h4.bF aO;show⟨j,rfl,hz.1,hz.2,q _ Kab⟩
 .rw[if_neg hk]at h4;show h4.elim
theorem zpq{tg:Expr}(hmg:X.mg "range"=none)(jJ:JK X "range" .globalImplicit)(CP:X.mg "reversed"=none)(CK:JK X "reversed" .globalImplicit)(hb:JE X cA aq aj F EX b B)(h2:aF b=true:=by rfl):JI X cA aq aj F EX tg (.Call (.Name "reversed" p2) [.Call (.Name "range" p) [b] [] pos] [] pos2) (.Jp B):=⟨zlW jJ.o hmg CK.o CP hb.o (bx h2)⟩
end
end Mi
namespace Mi
open PySem
def W{α:Type}(m:M α)(s:S)(P:α->S->Prop):Prop:=∃a s',m s=some (.ok a,s')/\P a s'
def WS(m:MS)(s:S)(Q:Out->S->Prop):Prop:=∃o s',m s=some (o,s')/\Q o s'
section
variable {α β:Type}{m:M α}{k:α->M β}{s:S}{P:α->S->Prop}{R:β->S->Prop}
def W.bd(h:W m s λa s'=>W (k a) s' R):W (M.bd m k) s R:=by
 let⟨a,s',e,b,s2,e2,r⟩:=h;show⟨b,s2,by unfold M.bd;rw[e];show e2,r⟩
theorem W.ret{a:α}(h:P a s):W (M.ret a) s P:=⟨a,s,rfl,h⟩
def W.qt(h:W m s P):W (M.qt m) s P:=by
 let⟨a,s',e,p⟩:=h;show⟨a,s',by unfold M.qt;rw[e],p⟩
def W.opt(e:o=some a)(h:P a s):W (M.opt o) s P:=by subst e;show⟨a,s,rfl,h⟩
theorem W.imp{P':α->S->Prop}(h:W m s P)(f:∀a s',P a s'->P' a s'):W m s P':=let ⟨a,s',e,p⟩:=h;⟨a,s',e,f a s' p⟩
theorem W.eq(e:m s=some (.ok a,s'))(p:P a s'):W m s P:=⟨a,s',e,p⟩
theorem Ka9{d:D}{P:D->S->Prop}(h:P d s):W (rd (.d d)) s P:=⟨d,s,rfl,h⟩
theorem Kba{n:Nat}{xs:List D}{P:D->S->Prop}(e:s[n]?=some (.lst xs))(h:P (.fl xs) s):W (rd (.l n)) s P:=⟨.fl xs,s,by unfold rd;simp only[e],h⟩
theorem Kbc{P:List D->S->Prop}(h:P [] s):W (gH []) s P:=⟨[],s,rfl,h⟩
theorem Kbb{x:Xv}{r:List Xv}{P:List D->S->Prop}(h:W (rd x) s λd s1=>W (gH r) s1 λds s2=>P (d::ds) s2):W (gH (x::r)) s P:=W.bd (h.imp λd s1 h1=>W.bd (h1.imp λds s2 h2=>W.ret h2))
theorem KaC{P:List D->S->Prop}(h:P [] s):W (cG []) s P:=⟨[],s,rfl,h⟩
theorem KaB{d:D}{r:List Xv}{P:List D->S->Prop}(h:W (cG r) s λds s2=>P (d::ds) s2):W (cG (.d d::r)) s P:=W.bd (W.ret (W.bd (h.imp λds s2 h2=>W.ret h2)))
theorem W.dat{x:D}{P:D->S->Prop}(h:P x s):W (dat (.d x)) s P:=⟨x,s,rfl,h⟩
theorem W.bool{b:Bool}{P:Bool->S->Prop}(h:P b s):W (bool (.d (.bl b))) s P:=⟨b,s,rfl,h⟩
theorem W.int{b:Int}{P:Int->S->Prop}(h:P b s):W (int (.d (.int b))) s P:=⟨b,s,rfl,h⟩
def cj{fz:Bool}{o:Option Rz}{d:D}{P:Xv->S->Prop}(e:o=some (.dat d))(h:P (.d d) s):W (b_ fz o) s P:=by subst e;show⟨_,s,rfl,h⟩
def Gn{o:Option Rz}{xs:List D}{P:Xv->S->Prop}(e:o=some (.nw xs))(h:P (.d (.fl xs)) s):W (b_ true o) s P:=by subst e;show⟨_,s,rfl,h⟩
theorem KaZ{xs:List D}{P:Xv->S->Prop}(h:P (.d (.fl xs)) s):W (newL true xs) s P:=⟨_,s,rfl,h⟩
theorem KaY{xs:List D}{P:Xv->S->Prop}(h:P (.l s.length) (s++[.lst xs])):W (newL false xs) s P:=⟨_,_,rfl,h⟩
def jg{F:List Xv->M Xv}{xs:List Xv}{P:Xv->S->Prop}(hl:locs xs=[])(h:W (F (cY 0 xs)) [] λv _=>∃d,v=.d d/\P (.d d) s):W (bY F xs) s P:=by
 let⟨v,s1,e,d,rfl,p⟩:=h;show⟨.d d,s,?_,p⟩;unfold bY;rw[hl,if_pos Em];simp only[je,e,cZ]
def Kaq{F:List Xv->M Xv}{xs:List Xv}{P:Xv->S->Prop}(hl:locs xs=[])(h:W (F (cY 0 xs)) [] λv s1=>∃n o,v=.l n/\s1[n]?=some o/\P (.l s.length) (s++[o])):W (bY F xs) s P:=by
 let⟨v,s1,e,n,o,rfl,eo,p⟩:=h;show⟨.l s.length,s++[o],?_,p⟩;unfold bY;rw[hl,if_pos Em];simp only[je,e,cZ,List.getElem?_nil,eo]
def NQ{F:List Xv->M Xv}{xs:List Xv}{n:Nat}{o:SO}{P:Xv->S->Prop}(hl:locs xs=[n])(ho:s[n]?=some o)(h:W (F (cY 0 xs)) [o] λv s1=>∃d o',v=.d d/\s1=[o']/\P (.d d) (s.set n o')):W (bY F xs) s P:=by
 let⟨v,s1,e,d,o',rfl,rfl,p⟩:=h;show⟨.d d,s.set n o',?_,p⟩;unfold bY;rw[hl,if_pos R3];simp only[je,ho,e,cZ]
end
section
variable {s:S}{Q:Out->S->Prop}
def WS.ofM(h:W m s λa s'=>WS (k a) s' Q):WS (Mi.ofM m J k) s Q:=by
 let⟨a,s',e,o,s2,e2,q⟩:=h;show⟨o,s2,by unfold Mi.ofM;rw[e];show e2,q⟩
theorem WS.nx(h:Q (.nx J) s):WS (λs=>some (.nx J,s)) s Q:=⟨_,s,rfl,h⟩
theorem WS.rt(h:Q (.rt x) s):WS (λs=>some (.rt x,s)) s Q:=⟨_,s,rfl,h⟩
end
def W.call(hT:T f=some d)(hl:xs.length=d.iB)
  (h:WS (exs aq aj (λc=>Mi.call aq T k c) d.body (xs.map some++List.replicate (d.many-d.iB) none)) s λo s'=>match o with|.nx _=>P (.d .non) s'|.rt v=>P v s'|_=>False):W (Mi.call aq T (k+1) aj f xs) s P:=by
 let⟨o,s',e,q⟩:=h;unfold Mi.call;simp only[hT,if_pos hl];unfold W;simp only[e];cases o with
 |nx J=>show⟨_,_,rfl,q⟩|rt v=>show⟨_,_,rfl,q⟩|bk J=>show q.elim|ct J=>show q.elim|er c fs J=>show q.elim
def CQ(I:Nat->Vs->S->Prop)(h0:I 0 J s)(hb:∀i x J s,c[i]?=some x->I i J s->WS (b x J) s λo s'=>∃J',o=.nx J'/\I (i+1) J' s')
  (he:∀J s,I c.length J s->Q (.nx J) s):WS (dR (.fix c) b (c.length+1) 0 J) s Q:=by
 let key:∀n i J s,i+n=c.length->I i J s->WS (dR (.fix c) b (n+1) i J) s Q:=by
  intro n
  induction n with
  |zero=>
   intro i J s hi hI;let e:c[i]?=none:=by rw[qm];lia
   let:i=c.length:=by lia
   subst this;show⟨_,s,?_,he J s hI⟩;unfold dR;simp only[Src.at,e]
  |succ n ih=>
   intro i J s hi hI;let cW:i<c.length:=by lia
   let e:c[i]?=some c[i]:=cB cW;let⟨o,s',eb,J',rfl,CT⟩:=hb i c[i] J s e hI;let⟨o2,s2,e2,q⟩:=ih (i+1) J' s' gV CT;show⟨o2,s2,?_,q⟩;unfold dR;simp only[Src.at,e,eb];show e2
 show key c.length 0 J s gV h0
def zpn{i j:Int}(h:(-(2^64)<i/\i<2^64)\/(-(2^64)<j/\j<2^64)):prim .mul [.int i,.int j]=some (.dat (.int (i*j))):=by
 change Option.map _ (if _ then _ else _)=_;rw[if_pos h];rfl
def zoR{i j:Int}(h:0<j):prim .mod [.int i,.int j]=some (.dat (.int (i%j))):=by
 change Option.map _ (if _ then _ else _)=_;rw[if_pos h];rfl
def zlo{i j:Int}(h:0<j/\j<1073741824):prim .fdiv [.int i,.int j]=some (.dat (.int (i/j))):=by
 change Option.map _ (if _ then _ else _)=_;rw[if_pos h];rfl
def ziE{i j:Int}(h:0<j/\j<1073741824):prim .divmod [.int i,.int j]=some (.dat (.tup [.int (i/j),.int (i%j)])):=by
 change Option.map _ (if _ then _ else _)=_;rw[if_pos h];rfl
def zo8{i j:Int}(h:0<=j/\j<=1000000/\i.natAbs<2^64):prim .pow [.int i,.int j]=some (.dat (.int (i^j.toNat))):=by
 change Option.map _ (if _ then _ else _)=_;rw[if_pos h];rfl
def Kg{xs:List D}{i:Nat}{x:D}(h:xs[i]?=some x):prim .ix [.fl xs,.int i]=some (.dat x):=by
 change Option.map Rz.dat (L2.qG xs i)=_;let:L2.qG xs (i:Int)=some x:=by
  unfold L2.qG L2.rQ;let hl:i<xs.length:=(cJ.mp h).1;simp[hl];show(cJ.mp h).2
 rw[this];rfl
def NT(h:xs.length+ys.length<=sizeLine):prim .add [.fl xs,.fl ys]=some (.nw (xs++ys)):=by
 change (if _ then _ else _)=_;rw[if_pos h]
def W.ite[Decidable c](h1:c->W m1 s P)(h2:¬c->W m2 s P):W (if c then m1 else m2) s P:=by
 by_cases h:c
 .rw[if_pos h];show h1 h
 .rw[if_neg h];show h2 h
def WS.ite[Decidable c](h1:c->WS m1 s P)(h2:¬c->WS m2 s P):WS (if c then m1 else m2) s P:=by
 by_cases h:c
 .rw[if_pos h];show h1 h
 .rw[if_neg h];show h2 h
theorem Uh{n:Nat}{xs:List D}{s:S}{P:Unit->S->Prop}(h:P () (s.set n (.lst xs))):W (putL n xs) s P:=⟨_,_,rfl,h⟩
theorem W.cX{n:Nat}{xs:List D}{s:S}{P:Nat×List D->S->Prop}(e:s[n]?=some (.lst xs))(h:P (n,xs) s):W (cX (.l n)) s P:=⟨_,s,by unfold Mi.cX;simp only[e],h⟩
theorem Kbe{xs:List D}{s:S}{P:Src×Nat->S->Prop}(h:P (.fix xs,xs.length) s):W (src (.d (.tup xs))) s P:=⟨_,s,rfl,h⟩
theorem Kbd{xs:List D}{s:S}{P:Src×Nat->S->Prop}(h:P (.fix xs,xs.length) s):W (src (.d (.fl xs))) s P:=⟨_,s,rfl,h⟩
theorem WS.nil{aq:Nat->Nat->Bool}{aj:Bool}{F:Bool->Fn}{J:Vs}{s:S}{Q:Out->S->Prop}(h:Q (.nx J) s):WS (exs aq aj F .nil J) s Q:=⟨_,s,rfl,h⟩
def WS.cons{aq:Nat->Nat->Bool}{aj:Bool}{F:Bool->Fn}{a:St}{r:bM}{J:Vs}{s:S}{Q:Out->S->Prop}(h:WS (ex aq aj F a J) s λo s'=>match o with|.nx J'=>WS (exs aq aj F r J') s' Q|.rt x=>Q (.rt x) s'|_=>False):WS (exs aq aj F (.cons a r) J) s Q:=by
 let⟨o,s',e,q⟩:=h;unfold WS exs Mi.cM;rw[e];cases o with
 |nx J'=>show q|rt x=>show⟨_,_,rfl,q⟩|bk _=>show q.elim|ct _=>show q.elim|er _ _ _=>show q.elim
def tG{α:Type}(o:Option α)(P:α->Prop):Prop:=∃a,o=some a/\P a
theorem tG.mk{α:Type}{o:Option α}{P:α->Prop}{a:α}(e:o=some a)(h:P a):tG o P:=⟨a,e,h⟩
section
variable {aq:Nat->Nat->Bool}{aj:Bool}{F:Fn}{J:Vs}{s:S}{P:Xv->S->Prop}
theorem W.eC{d:D}(h:P (.d d) s):W (ev aq aj F (.c d) J) s P:=W.ret h
theorem W.eV{i:Nat}{x:Xv}(e:J[i]?.join=some x)(h:P x s):W (ev aq aj F (.v i) J) s P:=W.opt e h
theorem KaN{fz:Bool}{p:Pr}{xs:Es}(h:W (evs aq aj F xs J) s λvs s1=>W (gH vs) s1 λds s2=>W (b_ fz (prim p ds)) s2 P):W (ev aq aj F (.pr fz p xs) J) s P:=W.bd (h.imp λ_ _ h=>W.bd h)
theorem KaE{a b:E}(h:W (ev aq aj F a J) s λx s1=>W (Mi.bool x) s1 λk s2=>W (if k=true then ev aq aj F b J else M.ret (.d (.bl false))) s2 P):W (ev aq aj F (.and a b) J) s P:=W.bd (h.imp λ_ _ h=>W.bd h)
theorem KaM{a b:E}(h:W (ev aq aj F a J) s λx s1=>W (Mi.bool x) s1 λk s2=>W (if k=true then M.ret (.d (.bl true)) else ev aq aj F b J) s2 P):W (ev aq aj F (.or a b) J) s P:=W.bd (h.imp λ_ _ h=>W.bd h)
theorem KaL{a:E}(h:W (ev aq aj F a J) s λx s1=>W (Mi.bool x) s1 λk s2=>P (.d (.bl (!k))) s2):W (ev aq aj F (.not a) J) s P:=W.bd (h.imp λ_ _ h=>W.bd (h.imp λ_ _ h=>W.ret h))
theorem KaP{xs:Es}(h:W (evs aq aj F xs J) s λvs s1=>W (cG vs) s1 λds s2=>P (.d (.tup ds)) s2):W (ev aq aj F (.tup xs) J) s P:=W.bd (h.imp λ_ _ h=>W.bd (h.imp λ_ _ h=>W.ret h))
theorem KaK{fz:Bool}{xs:Es}(h:W (evs aq aj F xs J) s λvs s1=>W (cG vs) s1 λds s2=>W (newL fz ds) s2 P):W (ev aq aj F (.lst fz xs) J) s P:=W.bd (h.imp λ_ _ h=>W.bd h)
theorem KaH{k:Str}{i:Int}(h:P (.d (.fd [.str k] [.int i])) s):W (ev aq aj F (.Jl k i) J) s P:=W.ret h
theorem KaF{f:Nat}{xs:Es}(h:W (evs aq aj F xs J) s λvs s1=>W (bY (F f) vs) s1 P):W (ev aq aj F (.call f xs) J) s P:=W.bd h
theorem KaO{fz:Bool}{a:E}{lo hi:Eo}(h:W (ev aq aj F a J) s λx s1=>W (w6 aq aj F lo J) s1 λl s2=>W (w6 aq aj F hi J) s2 λu s3=>W (rd x) s3 λd s4=>W (b_ fz (cutD d l u)) s4 P):W (ev aq aj F (.sl fz a lo hi) J) s P:=W.bd (h.imp λ_ _ h=>W.bd (h.imp λ_ _ h=>W.bd (h.imp λ_ _ h=>W.bd h)))
theorem Ka0{P:Option Int->S->Prop}(h:P none s):W (w6 aq aj F .no J) s P:=W.ret h
theorem Ka1{a:E}{P:Option Int->S->Prop}(h:W (ev aq aj F a J) s λx s1=>W (Mi.int x) s1 λi s2=>P (some i) s2):W (w6 aq aj F (.yes a) J) s P:=W.bd (h.imp λ_ _ h=>W.bd (h.imp λ_ _ h=>W.ret h))
theorem Kam{P:List Xv->S->Prop}(h:P [] s):W (evs aq aj F .nil J) s P:=W.ret h
theorem Kal{a:E}{r:Es}{P:List Xv->S->Prop}(h:W (ev aq aj F a J) s λx s1=>W (evs aq aj F r J) s1 λxs s2=>P (x::xs) s2):W (evs aq aj F (.cons a r) J) s P:=W.bd (h.imp λ_ _ h=>W.bd (h.imp λ_ _ h=>W.ret h))
theorem KaV{a:E}{P:Src×Nat->S->Prop}(h:W (ev aq aj F a J) s λx s1=>W (src x) s1 P):W (g8 aq aj F (.seq a) J) s P:=W.bd h
end
section
variable {aq:Nat->Nat->Bool}{aj:Bool}{F:Bool->Fn}{J:Vs}{s:S}{Q:Out->S->Prop}
def WS.Ui{b:Bool}{m1 m2:MS}(e:b=true)(h:WS m1 s Q):WS (if b=true then m1 else m2) s Q:=by rw[if_pos e];show h
def WS.Uj{b:Bool}{m1 m2:MS}(e:b=false)(h:WS m2 s Q):WS (if b=true then m1 else m2) s Q:=by rw[if_neg (by rw[e];decide)];show h
def WS.zN{m1 m2:MS}(h:WS m1 s Q):WS (if true=true then m1 else m2) s Q:=by rw[if_pos rfl];show h
def WS.Uk{m1 m2:MS}(h:WS m2 s Q):WS (if false=true then m1 else m2) s Q:=by rw[if_neg J0];show h
theorem Kbk{e:E}(h:W (ev aq aj (F aj) e J) s λ_ s1=>Q (.nx J) s1):WS (ex aq aj F (.ex e) J) s Q:=WS.ofM (h.imp λ_ _ h=>WS.nx h)
theorem Kbn{i:Nat}{e:E}(h:W (ev aq aj (F aj) e J) s λx s1=>Q (.nx (J.set i (some x))) s1):WS (ex aq aj F (.asg (.nm i) e) J) s Q:=WS.ofM (h.imp λ_ _ h=>WS.nx h)
def Kbs{is:List Nat}{e:E}(h:W (ev aq true (F true) e J) s λx s1=>W (dat x) s1 λd s2=>tG ((jV d).bind λds=>fV is (ds.map .d) J) λJ'=>Q (.nx J') s2):WS (ex aq true F (.asg (.tp is) e) J) s Q:=by
 show WS.ofM (h.imp λx s1 h=>?_);show WS.zN (m2:=λ_=>none) (WS.ofM (W.bd (h.imp λd s2 ⟨J',e,q⟩=>W.opt e (WS.nx q))))
def Kbr{o i e:E}(h:W (ev aq aj (F aj) e J) s λx s1=>W (dat x) s1 λd s2=>W (ev aq aj (F aj) o J) s2 λy s3=>W (ev aq aj (F aj) i J) s3 λz s4=>W (Mi.int z) s4 λj s5=>W (cX y) s5 λnx s6=>tG (L2.rQ nx.2.length j) λq=>Q (.nx J) (s6.set nx.1 (.lst (nx.2.set q d)))):WS (ex aq aj F (.asg (.aq o i) e) J) s Q:=by
 show WS.ofM (h.imp λx s1 h=>WS.ofM (W.bd (h.imp λd s2 h=>W.bd (h.imp λy s3 h=>W.bd (h.imp λz s4 h=>W.bd (h.imp λj s5 h=>W.bd (h.imp λnx s6 h=>?_)))))));let⟨q,e,h⟩:=h;simp only[e];show Uh (WS.nx h)
def Kbo{i j:Nat}{a b:E}(h:W (ev aq true (F true) a J) s λx s1=>W (ev aq true (F true) b J) s1 λy s2=>Q (.nx ((J.set i (some x)).set j (some y))) s2):WS (ex aq true F (.par i j a b) J) s Q:=by
 show WS.zN (m2:=λ_=>none) (WS.ofM (W.bd (h.imp λx s1 h=>W.bd (h.imp λy s2 h=>W.ret (WS.nx h)))))
theorem Kbp{e:E}(h:W (ev aq aj (F aj) e J) s λx s1=>Q (.rt x) s1):WS (ex aq aj F (.ret e) J) s Q:=WS.ofM (h.imp λ_ _ h=>WS.rt h)
theorem Kbm{c:E}{t e:bM}(h:W (ev aq aj (F aj) c J) s λx s1=>W (Mi.bool x) s1 λb s2=>WS (if b=true then exs aq aj F t J else exs aq aj F e J) s2 Q):WS (ex aq aj F (.iff c t e) J) s Q:=WS.ofM (W.bd h)
def Kbl{t:Tg}{w:Wk}{b:bM}(h:W (g8 aq true (F true) w J) s λcn s1=>WS (dR cn.1 (λd J=>Mi.cM (store aq true (F true) t (.d d) J) λJ'=>exs aq true F b J') (cn.2+1) 0 J) s1 Q):WS (ex aq true F (.fr t w b) J) s Q:=by
 show WS.zN (m2:=λ_=>none) (WS.ofM h)
end
def W.Ui{α:Type}{b:Bool}{m1 m2:M α}{s:S}{P:α->S->Prop}(e:b=true)(h:W m1 s P):W (if b=true then m1 else m2) s P:=by rw[if_pos e];show h
def W.Uj{α:Type}{b:Bool}{m1 m2:M α}{s:S}{P:α->S->Prop}(e:b=false)(h:W m2 s P):W (if b=true then m1 else m2) s P:=by rw[if_neg (by rw[e];decide)];show h
def W.zN{α:Type}{m1 m2:M α}{s:S}{P:α->S->Prop}(h:W m1 s P):W (if true=true then m1 else m2) s P:=by rw[if_pos rfl];show h
def W.Uk{α:Type}{m1 m2:M α}{s:S}{P:α->S->Prop}(h:W m2 s P):W (if false=true then m1 else m2) s P:=by rw[if_neg J0];show h
structure Bx(R:Prop):Prop where
 o:R
end Mi
namespace Mi
open PySem PySem.W PyProof.Rows L2
def sS{α:Type}(lt:Nat->Nat->Option Bool)(t:KasT α)(P:α->Prop):Prop:=∃a,bV lt t=some a/\P a
section
variable {α β:Type}{lt:Nat->Nat->Option Bool}{n:Nat}
theorem sS.ret(h:P a):sS lt (.ret a) P:=⟨a,rfl,h⟩
theorem sS.bind(hf:∀a,P a->sS lt (f a) R):∀{t:KasT α},sS lt t P->sS lt (t.bind f) R
 |.ret a,⟨a',e,h⟩=>by cases e;show hf _ h|.ask i j k,⟨a',e,h⟩=>by
  unfold bV at e;cases el:lt i j with
  |none=>rw[el]at e;cases e|some b=>
   rw[el]at e;let⟨c,e1,h1⟩:=sS.bind hf (t:=k b) ⟨a',e,h⟩;show⟨c,?_,h1⟩;change bV lt (.ask i j λb=>(k b).bind f)=some c;unfold bV;rw[el];show e1
def Tot(n:Nat)(lt:Nat->Nat->Option Bool):Prop:=∀i j,i<n->j<n->∃b,lt i j=some b
variable (ht:Tot n lt)(hn:0<n)
include ht hn
end
section
variable {lt:Nat->Nat->Option Bool}{n:Nat}
theorem zg6(h:∀k,1<=k->k<n->lt (p.getD k 0) (p.getD (k-1) 0)=some false):∀f k,1<=k->k+f=n->sS lt (kas_asc p f k) λr=>r=n
 |0,k,h1,e=>.ret gV|f+1,k,h1,e=>by
  let⟨a,e1,e2⟩:=zg6 h f (k+1) gV gV;show⟨a,?_,e2⟩;unfold kas_asc bV;rw[h k h1 gV];show e1
def zes(hk:k<n):(List.range n).toArray.getD k 0=k:=by
 simp[Array.getD,hk]
def zgW(hn:0<n)(h:∀k,k+1<n->lt (k+1) k=some false):bV lt (kas_sort n)=some (List.range n).toArray:=by
 let h1:sS lt (kas_asc (List.range n).toArray (n-1) 1) λr=>r=n:=zg6 (λk a b=>by
  rw[zes b,zes gV];let:=h (k-1) gV
  rwa [show k-1+1=k by lia]at this) _ _ (bQ _) gV
 let h2:sS lt (kas_count n (List.range n).toArray) λr=>r=(n,(List.range n).toArray):=by
  show sS.bind (λr hr=>?_) h1;subst hr;rw[if_pos R3];show .ret rfl
 let h3:sS lt (kas_sort n) λr=>r=(List.range n).toArray:=by
  show sS.bind (λr hr=>?_) h2;subst hr;rw[if_neg (rF _)];show .ret rfl
 let⟨a,e,rfl⟩:=h3;show e
end
def zia(hk:(xs.all mV||xs.all i_)=true)(uL:xs.length<64)(h:∀k,k+1<xs.length->yZ xs (k+1) k=some false):BX xs=some xs:=by
 unfold BX;rw[if_pos hk];unfold qM;by_cases h2:xs.length<2
 .rw[if_pos h2]
 .rw[if_neg h2,if_pos uL,zgW gV h];dsimp only;rw[if_pos R3]
  congr 1
  apply List.ext_getElem
  .simp
  .intro i a b;simp[jL,b]
def iG(p:Int×Int):D:=.tup [.int p.1,.int p.2]
end Mi
namespace Mi
open PySem
def W.walk{c:List D}{f:D->List D->M (List D)}{s:S}{acc:List D}{P:List D->S->Prop}(I:Nat->List D->S->Prop)(h0:I 0 acc s)(hb:∀i x acc s,c[i]?=some x->I i acc s->W (f x acc) s λa s'=>I (i+1) a s')
  (he:∀acc s,I c.length acc s->P acc s):W (Mi.walk (.fix c) f (c.length+1) 0 acc) s P:=by
 let key:∀n i acc s,i+n=c.length->I i acc s->W (Mi.walk (.fix c) f (n+1) i acc) s P:=by
  intro n
  induction n with
  |zero=>
   intro i acc s hi hI;let e:c[i]?=none:=by rw[qm];lia
   let:i=c.length:=by lia
   subst this;show⟨acc,s,?_,he acc s hI⟩;unfold Mi.walk;simp only[Src.at,e]
  |succ n ih=>
   intro i acc s hi hI;let cW:i<c.length:=by lia
   let e:c[i]?=some c[i]:=cB cW;let⟨a,s',eb,CT⟩:=hb i c[i] acc s e hI;let⟨a2,s2,e2,q⟩:=ih (i+1) a s' gV CT;show⟨a2,s2,?_,q⟩;unfold Mi.walk;simp only[Src.at,e,M.bd,eb];show e2
 show key c.length 0 acc s gV h0
section
variable {aq:Nat->Nat->Bool}{F:Fn}{J:Vs}{s:S}{P:Xv->S->Prop}
def Kax{fz:Bool}{elt:E}{tg:List Nat}{it:Wk}{fr:List Nat}{many:Nat}{cond:Eo}{c:List D}(g:D->Option D)(hc:c.length<=sizeLine)
  (hw:W (g8 aq true F it J) s λcn s1=>cn=(.fix c,c.length)/\s1=s)
  (hb:∀x∈c,∃J',dz tg x (blk many fr J)=some J'/\W (nu aq true F cond J') s λb s1=>s1=s/\(if b=true then W (ev aq true F elt J') s λy s2=>s2=s/\∃d,y=.d d/\g x=some d else g x=none))
  (h:W (newL fz (c.filterMap g)) s P):W (ev aq true F (.comp fz elt tg it fr many cond) J) s P:=by
 change W (_root_.ite (true=true) _ _) s P
 rw[if_pos rfl];show W.bd (hw.imp λcn s1=>?_);rintro⟨rfl,rfl⟩;show W.bd ?_;show W.walk (c:=c) (λi acc s'=>s'=s1/\acc=(c.take i).filterMap g) ⟨rfl,rfl⟩ (λi x acc s' e hI=>?_) (λacc s' hI=>?_)
 .obtain⟨rfl,rfl⟩:=hI;let hi:i<c.length:=(cJ.mp e).1;let ht:c.take (i+1)=c.take i++[x]:=by rw[Ak,e];rfl
  let hl:((c.take i).filterMap g).length<sizeLine:=Nat.lt_of_le_of_lt (DN _ _) (by rw[rD];lia);let⟨J',e1,h1⟩:=hb x (dG e);show W.bd (W.opt e1 ?_);show W.bd (W.qt (h1.imp λb s2=>?_));rintro⟨rfl,h2⟩;rw[ht,Lb];cases b
  .rw[if_neg J0]at h2 ⊢;show W.ret ⟨rfl,?_⟩;simp[h2]
  .rw[if_pos rfl]at h2 ⊢;show W.bd (W.qt (h2.imp λy s3=>?_));rintro⟨rfl,d,rfl,eg⟩;show W.bd (W.dat ?_);rw[if_pos hl];show W.ret ⟨rfl,?_⟩;simp[eg]
 .obtain⟨rfl,rfl⟩:=hI;rw[wu];show h
end
section
variable {aq:Nat->Nat->Bool}{aj:Bool}{F:Fn}{J:Vs}{s:S}{P:Xv->S->Prop}
theorem KaI(h:W (ev aq aj F a J) s λx s1=>W (rd x) s1 λd s2=>∃b,lR aq d k=some b/\P (.d (.bl b)) s2):W (ev aq aj F (.qK a k) J) s P:=
 W.bd (h.imp λ_ _ h=>W.bd (h.imp λ_ _ ⟨_,e,h⟩=>W.bd (W.opt e (W.ret h))))
theorem KaG(h:W (ev aq aj F a J) s λx s1=>W (ev aq aj F b J) s1 λy s2=>W (gH [x,y]) s2 λds s3=>W (b_ true (prim p ds)) s3 λt s4=>W (Mi.bool t) s4 λk s5=>
  W (if k=true then M.bd (ev aq aj F c J) λz=>M.bd (gH [y,z]) λds=>b_ true (prim q ds) else M.ret (.d (.bl false))) s5 P):W (ev aq aj F (.yX p q a b c) J) s P:=
 W.bd (h.imp λ_ _ h=>W.bd (h.imp λ_ _ h=>W.bd (h.imp λ_ _ h=>W.bd (h.imp λ_ _ h=>W.bd h))))
end
def Kh(fz:Bool):Option Rz->Option Xv
 |some (.dat d)=>some (.d d)|some (.nw ys)=>match fz with
  |true=>some (.d (.fl ys))|false=>none
 |none=>none
def addQ:D->D->Option Rz
 |.int i,.int j=>some (.dat (.int (i+j)))|_,_=>none
def zO:List D->Option Rz
 |a::r=>match r with
  |b::r=>match r with
   |[]=>addQ a b|_::_=>none
  |[]=>none
 |[]=>none
def quick:Pr->Bool
 |.rR=>false|.Fj=>false|.mul=>false|.fdiv=>false|.mod=>false|.pow=>false|.divmod=>false|.sorted=>false|.mult=>false|_=>true
def qY(p:Pr)(ds:List D):Option Rz:=match p with
 |.add=>zO ds|p=>match quick p with
  |true=>prim p ds|false=>none
def Kl{ds:List D}{r:Rz}(h:zO ds=some r):BK ds=some r:=by
 cases ds with
 |nil=>cases h|cons a t=>cases t with
  |nil=>cases h|cons b t=>cases t with
   |cons _ _=>cases h|nil=>cases a with
    |int i=>cases b with
     |int j=>show h|_=>cases h
    |_=>cases h
def CV{p:Pr}{ds:List D}{r:Rz}(h:qY p ds=some r):prim p ds=some r:=by
 cases p with
 |add=>show Kl h|_=>first|exact h|cases h
def Ul(fz:Bool)(ds:List D):Option Xv:=match fz with
 |true=>some (.d (.fl ds))|false=>none
def Km:Xv->Option D
 |.d x=>some x|.l _=>none
def obP(c:Nat):Xv->Option (List D)
 |.d (.ob e fs)=>if e=c then some fs else none|_=>none
def notP:Xv->Option Xv
 |.d (.bl b)=>some (.d (.bl (!b)))|_=>none
def Um(r:Option Xv):Xv->Option Xv
 |.d (.bl true)=>r|.d (.bl false)=>some (.d (.bl false))|_=>none
def orP(r:Option Xv):Xv->Option Xv
 |.d (.bl true)=>some (.d (.bl true))|.d (.bl false)=>r|_=>none
section
variable (aq:Nat->Nat->Bool)
mutual
noncomputable def dF:E->Vs->Option Xv
 |.c d,_=>some (.d d)|.v i,J=>J[i]?.join|.pr fz p xs,J=>(qd xs J).bind λds=>Kh fz (qY p ds)|.tup xs,J=>(qd xs J).bind λds=>some (.d (.tup ds))|.lst fz xs,J=>(qd xs J).bind λds=>Ul fz ds|.not a,J=>(dF a J).bind notP|.and a b,J=>(dF a J).bind (Um (dF b J))|.or a b,J=>(dF a J).bind (orP (dF b J))|.qK a k,J=>(dF a J).bind λx=>(Km x).bind λd=>(lR aq d k).bind λb=>some (.d (.bl b))|.of o c i,J=>(dF o J).bind λx=>(obP c x).bind λfs=>fs[i]?.map .d|_,_=>none
noncomputable def qd:Es->Vs->Option (List D)
 |.nil,_=>some []|.cons a r,J=>(dF a J).bind λx=>(Km x).bind λd=>(qd r J).bind λds=>some (d::ds)
end
def oR:Es->Vs->Option (List Xv)
 |.nil,_=>some []|.cons a r,J=>(dF aq a J).bind λx=>(oR r J).bind λxs=>some (x::xs)
end
theorem m6{α β:Type}{o:Option α}{f:α->Option β}{b:β}(h:o.bind f=some b):∃a,o=some a/\f a=some b:=v8.mp h
def jx{α β:Type}{m:M α}{k:α->M β}{s s':S}{a:α}(e:m s=some (.ok a,s')):M.bd m k s=k a s':=by
 change (match m s with|some (.ok a,s')=>k a s'|some (.er c f,s')=>some (.er c f,s')|none=>none)=_;rw[e]
theorem CW(s:S):∀ds:List D,gH (ds.map .d) s=some (.ok ds,s)
 |[]=>rfl|d::r=>(jx (s':=s) (a:=d) rfl).trans ((jx (CW s r)).trans rfl)
theorem vm(s:S):∀ds:List D,cG (ds.map .d) s=some (.ok ds,s)
 |[]=>rfl|d::r=>(jx (s':=s) (a:=d) rfl).trans ((jx (vm s r)).trans rfl)
def Uo{fz:Bool}{p:Pr}{ds:List D}{x:Xv}{s:S}(h:Kh fz (qY p ds)=some x):b_ fz (prim p ds) s=some (.ok x,s):=by
 cases o:qY p ds with
 |none=>rw[o]at h;cases h|some r=>
  rw[o]at h;rw[CV o];cases r with
  |dat d=>cases h;rfl|nw ys=>cases fz with
   |true=>cases h;rfl|false=>cases h
section
variable {aq:Nat->Nat->Bool}{aj:Bool}{F:Fn}{J:Vs}{s:S}
def fZ(e:E):∀x:Xv,dF aq e J=some x->ev aq aj F e J s=some (.ok x,s):=by
 show E.rec (motive_1:=λe=>∀x:Xv,dF aq e J=some x->ev aq aj F e J s=some (.ok x,s)) (motive_2:=λ_=>True) (motive_3:=λxs=>∀ds:List D,qd aq xs J=some ds->evs aq aj F xs J s=some (.ok (ds.map .d),s)) (motive_4:=λ_=>True)
  ?c ?v ?pr (λ_ _ _ _ _ _ _ _ _ h=>nomatch h) (λ_ _ _ _ _ _ _ _ _ _ _ _ h=>nomatch h) ?and ?or ?not (λ_ _ _ _ _ _ _ h=>nomatch h) ?tup ?lst (λ_ _ _ h=>nomatch h) (λ_ _ _ _ h=>nomatch h) ?qK (λ_ _ _ _ _ _ _ _ h=>nomatch h) (λ_ _ _ _ _ _ _ _ h=>nomatch h) (λ_ _ _ _ _ h=>nomatch h) (λ_ _ _ h=>nomatch h)
  (λ_ _ _ _ _ _ _ _ _ _ _ h=>nomatch h) (λ_ _ _ _ _ _ _ _ _ _ _ _ _ _ h=>nomatch h) (λ_ _ _ _ _ h=>nomatch h) ?of (λ_ _ _ _ _ h=>nomatch h) (λ_ _ _ _ _ _ _ h=>nomatch h) (λ_ h=>nomatch h) (λ_ _ _ _ _ _ h=>nomatch h) (λ_ _ _ _ _ h=>nomatch h) (λ_ _ _ h=>nomatch h) (λ_ _ _ _ _ _ h=>nomatch h) (λ_ _ _ _ _ h=>nomatch h) (λ_ _ _ _ _ _ _ h=>nomatch h) (λ_ h=>nomatch h)
  (λ_ _=>trivial) (λ_ _ _ _=>trivial) (λ_ _ _ _=>trivial) (λ_ _=>trivial) (λ_ _=>trivial) ?nil ?cons trivial (λ_ _=>trivial) e
 case c=>intro d x h;cases h;rfl
 case v=>intro i x h;show(show M.opt (J[i]?.join) s=_ from by rw[show J[i]?.join=some x from h];rfl)
 case pr=>
  intro fz p xs ih x h;let⟨ds,e1,e2⟩:=m6 h;show(jx (ih _ e1)).trans ((jx (CW s ds)).trans (Uo e2))
 case tup=>
  intro xs ih x h;let⟨ds,e1,e2⟩:=m6 h;cases e2;show(jx (ih _ e1)).trans ((jx (vm s ds)).trans rfl)
 case lst=>
  intro fz xs ih x h;let⟨ds,e1,e2⟩:=m6 h;cases fz with
  |false=>cases e2|true=>cases e2;show(jx (ih _ e1)).trans ((jx (vm s ds)).trans rfl)
 case not=>
  intro a ih x h;let⟨y,e1,e2⟩:=m6 h;cases y with
  |l n=>cases e2|d y=>cases y with
   |bl b=>cases e2;show(jx (ih _ e1)).trans rfl|_=>cases e2
 case and=>
  intro a b ih ih2 x h;let⟨y,e1,e2⟩:=m6 h;cases y with
  |l n=>cases e2|d y=>cases y with
   |bl b=>cases b with
    |true=>show(jx (ih _ e1)).trans (ih2 _ e2)|false=>cases e2;show(jx (ih _ e1)).trans rfl
   |_=>cases e2
 case or=>
  intro a b ih ih2 x h;let⟨y,e1,e2⟩:=m6 h;cases y with
  |l n=>cases e2|d y=>cases y with
   |bl b=>cases b with
    |true=>cases e2;show(jx (ih _ e1)).trans rfl|false=>show(jx (ih _ e1)).trans (ih2 _ e2)
   |_=>cases e2
 case qK=>
  intro a k ih x h;let⟨y,e1,e2⟩:=m6 h;cases y with
  |l n=>cases e2|d y=>
   let⟨d,e3,e4⟩:=m6 e2;cases e3;let⟨b,e5,e6⟩:=m6 e4;cases e6;show(jx (ih _ e1)).trans ((jx (s':=s) (a:=y) rfl).trans ((jx (s':=s) (a:=b) ?_).trans rfl));rw[e5];rfl
 case of=>
  intro o c i ih x h;let⟨y,e1,e2⟩:=m6 h;let⟨fs,e3,e4⟩:=m6 e2;show(jx (ih _ e1)).trans ((jx (s':=s) (a:=fs) ?_).trans ?_)
  .cases y with
   |l n=>cases e3|d y=>cases y with
    |ob e gs=>
     let e3:(if e=c then some gs else none)=some fs:=e3;change (if e=c then M.ret gs else M.no) s=_;split at e3
     .rename_i h;cases e3;rw[if_pos h];rfl
     .cases e3
    |_=>cases e3
  .show M.opt (fs[i]?.map Xv.d) s=_;rw[e4];rfl
 case nil=>intro ds h;cases h;rfl
 case cons=>
  intro a r ih ih2 ds h;let⟨y,e1,e2⟩:=m6 h;cases y with
  |l n=>cases e2|d y=>
   let⟨d,e3,e4⟩:=m6 e2;cases e3;let⟨rs,e5,e6⟩:=m6 e4;cases e6;show(jx (ih _ e1)).trans ((jx (ih2 _ e5)).trans rfl)
theorem vo:∀(xs:Es) (ds:List D),qd aq xs J=some ds->evs aq aj F xs J s=some (.ok (ds.map .d),s)
 |.nil,ds,h=>by cases h;rfl|.cons a r,ds,h=>by
  let⟨y,e1,e2⟩:=m6 h;cases y with
  |l n=>cases e2|d y=>
   let⟨d,e3,e4⟩:=m6 e2;cases e3;let⟨rs,e5,e6⟩:=m6 e4;cases e6;show(jx (fZ a _ e1)).trans ((jx (vo r _ e5)).trans rfl)
theorem jK:∀(xs:Es) {vs:List Xv},oR aq xs J=some vs->evs aq aj F xs J s=some (.ok vs,s)
 |.nil,vs,h=>by cases h;rfl|.cons a r,vs,h=>by
  let⟨y,e1,e2⟩:=m6 h;let⟨ys,e3,e4⟩:=m6 e2;cases e4;show(jx (fZ a _ e1)).trans ((jx (jK r e3)).trans rfl)
variable {P:Xv->S->Prop}
theorem W.pv{e:E}{x:Xv}(h:dF aq e J=some x)(k:P x s):W (ev aq aj F e J) s P:=W.eq (fZ e _ h) k
theorem Ka7{f:Nat}{xs:Es}{vs:List Xv}(h:oR aq xs J=some vs)(k:W (bY (F f) vs) s P):W (ev aq aj F (.call f xs) J) s P:=KaF (W.eq (jK xs h) k)
theorem Ka8{fz:Bool}{p:Pr}{xs:Es}{ds:List D}(h:qd aq xs J=some ds)(k:W (b_ fz (prim p ds)) s P):W (ev aq aj F (.pr fz p xs) J) s P:=KaN (W.eq (vo xs _ h) (W.eq (CW s ds) k))
theorem Ka6{xs:Es}{vs:List Xv}{P:List Xv->S->Prop}(h:oR aq xs J=some vs)(k:P vs s):W (evs aq aj F xs J) s P:=W.eq (jK xs h) k
end
section
variable {aq:Nat->Nat->Bool}{aj:Bool}{F:Bool->Fn}{J:Vs}{s:S}{Q:Out->S->Prop}{e:E}{r:bM}
theorem Kbi{i:Nat}{x:Xv}(h:dF aq e J=some x)(k:WS (exs aq aj F r (J.set i (some x))) s Q):WS (exs aq aj F (.cons (.asg (.nm i) e) r) J) s Q:=WS.cons (Kbn (W.pv h k))
theorem Kbj{x:Xv}(h:dF aq e J=some x)(k:Q (.rt x) s):WS (exs aq aj F (.cons (.ret e) r) J) s Q:=WS.cons (Kbp (W.pv h k))
theorem Kbh{b:Bool}{t u:bM}(h:dF aq e J=some (.d (.bl b)))(k:WS (if b=true then exs aq aj F t J else exs aq aj F u J) s λo s'=>match o with|.nx J'=>WS (exs aq aj F r J') s' Q|.rt x=>Q (.rt x) s'|_=>False):WS (exs aq aj F (.cons (.iff e t u) r) J) s Q:=WS.cons (Kbm (W.pv h (W.bool k)))
end
section
variable {aq:Nat->Nat->Bool}{aj:Bool}{F:Bool->Fn}{J:Vs}{s:S}{Q:Out->S->Prop}{c:Nat}{fs:List D}
def Kbq{c:Nat}{kp:Bool}{xs:Es}(h:W (evs aq true (F true) xs J) s λvs s1=>W (cG vs) s1 λds s2=>Q (.er c (if kp=true then ds else []) J) s2):WS (ex aq true F (.rise c kp xs) J) s Q:=by
 show WS.zN (m2:=λ_=>none) (WS.ofM (W.bd (h.imp λvs s1 h=>h.imp λds s2 h=>?_)));show⟨_,s2,rfl,h⟩
def Kbv{m:MS}{k:Vs->MS}(h:WS m s λo s'=>match o with|.nx J'=>WS (k J') s' Q|.rt x=>Q (.rt x) s'|_=>False):WS (Mi.cM m k) s Q:=by
 let⟨o,s',e,q⟩:=h;unfold WS Mi.cM;rw[e];cases o with
 |nx J'=>show q|rt x=>show⟨_,_,rfl,q⟩|bk _=>show q.elim|ct _=>show q.elim|er _ _ _=>show q.elim
theorem Kbt{F:Fn}{i:Nat}{x:Xv}(h:Q (.nx (J.set i (some x))) s):WS (store aq aj F (.nm i) x J) s Q:=⟨_,s,rfl,h⟩
def Kbu{F:Fn}{is:List Nat}{d:D}(h:tG ((jV d).bind λds=>fV is (ds.map .d) J) λJ'=>Q (.nx J') s):WS (store aq true F (.tp is) (.d d) J) s Q:=by
 let⟨J',e,q⟩:=h;show WS.zN (m2:=λ_=>none) (WS.ofM (W.bd (W.dat (W.opt e (WS.nx q)))))
end
section
variable {aq:Nat->Nat->Bool}{aj:Bool}{F:Fn}{J:Vs}{s:S}{P:Xv->S->Prop}
theorem W.qK{a:E}{k:Kd}(h:W (ev aq aj F a J) s λx s1=>W (rd x) s1 λd s2=>tG (lR aq d k) λb=>P (.d (.bl b)) s2):W (ev aq aj F (.qK a k) J) s P:=KaI h
theorem W.yX{p q:Pr}{a b c:E}(h:W (ev aq aj F a J) s λx s1=>W (ev aq aj F b J) s1 λy s2=>W (gH [x,y]) s2 λds s3=>W (b_ true (prim p ds)) s3 λt s4=>W (Mi.bool t) s4 λk s5=>
  W (if k=true then M.bd (ev aq aj F c J) λz=>M.bd (gH [y,z]) λds=>b_ true (prim q ds) else M.ret (.d (.bl false))) s5 P):W (ev aq aj F (.yX p q a b c) J) s P:=KaG h
theorem KaJ{c a b:E}(h:W (ev aq aj F c J) s λx s1=>W (Mi.bool x) s1 λk s2=>W (if k=true then ev aq aj F a J else ev aq aj F b J) s2 P):W (ev aq aj F (.ite c a b) J) s P:=W.bd (h.imp λ_ _ h=>W.bd h)
theorem KaS{a:E}{P:Src×Nat->S->Prop}(h:W (ev aq aj F a J) s λx s1=>W (oF x) s1 P):W (g8 aq aj F (.enum a) J) s P:=W.bd h
theorem KaQ{xs:List D}{P:Src×Nat->S->Prop}(h:P (.fix (enumFrom 0 xs),(enumFrom 0 xs).length) s):W (oF (.d (.fl xs))) s P:=⟨_,s,rfl,h⟩
def KaT{a b:E}{P:Src×Nat->S->Prop}(h:W (ev aq aj F a J) s λx s1=>W (ev aq aj F b J) s1 λy s2=>W (Mi.int x) s2 λi s3=>W (Mi.int y) s3 λj s4=>(eY i&&eY j)=true/\P (.fix (gw i j),(gw i j).length) s4):W (g8 aq aj F (.rg a b) J) s P:=by
 show W.bd (h.imp λx s1 h=>W.bd (h.imp λy s2 h=>W.bd (h.imp λi s3 h=>W.bd (h.imp λj s4 h=>?_))));rw[if_pos h.1];show W.ret h.2
theorem KaW{a b:E}{P:Src×Nat->S->Prop}(h:W (ev aq aj F a J) s λx s1=>W (ev aq aj F b J) s1 λy s2=>W (pZ x) s2 λxs s3=>W (pZ y) s3 λys s4=>P (.fix (List.zipWith (λp q=>.tup [p,q]) xs ys),(List.zipWith (λ(p q:D)=>D.tup [p,q]) xs ys).length) s4):W (g8 aq aj F (.zip a b) J) s P:=
 W.bd (h.imp λx s1 h=>W.bd (h.imp λy s2 h=>W.bd (h.imp λxs s3 h=>W.bd (h.imp λys s4 h=>W.ret h))))
theorem W.iC{xs:List D}{P:List D->S->Prop}(h:P xs s):W (pZ (.d (.tup xs))) s P:=W.ret h
theorem W.sY{xs:List D}{P:List D->S->Prop}(h:P xs s):W (pZ (.d (.fl xs))) s P:=W.ret h
theorem Kan{P:Bool->S->Prop}(h:P true s):W (nu aq aj F .no J) s P:=W.ret h
theorem Kao{a:E}{P:Bool->S->Prop}(h:W (ev aq aj F a J) s λx s1=>W (Mi.bool x) s1 P):W (nu aq aj F (.yes a) J) s P:=W.bd h
def Kaz(g:D->D)(hc:c.length<=sizeLine)
  (hw:W (g8 aq true F it J) s λcn s1=>cn=(.fix c,c.length)/\s1=s)
  (hb:∀x∈c,tG (dz tg x (blk many fr J)) λJ'=>W (ev aq true F elt J') s λy s2=>s2=s/\y=.d (g x))
  (h:W (newL fz (c.map g)) s P):W (ev aq true F (.comp fz elt tg it fr many .no) J) s P:=by
 show Kax (c:=c) (λx=>some (g x)) hc hw (λx hx=>?_) ?_
 .obtain⟨J',e,h1⟩:=hb x hx;show⟨J',e,W.ret ⟨rfl,?_⟩⟩;rw[if_pos rfl];show h1.imp λy s2 ⟨a,b⟩=>⟨a,_,b,rfl⟩
 .rw[show c.filterMap (λx=>some (g x))=c.map g by rw[<-List.filterMap_eq_map];rfl];show h
def lX{α:Type}{f:α->D}{l:List α}{fz:Bool}{elt:E}{tg:List Nat}{it:Wk}{fr:List Nat}{many:Nat}{cond:Eo}(g:α->Option D)(hc:l.length<=sizeLine)
  (hw:W (g8 aq true F it J) s λcn s1=>cn=(.fix (l.map f),(l.map f).length)/\s1=s)
  (hb:∀x∈l,tG (dz tg (f x) (blk many fr J)) λJ'=>W (nu aq true F cond J') s λb s1=>s1=s/\(b=true->W (ev aq true F elt J') s λy s2=>s2=s/\∃d,y=.d d/\g x=some d)/\(b=false->g x=none))
  (h:W (newL fz (l.filterMap g)) s P):W (ev aq true F (.comp fz elt tg it fr many cond) J) s P:=by
 change W (_root_.ite (true=true) _ _) s P
 rw[if_pos rfl];show W.bd (hw.imp λcn s1=>?_);rintro⟨rfl,rfl⟩;show W.bd ?_;show W.walk (c:=l.map f) (λi acc s'=>s'=s1/\acc=(l.take i).filterMap g) ⟨rfl,rfl⟩ (λi x acc s' e hI=>?_) (λacc s' hI=>?_)
 .obtain⟨rfl,rfl⟩:=hI;rw[dH]at e;cases el:l[i]? with
  |none=>rw[el]at e;cases e|some y=>
   rw[el]at e;cases e;let hi:i<l.length:=(cJ.mp el).1;let ht:l.take (i+1)=l.take i++[y]:=by rw[Ak,el];rfl
   let hl:((l.take i).filterMap g).length<sizeLine:=Nat.lt_of_le_of_lt (DN _ _) (by rw[rD];lia);let⟨J',e1,h1⟩:=hb y (dG el);show W.bd (W.opt e1 ?_);show W.bd (W.qt (h1.imp λb s2=>?_));rintro⟨rfl,h2,h3⟩;rw[ht,Lb];cases b
   .rw[if_neg J0];show W.ret ⟨rfl,?_⟩;simp[h3 rfl]
   .rw[if_pos rfl];show W.bd (W.qt ((h2 rfl).imp λy s3=>?_));rintro⟨rfl,d,rfl,eg⟩;show W.bd (W.dat ?_);rw[if_pos hl];show W.ret ⟨rfl,?_⟩;simp[eg]
 .obtain⟨rfl,rfl⟩:=hI;rw[bN,wu];show h
def Kay{c:List D}{fz:Bool}{elt:E}{tg:List Nat}{it:Wk}{fr:List Nat}{many:Nat}{cond:Eo}(I:Nat->List D->S->Prop)
  (hw:W (g8 aq true F it J) s λcn s1=>cn=(.fix c,c.length)/\I 0 [] s1)
  (hb:∀i x acc s,c[i]?=some x->I i acc s->tG (dz tg x (blk many fr J)) λJ'=>W (nu aq true F cond J') s λb s1=>(b=true->W (ev aq true F elt J') s1 λy s2=>∃d,y=.d d/\acc.length<sizeLine/\I (i+1) (acc++[d]) s2)/\(b=false->I (i+1) acc s1))
  (h:∀acc s,I c.length acc s->W (newL fz acc) s P):W (ev aq true F (.comp fz elt tg it fr many cond) J) s P:=by
 change W (_root_.ite (true=true) _ _) s P
 rw[if_pos rfl];show W.bd (hw.imp λcn s1=>?_);rintro⟨rfl,h0⟩;show W.bd ?_;show W.walk (c:=c) I h0 (λi x acc s' e hI=>?_) (λacc s' hI=>h acc s' hI);let⟨J',e1,h1⟩:=hb i x acc s' e hI;show W.bd (W.opt e1 ?_);show W.bd (W.qt (h1.imp λb s2=>?_));rintro⟨h2,h3⟩;cases b
 .rw[if_neg J0];show W.ret (h3 rfl)
 .rw[if_pos rfl];show W.bd (W.qt ((h2 rfl).imp λy s3=>?_));rintro⟨d,rfl,hl,hi⟩;show W.bd (W.dat ?_);rw[if_pos hl];show W.ret hi
def W.push{o a:E}(h:W (ev aq aj F o J) s λx s1=>W (Mi.cX x) s1 λ_ s2=>W (ev aq aj F a J) s2 λy s3=>W (Mi.dat y) s3 λd s4=>W (Mi.cX x) s4 λnx s5=>nx.2.length<sizeLine/\P (.d .non) (s5.set nx.1 (.lst (nx.2++[d])))):W (ev aq aj F (.push o a) J) s P:=by
 show W.bd (h.imp λx s1 h=>W.bd (h.imp λ_ s2 h=>W.bd (h.imp λy s3 h=>W.bd (h.imp λd s4 h=>W.bd (h.imp λnx s5 h=>?_)))));rw[if_pos h.1];show W.bd (Uh (W.ret h.2))
end
def zeu{s:S}{o:SO}:(s++[o])[s.length]?=some o:=by simp
theorem Y{P R:Prop}(k:R)(h:Bx R->P:=by
 intro k
 repeat (first|with_reducible first
   |refine Kbi (by with_unfolding_all rfl) ?_|refine Kbj (by with_unfolding_all rfl) ?_|refine Kbh (by with_unfolding_all rfl) ?_|refine W.pv (by with_unfolding_all rfl) ?_|refine Ka8 (by with_unfolding_all rfl) ?_|refine Ka7 (by with_unfolding_all rfl) ?_|refine Ka6 (by with_unfolding_all rfl) ?_
   |refine WS.cons ?_|refine WS.nil ?_|refine Kbv ?_|refine Kbt ?_|refine Kbu ?_|refine Kbn ?_|refine Kbp ?_|refine Kbm ?_|refine Kbs ?_|refine Kbr ?_|refine Kbo ?_|refine Kbk ?_|refine Kbl ?_|refine Kbq ?_|refine WS.zN ?_|refine WS.Uk ?_|refine WS.Ui (by with_unfolding_all rfl) ?_|refine WS.Uj (by with_unfolding_all rfl) ?_|refine tG.mk (by with_unfolding_all rfl) ?_
   |refine Kal ?_|refine Kam ?_|refine W.eC ?_|refine W.eV (by with_unfolding_all rfl) ?_|refine KaN ?_|refine KaF ?_|refine KaP ?_|refine KaK ?_|refine KaL ?_|refine KaE ?_|refine KaM ?_|refine KaJ ?_|refine W.qK ?_|refine W.yX ?_|refine W.push ?_|refine KaO ?_|refine KaH ?_|refine Ka0 ?_|refine Ka1 ?_|refine KaV ?_|refine KaT ?_|refine KaW ?_|refine KaS ?_|refine Kan ?_|refine Kao ?_|refine W.zN ?_|refine W.Uk ?_|refine W.Ui (by with_unfolding_all rfl) ?_|refine W.Uj (by with_unfolding_all rfl) ?_
   |refine Kbb ?_|refine Kbc ?_|refine Ka9 ?_|refine Kba (by with_unfolding_all rfl) ?_|refine Kba zeu ?_|refine KaB ?_|refine KaC ?_|refine W.dat ?_|refine W.bool ?_|refine W.int ?_|refine W.cX (by with_unfolding_all rfl) ?_|refine W.cX zeu ?_|refine Uh ?_|refine Kbe ?_|refine KaQ ?_|refine W.iC ?_|refine W.sY ?_|refine Kbd ?_|refine KaZ ?_|refine KaY ?_
   |refine cj (by first|(with_unfolding_all rfl)|exact zpn (by first|(left;constructor<;>lia)|(right;constructor<;>lia))|exact zoR gV|exact zlo gV|exact ziE gV|exact zo8 J0) ?_|refine Gn (by with_unfolding_all rfl) ?_
   |refine W.ret ?_|refine W.bd ?_
   | (dsimp only))
 all_goals show k.o):P:=h ⟨k⟩
def lx(p q:Int×Int):Prop:=p.1<q.1\/p.1=q.1/\p.2<q.2
def bA(n:Int)(ps:List (Int×Int)):D:=.tup [.int n,.tup (ps.map iG)]
structure Web(n:Int)(ps:List (Int×Int)):Prop where
 h1:1<=n
 h8:n<=8
 tie:∀p∈ps,0<=p.1/\p.1<p.2/\p.2<n
 inc:ps.Pairwise lx
 len:(ps.length:Int)<=7*n
def zjL(h:∀x∈xs,x=.bl true):fP xs=some (List.replicate xs.length true):=by
 induction xs with
 |nil=>rfl|cons x r ih=>
  rw[h x R3];change Option.map _ (fP r)=_;rw[ih λy hy=>h y (by simp[hy])];rfl
def Uq(h:∀x∈xs,x=.bl true):prim .all [.fl xs]=some (.dat (.bl true)):=by
 change Option.map _ (fP xs)=_;rw[zjL h];simp
def zoY(h:lx p q):ltI [p.1,p.2] [q.1,q.2]=true:=by
 simp only[ltI];rcases h with h|⟨h,h2⟩
 .rw[if_neg gV];simp[h]
 .rw[if_pos h,if_neg gV];simp[h2]
def Ur(xs:List D):cut xs (some 1) none=xs.drop 1:=by
 unfold cut;rw[HT.fK];rw[show (some 1:Option Int)=some ((1:Nat):Int) from rfl,HT.iu];cases xs with
 |nil=>rfl|cons x r=>simp
theorem ziJ:∀{ps:List (Int×Int)},ps.Pairwise lx->∀x∈List.zipWith (λ(p q:D)=>D.tup [p,q]) (ps.map iG) ((ps.map iG).drop 1),∃p q,x=.tup [iG p,iG q]/\lx p q
 |[],_,x,hx=>by simp at hx|[p],_,x,hx=>by simp at hx|p::q::r,h,x,hx=>by
  rw[show (List.map iG (p::q::r)).drop 1=List.map iG (q::r) from rfl]at hx;let e:List.zipWith (λ(p q:D)=>D.tup [p,q]) (List.map iG (p::q::r)) (List.map iG (q::r))=.tup [iG p,iG q]::List.zipWith (λ(p q:D)=>D.tup [p,q]) (List.map iG (q::r)) (List.map iG r):=rfl;rw[e,jo]at hx;rcases hx with rfl|hx
  .exact⟨p,q,rfl,(D_.mp h).1 q R3⟩
  .exact ziJ (ps:=q::r) (D_.mp h).2 x hx
theorem Us:∀(xs:List D) (j i:Nat),(enumFrom j xs)[i]?=xs[i]?.map λx=>.tup [.int ((j+i:Nat):Int),x]
 |[],j,i=>by simp[enumFrom]|x::r,j,0=>by simp[enumFrom]|x::r,j,i+1=>by
  simp only[enumFrom,Ac,Us r (j+1) i];rw[show j+1+i=j+(i+1) by lia]
theorem Ut:∀(xs:List D) (j:Nat),(enumFrom j xs).length=xs.length
 |[],j=>rfl|x::r,j=>by simp[enumFrom,Ut r (j+1)]
def zgy(h:BX xs=some ys):prim .sorted [.fl xs]=some (.nw ys):=by
 change Option.map Rz.nw (BX xs)=_;rw[h];rfl
def zhI{es:List Int}(uL:es.length<64)(h:es.Pairwise (·<·)):BX (es.map D.int)=some (es.map D.int):=by
 show zia ?_ (by rw[bN];show uL) λk hk=>?_
 .rw[Bool.or_eq_true]
  left
  rw[Er,cT];intro x _;rfl
 .rw[bN]at hk;unfold yZ;rw[dH,dH,cB hk,cB (show k<es.length by lia)];let:=O8.mp h k (k+1) gV hk gV;simp only[G7]
  congr 1
  apply iK
  lia
def endOf(i:Int)(p:Int×Int):Option Int:=if p.1=i then some p.2 else if p.2=i then some p.1 else none
def aA(i:Int)(ps:List (Int×Int)):List Int:=ps.filterMap (endOf i)
def NZ(h:Web n ps)(i:Int):(aA i ps).Pairwise (·<·):=by
 let ht:=h.tie;let hi:=h.inc;clear h;unfold aA
 induction ps with
 |nil=>simp|cons p r ih=>
  let⟨hp,hr⟩:=D_.mp hi;let ih:=ih (λq hq=>ht q (by simp[hq])) hr;rw[DQ]
  split
  .exact ih
  .rename_i b eb;show D_.mpr ⟨λc hc=>?_,ih⟩;let⟨q,hq,eq⟩:=tR.mp hc;let l:=hp q hq;let tp:=ht p R3;let tq:=ht q (by simp[hq]);unfold endOf at eb eq;unfold lx at l;split at eb
   .cases eb;split at eq
    .cases eq;lia
    .split at eq
     .cases eq;lia
     .cases eq
   .split at eb
    .cases eb;split at eq
     .cases eq;lia
     .split at eq
      .cases eq;lia
      .cases eq
    .cases eb
def zP(h:Web n ps)(he:e∈aA i ps):0<=e/\e<n:=by
 let⟨q,hq,eq⟩:=tR.mp he;let tq:=h.tie q hq;unfold endOf at eq;split at eq
 .cases eq;lia
 .split at eq
  .cases eq;lia
  .cases eq
theorem Uu:∀{es:List Int} {a n:Int},es.Pairwise (·<·)->(∀e∈es,a<=e/\e<n)->a<=n->(es.length:Int)<=n-a
 |[],a,n,_,_,h=>by simp;lia|e::r,a,n,h,hb,ha=>by
  let⟨h1,h2⟩:=D_.mp h;let he:=hb e R3;let:=Uu (es:=r) (a:=e+1) (n:=n) h2 (λx hx=>⟨by let:=h1 x hx;lia,(hb x (by simp[hx])).2⟩) gV;rw[eE]
  lia
def zmI{a b:Int}{i:Nat}{x:D}(h:(gw a b)[i]?=some x):x=.int (a+i)/\a+i<b:=by
 unfold gw at h;rw[dH]at h;cases e:(List.range (b-a).toNat)[i]? with
 |none=>rw[e]at h;cases h|some j=>
  rw[e]at h;cases h;let⟨hl,rfl⟩:=cJ.mp e;rw[lH]at hl;rw[GX];show⟨rfl,by lia⟩
def Uv:(gw a b).length=(b-a).toNat:=by unfold gw;simp
def jZ(h1 : -1000<=a)(h2:a<=1000):eY a=true:=by
 unfold eY;rw[cQ gV,cQ gV];rfl
def qZ(hl:locs xs=[s.length])(h:W (F (cY 0 xs)) [o] λv s1=>∃d o',v=.d d/\s1=[o']/\P (.d d) (s++[o'])):W (bY F xs) (s++[o]) P:=by
 show NQ (n:=s.length) (o:=o) hl R3 (h.imp λv s1=>?_);rintro⟨d,o',rfl,rfl,hp⟩;show⟨d,o',rfl,rfl,by rw[show (s++[o]).set s.length o'=s++[o'] by simp];show hp⟩
def zjz{ns:List Int}{lo hi:Option Int}{x:D}(h:x∈cut (ns.map D.int) lo hi):∃n,x=.int n:=by
 let:=List.mem_of_mem_drop (List.mem_of_mem_take h);let⟨n,_,rfl⟩:=j9.mp this;show⟨n,rfl⟩
def zjK{ns:List Int}{lo hi:Option Int}:(cut (ns.map D.int) lo hi).length<=ns.length:=by
 unfold cut;rw[rD,yE,bN]
 lia
def at'(fs:List Int)(j:Int):Int:=fs.getD j.toNat 0
def N5{fs:List Int}{j:Int}(h0:0<=j)(h:j<fs.length):∃(i:Nat) (hi:i<fs.length),j=i/\at' fs j=fs[i]:=by
 let⟨i,rfl⟩:=v9 h0;let hi:i<fs.length:=by lia
 show⟨i,hi,rfl,?_⟩;unfold at';rw[iU,jL,cB hi];rfl
def tH{fs:List Int}{j:Int}(h0:0<=j)(h:j<fs.length):at' fs j∈fs:=by
 let⟨i,hi,_,e⟩:=N5 h0 h;rw[e];show wz _
def zqq{fs:List Int}{j:Int}(h0:0<=j)(h:j<fs.length):(fs.map D.int)[j.toNat]?=some (.int (at' fs j)):=by
 let⟨i,hi,rfl,e⟩:=N5 h0 h;rw[e,iU,dH,cB hi];rfl
def CZ{fs gs:List Int}{j:Int}(h0:0<=j)(h:j<fs.length):at' (fs++gs) j=at' fs j:=by
 let⟨i,hi,rfl,e⟩:=N5 h0 h;unfold at';rw[iU,jL,jL,nH hi]
def Uw:at' (fs++[x]) fs.length=x:=by
 unfold at';rw[iU,jL,nG (bQ _)];simp
def tK(h0:0<=j)(h:xs[j.toNat]?=some x):prim .ix [.fl xs,.int j]=some (.dat x):=by
 let⟨k,rfl⟩:=v9 h0;show Kg h
theorem xV(h0:0<=j)(h:xs[j.toNat]?=some x):prim .ix [.tup xs,.int j]=some (.dat x):=tK h0 h
theorem C_(h0:0<=j)(h:j<fs.length):prim .ix [.tup (fs.map .int),.int j]=some (.dat (.int (at' fs j))):=tK h0 (zqq h0 h)
def gC(k a b:Int):Int:=if k-(if a-b<0 then -(a-b) else a-b)<(if a-b<0 then -(a-b) else a-b) then k-(if a-b<0 then -(a-b) else a-b) else (if a-b<0 then -(a-b) else a-b)
def Gp(hd:1<=d):d<=gC k a b↔(d<=a-b/\a-b<=k-d)\/(d<=b-a/\b-a<=k-d):=by
 unfold gC
 split<;>split<;>lia
def zjo(j:Int)(ls:List Int):memD (.int j) (ls.map .int)=some (decide (j∈ls)):=by
 induction ls with
 |nil=>rfl|cons q r ih=>
  let hi:cO 50 (.int q) (.int j)=some (q==j):=rfl;simp only[iV,memD,ih,hi]
  congr 1
  by_cases h:q=j
  .subst h;simp
  .let h2:¬j=q:=λe=>h e.symm;simp[h,h2]
structure cU(n k d:Int)(ps:List (Int×Int))(hs:List Int):Prop where
 len:(hs.length:Int)=n
 lo:∀x∈hs,0<=x/\x<k
 fit:∀p∈ps,d<=gC k (at' hs p.1) (at' hs p.2)
section
variable {aq:Nat->Nat->Bool}{aj:Bool}{F:Bool->Fn}{J:Vs}{s:S}{Q:Out->S->Prop}
def WS.wh(I:Nat->Vs->S->Prop)(hm:m<qN)(h0:I m J s)
  (step:∀m J s,I m J s->W (ev aq aj (F aj) c J) s λx s1=>W (Mi.bool x) s1 λk s2=>(k=true->WS (exs aq aj F b J) s2 λo s3=>(∃J' m',o=.nx J'/\m'<m/\I m' J' s3)\/(∃x,o=.rt x/\Q (.rt x) s3))/\(k=false->Q (.nx J) s2)):WS (ex aq aj F (.wh c b) J) s Q:=by
 let key:∀n m J s,m<n->I m J s->WS (gW (λJ=>M.bd (ev aq aj (F aj) c J) Mi.bool) (λJ=>exs aq aj F b J) n J) s Q:=by
  intro n
  induction n with
  |zero=>intro m J s h;show absurd h (G5 _)|succ n ih=>
   intro m J s hmn hI;let⟨x,s1,e1,k,s2,e2,hk⟩:=step m J s hI;unfold gW;show WS.ofM (W.bd ⟨x,s1,e1,k,s2,e2,?_⟩);cases k with
   |false=>show⟨_,s2,by rw[if_neg J0],hk.2 rfl⟩|true=>
    let⟨o,s3,e3,hr⟩:=hk.1 rfl;rcases hr with ⟨J',m',rfl,N6,CT⟩|⟨x,rfl,hq⟩
    .obtain⟨o2,s4,e4,q⟩:=ih m' J' s3 gV CT;show⟨o2,s4,by rw[if_pos rfl,e3];show e4,q⟩
    .exact⟨_,s3,by rw[if_pos rfl,e3],hq⟩
 show key qN m J s hm h0
end
def Ge(h r:List Int):Prop:=∀j:Nat,j<r.length->(∀i:Nat,i<j->at' h i=at' r i)->at' r j<=at' h j
def zlS{f:Bool->Bool}{j:Int}{ls:List Int}:Fp f [.int j,.tup (ls.map .int)]=some (.dat (.bl (f (decide (j∈ls))))):=by
 change Option.map _ (memD (.int j) (ls.map .int))=_;rw[zjo];rfl
def aM(k d:Int):D:=.tup [.int k,.int d]
def Dg(k d:Int)(ps:List (Int×Int))(hs:List Int):Bool:=ps.all λp=>decide (d<=gC k (at' hs p.1) (at' hs p.2))
def oU:Dg k d ps hs=true↔∀p∈ps,d<=gC k (at' hs p.1) (at' hs p.2):=by
 unfold Dg;rw[cT];show⟨λh p hp=>gP (h p hp),λh p hp=>cQ (h p hp)⟩
def oV{α:Type}{l:List α}{f:α->D}:l.filterMap (λx=>some (f x))=l.map f:=by
 rw[<-List.filterMap_eq_map];rfl
def Dh(I:Nat->Vs->S->Prop)(h0:I 0 J s)(hb:∀i x J s,c[i]?=some x->I i J s->WS (b x J) s λo s'=>(∃J',o=.nx J'/\I (i+1) J' s')\/(∃x,o=.rt x/\Q (.rt x) s'))
  (he:∀J s,I c.length J s->Q (.nx J) s):WS (dR (.fix c) b (c.length+1) 0 J) s Q:=by
 let key:∀n i J s,i+n=c.length->I i J s->WS (dR (.fix c) b (n+1) i J) s Q:=by
  intro n
  induction n with
  |zero=>
   intro i J s hi hI;let e:c[i]?=none:=by rw[qm];lia
   let:i=c.length:=by lia
   subst this;show⟨_,s,?_,he J s hI⟩;unfold dR;simp only[Src.at,e]
  |succ n ih=>
   intro i J s hi hI;let cW:i<c.length:=by lia
   let e:c[i]?=some c[i]:=cB cW;let⟨o,s',eb,hr⟩:=hb i c[i] J s e hI;rcases hr with ⟨J',rfl,CT⟩|⟨x,rfl,hq⟩
   .obtain⟨o2,s2,e2,q⟩:=ih (i+1) J' s' gV CT;show⟨o2,s2,?_,q⟩;unfold dR;simp only[Src.at,e,eb];show e2
   .refine⟨_,s',?_,hq⟩;unfold dR;simp only[Src.at,e,eb]
 show key c.length 0 J s gV h0
def zi4{hs:List Int}{f:Int->Int}{j:Int}(h0:0<=j)(h:j<hs.length):at' (hs.map f) j=f (at' hs j):=by
 let⟨i,hi,rfl,e⟩:=N5 h0 h;rw[e];unfold at';rw[iU,jL,dH,cB hi];rfl
def Ko{xs:List D}{i:Nat}(h:i<=xs.length):cut xs none (some (i:Int))=xs.take i:=by
 unfold cut;rw[HT.fK,HT.iu,Ls h];simp
def xW{xs:List D}{i:Nat}(h:i<=xs.length):cut xs (some (i:Int)) none=xs.drop i:=by
 unfold cut;rw[HT.fK,HT.iu,Ls h];rw[List.take_of_length_le];rw[yE]
 lia
def Kp(h:xs.length+ys.length<=sizeLine):prim .add [.tup xs,.tup ys]=some (.dat (.tup (xs++ys))):=by
 change (if _ then _ else _)=_;rw[if_pos h]
def qe:D->Bool
 |.exc _ _=>false|.ob _ _=>false|.any=>false|_=>true
def Kq:D->Bool
 |.tup xs=>xs.all qe|d=>qe d
def zhe{α:Type}(l:List α)(f:α->Bool):fP (l.map λx=>D.bl (f x))=some (l.map f):=by
 induction l with
 |nil=>rfl|cons x r ih=>
  change Option.map _ (fP (r.map λx=>D.bl (f x)))=_;rw[ih];rfl
def N7{α:Type}{l:List α}{f:α->Bool}:prim .all [.fl (l.map λx=>D.bl (f x))]=some (.dat (.bl (l.all f))):=by
 change Option.map _ (fP (l.map λx=>D.bl (f x)))=_;rw[zhe];change some (Rz.dat (.bl ((l.map f).all id)))=_;rw[Er];rfl
end Mi
namespace Mi
open PySem PySem.W PyProof.Rows L2
structure Ord(n:Nat)(lt:Nat->Nat->Option Bool)(le:Nat->Nat->Prop):Prop where
 ans:∀i j,i<n->j<n->(lt i j=some true/\le i j)\/(lt i j=some false/\le j i)
 tr:∀i j k,i<n->j<n->k<n->le i j->le j k->le i k
end Mi
namespace Mi
open PySem PySem.Spec PyProof.Rows L2 PySem.W
section
variable {K:W.Frag}{cA:Cl}{U:Ph}{H:Hp}
def zmK{d:D}{v:V}{k:Bool}(r:Rv K cA U H d v)(e:wZ d=some k):Bl K v H k:=by
 cases d with
 |non=>
  cases (show Rep K cA U H .non v from r);cases e;rfl
 |bl c=>
  cases (show Rep K cA U H (.bl c) v from r);cases e;rfl
 |int i=>
  cases (show Rep K cA U H (.int i) v from r);cases e;rfl
 |tup xs=>
  cases (show Rep K cA U H (.tup xs) v from r) with
  |tup t q=>
   cases e;show .inr (.inl ⟨_,t.iC,?_⟩);cases q<;>rfl
 |fl xs=>
  obtain⟨a,us,rfl,sq,q⟩ : ∃a us,v=.ref a/\c7 K H a us/\aD K cA U H xs us:=r;cases e;show .inl ⟨_,sq,?_⟩;cases q<;>rfl
 |_=>cases e
end
section
variable {X:Cx}{cA:Cl}{aq:Nat->Nat->Bool}{aj:Bool}{F:Fn}{EX:XS}{a b:Expr}{A B:E}{pos p:Pos}{x:Str}{e:Expr}{es:List Expr}{Xs:Es}
def xX(sc:Scope)(x:Str):Bool:=match sc.names.lookup x with
 |some k=>Cu k|none=>false
def N8(sc:Scope)(x:Str):Bool:=match sc.names.lookup x with
 |some .globalImplicit=>true|_=>false
def zfV{sc:Scope}{x:Str}(h:xX sc x=true):∃k,sc.names.lookup x=some k/\Cu k=true:=by
 unfold xX at h;split at h
 .rename_i k e;show⟨k,e,h⟩
 .cases h
def ziM{sc:Scope}{x:Str}(h:N8 sc x=true):sc.names.lookup x=some .globalImplicit:=by
 unfold N8 at h;split at h
 .assumption
 .cases h
theorem gk(h:N8 X.env.scope x=true:=by kernel_rfl):JK X x .globalImplicit:=⟨ziM h⟩
def jl(h:(match X.env.scope.names.lookup x with|some .local=>true|_=>false)=true:=by kernel_rfl):JK X x .local:=by
 split at h
 .exact⟨by assumption⟩
 .cases h
def jc(h:(match X.env.scope.names.lookup x with|some .cell=>true|_=>false)=true:=by kernel_rfl):JK X x .cell:=by
 split at h
 .exact⟨by assumption⟩
 .cases h
theorem Gq{scope:Scope}{cl:List (Str×Addr)}{N:List Str}{Cc:Addr}{s3:Shared}{H3:Hp}{fp:List Addr}{ao:List (Addr×Obj)}(h:N8 scope x=true:=by kernel_rfl):JK (X.blk scope cl N Cc s3 H3 fp ao) x .globalImplicit:=zqv (ziM h) rfl
def gv(i:Nat)(h:(decide (X.N[i]?=some x)&&xX X.env.scope x&&okN x)=true:=by kernel_rfl):JE X cA aq aj F EX (.Name x pos) (.v i):=by
 rw[fH,fH]at h;let⟨k,e,hv⟩:=zfV h.1.2;show g_v i (gP h.1.1) ⟨e⟩ hv h.2
theorem gc{f k:Nat}{cm:Bool}{st:Stmt}{ps:List Str}(Fo:cC X.prog X.w X.K X.mg X.base (gU X.prog X.w) cm k (iD X.K x) (fdOf X.K x st) ps (lq X.K cA (F f)))(D:D3 X.K X.mg x st ps)(hr:bH k X.A)(R:JR X EX)(g:JK X x .globalImplicit)(ha:JA X cA aq aj F EX (e::es) Xs)(h:okN x=true:=by kernel_rfl)
  (jA:cm=true->X.aj=true:=by first|exact λ_=>rfl|exact λz=>nomatch z) (he:aF e=true:=by rfl) (cF:es.all aF=true:=by rfl):JE X cA aq aj F EX (.Call (.Name x p) (e::es) [] pos) (.call f Xs):=
 zmL f Fo jA hr D.m D.f.kp D.b R g ha h he cF
theorem nd(h:decide X.N.Nodup=true:=by kernel_rfl):X.N.Nodup:=gP h
end
theorem fJ{P:Program}{w:World}{K:W.Frag}{mg:Str->Option Value}{base:Heap}{cA:Cl}{aq:Nat->Nat->Bool}{T:Nat->Option Df}{x:Str}{st:Stmt}{ps:List Str}{k n:Nat}{cm:Bool}{df:Df}(D:D3 K mg x st ps)(N:List Str)(hT:T n=some df)
  (hb:∀(cdv:Value) (A:Around) (outer:List Env) (s:Shared) (H:Hp) (E:XK),bH k (A.deeper (envOfC x (aB st) s.heap.objs.size (iD K x) cdv))->
   JB (gR (gU P w) P w K mg base N x (aB st) (iD K x) cdv A outer s H E cm) cA aq cm (λc=>call aq T k c) (λ_ C dx H'=>E C dx H') (aK st) df.body) (S:dh N ps (aB st):=by show⟨rfl,rfl,rfl,dk,rfl,dk,dk⟩) (hp:df.iB=ps.length:=by rfl) (hm:df.many=N.length:=by rfl) :
  cC P w K mg base (gU P w) cm (k+1) (iD K x) (fdOf K x st) ps (lq K cA (call aq T (k+1) cm n)):=ZK D.f S hT hp hm hb
end Mi
namespace Mi
open PySem PySem.Spec PyProof.Rows L2
section
variable {K:W.Frag}{cA:Cl}{U:Ph}{H:Hp}{s:S}
def zev{β:Type}{c:Nat}{x:Xv}{v:V}{k:List D->M β}{P:β->S->Ph->Hp->Prop}{Ee:Nat->List D->S->Ph->Hp->Prop}(r:aR K cA U H x v)(h:Run K cA (M.bd (p7 c x) k) U H s P Ee) :
  ∃fs ad dx vs,v=.ref ad/\H ad=some (.ins (cA.b c) dx ((cA.g c).zip vs))/\aD K cA U H fs vs/\Run K cA (k fs) U H s P Ee:=by
 cases r with
 |l _=>show h.elim|d r=>cases r with
  |@ob ad e fs vs q r=>
   let h2:Run K cA (M.bd (if e=c then M.ret fs else M.no) k) U H s P Ee:=h;clear h;by_cases z:e=c
   .rw[if_pos z]at h2;subst z;let⟨_,dx,q1,_⟩:=q;show⟨fs,ad,dx,vs,rfl,q1,r,h2⟩
   .rw[if_neg z]at h2;show h2.elim
  |_=>show h.elim
def Run.qt'{α:Type}{m:M α}{P:α->S->Ph->Hp->Prop}{Ee Ee':Nat->List D->S->Ph->Hp->Prop}(h:Run K cA (M.qt m) U H s P Ee):Run K cA m U H s P Ee':=by
 unfold Run M.qt at *;cases e:m s with
 |none=>rw[e]at h;show h|some r=>
  let⟨r,s1⟩:=r;rw[e]at h;cases r with
  |ok a=>show h|er c f=>show h.elim
theorem zck:∀{ns:List Str} {vs:List V} {m:Str},m∉ns->(ns.zip vs).lookup m=none
 |[],vs,m,_=>by simp|n::ns,[],m,_=>by simp|n::ns,v::vs,m,h=>by
  rw[wg,pI,show (m==n)=false from Ae.mpr λe=>h (by simp[e])];show zck λz=>h (iJ _ z)
end
structure Ow(K:W.Frag)(cA:Cl)(c:Nat):Prop where
 cl:Cls K (cA.b c)
 nf:∀f∈cA.g c,gQ K (cA.b c) f
 nd:(cA.g c).Nodup
section
variable {X:Cx}{cA:Cl}{aq:Nat->Nat->Bool}{aj:Bool}{F:Fn}{EX:XS}{a e:Expr}{es:List Expr}{A:E}{Xs:Es}{pos apos p:Pos}{x:Str}
theorem zqC{c i:Nat}(o:Ow X.K cA c)(ha:JE X cA aq aj F EX a A)(hi:((cA.g c)[i]?==some x)=true:=by kernel_rfl)(hb:attributeBase a x X.env (eval a X.env)=eval a X.env:=by rfl):JE X cA aq aj F EX (.Attribute a x pos) (.of A c i):=⟨PE.weak (znm ha.o hb) λZ H Q hh=>un hh λU J s hL hS h=>by
 show bf hL hS h λy H1 U1 d1 s1 x1 hL1 aH r1 h1=>?_;let⟨fs,ad,dx,vs,rfl,q1,q2,h2⟩:=zev r1 h1;let hi:(cA.g c)[i]?=some x:=rG.mp hi;cases ef:fs[i]? with
 |none=>rw[ef]at h2;show h2.elim|some d=>
  rw[ef]at h2;let⟨v,e1,rv⟩:=q2.get ef;show⟨ad,_,dx,_,v,rfl,q1,o.cl,o.nf x (dG hi),zfl o.nd hi e1,h2.bF aH v (.d rv)⟩⟩
theorem zgS:Passes (gU X.prog X.w) X λ_ _ _=>False:=λ_ _ _ _ _ _ _ h=>h.elim
structure Mt(K:W.Frag)(C:Addr)(m q:Str)(st:Stmt)(ps:List Str)(f:Addr)(fd:FuncData):Prop where
 fn:oK K m q st f fd
 mt:Meth K C m f
 bd:Binds K fd ps []
theorem zqA{c f k:Nat}{cm:Bool}{m q:Str}{st:Stmt}{ps:List Str}{fa:Addr}{fd:FuncData}{pl:Sem Bool}(o:Ow X.K cA c)(D:Mt X.K (cA.b c) m q st ps fa fd)(Fo:cC X.prog X.w X.K X.mg X.base (gU X.prog X.w) cm k fa fd ps (lq X.K cA (F f)))(hr:bH k X.A)(ha:JE X cA aq aj F EX a A)(hb:JA X cA aq aj F EX (e::es) Xs)
  (hm:decide (m∉cA.g c)=true:=by kernel_rfl) (jA:cm=true->X.aj=true:=by first|exact λ_=>rfl|exact λz=>nomatch z) (he:aF e=true:=by rfl) (cF:es.all aF=true:=by rfl)
  (ht:eval (.Call (.Attribute a m apos) (e::es) [] pos) X.env=(do
   let ov <-eval a X.env
   standAt apos.atName
   let (f,first) <-holding [ov] (getMethod ov m pl)
   callWith pos f first (backTo pos (starEach (e::es) X.env)) (backToKw pos (keywordEach [] X.env))):=by rfl):JE X cA aq aj F EX (.Call (.Attribute a m apos) (e::es) [] pos) (.cm c f A Xs):=⟨PE.weak (zjm (pl:=pl) (nU:=[]) ha.o o.cl D.mt Fo jA hr D.bd .nil zgS hb.o (bx he) (bG cF) ht) λZ H Q hh=>un hh λU J s hL hS h=>by
 show bf hL hS h λy H1 U1 d1 s1 x1 hL1 aH r1 h1=>?_;let⟨fs,ad,dx,vs,rfl,q1,q2,h2⟩:=zev r1 h1;show⟨ad,dx,_,rfl,q1,zck (gP hm),oG hL1 aH h2 λus H2 U2 ds s2 x2 hL2 aO r2 h3=>?_⟩;rw[vI];let⟨U0,s0,a1,a2,a3⟩:=Y9 (EE:=λ_ _ _ _=>False) aO (.cons (r1.mono x2 aH.lz) r2) (λ_ _ _ _ _ _ z=>z) (h3.qt');show⟨U0,_,s0,a1,a2,?_⟩;unfold Run at a3 ⊢;split at a3
 .exact a3
 .exact λU' H' x r=>(a3 U' H' x r).elim
 .exact a3⟩
end
def Kr(K:W.Frag)(cA:Cl)(c:Nat)(m:List Xv->M Xv):Sp:=λvs H Q _=>∃x dx us U H0 xs s,vs=.ref x::us/\H0 x=none/\H0 dx=none/\dx≠x/\H=upd (upd H0 dx (.own x)) x (.ins (cA.b c) dx [])/\aZ K cA U H0 xs us/\aG K cA U H0 s /\
 Run K cA (m (.d .any::xs)) U H0 s (λr _ U' H'=>∀ds ws,r=.d (.tup ds)->aD K cA U' H' ds ws->fu U' H' x (.ins (cA.b c) dx ((cA.g c).zip ws))->(cA.g c).length=ws.length->Q .non H') (λ_ _ _ _ _=>False)
section
variable {K:W.Frag}{cA:Cl}{U:Ph}{H:Hp}{s:S}
def zhs{xs:List Xv}{vs:List V}(h:locs xs=[])(r:aZ K cA U H xs vs)(l:List Addr):aZ K cA ⟨U.z,l⟩ H xs vs:=by
 induction r with
 |nil=>show .nil|cons a r ih=>cases a with
  |d a=>show .cons (.d (Rep.zl a l)) (ih h)|l a=>cases h
def Ext.made{x dx:Addr}{C:Addr}(hx:H x=none)(hd:H dx=none)(hn:dx≠x):Ext U H (U.mark x) (upd (upd H dx (.own x)) x (.ins C dx [])):=by
 let g:bB H (upd (upd H dx (.own x)) x (.ins C dx [])):=(bB.new hd).trans (bB.new (by rw[dj hn.symm];show hx));show⟨⟨[],by simp[Ph.mark],by simp⟩,λa z=>.inl z,λa z=>z.imp id λe=>by rw[e];show hx,λa o h _=>g a o h,λa o h=>⟨o,g a o h⟩⟩
def aG.made{x dx:Addr}{C:Addr}(hS:aG K cA U H s)(hx:H x=none)(hd:H dx=none)(hn:dx≠x):aG K cA (U.mark x) (upd (upd H dx (.own x)) x (.ins C dx [])) s:=by
 let xt:=Ext.made (U:=U) (C:=C) hx hd hn;show⟨hS.len,λn o a e1 e2=>(hS.obj n o a e1 e2).map (λu q=>?_) λ_ _ r=>r.mono xt hS.lz,hS.uniq,λa ha=>.inl (hS.lz a ha),λa z=>?_⟩
 .let n1:a≠x:=λy=>by rw[y,hx]at q;cases q
  let n2:a≠dx:=λy=>by rw[y,hd]at q;cases q
  rw[dj n1,dj n2];show q
 .rcases z with z|z
  .obtain⟨o,e⟩:=hS.zt a z;show xt.stay a o e
  .subst z;show⟨_,jE⟩
end
section
variable {X:Cx}{cA:Cl}{aq:Nat->Nat->Bool}{aj:Bool}{F:Fn}{EX:XS}{e:Expr}{es:List Expr}{Xs:Es}{pos p:Pos}{x:Str}
theorem zqs{c f k:Nat}{cm:Bool}{ps:List Str}{fa:Addr}{fd:FuncData}(M:Mk X.K (cA.b c) fa)(Fo:cC X.prog X.w X.K X.mg X.base (gU X.prog X.w) cm k fa fd ps (Kr X.K cA c (F f)))(hr:∀us,bH k (X.A.under (.builtin "type.__call__" ⟨.ref (cA.b c)::us,[]⟩)))(hb:Binds X.K fd ps [])(hm:X.mg x=some (.ref (cA.b c)))(hg:JK X x .globalImplicit)
  (ha:JA X cA aq aj F EX (e::es) Xs) (h:okN x=true:=by kernel_rfl) (jA:cm=true->X.aj=true:=by first|exact λ_=>rfl|exact λz=>nomatch z) (he:aF e=true:=by rfl) (cF:es.all aF=true:=by rfl):JE X cA aq aj F EX (.Call (.Name x p) (e::es) [] pos) (.mk c f Xs):=⟨PE.weak (zkU (nU:=[]) M Fo jA hr hg.o hm hb .nil zgS ha.o (vX h).1 (bx he) (bG cF)) λZ H Q hh=>un hh λU J s hL hS h=>
 oG hL hS h λus H1 U1 ds s1 x1 hL1 aH r1 h1 x dx hx hd hn=>by
  rw[vI];unfold Run Sv at h1;by_cases hl:locs ds=[]
  .simp only[if_pos hl]at h1;show⟨x,dx,us,⟨U1.z,[]⟩,H1,ds,[],rfl,hx,hd,hn,rfl,zhs hl r1 [],⟨rfl,(λn o a e=>by simp at e),Em,(λa ha=>by cases ha),aH.zt⟩,?_⟩;unfold Run;cases e:F f (.d .any::ds) [] with
   |none=>simp only[e]at h1|some r=>
    let⟨r,s2⟩:=r;simp only[e]at h1;cases r with
    |er c f=>show h1.elim|ok r=>
     intro U' H' xt aO ts ws er rs kp hlen;subst er;let nx:¬U1.z x:=aH.nz hx;let ne:∀a o,H1 a=some o->a≠x:=λa o q y=>by rw[y,hx]at q;cases q
     let xt2:Ext U1 H1 ⟨λa=>U'.z a/\a≠x,U1.l⟩ H':=by
      show⟨⟨[],by simp,by simp⟩,λa z=>⟨xt.rZ a z,λy=>nx (y▸z)⟩,λa z=>xt.lg a z.1,λa o q _=>xt.frame a o q R3,xt.stay⟩
     show⟨rfl,h1 _ H' xt2 ⟨aH.len,λn o a e1 e2=>(aH.obj n o a e1 e2).map (λu q=>xt.frame a u q R3) λ_ _ r=>r.mono xt2 aH.lz,aH.uniq,λa ha=>⟨xt.rZ a (aH.lz a ha),λy=>nx (y▸aH.lz a ha)⟩,λa z=>aO.zt a z.1⟩ _ (.d (.ob ⟨λz=>z.2 rfl,dx,kp.at_,hlen⟩ (rs.jY (U':=⟨λa=>U'.z a/\a≠x,U1.l⟩) λ_ z=>z.1)))⟩
  .simp only[if_neg hl]at h1⟩
end
structure xY(X:Cx)(cA:Cl)(aq:Nat->Nat->Bool)(aj:Bool)(F:Fn)(EX:XS)(c:Nat)(body:List Stmt)(is:Es)(ns:List Str):Prop where
 o:pL X body λD Z H=>∃U0 H0 U J s x dx done vs ys,Ext U0 H0 U H/\aW X.K cA U H Z J/\aG X.K cA U H s/\H0 x=none/\Z[0]?=some (some (.ref x))/\fu U H x (.ins (cA.b c) dx (done.zip vs))/\aZ X.K cA U H ys vs/\done.length=vs.length/\done++ns=cA.g c/\done.length+ns.length<=900 /\
  Run X.K cA (M.bd (evs aq aj F is J) λzs=>cG (ys++zs)) U0 H0 s (λes _ U' H'=>∀ws,aD X.K cA U' H' es ws->fu U' H' x (.ins (cA.b c) dx ((cA.g c).zip ws))->(cA.g c).length=ws.length->D.nx Z H') (eX X.K cA EX Z)
theorem zeT{f:Str}{v:V}:∀{fs:List (Str×V)},f∉fs.map (·.1)->fG f v fs=fs++[(f,v)]
 |[],_=>rfl|(g,x)::r,h=>by
  unfold fG;rw[if_neg λe=>h (by simp[e]),zeT λz=>h (iJ _ z)];rfl
def aZ.out{K:W.Frag}{cA:Cl}{U:Ph}{H H':Hp}(x:cH U H H'){ds:List Xv}{vs:List V}(h:aZ K cA U H ds vs):aZ K cA U H' ds vs:=by
 induction h with
 |nil=>show .nil|cons h _ ih=>show .cons (h.out x) ih
def aZ.app{K:W.Frag}{cA:Cl}{U:Ph}{H:Hp}{ds es:List Xv}{vs us:List V}(h:aZ K cA U H ds vs)(s:aZ K cA U H es us):aZ K cA U H (ds++es) (vs++us):=by
 induction h with
 |nil=>show s|cons h _ ih=>show .cons h ih
def Run.er{K:W.Frag}{cA:Cl}{U:Ph}{H:Hp}{s:S}{α:Type}{m:M α}{P:α->S->Ph->Hp->Prop}{Ee:Nat->List D->S->Ph->Hp->Prop}(h:Run K cA m U H s P λ_ _ _ _ _=>False):Run K cA m U H s P Ee:=by
 unfold Run at *;split at h
 .exact h
 .exact λU' H' x r=>(h U' H' x r).elim
 .exact h
section
variable {X:Cx}{cA:Cl}{aq:Nat->Nat->Bool}{aj:Bool}{F:Fn}{EX:XS}{c:Nat}{a:Expr}{A:E}{is:Es}{ns:List Str}{body:List Stmt}{f:Str}{pos p p2:Pos}
theorem zmr:xY X cA aq aj F EX c [] .nil []:=⟨λao s Z H D I hh=>Xj ao s Z H D I (by
 let⟨U0,H0,U,J,st,x,dx,done,vs,ys,xt,hL,hS,hx,h0,kp,rs,hl,hg,hz,h⟩:=hh;rw[vI]at hg;subst hg;let h2:Run X.K cA (M.bd (cG ys) M.ret) U H st (λes _ U' H'=>∀ws,aD X.K cA U' H' es ws->fu U' H' x (.ins (cA.b c) dx ((cA.g c).zip ws))->(cA.g c).length=ws.length->D.nx Z H') (eX X.K cA EX Z):=by
  let h3:=h.ext xt;unfold Run at h3 ⊢;let e0:M.bd (evs aq aj F .nil J) (λzs=>cG (ys++zs)) st=cG ys st:=by change cG (ys++[]) st=_;rw[vI]
  rw[e0]at h3;unfold M.bd;cases e1:cG ys st with
  |none=>rw[e1]at h3;show h3|some r=>
   let⟨r,s2⟩:=r;rw[e1]at h3;cases r with
   |er c f=>show h3|ok ds=>show h3
 let⟨ds,_,rs2,h4⟩:=Sy rs h2;show h4.bF hS vs rs2 kp hl)⟩
def N_{j:Nat}(ow:Ow X.K cA c)(ha:JE X cA aq aj F EX a A)(hr:xY X cA aq aj F EX c body is ns)(h0:(decide (X.N[0]?=some ("self" : Str))&&xX X.env.scope "self"&&okN "self")=true:=by kernel_rfl)
  (hs:swapsWith a (some (.Attribute (.Name "self" p) f p2)) pos.line X.env=pure false:=by rfl):xY X cA aq aj F EX c (.Assign [.Attribute (.Name "self" p) f p2] a pos::body) (.cons A is) (f::ns):=by
 rw[fH,fH]at h0;let⟨k,e,hv⟩:=zfV h0.1.2;show⟨λao s Z H D I hh=>Xk (znt (Xe (i:=0) (gP h0.1.1) (by cases k<;>first|exact .inl e|exact .inr (.inl e)|exact .inr (.inr e)|cases hv) (vX h0.2).1 (vX h0.2).2.1) ha.o hs) hr.o ao s Z H D I ?_⟩;let⟨U0,H0,U,J,st,x,dx,done,vs,ys,xt,hL,hS,hx,hx0,kp,rs,hl,hg,hz,h⟩:=hh;let h:Run X.K cA (M.bd (M.bd (ev aq aj F A J) λy=>M.bd (evs aq aj F is J) λzs=>M.ret (y::zs)) λzs=>cG (ys++zs)) U0 H0 st _ _:=h;simp only[gK]at h;show⟨U,J,st,hL,hS,(h.bd0 xt).imp λy s1 U1 H1 ⟨x1,aH,h1⟩ v rv=>?_⟩;let Oa:=kp.mono x1;let nf:f∈cA.g c:=by rw[<-hg];simp
 let nd:f∉done:=λz=>by
  let:=ow.nd;rw[<-hg,Li]at this;show this.2.2 f z f R3 rfl
 let hk:(done.zip vs).map (·.1)=done:=by rw[List.map_fst_zip];lia
 show⟨.ref x,hx0,x,_,dx,_,rfl,Oa.at_,ow.cl,ow.nf f nf,?_,?_⟩
 .let:(done.zip vs).length<=done.length:=by rw[List.length_zip];lia
  simp at hz
  lia
 rw[zeT (by rw[hk];show nd)];let ez:done.zip vs++[(f,v)]=(done++[f]).zip (vs++[v]):=by rw[List.zip_append hl];rfl
 rw[ez];let ox:cH U1 H1 (upd H1 x (.ins (cA.b c) dx ((done++[f]).zip (vs++[v])))):=Oa.ext.1;show⟨U0,H0,U1,J,s1,x,dx,done++[f],vs++[v],ys++[y],Ext.keep (vs:=[]) (xt.trans x1) hx,(hL.mono x1 hS.lz).out ox,aH.keep Oa,hx,hx0,Oa.ext.2,((rs.mono x1 hS.lz).app (.cons rv .nil)).out ox,by simp[hl],by rw[<-hg,yC];rfl,by simp at hz ⊢;lia,?_⟩;let h1:Run X.K cA (M.bd (evs aq aj F is J) λzs=>M.bd (M.ret (y::zs)) λzs=>cG (ys++zs)) U0 H0 s1 _ _:=h1;let e2:(λzs=>cG (ys++[y]++zs))=λzs=>M.bd (M.ret (y::zs)) λzs=>cG (ys++zs):=by
  funext zs
  rw[yC];rfl
 rw[e2];show h1
end
def zig{K:W.Frag}{cA:Cl}{U:Ph}{H:Hp}{s:S}{α:Type}{m m':M α}{P:α->S->Ph->Hp->Prop}{Ee:Nat->List D->S->Ph->Hp->Prop}(e:m s=m' s)(h:Run K cA m U H s P Ee):Run K cA m' U H s P Ee:=by
 unfold Run at *;rw[<-e];show h
def zf3{aq:Nat->Nat->Bool}{T:Nat->Option Df}{k n m p:Nat}{cm:Bool}{is:Es}{xs:List Xv}{s:S}(hT:T n=some ⟨m,p,.cons (.ret (.tup is)) .nil⟩)(hl:xs.length=p) :
  call aq T (k+1) cm n xs s=M.bd (M.bd (evs aq cm (call aq T k cm) is (xs.map some++List.replicate (m-p) none)) cG) (λds=>M.ret (.d (.tup ds))) s:=by
 unfold call;simp only[hT,if_pos hl];change (match cM (ofM (M.bd (evs aq cm (call aq T k cm) is _) λvs=>M.bd (cG vs) λds=>M.ret (.d (.tup ds))) _ λx s=>some (.rt x,s)) _ s with|some (.nx _,s')=>_|some (.rt v,s')=>_|some (.er c fs _,s')=>_|_=>none)=_;rw[gK];unfold cM ofM;cases e:M.bd (evs aq cm (call aq T k cm) is (xs.map some++List.replicate (m-p) none)) (λvs=>M.bd (cG vs) λds=>M.ret (Xv.d (.tup ds))) s with
 |none=>rfl|some r=>
  let⟨r,s1⟩:=r;cases r<;>rfl
def zjG{P:Program}{w:World}{K:W.Frag}{mg:Str->Option Value}{base:Heap}{cA:Cl}{aq:Nat->Nat->Bool}{T:Nat->Option Df}{x qual:Str}{st:Stmt}{f:Addr}{fd:FuncData}{N ps:List Str}{k n c m p:Nat}{cm:Bool}{is:Es}(F:oK K x qual st f fd)(hT:T n=some ⟨m,p,.cons (.ret (.tup is)) .nil⟩)
  (hb:∀(cdv:Value) (A:Around) (outer:List Env) (s:Shared) (H:Hp) (E:XK),bH k (A.deeper (envOfC qual (aB st) s.heap.objs.size f cdv))->
   xY (gR (gU P w) P w K mg base N qual (aB st) f cdv A outer s H E cm) cA aq cm (call aq T k cm) (λ_ C dx H'=>E C dx H') c (aK st) is (cA.g c)) (hg:(cA.g c).length<=900) (S:dh N ps (aB st):=by show⟨rfl,rfl,rfl,dk,rfl,dk,dk⟩) (hp:p=ps.length:=by rfl) (hm:m=N.length:=by rfl) (h0:0<p:=by decide) :
  cC P w K mg base (gU P w) cm (k+1) f fd ps (Kr K cA c (call aq T (k+1) cm n)):=by
 let⟨oc,od,kV,doc,pm,an,cdv,ct,osl,rfl,lk,j_⟩:=F.ex;let hlen:∀{U:Ph} {H:Hp} {s:Mi.S} {xs:List Xv} {P:Xv->Mi.S->Ph->Hp->Prop},Run K cA (call aq T (k+1) cm n (.d .any::xs)) U H s P (λ_ _ _ _ _=>False)->xs.length+1=p:=λ{U H s xs P} h=>by
  unfold call at h;simp only[hT]at h;by_cases hl:(Xv.d D.any::xs).length=p
  .simpa using hl
  .rw[if_neg hl]at h;show h.elim
 show XM lk j_ S (λvs H Q E hz=>?_) λA outer s H vs Q E hr hz=>?_
 .obtain⟨x,dx,us,U,H0,xs,s,e,_,_,_,_,r,_,h⟩:=hz;let:=hlen h;rw[e,eE,<-r.len,<-hp]
  lia
 .obtain⟨x,dx,us,U,H0,xs,st',e,hx,hd,hn,eH,r,hS,h⟩:=hz;show⟨_,(hb cdv A outer s H E (hr.deeper _)).o,?_⟩;subst e eH;let hl:=hlen h;let xt:=Ext.made (U:=U) (C:=cA.b c) hx hd hn;show⟨U,H0,U.mark x,(Xv.d .any::xs).map some++List.replicate (m-p) none,st',x,dx,[],[],[],xt,Zh (.cons (.d (.any x)) (r.mono xt hS.lz)) (by simp;lia) hm,hS.made hx hd hn,hx,rfl,⟨jE,λz=>hS.nz hx (hS.lz x z),.inr rfl⟩,.nil,rfl,rfl,by simpa using hg,?_⟩;let h2:=(zig (zf3 hT (by simpa using hl)) h).bd0 Ext.refl;show Run.er (Run.imp h2 λds s1 U1 H1 ⟨x1,aH,h4⟩ ws rs kp hl=>h4 U1 H1 x1 aH ds ws rfl rs kp hl)
section
variable {prog:Program}{w:World}{A:Around}{E:Value->Shared->Prop}{s:Shared}
def zdX{r:Addr}{n:Nat}{lo hi:Int}{t u v:Tok}{Q:List Value->Shared->Prop}(hh:A.handled=none)(hr:IsRange s.heap r lo hi 1 t u v)(hs:Builtin.Range.small lo hi 1=true)(hn:Builtin.Range.rangeSize lo hi 1=n)(hl:n<=65536)
  (q:∀(h':Heap) (tk:Nat) (acc:Array Value),(∀b o,s.heap.get? b=some o->h'.get? b=some o)->ItemsOf (λi v=>∃t,v=.int (lo+i*1) t) acc n->Q acc.toList {s with heap:=h',toks:=tk}):wpAny (model prog w) A (collect (.ref r)) Q E s:=by
 unfold collect;show aC (wpAny_runValue (El F.entry_proto_collect ?_));rw[DP F.plain_proto_collect _];show aC (m:=newList []) (wpAny_newList (aQ ⟨Ep F.plain_list_iadd _,El F.entry_list_iadd ?_⟩));rw[DP F.plain_list_iadd _];let fin:∀{r':Result} {s':Shared},(∃h' tk acc c,r'=.ok (.ret (.ref s.heap.objs.size))/\s'={s with heap:=h',toks:=tk}/\h'.get? s.heap.objs.size=some (seqObj "list" acc c)/\(∀b o,s.heap.get? b=some o->h'.get? b=some o)/\ItemsOf (λi v=>∃t,v=.int (lo+i*1) t) acc n)->(match r' with
   |.ok (.ret v)=>wpAny (model prog w) A (match v with
    |.ref a=>do
     match (<-load a).data with
      |.seq xs _=>pure xs.toList|_=>unsupported "internal:collect"
    |_=>unsupported "internal:collect") Q E s'
   |.ok _=>False|.error e=>E e s'):=λ{r' s'} z=>by
  let⟨h',tk,acc,c,rfl,rfl,hS,kp,sU⟩:=z;show aC (wpAny_load hS (aQ (q h' tk acc kp sU)))
 show iM (wpAny_extend_range (A:=A) (s:={s with heap:=s.heap.push (seqObj "list" #[] 0)}) (R:=λr' s'=>∃h' tk acc c,r'=.ok (.ret (.ref s.heap.objs.size))/\s'={s with heap:=h',toks:=tk}/\h'.get? s.heap.objs.size=some (seqObj "list" acc c)/\(∀b o,s.heap.get? b=some o->h'.get? b=some o)/\ItemsOf (λi v=>∃t,v=.int (lo+i*1) t) acc n)
  hh (cR _ hr) hs hn gV s.heap.objs.size (.ref s.heap.objs.size) 0 (fB _ rfl) λh' tk acc c kp hS sU=>⟨h',tk,acc,c,rfl,rfl,hS,λb o e=>kp b o (dN (bZ e)) (cR _ e),sU⟩) (λf s' z=>?_) λe s' z=>?_
 .cases f with
  |done f=>show fin z|again c'=>show⟨z.1,Al z.2 λr s'' hr=>fin hr⟩
 .obtain⟨_,_,_,_,e,_⟩:=z;cases e
end
theorem zfe(r:Addr)(lo hi:Int)(t u v:Tok)(n:Nat)(hs:Builtin.Range.small lo hi 1=true)(hn:Builtin.Range.rangeSize lo hi 1=n)(hl:n<=65536):Meets (Builtin.«tuple.__new__» ⟨[.type "tuple",.ref r],[]⟩)
   (λA R s=>A.handled=none/\IsRange s.heap r lo hi 1 t u v/\∀(h':Heap) (tk:Nat) (acc:Array Value),(∀b o,s.heap.get? b=some o->h'.get? b=some o)->ItemsOf (λi v=>∃t,v=.int (lo+i*1) t) acc n->R (.ok (.ret (.ref h'.objs.size))) {s with heap:=h'.push {cls:=.type "tuple",data:=.seq acc},toks:=tk}):=
 .of_wp λprog w A R s h=>by
  let⟨hh,hr,h⟩:=h;let hsub:=sub_tuple_self;let hinit:=init_tuple_lookup;let hmh:=madeHere_tuple;let hT:s.TypeIs (.ref r) "range":=⟨_,hr,rfl⟩;let hh1:A.in1.handled=none:=hh
  wp_walk using wpAny_typeOf hT,K_ hr,zdX hh1 hr hs hn hl
  intro h' tk acc hk sU;change wpAny _ _ (Builtin.Tuple.tupleExact acc.toList.toArray >>= λv=>ret v) _ _ _;unfold Builtin.Tuple.tupleExact;let e:acc.toList.toArray=acc:=by simp
  rw[e];show aC (tU (aQ ⟨_,rfl,h h' tk acc hk sU⟩) (show acc.size<=sizeLine by rw[sU.1];show jz hl J0))
section
variable {X:Cx}
def zcd{ao:List (Addr×Obj)}{Z:L2.St}{H:Hp}{s:Shared}{Q:VK}{hi:Int}{t u v:Tok}{tk:Nat}(hc:X.aj=true)(I:Inv X ao Z H s)(hk:okR 0 hi=true)
  (q:∀l,H l=none->Q (.ref l) (upd H l (.tup (Gm 0 (hi-0).toNat)))) :
  wpAny (model X.prog X.w) X.A (PySem.call (.type "tuple") [.ref s.heap.objs.size]) (EP X ao Z Q) X.xe {s with heap:=s.heap.push {cls:=.type "range",data:=.fields #[.int 0 t,.int hi u,.int 1 v]},toks:=tk}:=by
 let⟨h1,h2,h3,h4,h5⟩:=gP hk;let en:Builtin.Range.rangeSize 0 hi 1=((hi-0).toNat:Nat):=by rw[rangeSize_one];split<;>lia
 show callType_new F.called_tuple J0 (F.typeCall_tuple_1 _) (F.newCall_tuple_1 _) (λobj=>F.args_object_init_2 obj _) F.entry_tuple_new (zfe _ 0 hi t u v _ (small_one h1 h2 h3 h4) en h5) ⟨I.ok.hd hc,IsRange.new ..,λh' tk' acc kp ⟨z1,z2⟩=>?_⟩;let hv:Vals (Gm 0 (hi-0).toNat) acc.toList:=by
  let:=zk9 (i:=0) (acc:=acc) (n:=(hi-0).toNat) (m:=0) (λk v e=>by
   let⟨t,e⟩:=z2 k v (by simpa using e);show⟨t,by rw[e,Int.mul_one,G9]⟩) (by rw[yt];show z1)
  simpa [Gm] using this
 let hz:s.heap.objs.size<=h'.objs.size:=wB (bZ (kp _ _ (fB s.heap rfl)));let I':=I.laid (a:=h'.objs.size) (o:=.tup (Gm 0 (hi-0).toNat)) (h':=h'.push {cls:=.type "tuple",data:=.seq acc}) (t':=tk') (λb u q=>cR _ (kp b u (cR _ q))) hz (show bT X.prog X.w _ _ _ (.tup (Gm 0 (hi-0).toNat)) from ⟨by
  rw[hv.length,yt,z1];show jz h5 J0,acc.toList,hv,⟨_,fB _ rfl,rfl,0,by simp,rfl⟩⟩)
 show⟨⟨_,fB _ rfl,rfl⟩,.ref h'.objs.size,_,I',rfl,q _ (I.hok.fresh hz)⟩
def Ks(vs:List V)(H:Hp)(Q:VK):Prop:=∃j:Int,vs=[.int j]/\okR 0 j=true/\∀l,H l=none->Q (.ref l) (upd H l (.tup (Gm 0 (j-0).toNat)))
def znV{e:Expr}{t:TA}{p p' pos pos':Pos}(hc:X.aj=true)(hg:Gl X "tuple")(hm:X.mg "tuple"=none)(Di:Gl X "range")(N6:X.mg "range"=none)(ha:PA X [e] t)(he:starEach [e] X.env=(false,eval e X.env)::starEach [] X.env:=by rfl) :
  PE X (.Call (.Name "tuple" p) [.Call (.Name "range" p') [e] [] pos'] [] pos) (Q8 Ks t):=by
 intro ao s Z H Q I h;show DX (ug I hg hm Tt ?_);show v7 ?_ rfl rfl;change wpAny _ _ (spliced ((false,eval (.Call (.Name "range" p') [e] [] pos') X.env)::backTo pos (starEach [] X.env))) _ _ s;show Calls.spliced_cons ?_;show DX (ug I Di N6 boot_range ?_);show v7 (aV (ha pos' ao s Z H _ I h) λus s1 hz=>?_) he rfl;let⟨vs,H1,I1,r1,q1⟩:=hz;let⟨j,rfl,hk,q⟩:=q1;cases r1 with
 |cons r rr=>
  cases rr;let⟨t,rfl⟩:=r;show call_range_1 (Calls.spliced_nil (zcd hc I1 hk q))
def zm5{e:Expr}{te:TE}(h:PE X e te)(he:∀whole,isTrue e X.env whole=(do let v <-whole;standAt e.pos;holding [v] (truthy v))):PT X e (λZ H Q=>te Z H λx H1=>∃k,Bl X.K x H1 k/\Q k H1):=by
 intro ao s Z H Q I hw;show isTrue_plain (aV (h ao s Z H _ I hw) λv s1 hx=>eO hx λx H1 I1 r1 q1=>znE ao s1 Z H1 x v Q I1 r1 q1) (he _)
end
section
variable {K:W.Frag}{cA:Cl}{U:Ph}{H:Hp}
def znR:bD K cA .Fj Ks:=by
 intro U H ds vs Q zt rs o;let o:bC K cA U H (BW ds) Q:=o;unfold BW at o;split at o
 .rename_i j _;let⟨v,rfl,r1⟩:=rs.one;cases (show Rep K cA U H (.int j) v from r1);by_cases hk:okR 0 j=true
  .rw[if_pos hk]at o;show⟨j,rfl,hk,λl hl=>o.tup zt (zhn _) hl⟩
  .rw[if_neg hk]at o;show o.elim
 .exact o.elim
end
section
variable {X:Cx}{cA:Cl}{aq:Nat->Nat->Bool}{aj:Bool}{F:Fn}{EX:XS}{a e:Expr}{A:E}{pos pos' p p':Pos}{Xs:Es}{fz:Bool}
theorem zor(hc:X.aj=true)(hm:X.mg "tuple"=none)(hg:JK X "tuple" .globalImplicit)(N6:X.mg "range"=none)(Di:JK X "range" .globalImplicit)(ha:JA X cA aq aj F EX [e] Xs)(he:aF e=true:=by rfl):JE X cA aq aj F EX (.Call (.Name "tuple" p) [.Call (.Name "range" p') [e] [] pos'] [] pos) (.pr fz .Fj Xs):=⟨PE.weak (znV hc hg.o hm Di.o N6 ha.o (bx he)) λZ H Q hh=>un hh λU J s hL hS h=>
 oG hL hS h λvs H1 U1 ds s1 x1 hL1 aH r1 h1=>by
  let⟨ds,rs,h3⟩:=uR aH r1 h1;show znR U1 H1 ds _ _ aH.zs rs (sZ aH h3)⟩
theorem zoH(ha:JE X cA aq aj F EX a A)(he:zA a=true:=by rfl):JT X cA aq aj F EX a (.Fl A):=⟨PT.weak (zm5 ha.o (by cases a<;>first|(intro _;rfl)|cases he)) λZ H Q hh=>un (ZQ hh) λU J s hL hS h=>by
 show bf hL hS h λx H1 U1 d1 s1 x1 hL1 aH r1 h1=>?_;let⟨dd,rv,h2⟩:=Jw aH r1 h1;let⟨bb,e,h3⟩:=Fx h2;let⟨c,ec,q⟩:=h3.bF aH _ (.d (.bl bb));cases ec;show⟨bb,zmK rv e,q⟩⟩
end
def gY(h:Heap)(items:Array Value)(rows:List (List Int))(no:List Addr):Prop:=∀i v,items[i]?=some v->∃a xs,v=.ref a/\IsTup h a xs/\IntsAre xs.toList (rows.getD i [])/\a∉no
theorem gY.keep{h h':Heap}{items:Array Value}{rows:List (List Int)}{no:List Addr}(g:gY h items rows no)(k:∀b o,b∉no->h.get? b=some o->h'.get? b=some o):gY h' items rows no:=λi v e=>by
 let⟨a,xs,e1,⟨o,e2,r⟩,e3,e4⟩:=g i v e;show⟨a,xs,e1,⟨o,k a o e4 e2,r⟩,e3,e4⟩
noncomputable abbrev vY(rows:List (List Int))(i j:Nat):Bool:=HT.lexLt (rows.getD i []) (rows.getD j [])
section
variable {prog:Program}{w:World}{A:Around}{R:Result->Shared->Prop}{I S l:Addr}{items:Array Value}{rows:List (List Int)}
def zjX{s:Shared}{i j:Nat}{u v:Value}{Q:Value->Shared->Prop}{E:Value->Shared->Prop}(hu:A.units<cLine)(g:gY s.heap items rows [I,S])(h1:items[i]?=some u)(h2:items[j]?=some v)(q:Q (.bool (vY rows i j)) s):wpAny (model prog w) A (richCompare .Lt u v) Q E s:=by
 let⟨a,xs,rfl,p1,i1,_⟩:=g i u h1;let⟨b,ys,rfl,p2,i2,_⟩:=g j v h2;show HT.jQ p1 p2 i1 i2 hu q
def zfk(hh:A.handled=none)(hu:A.units+1<cLine)(hlI:l≠I)(hS:S∉[I,l]):∀(k j:Nat) (s:Shared) (vb:Value) (c:Nat),items.size-(j+1)=k->j+1<=items.size->(s.heap.IsListIter I l (j+1)/\s.heap.IsList l items)->items[argBest (vY rows) j]?=some vb->gY s.heap items rows [I,S]->
  s.heap.get? S=some (seqObj "list" #[vb,vb] c)->(∀v h' tk,items[argBest (vY rows) (items.size-1)]?=some v->(∀b o,b∉[I,S]->s.heap.get? b=some o->h'.get? b=some o)->R (.ok (.ret v)) {s with heap:=h',toks:=tk})->
  codeAny (model prog w) A (.builtin "min.loop" ⟨[.ref I,.none,.ref S],[]⟩) R s:=by
 let W:=Walks.list (prog:=prog) (w:=w) (A:=A.in1) hh I l hlI items;let nm:(toString "min"++toString ".loop" : String)="min.loop":=by decide
 let SI:S∉[I]:=λz=>hS (by simp at z;simp[z]);intro k
 induction k with
 |zero=>
  intro j s vb c e1 e2 st hb g oS q;show El F.entry_min_loop ?_;rw[DP Ah _];show aC (m:=seqItems? (.ref S)) (rE oS rfl ?_);show aC (m:=tryCatch (pyNext (.ref I)) _) (wpAny_tryCatch (W.done s _ _ ((show j+1=items.size by lia)▸st) λh' tk kp=>?_));show aC (m:=updateSeq S λ_=>#[]) (wpAny_updateSeq (kp S _ SI oS) rfl (aC (Am (aQ (q vb _ tk ?_ λb o hb e=>?_)))))
  .rw[show items.size-1=j by lia];show hb
  .exact(GJ _ _ (λz=>hb (by simp[z]))).trans (kp b o (λz=>hb (by simp at z;simp[z])) e)
 |succ k ih=>
  intro j s vb c e1 e2 st hb g oS q;show El F.entry_min_loop ?_;rw[DP Ah _];show aC (m:=seqItems? (.ref S)) (rE oS rfl ?_);show aC (m:=tryCatch (pyNext (.ref I)) _) (wpAny_tryCatch (W.item (j+1) s _ _ gV st λv h' tk hP st' kp=>?_));let Uy:=kp S _ SI oS;let g':gY h' items rows [I,S]:=g.keep λb o hb e=>kp b o (λz=>hb (by simp at z;simp[z])) e;show aC (m:=tryCatch (holding [v,v] (richCompare .Lt v vb >>= _)) _) (wpAny_tryCatch (vM (aC (zjX (A:=A.in1) (s:={s with heap:=h',toks:=tk}) hu g' hP hb ?_))));show aC (vM (vG (aC (Am (aQ ?_)))));cases e3:vY rows (j+1) (argBest (vY rows) j) with
  |true=>
   simp only[if_true];show aC (wpAny_updateSeq Uy rfl (aC (Am ?_)));rw[nm];let Gs:∀b o,b≠S->h'.get? b=some o->(h'.update S (Obj.mapSeq λ_=>#[v,v])).get? b=some o:=λb o hb e=>(GJ _ _ (Ne.symm hb)).trans e;show aQ ⟨Ep Ah _,ih (j+1) _ v _ gV gV (W.frame _ _ _ st' λb hb o e=>Gs b o (λz=>hS (by rw[<-z];show hb)) e) (by simp only[argBest,e3,if_true];show hP) (g'.keep λb o hb e=>Gs b o (λz=>hb (by simp[z])) e) (La _ Uy rfl) λv' h2 tk2 Ku Kv=>q v' h2 tk2 Ku λb o hb e=>Kv b o hb (Gs b o (λz=>hb (by simp[z])) (kp b o (λz=>hb (by simp at z;simp[z])) e))⟩
  |false=>
   simp only[vD,qu];show aC (Am ?_);rw[nm];show aQ ⟨Ep Ah _,ih (j+1) _ vb c gV gV st' (by simp only[argBest,e3,vD,qu];show hb) g' Uy λv' h2 tk2 Ku Kv=>q v' h2 tk2 Ku λb o hb e=>Kv b o hb (kp b o (λz=>hb (by simp at z;simp[z])) e)⟩
def zfd{s:Shared}{E:Value->Shared->Prop}{Q:Value->Shared->Prop}(hh:A.handled=none)(hu:A.units+2<cLine)(hl:s.heap.IsList l items)(h0:0<items.size)(g:gY s.heap items rows [])
  (q:∀v h' tk,items[argBest (vY rows) (items.size-1)]?=some v->(∀b o,s.heap.get? b=some o->h'.get? b=some o)->Q v {s with heap:=h',toks:=tk}):wpAny (model prog w) A (PySem.call (.builtin "min") [.ref l]) Q E s:=by
 let nm:(toString "min"++toString ".loop" : String)="min.loop":=by decide
 let cW:l<s.heap.objs.size:=by let⟨o,e,_⟩:=hl;show bZ e
 show call_function_tree F.kind_min F.plain_min F.entry_min (F.args_min1 _) ?_;show aC (m:=Builtin.Builtins.bindParams "min" ["key","default"] 0 ⟨[],[]⟩) (yI (show Builtin.Builtins.bindParams "min" ["key","default"] 0 ⟨[],[]⟩=pure [none,none] from rfl) (aC (aQ ?_)));show aC (Lh hl (aC (tU ?_)));rw[nm];let n1:(s.heap.push {cls:=.type "list_iterator",data:=.fields #[.ref l,.int 0 0]}).objs.size=s.heap.objs.size+1:=vL ..;show aQ ⟨Ep Ah _,?_⟩;show El F.entry_min_loop ?_;rw[DP Ah _];let W:=Walks.list (prog:=prog) (w:=w) (A:=A.in1) hh s.heap.objs.size l (dN cW) items;let oS:((s.heap.push {cls:=.type "list_iterator",data:=.fields #[.ref l,.int 0 0]}).push (seqObj "list" #[] 0)).get? (s.heap.objs.size+1)=some (seqObj "list" #[] 0):=by rw[<-n1];show fB _ rfl
 let k0:∀b o,s.heap.get? b=some o->((s.heap.push {cls:=.type "list_iterator",data:=.fields #[.ref l,.int 0 0]}).push (seqObj "list" #[] 0)).get? b=some o:=λb o e=>cR _ (cR _ e);rw[n1];show aC (m:=seqItems? (.ref (s.heap.objs.size+1))) (rE oS rfl ?_);show aC (m:=tryCatch (pyNext (.ref s.heap.objs.size)) _) (wpAny_tryCatch (W.item 0 _ _ _ h0 ⟨⟨_,cR _ (fB _ rfl),rfl,rfl⟩,hl.at λo e=>k0 l o e⟩ λv h' tk hP st' kp=>?_));let ne1:s.heap.objs.size+1∉[s.heap.objs.size]:=by simp
 show aC (m:=updateSeq (s.heap.objs.size+1) λ_=>#[v,v]) (wpAny_updateSeq (kp _ _ ne1 oS) rfl ?_);rw[nm];let Gs:∀b o,b≠s.heap.objs.size+1->h'.get? b=some o->(h'.update (s.heap.objs.size+1) (Obj.mapSeq λ_=>#[v,v])).get? b=some o:=λb o hb e=>(GJ _ _ (Ne.symm hb)).trans e;let Kw:∀b o,s.heap.get? b=some o->(h'.update (s.heap.objs.size+1) (Obj.mapSeq λ_=>#[v,v])).get? b=some o:=λb o e=>Gs b o (dN (vH (bZ e))) (kp b o (by simpa using dN (bZ e)) (k0 b o e));let out:∀b o,s.heap.get? b=some o->b∉[s.heap.objs.size,s.heap.objs.size+1]:=λb o e z=>by
  rcases jo.mp z with z|z
  .exact absurd z (dN (bZ e))
  .exact absurd (jM.mp z) (dN (vH (bZ e)))
 show aQ ⟨Ep Ah _,zfk (A:=A) (rows:=rows) hh gV (dN cW) (λz=>by
  rcases jo.mp z with z|z
  .exact absurd z (Nat.succ_ne_self _)
  .exact absurd (jM.mp z) (wC (vH cW))) _ 0 _ v _ rfl h0 (W.frame _ _ _ st' λb hb o e=>Gs b o (λz=>by
  rcases jo.mp hb with y|y
  .exact absurd (z.symm.trans y) (Nat.succ_ne_self _)
  .exact absurd (z.symm.trans (jM.mp y)) (wC (vH cW))) e) hP ?_ (La _ (kp _ _ ne1 oS) rfl) λv' h2 tk2 Ku Kv=>q v' h2 tk2 Ku λb o e=>Kv b o (out b o e) (Kw b o e)⟩
 intro i u e;let⟨a,xs,e1,⟨o,e2,r⟩,e3,_⟩:=g i u e;show⟨a,xs,e1,⟨o,Kw a o e2,r⟩,e3,out a o e2⟩
end
theorem zeO{x:List Int}{rs:List (List Int)}:∀k,k<=rs.length->(x::rs).getD (argBest (vY (x::rs)) k) []=fQ x (rs.take k)
 |0,_=>rfl|k+1,hk=>by
  let ih:=zeO (x:=x) (rs:=rs) k gV;let app:∀(a b:List (List Int)) (y:List Int),fQ y (a++b)=fQ (fQ y a) b:=λa=>by
   induction a with
   |nil=>intro b y;rfl|cons z a ih=>intro b y;show ih b _
  let ht:rs.take (k+1)=rs.take k++[rs[k]' gV]:=List.take_succ_eq_append_getElem gV;let hv:(x::rs).getD (k+1) []=rs[k]' gV:=by
   rw[jL,Ac,cB gV];rfl
  rw[ht,app,<-ih];change _=(if ltI (rs[k]' gV) _=true then _ else _);rw[argBest.eq_2,JL];unfold vY;rw[hv]
  split
  .exact hv
  .rfl
theorem zcB{K:W.Frag}{cA:Cl}{U:Ph}{H:Hp}:∀{xs:List D} {rs:List (List Int)} {vs:List V},jU xs=some rs->aD K cA U H xs vs->rs.length=vs.length/\∀(i:Nat) v,vs[i]?=some v->∃a,v=.ref a/\TupAt K U H a ((rs.getD i []).map .int)
 |[],rs,vs,h,r=>by cases h;cases r;show⟨rfl,λi v e=>by simp at e⟩|d::xs,rs,vs,h,r=>by
  cases r with
  |cons q r=>cases q with
   |@tup a ys us t ts=>
    unfold jU at h;cases e1:bI ys with
    |none=>simp only[e1]at h;cases h|some is=>cases e2:jU xs with
     |none=>simp only[e1,e2]at h;cases h|some rr=>
      simp only[e1,e2]at h;cases h;let⟨l,k⟩:=zcB e2 r;show⟨by simp[l],λi v e=>?_⟩;cases i with
      |zero=>
       simp at e;subst e;show⟨a,rfl,?_⟩;change TupAt K U H a (is.map V.int);rw[<-show _=is.map V.int from FQ e1 ts];show t
      |succ i=>show k i v (by simpa using e)
   |_=>cases h
section
variable {X:Cx}{cA:Cl}{aq:Nat->Nat->Bool}{aj:Bool}{F:Fn}{EX:XS}{e:Expr}{pos p:Pos}{es:List Expr}{Xs:Es}{fz:Bool}
def vp(K:W.Frag)(vs:List V)(H:Hp)(Q:VK):Prop:=∃(l:Addr) (x:List Int) (rs:List (List Int)) (us:List V),vs=[.ref l]/\c7 K H l us/\(x::rs).length=us.length/\(∀(i:Nat) v,us[i]?=some v->∃a,v=.ref a/\fC K H a (((x::rs).getD i []).map V.int))/\∀(i:Nat) a,us[i]?=some (.ref a)->(x::rs).getD i []=fQ x rs->Q (.ref a) H
theorem zgN:∀{is:List Int} {us:List Value},Vals (is.map V.int) us->IntsAre us is
 |[],_,.nil=>.nil|_::is,_,.cons ⟨t,e⟩ r=>by subst e;show .cons _ t (zgN r)
def zga(hc:X.aj=true)(hu:X.A.units+2<cLine):cV X (.builtin "min") (vp X.K):=by
 rintro ao s Z H xs us Q I r ⟨l,x,rs,ws,e,hl,hlen,Ky,q⟩;subst e;let⟨u,rfl,ru⟩:=Vals.one r;cases (show u=Value.ref l from ru);let⟨its,rv,pl,hz⟩:=I.list hl;let hL:=rv.length;let hsz:its.toArray.size=rs.length+1:=by rw[gj,<-hL,<-hlen];rfl
 show zfd (rows:=x::rs) (I.ok.hd hc) hu pl.isList gV (λi v e=>?_) λv h' tk hP hk=>?_
 .let hi:its[i]?=some v:=by simpa using e
  let cW:i<ws.length:=by rw[hL];show(cJ.mp hi).1
  let⟨a,ea,ht⟩:=Ky i _ (cB cW);let⟨v',e1,e2⟩:=rv.get (cB cW);rw[hi]at e1;cases e1;rw[ea]at e2;cases (show v=Value.ref a from e2);let⟨xs,rx,p,_⟩:=I.tuple ht;show⟨a,_,rfl,p,by simpa using zgN rx,by simp⟩
 .rw[hsz,Nat.add_sub_cancel]at hP;let hi:its[argBest (vY (x::rs)) rs.length]?=some v:=by simpa using hP
  let cW:argBest (vY (x::rs)) rs.length<ws.length:=by rw[hL];show(cJ.mp hi).1
  let⟨a,ea,ht⟩:=Ky _ _ (cB cW);let⟨v',e1,e2⟩:=rv.get (cB cW);rw[hi]at e1;cases e1;rw[ea]at e2;cases (show v=Value.ref a from e2);show⟨.ref a,H,I.kept (h':=h') (t':=tk) hk,rfl,q _ a ((cB cW).trans (by rw[ea])) (by rw[zeO rs.length (bQ _),wu])⟩
def zj6{K:W.Frag}:bD K cA .rR (vp K):=by
 intro U H ds vs Q zt rs o;let o:bC K cA U H (oA ds) Q:=o;unfold oA at o;split at o
 .rename_i xs _;let⟨v,rfl,rv⟩:=rs.one;obtain⟨a,us,rfl,sq,q⟩ : ∃a us,v=.ref a/\c7 K H a us/\aD K cA U H xs us:=rv;split at o
  .rename_i x r e;let⟨l,k⟩:=zcB e q;show⟨a,x,r,us,rfl,sq,l,λi v ei=>?_,λi b ei hb=>?_⟩
   .obtain⟨c,e1,e2⟩:=k i v ei;show⟨c,e1,e2.iC⟩
   .obtain⟨c,e1,e2⟩:=k i _ ei;cases e1;rw[hb]at e2;let rr:∀is:List Int,aD K cA U H (is.map D.int) (is.map V.int):=λis=>by
     induction is with
     |nil=>show .nil|cons j is ih=>show .cons (.int j) ih
    show o.here (.tup e2 (rr _))
  .exact o.elim
 .exact o.elim
theorem zmG{k:Nat}(hr:bH k X.A)(hc:X.aj=true)(hm:X.mg "min"=none)(hg:JK X "min" .globalImplicit)(ha:JA X cA aq aj F EX (e::es) Xs)(he:aF e=true:=by rfl)(cF:es.all aF=true:=by rfl):JE X cA aq aj F EX (.Call (.Name "min" p) (e::es) [] pos) (.pr fz .rR Xs):=⟨zm (zga hc (by let:=hr.un;lia)) zj6 hg.o hm PyProof.Rows.boot_min ha.o J0 J0 (bx he) (bG cF)⟩
end
end Mi
namespace Mi
open PySem PySem.Spec PyProof.Rows L2 PySem.W
theorem jh(its:List Value):∀(n:Nat) (acc:Array Value),(List.replicate n its.toArray).foldl (λx y=>x++y) acc=acc++(rep its n).toArray
 |0,acc=>by simp[rep]|n+1,acc=>by
  rw[DW,Lw,jh its n];simp[rep,DW]
def q_{α:Type}(xs:List α)(n:Nat):(rep xs n).length=n*xs.length:=by
 unfold rep
 induction n with
 |zero=>simp|succ n ih=>rw[DW,P_,jk,ih,yH];lia
def Kz{α:Type}(xs:List α)(n:Nat):rep xs (n+1)=xs++rep xs n:=by
 unfold rep;rw[DW,P_]
theorem ze5{ys:List V}{its:List Value}(r:Vals ys its):∀n,Vals (rep ys n) (rep its n)
 |0=>.nil|n+1=>by
  rw[Kz,Kz];let key:∀{as:List V} {bs:List Value},Vals as bs->∀{cs:List V} {ds:List Value},Vals cs ds->Vals (as++cs) (bs++ds):=by
   intro as bs h
   induction h with
   |nil=>intro cs ds h2;show h2|cons a _ ih=>intro cs ds h2;show .cons a (ih h2)
  show key r (ze5 r n)
section
variable {K:W.Frag}{cA:Cl}{U:Ph}{H:Hp}
def zh7{as:List D}{bs:List V}(h:aD K cA U H as bs){cs:List D}{ds:List V}(h2:aD K cA U H cs ds):aD K cA U H (as++cs) (bs++ds):=by
 show h.app h2
theorem zeX{xs:List D}{ys:List V}(r:aD K cA U H xs ys):∀n,aD K cA U H (rep xs n) (rep ys n)
 |0=>.nil|n+1=>by
  rw[Kz,Kz];show zh7 r (zeX r n)
end
end Mi
end Lake
namespace PySem
open Lake
open Builtin
theorem zbw:fillsNumberSlot (.type "tuple") "mul"=pure false:=
 fillsNumberSlot_seq (id:="tuple.__mul__") (r:=some (.builtin "tuple.__rmul__")) Lp.lookup Dc F.slot_tuple_rmul.lookup Dc
def zdc:seqRepeat? (.type "tuple")=pure (some (.builtin "tuple.__mul__")):=by
 unfold seqRepeat?;rw[seqSlot_of (T:="tuple") (name:="__mul__") (id:="tuple.__mul__") Lp.lookup Dc,seqSlot_of (T:="tuple") (name:="__rmul__") (id:="tuple.__rmul__") F.slot_tuple_rmul.lookup Dc];rfl
theorem zbP(a:Int)(t:Tok)(l:Addr)(items:Array Value)(n:Nat)(d:Option Addr)(sl:Array (Option Value)) :
  Meets (Builtin.«int.__rmul__» ⟨[.int a t,.ref l],[]⟩) (λ_ R s=>s.heap.get? l=some {cls:=.type "tuple",dict:=d,data:=.seq items n,slots:=sl}/\R (.ok (.ret Value.notImplemented)) s):=
 .of_wp λprog w A R s h=>by let⟨hp,g,d,tk,os⟩:=s;let⟨hl,h⟩:=h;wp_walk;show⟨_,rfl,h⟩
theorem zcQ(l:Addr)(items:Array Value)(n:Nat)(d:Option Addr)(sl:Array (Option Value))(u:Tok) :
  Meets (Builtin.«tuple.__mul__» ⟨[.ref l,.int 1 u],[]⟩) (λ_ R s=>s.heap.get? l=some {cls:=.type "tuple",dict:=d,data:=.seq items n,slots:=sl}/\R (.ok (.ret (Value.ref l))) s):=
 .of_wp λprog w A R s h=>by
  let⟨hp,g,d,tk,os⟩:=s;let⟨hl,h⟩:=h
  wp_walk
  show⟨_,rfl,h⟩
theorem zc1(l:Addr)(items:Array Value)(n:Nat)(d:Option Addr)(sl:Array (Option Value))(u:Tok)(he:items.isEmpty=false) :
  Meets (Builtin.«tuple.__mul__» ⟨[.ref l,.int 0 u],[]⟩) (λ_ R s=>s.heap.get? l=some {cls:=.type "tuple",dict:=d,data:=.seq items n,slots:=sl}/\R (.ok (.ret (Value.ref s.heap.objs.size))) {s with heap:=s.heap.push {cls:=Value.type "tuple",data:=Data.seq (List.foldl (λx1 x2=>x1++x2) #[] (List.replicate (0:Int).toNat items))},toks:=s.toks}):=
 .of_wp λprog w A R s h=>by
  let⟨hp,g,d,tk,os⟩:=s;let⟨hl,h⟩:=h
  wp_walk
  show⟨_,rfl,h⟩
theorem zcK(l:Addr)(items:Array Value)(n:Nat)(d:Option Addr)(sl:Array (Option Value))(x:Int)(u:Tok)(h2:2<=x)(h3:x<=1000)(he:items.isEmpty=false)(hs:items.size<=1000) :
  Meets (Builtin.«tuple.__mul__» ⟨[.ref l,.int x u],[]⟩) (λ_ R s=>s.heap.get? l=some {cls:=.type "tuple",dict:=d,data:=.seq items n,slots:=sl}/\R (.ok (.ret (Value.ref s.heap.objs.size))) {s with heap:=s.heap.push {cls:=Value.type "tuple",data:=Data.seq (List.foldl (λx1 x2=>x1++x2) #[] (List.replicate x.toNat items))},toks:=s.toks}):=
 .of_wp λprog w A R s h=>by
  let⟨hp,g,d,tk,os⟩:=s;let⟨hl,h⟩:=h;let h1:(x==1)=false:=by simpa using show ¬x=1 by lia
  let hb:(decide (x < -(2^63))||decide (x>=2^63))=false:=by rw[iK gV,iK gV];rfl
  let hm:(items.size:Int)*x<=1000000:=Int.le_trans (Int.mul_le_mul (show (items.size:Int)<=1000 by lia) h3 gV gV) J0;let wH:(1000000:Int)<=(sizeLine:Int):=by decide
  let hz:(List.foldl (λx1 x2=>x1++x2) #[] (List.replicate x.toNat items)).size<=1000000:=by
   let:=Mi.jh items.toList x.toNat #[];simp only[Array.toArray_toList]at this;rw[this];simp only[Array.size_append,gj,Mi.q_,yt];let:=En (show x.toNat<=1000 by lia) hs;simp
   lia
  let Jh:(1000000:Nat)<=sizeLine:=by decide
  let nt:∀{b:Bool},b=false->decide (b=true)=false:=λ{b} e=>by rw[e];rfl
  wp_walk
  show G8 (nt hb) ?_
  wp_walk
  show G8 (nt (b:=decide (x<=0)||items.isEmpty) (by rw[he,iK gV];rfl)) ?_
  wp_walk
  show G8 (iK gV) ?_
  wp_walk
  show G8 (nt (b:=Builtin.Tuple.tupleTooMany (items.size*x)) (iK gV)) ?_
  wp_walk
  show G8 (iK gV) ?_
  wp_walk
  show⟨_,rfl,h⟩
def zcR(l:Addr)(items:Array Value)(n:Nat)(d:Option Addr)(sl:Array (Option Value))(x:Int)(u:Tok)(h2:¬x=1)(h0:0<=x)(h3:x<=1000)(he:items.isEmpty=false)(hs:items.size<=1000) :
  Meets (Builtin.«tuple.__mul__» ⟨[.ref l,.int x u],[]⟩) (λ_ R s=>s.heap.get? l=some {cls:=.type "tuple",dict:=d,data:=.seq items n,slots:=sl}/\R (.ok (.ret (Value.ref s.heap.objs.size))) {s with heap:=s.heap.push {cls:=Value.type "tuple",data:=Data.seq (List.foldl (λx1 x2=>x1++x2) #[] (List.replicate x.toNat items))},toks:=s.toks}):=by
 by_cases e:x=0
 .subst e;show zc1 l items n d sl u he
 .exact zcK l items n d sl x u gV h3 he hs
end PySem
namespace Lake
namespace Mi
open PySem PySem.Spec PyProof.Rows L2 PySem.W
def zQ(K:W.Frag):R2:=λx y H Q=>∃l ys n,x=.ref l/\fC K H l ys/\y=.int n/\(0<=n/\n<=1000/\1<=ys.length/\ys.length<=1000)/\(n=1->Q (.ref l) H)/\∀p,H p=none->Q (.ref p) (upd H p (.tup (rep ys n.toNat)))
def zk4{X:Cx}:dX X (binaryOp .Mult) (zQ X.K):=by
 intro ao s Z H x y v u Q I rx ry h;let⟨l,ys,n,rfl,hq,rfl,⟨h0,h1,hl1,hl⟩,q1,q⟩:=h;cases (show v=Value.ref l from rx);let⟨t,rfl⟩:=ry;let⟨its,rv,⟨o,e,hc,c,hda⟩,hz⟩:=I.tuple hq;let⟨ocls,odict,odata,oslots⟩:=o;simp only at hc hda;subst hc hda;let hlen:=rv.length;show wpAny_binaryOp_repeat_ref (T:="tuple") («U»:="int") J0 ⟨_,e,rfl⟩ (λ_=>rfl) zbw F.fills_int_mul F.slot_int_rmul zdc int_index ?_;show Et F.slot_int_rmul rfl F.entry_int_rmul (F.args_int_rmul_2 _ _) (zbP n t l its.toArray c odict oslots) ⟨e,rfl,⟨_,e,rfl⟩,?_⟩;by_cases hn:n=1
 .subst hn;show Et Lp ⟨_,e,rfl⟩ F.entry_tuple_mul (F.args_tuple_mul_2 _ _) (zcQ l its.toArray c odict oslots t) ⟨e,⟨.ref l,H,I,rfl,q1 rfl⟩⟩
 .let uN:its≠[]:=λz=>by rw[z]at hlen;let:ys.length=0:=hlen;lia
  show Et Lp ⟨_,e,rfl⟩ F.entry_tuple_mul (F.args_tuple_mul_2 _ _) (zcR l its.toArray c odict oslots n t hn h0 h1 (by simpa using uN) (by rw[gj,<-hlen];show hl)) ⟨e,?_⟩;let hn:H s.heap.objs.size=none:=I.hok.fresh (bQ _);let ea:(List.replicate n.toNat its.toArray).foldl (λx y=>x++y) #[]=(rep its n.toNat).toArray:=by
   rw[jh];simp
  show⟨.ref s.heap.objs.size,_,I.laid (a:=s.heap.objs.size) (o:=.tup (rep ys n.toNat)) (t':=s.toks) (λb w q=>cR _ q) (bQ _) ?_,rfl,q _ hn⟩;show⟨?_,_,ze5 rv n.toNat,?_⟩
  .rw[q_];let:=En (show n.toNat<=1000 by lia) hl;let Jh:(1000000:Nat)<=sizeLine:=by decide
   lia
  .rw[ea];show jO.new _ _
section
variable {K:W.Frag}{cA:Cl}{U:Ph}{H:Hp}
def zkf:bD K cA .mult (r2 (zQ K)):=by
 intro U H ds vs Q zt rs o;let o:bC K cA U H (zc ds) Q:=o;cases ds with
 |nil=>show False.elim o|cons a t=>cases a with
  |tup xs=>cases t with
   |nil=>show False.elim o|cons b t=>cases b with
    |int n=>cases t with
     |cons _ _=>show False.elim o|nil=>
      let⟨v,v',rfl,r1,r2⟩:=rs.two (ds:=[]);rw[r2.int];let⟨a,us,rfl,ta,q⟩:=r1.tup;let hl:=q.len;let o:bC K cA U H (if 0<=n/\n<=1000/\1<=xs.length/\xs.length<=1000 then some (.dat (.tup (rep xs n.toNat))) else none) Q:=o;by_cases hk:0<=n/\n<=1000/\1<=xs.length/\xs.length<=1000
      .rw[if_pos hk]at o;show⟨_,_,rfl,a,us,n,rfl,ta.iC,rfl,⟨hk.1,hk.2.1,by lia,by lia⟩,λe=>?_,λp hp=>o.tup zt (zeX q _) hp⟩;subst e;let e1:rep xs (1:Int).toNat=xs:=by change rep xs (0+1)=xs;rw[Kz];simp[rep]
       rw[e1]at o;show o.here (.tup ta q)
      .rw[if_neg hk]at o;show o.elim
    |_=>show False.elim o
  |_=>show False.elim o
end
theorem Ob{X:Cx}{cA:Cl}:JQ X cA .Mult .mult:=⟨_,zk4,zkf⟩
end Mi
namespace L2
open PySem PySem.Spec PyProof.Rows
theorem zfT(l:Addr)(its:Array Value)(n:Nat)(dd:Option Addr)(sl:Array (Option Value))(x:Value)(j:Nat)(hj:j<its.size) :
  Meets (Builtin.«tuple.index» ⟨[.ref l,x],[]⟩) (λA R s=>s.heap.get? l=some {cls:=.type "tuple",dict:=dd,data:=.seq its n,slots:=sl}/\(∀m (hm:m<its.size),m<=j->SeqAt.EqAt A.in1 s its[m] x (m==j))/\R (.ok (.ret (.int j s.toks))) {s with toks:=s.toks+1}):=
 .of_wp λprog w A R s h=>by
  let⟨hp,g,d,tk,os⟩:=s;let⟨hl,he,h⟩:=h
  wp_walk using Af hl
  show(show wpAny _ _ (forIn (m:=Sem) [:min its.size its.size] ((none,()):Option Fin×PUnit) λ(i:Nat) _=>match its[i]? with
      |some y=>do
       let r <-eqBool y x
       if r=true then do
         let r <-retInt (i:Int)
         pure (ForInStep.done (some r,()))
        else pure (ForInStep.yield (none,()))
      |_=>pure (ForInStep.yield (none,()))) _ _ _ from ?_)
  rw[Std.Legacy.Range.forIn_eq_forIn_range',Nat.min_self,show ([:its.size]:Std.Legacy.Range).size=its.size by simp[Std.Legacy.Range.size]];show Ef _ (λrest (b:Option Fin×PUnit) s'=>b.1=none/\s'=⟨hp,g,d,tk,os⟩/\∃i,i<=j/\rest=List.range' i (its.size-i)) _ ?_ ?_ _ _ ⟨rfl,rfl,0,sW _,rfl⟩
  .rintro a rest b s' ⟨hb,rfl,i,hi,hr⟩;let cW:i<its.size:=by lia
   rw[show its.size-i=(its.size-(i+1))+1 by lia,List.range'_succ]at hr;injection hr with h1 h2;subst h1 h2;let e1:its[a]?=some its[a]:=by simp[cW]
   rw[e1];show aC (he _ cW hi prog w _ _ ?_);by_cases hq:a=j
   .subst hq;rw[Ag]
    wp_walk
    show⟨_,rfl,h⟩
   .rw[Ae.mpr hq]
    wp_walk
    show⟨rfl,rfl,a+1,by lia,rfl⟩
  .rintro⟨b1,b2⟩ s' ⟨hb,rfl,i,hi,hr⟩
   exfalso
   let:=nq List.length hr;simp at this
   lia
end L2
namespace Mi
open PySem PySem.Spec PyProof.Rows L2
def znO:∀{ds:List D} {j:Nat},pB ds=some j->∀m,m<=j->∃d,ds[m]?=some d/\cO 50 d (.tup [])=some (m==j):=by
 intro ds
 induction ds with
 |nil=>intro j h;cases h|cons d r ih=>
  let nxt:∀{j:Nat},(pB r).map (·+1)=some j->cO 50 d (.tup [])=some false->∀m,m<=j->∃x,(d::r)[m]?=some x/\cO 50 x (.tup [])=some (m==j):=by
   intro j h hd m hm;let⟨k,h1,rfl⟩:=iI.mp h;cases m with
   |zero=>show⟨d,rfl,hd⟩|succ m=>
    let⟨x,e1,e2⟩:=ih h1 m gV;show⟨x,e1,by rw[e2];congr 1;simp⟩
  intro j h
  match d,h with
  |.tup [],h=>
   cases (show some 0=some j from h);intro m hm;cases Nat.le_zero.mp hm;show⟨_,rfl,rfl⟩
  |.tup (x::xs),h=>show nxt h rfl|.non,h=>show nxt h rfl
section
variable {X:Cx}{cA:Cl}{aq:Nat->Nat->Bool}{aj:Bool}{F:Fn}{EX:XS}{a e:Expr}{A:E}{pos apos:Pos}{es:List Expr}{Xs:Es}
def KC(K:W.Frag)(cA:Cl)(x:V)(xs:List V)(H:Hp)(Q:VK):Prop:=∃U ds v j,xs=[v]/\Rv K cA U H (.tup ds) x/\Rv K cA U H (.tup []) v/\pB ds=some j/\Q (.int (j:Nat)) H
def zn0(hu:X.A.units+60<cLine):Rf X "tuple.index" (KC X.K cA):=by
 rintro ao sh Z H x xs v us Q I rx r ⟨U,ds,y,j,e2,r1,r2,hj,q⟩;subst e2;let⟨u,rfl,ru⟩:=Vals.one r;let dD:X.A.in1.units+50<cLine:=by change X.A.units+1+50<cLine;lia
 let i1:=zp I r2 ru;cases zp I r1 rx with
 |@tup l _ its p rr=>
  let⟨⟨cls,dd,data,sl⟩,hg,hc,n,hd⟩:=p;simp only at hc hd;subst hc hd;let at':=λm hm=>(znO hj m hm).elim λd z=>(rr.get z.1).elim λw k=>(⟨w,d,k.1,k.2,z.2⟩ : ∃w d,its[m]?=some w/\Is sh.heap d w/\cO 50 d (.tup [])=some (m==j));let cW:j<its.length:=by
   let⟨w,_,e,_⟩:=at' j (bQ _);show(cJ.mp e).1
  show Et PySem.F.slot_tuple_index ⟨_,hg,rfl⟩ PySem.F.entry_tuple_index (PySem.F.args_tuple_index_2 _ _) (zfT l _ n dd sl u j (by simpa using cW)) ⟨hg,λm hm hle=>?_,⟨.int j,H,I.tok _,⟨_,rfl⟩,q⟩⟩;let⟨w,d,e,q1,q2⟩:=at' m hle;let e':its.toArray[m]=w:=by
   let⟨_,z⟩:=cJ.mp e;simpa using z
  rw[e'];show FN 50 dD q1 i1 q2
 |oth k=>cases k
def zmE{K:W.Frag}:YL K cA .pB (KC K cA):=by
 intro U H ds vs Q zt rs o;let o:bC K cA U H (BZ ds) Q:=o;unfold BZ at o;split at o
 .obtain⟨v,v',rfl,r1,r2⟩:=rs.two (ds:=[]);let⟨z,e⟩:=o.some';let⟨j,e1,e2⟩:=iI.mp e;subst e2;show⟨_,_,rfl,U,_,_,j,rfl,r1,r2,e1,(o.of e).here (.int _)⟩
 .exact o.elim
theorem zoB{k:Nat}(hr:bH k X.A)(ho:JE X cA aq aj F EX a A)(ha:JA X cA aq aj F EX (e::es) Xs)(iy:attributeBase a "index" X.env (eval a X.env)=eval a X.env:=by rfl)(pQ:decide (es.length<28)=true:=by rfl)(iz:(apos.endLine==pos.line)=true:=by rfl)(hs:aF e=true:=by rfl)(fL:es.all aF=true:=by rfl) :
  JE X cA aq aj F EX (.Call (.Attribute a "index" apos) (e::es) [] pos) (.meth true .pB .tuple A Xs):=⟨zkc (k:=.tuple) PySem.F.plainAttrs_tuple PySem.F.slot_tuple_index PySem.F.type_tuple_index (zn0 (by let:=hr.un;lia)) zmE ho.o ha.o iy (qW hs fL pQ) iz (bx hs) (bG fL)⟩
end
end Mi
namespace HT
open PySem PySem.Spec PyProof.Rows L2
def dJ(a b:List Int):Bool:=lexLt b a
def lexLe(a b:List Int):Bool:=!lexLt b a
def zfm(x y:Int)(xs ys:List Int):dJ (x::xs) (y::ys)=if x=y then dJ xs ys else decide (x>y):=by
 unfold dJ;rw[eU];by_cases h:x=y
 .rw[if_pos h,if_pos h.symm]
 .rw[if_neg h,if_neg λz=>h z.symm]
def zfI(x y:Int)(xs ys:List Int):lexLe (x::xs) (y::ys)=if x=y then lexLe xs ys else decide (x<=y):=by
 unfold lexLe;rw[eU];by_cases h:x=y
 .rw[if_pos h,if_pos h.symm]
 .rw[if_neg h,if_neg λz=>h z.symm,<-decide_not];show tW.mpr gV
theorem zcM:dJ [] []=false:=rfl
theorem zcc(y:Int)(ys:List Int):dJ [] (y::ys)=false:=rfl
theorem zci(x:Int)(xs:List Int):dJ (x::xs) []=true:=rfl
theorem zc3:lexLe [] []=true:=rfl
theorem zcj(y:Int)(ys:List Int):lexLe [] (y::ys)=true:=rfl
theorem zch(x:Int)(xs:List Int):lexLe (x::xs) []=false:=rfl
theorem ziu(A:Around)(s:Shared)(a:Int)(t:Tok)(c:Int)(u:Tok)(prog:Program)(w:World)(E:Value->Shared->Prop)(Q:Value->Shared->Prop)(h:Q (.bool (decide (a>c))) s) :
  wpAny (model prog w) A (richCompare .Gt (.int a t) (.int c u)) Q E s:=
 (PyProof.Rows.gt_int h:wpAny (model prog w) A (compareOp .Gt (.int a t) (.int c u)) Q E s)
theorem zhZ(A:Around)(s:Shared)(a:Int)(t:Tok)(c:Int)(u:Tok)(prog:Program)(w:World)(E:Value->Shared->Prop)(Q:Value->Shared->Prop)(h:Q (.bool (decide (a<=c))) s) :
  wpAny (model prog w) A (richCompare .LtE (.int a t) (.int c u)) Q E s:=
 (PyProof.Rows.le_int h:wpAny (model prog w) A (compareOp .LtE (.int a t) (.int c u)) Q E s)
section
open PySem.SeqAt
open PySem.AutoSeq1 (wpAny_loadPart')
open PySem.MeetsSeq PySem.MeetsSeq2 PySem.MeetsSeq3
theorem zc4(l b:Addr)(items items2:Array Value)(n n2:Nat)(dd dd2:Option Addr)(sl sl2:Array (Option Value))(ns ms:List Int)(hi:IntsAre items.toList ns)(hj:IntsAre items2.toList ms) :
  Meets (Builtin.«tuple.__gt__» ⟨[.ref l,.ref b],[]⟩)
   (λ_ R s=>s.heap.get? l=some {cls:=.type "tuple",dict:=dd,data:=.seq items n,slots:=sl}/\s.heap.get? b=some {cls:=.type "tuple",dict:=dd2,data:=.seq items2 n2,slots:=sl2} /\
    R (.ok (.ret (.bool (dJ ns ms)))) s):=
 .of_wp λprog w A R s h=>by
  let⟨hp,g,d,tk,os⟩:=s;let⟨hl,hb,h⟩:=h;let f2:=O9;let z1:items.size=ns.length:=by rw[<-hi.length];simp
  let z2:items2.size=ms.length:=by rw[<-hj.length];simp
  wp_walk using Af hl,Af hb,Ef _ (λrest b s'=>b.1=none/\s'=⟨hp,g,d,tk,os⟩/\∃(vs ws:List Value) (ns' lM:List Int),rest=vs.zip ws /\
   IntsAre vs ns'/\IntsAre ws lM/\ns'.length+items2.size=lM.length+items.size/\R (.ok (.ret (.bool (dJ ns' lM)))) ⟨hp,g,d,tk,os⟩) _
  case turn=>
   rintro⟨y,x⟩ rest b s' ⟨hb',rfl,vs,ws,ns',lM,hz,uw,qD,hlen,hR⟩;cases uw with
   |nil=>rw[Lf]at hz;cases hz|cons a t ux=>
    cases qD with
    |nil=>rw[Ld]at hz;cases hz|cons c u uy=>
     rw[wg]at hz;injection hz with Iv nW;injection Iv with hy hx;subst hy hx;rw[zfm]at hR;simp only[eE]at hlen;let⟨e,he,nY⟩:=Q9 A.in1 ⟨hp,g,d,tk,os⟩ a t c u;show aC (he prog w _ _ ?_);cases e with
     |true=>
      rw[if_pos (nY.mp rfl)]at hR
      wp_walk
      show⟨rfl,rfl,_,_,_,_,nW,ux,uy,by lia,hR⟩
     |false=>
      rw[if_neg (λq=>absurd (nY.mpr q) yw)]at hR;let Iw:=ziu A.in1 ⟨hp,g,d,tk,os⟩ a t c u prog w
      wp_walk using Iw
      show⟨_,rfl,by simpa using hR⟩
  case fin=>
   rintro⟨b1,b2⟩ s' ⟨hb',rfl,vs,ws,ns',lM,hz,uw,qD,hlen,hR⟩;simp only at hb';subst hb';let hv:dJ ns' lM=decide (items2.size<items.size):=by
    cases uw with
    |nil=>
     cases qD with
     |nil=>
      simp only[vJ]at hlen;rw[zcM];show(iK gV).symm
     |cons c u hw=>
      simp only[vJ,eE]at hlen;rw[zcc];show(iK gV).symm
    |cons a t hv=>
     cases qD with
     |nil=>
      simp only[vJ,eE]at hlen;rw[zci];show(cQ gV).symm
     |cons c u hw=>
      rw[wg]at hz;cases hz
   rw[hv]at hR
   wp_walk
   show⟨_,rfl,by simpa [Builtin.Tuple.tupleCompareSizes] using hR⟩
  case h=>
   show⟨rfl,rfl,items.toList,items2.toList,ns,ms,rfl,hi,hj,by lia,h⟩
theorem zcG(l b:Addr)(items items2:Array Value)(n n2:Nat)(dd dd2:Option Addr)(sl sl2:Array (Option Value))(ns ms:List Int)(hi:IntsAre items.toList ns)(hj:IntsAre items2.toList ms) :
  Meets (Builtin.«tuple.__le__» ⟨[.ref l,.ref b],[]⟩)
   (λ_ R s=>s.heap.get? l=some {cls:=.type "tuple",dict:=dd,data:=.seq items n,slots:=sl}/\s.heap.get? b=some {cls:=.type "tuple",dict:=dd2,data:=.seq items2 n2,slots:=sl2} /\
    R (.ok (.ret (.bool (lexLe ns ms)))) s):=
 .of_wp λprog w A R s h=>by
  let⟨hp,g,d,tk,os⟩:=s;let⟨hl,hb,h⟩:=h;let f2:=O9;let z1:items.size=ns.length:=by rw[<-hi.length];simp
  let z2:items2.size=ms.length:=by rw[<-hj.length];simp
  wp_walk using Af hl,Af hb,Ef _ (λrest b s'=>b.1=none/\s'=⟨hp,g,d,tk,os⟩/\∃(vs ws:List Value) (ns' lM:List Int),rest=vs.zip ws /\
   IntsAre vs ns'/\IntsAre ws lM/\ns'.length+items2.size=lM.length+items.size/\R (.ok (.ret (.bool (lexLe ns' lM)))) ⟨hp,g,d,tk,os⟩) _
  case turn=>
   rintro⟨y,x⟩ rest b s' ⟨hb',rfl,vs,ws,ns',lM,hz,uw,qD,hlen,hR⟩;cases uw with
   |nil=>rw[Lf]at hz;cases hz|cons a t ux=>
    cases qD with
    |nil=>rw[Ld]at hz;cases hz|cons c u uy=>
     rw[wg]at hz;injection hz with Iv nW;injection Iv with hy hx;subst hy hx;rw[zfI]at hR;simp only[eE]at hlen;let⟨e,he,nY⟩:=Q9 A.in1 ⟨hp,g,d,tk,os⟩ a t c u;show aC (he prog w _ _ ?_);cases e with
     |true=>
      rw[if_pos (nY.mp rfl)]at hR
      wp_walk
      show⟨rfl,rfl,_,_,_,_,nW,ux,uy,by lia,hR⟩
     |false=>
      rw[if_neg (λq=>absurd (nY.mpr q) yw)]at hR;let Iw:=zhZ A.in1 ⟨hp,g,d,tk,os⟩ a t c u prog w
      wp_walk using Iw
      show⟨_,rfl,by simpa using hR⟩
  case fin=>
   rintro⟨b1,b2⟩ s' ⟨hb',rfl,vs,ws,ns',lM,hz,uw,qD,hlen,hR⟩;simp only at hb';subst hb';let hv:lexLe ns' lM=decide (items.size<=items2.size):=by
    cases uw with
    |nil=>
     cases qD with
     |nil=>
      simp only[vJ]at hlen;rw[zc3];show(cQ gV).symm
     |cons c u hw=>
      simp only[vJ,eE]at hlen;rw[zcj];show(cQ gV).symm
    |cons a t hv=>
     cases qD with
     |nil=>
      simp only[vJ,eE]at hlen;rw[zch];show(iK gV).symm
     |cons c u hw=>
      rw[wg]at hz;cases hz
   rw[hv]at hR
   wp_walk
   show⟨_,rfl,by simpa [Builtin.Tuple.tupleCompareSizes] using hR⟩
  case h=>
   show⟨rfl,rfl,items.toList,items2.toList,ns,ms,rfl,hi,hj,by lia,h⟩
end
section
variable {prog:Program}{w:World}{A:Around}{E:Value->Shared->Prop}{s:Shared}
def qg{l b:Addr}{items items2:Array Value}{ns ms:List Int}{Q:Value->Shared->Prop}(hl:IsTup s.heap l items)(hb:IsTup s.heap b items2)(hi:IntsAre items.toList ns)(hj:IntsAre items2.toList ms)
  (hu:A.units<cLine) (h:Q (.bool (dJ ns ms)) s):wpAny (model prog w) A (compareOp .Gt (.ref l) (.ref b)) Q E s:=by
 let⟨⟨cls,dd,data,sl⟩,ho,hc,n,hd⟩:=id hl;let⟨⟨cls2,dd2,data2,sl2⟩,kO,kW,n2,hd2⟩:=id hb;simp only at hc hd kW hd2;subst hc hd kW hd2;show Pg (op:=.Gt) ⟨_,ho,rfl⟩ ⟨_,kO,rfl⟩ PySem.F.slot_tuple_gt PySem.F.entry_tuple_gt (PySem.F.args_tuple_gt_2 _ _) (zc4 l b items items2 n n2 dd dd2 sl sl2 ns ms hi hj)
  ⟨ho,kO,show Value.bool (dJ ns ms)≠Value.notImplemented/\Q (.bool (dJ ns ms)) s from ⟨(λx=>nomatch x),h⟩⟩ hu
def qj{l b:Addr}{items items2:Array Value}{ns ms:List Int}{Q:Value->Shared->Prop}(hl:IsTup s.heap l items)(hb:IsTup s.heap b items2)(hi:IntsAre items.toList ns)(hj:IntsAre items2.toList ms)
  (hu:A.units<cLine) (h:Q (.bool (lexLe ns ms)) s):wpAny (model prog w) A (compareOp .LtE (.ref l) (.ref b)) Q E s:=by
 let⟨⟨cls,dd,data,sl⟩,ho,hc,n,hd⟩:=id hl;let⟨⟨cls2,dd2,data2,sl2⟩,kO,kW,n2,hd2⟩:=id hb;simp only at hc hd kW hd2;subst hc hd kW hd2;show Pg (op:=.LtE) ⟨_,ho,rfl⟩ ⟨_,kO,rfl⟩ PySem.F.slot_tuple_le PySem.F.entry_tuple_le (PySem.F.args_tuple_le_2 _ _) (zcG l b items items2 n n2 dd dd2 sl sl2 ns ms hi hj)
  ⟨ho,kO,show Value.bool (lexLe ns ms)≠Value.notImplemented/\Q (.bool (lexLe ns ms)) s from ⟨(λx=>nomatch x),h⟩⟩ hu
end
end HT
namespace L2
open PySem PySem.Spec PyProof.Rows
section
variable {X:Cx}
def Dj(f:List Int->List Int->Bool)(K:W.Frag):R2:=λx y H Q=>∃a b ns ms,x=.ref a/\y=.ref b/\fC K H a (ns.map V.int)/\fC K H b (ms.map V.int)/\Q (.bl (f ns ms)) H
def zns(hu:X.A.units<cLine):dX X (compareOp .Gt) (Dj HT.dJ X.K):=by
 intro ao s Z H x y v u Q I rx ry h;let⟨a,b,ns,ms,rfl,rfl,ha,hb,q⟩:=h;cases rx;cases ry;let⟨its,r1,p1,_⟩:=I.tuple ha;let⟨its2,r2,p2,_⟩:=I.tuple hb;let i1:IntsAre its.toArray.toList ns:=E_ r1;let i2:IntsAre its2.toArray.toList ms:=E_ r2;show HT.qg p1 p2 i1 i2 hu ⟨.bl (HT.dJ ns ms),H,I,rfl,q⟩
def zlU(hu:X.A.units<cLine):dX X (compareOp .LtE) (Dj HT.lexLe X.K):=by
 intro ao s Z H x y v u Q I rx ry h;let⟨a,b,ns,ms,rfl,rfl,ha,hb,q⟩:=h;cases rx;cases ry;let⟨its,r1,p1,_⟩:=I.tuple ha;let⟨its2,r2,p2,_⟩:=I.tuple hb;let i1:IntsAre its.toArray.toList ns:=E_ r1;let i2:IntsAre its2.toArray.toList ms:=E_ r2;show HT.qj p1 p2 i1 i2 hu ⟨.bl (HT.lexLe ns ms),H,I,rfl,q⟩
def zmA:dX X (compareOp .Is) (λx y H Q=>∃a b,x=.bl a/\y=.bl b/\Q (.bl (a==b)) H):=by
 intro ao s Z H x y v u Q I rx ry h;let⟨a,b,rfl,rfl,q⟩:=h;cases rx;cases ry;unfold compareOp
 wp_walk
 show⟨.bl (a==b),H,I,by cases a<;>cases b<;>rfl,q⟩
end
end L2
namespace Mi
open PySem PySem.Spec PyProof.Rows L2 PySem.W
section
variable {X:Cx}{cA:Cl}
def zjb{K:W.Frag}{p:Pr}{f g:List Int->List Int->Bool}(hp:prim p=oE f)(hf:∀a b,f a b=g a b):bD K cA p (r2 (Dj g K)):=by
 intro U H ds vs Q zt rs o;rw[hp]at o;let⟨z,e⟩:=o.some';unfold oE at e;split at e
 .split at e
  .rename_i a b h1 h2;cases e;let⟨v,v',rfl,r1,r2⟩:=rs.two (ds:=[]);let⟨p,us,rfl,t1,q1⟩:=r1.tup;let⟨p',us',rfl,t2,q2⟩:=r2.tup;let o2:bC K cA U H (some (.dat (.bl (f a b)))) Q:=by
    unfold oE at o;simp only[h1,h2]at o;show o
   show⟨_,_,rfl,p,p',a,b,rfl,rfl,by rw[<-FQ h1 q1];show t1.iC,by rw[<-FQ h2 q2];show t2.iC,?_⟩;rw[<-hf];show o2.here (.bl _)
  .cases e
 .cases e
theorem zo3{k:Nat}(hr:bH k X.A):JP X cA .Gt .M7:=⟨_,zns (by let:=sE hr;lia),zjb rfl λa b=>by change ltI b a=HT.lexLt b a;show JL b a⟩
theorem zpd{k:Nat}(hr:bH k X.A):JP X cA .LtE .M8:=⟨_,zlU (by let:=sE hr;lia),zjb rfl λa b=>by change (!ltI b a) = !HT.lexLt b a;rw[JL b a]⟩
theorem zmb:JP X cA .Is .M9:=⟨_,zmA,by
 intro U H ds vs Q zt rs o;let o:bC X.K cA U H (B_ ds) Q:=o;unfold B_ at o;split at o
 .obtain⟨v,v',rfl,r1,r2⟩:=rs.two (ds:=[]);cases r1;cases r2;show⟨_,_,rfl,_,_,rfl,rfl,o.here (.bl _)⟩
 .exact o.elim⟩
end
def gZ(K:Frag)(C:Addr)(m:Str):Addr:=match lJ K C m with
 |some p=>p.1|none=>0
def jD(K:Frag)(C:Addr)(m:Str)(st:Stmt):FuncData:=match lJ K C m with
 |some p=>p.2|none=>Ew m m st
def zkx{fd:FuncData}{m q:Str}{st:Stmt}(h:nJ fd=Ew m q st):fd=fnOf m q (aY st) (aK st) (aB st) .none fd.kwdefaults fd.doc fd.pyModule fd.annotations fd.code fd.closureTuple:=by
 cases fd;unfold nJ Ew at h;cases h;rfl
def zpv{K:Frag}{C:Addr}{m q:Str}{st:Stmt}(h:(lJ K C m).map (λp=>nJ p.2)=some (Ew m q st)):oK K m q st (gZ K C m) (jD K C m st)/\Meth K C m (gZ K C m):=by
 cases e:lJ K C m with
 |none=>rw[e]at h;cases h|some p=>
  rw[e]at h;let hp:nJ p.2=Ew m q st:=cP h;let h1:gZ K C m=p.1:=by unfold gZ;rw[e]
  let h2:jD K C m st=p.2:=by unfold jD;rw[e]
  rw[h1,h2];unfold lJ at e;split at e
  .rename_i f hf;split at e
   .rename_i oc od fd sl hl;split at e
    .rename_i hc;cases e;simp only[fH]at hc;let eq:fd=_:=zkx hp;let qn:fd.qualname=q:=by rw[eq]
     show⟨⟨⟨oc,od,_,_,_,_,_,_,sl,eq,hl,by rw[<-qn];show hc.1.1⟩,hc.1.2⟩,hf,hc.2,hc.1.2⟩
    .cases e
   .cases e
  .cases e
structure rm(fs:List (Str×Stmt))(ms:List uc)(xs:List (Nat×Str))(l:Lk)(b:Bd)(K:Frag):Prop where
 i:oO fs ms xs l K
 m:∀p∈b.ms,oK K p.1 p.2.1 p.2.2 (gZ K (dU K b.n) p.1) (jD K (dU K b.n) p.1 p.2.2)/\Meth K (dU K b.n) p.1 (gZ K (dU K b.n) p.1)
 b:yN K b=true
def lY(fs:List (Str×Stmt))(ms:List uc)(xs:List (Nat×Str))(l:Lk)(b:Bd):Hook where
 α:=(List (Option FuncData)×List (Option FuncData)×Bool)×(List (Option FuncData)×Bool)
 obs:=λs=>(mD fs ms xs l s,Av b s)
 val:=λw=>(nM fs ms w,Aw b)
 says:=λ_ h=>∃K:Frag,K.In h/\rm fs ms xs l b K
 of:=λw s e=>by
  let e0:mD fs ms xs l s=nM fs ms w:=nq Prod.fst e;let e4:Av b s=Aw b:=nq Prod.snd e;let e3:(_&&_&&_)=true:=nq (λx=>x.2.2) e0;rw[fH,fH,cT,cT]at e3;show⟨bR s.heap,ziy,⟨λp hp=>?_,Kac e3.1.1,λm hm=>?_,e3.1.2,λx hx=>zoP (e3.2 x hx)⟩,λp hp=>?_,nq Prod.snd e4⟩
  .exact zoW (Qa.mp (nq Prod.fst e0) p hp)
  .exact zpm (Qa.mp (nq (λx=>x.2.1) e0) m hm)
  .exact zpv (Qa.mp (nq Prod.fst e4) p hp)
 keeps:=λw h h' ⟨K,X,Y⟩ k=>⟨K,X.keeps k,Y⟩
def KD{l:OpenLaw}{k:Nat}{q:Program}{loose:List Str}{XP:(Str->Option Value)->Heap->Prop}{fs:List (Str×Stmt)}{ms:List uc}{xs:List (Nat×Str)}{lk:Lk}{b:Bd}{d:DefRec}{x:Str}(hn:l.most=some 63)(Rq:d.params.defaults=[])(hr:bH k callerA)
  (F:∀(w:World) (K:Frag) (mg:Str->Option Value) (fa:Addr) (h:Heap),rm fs ms xs lk b K->K.In h->h.Ns mainGlobals mg->mg d.name=some (.ref fa)->
   ∃fd:FuncData,(∀(s:Shared) (u:Value),BindsTo s fd ⟨[u],[]⟩ [(x,u)])/\∀base:Heap,K.In base->base.Ns mainGlobals mg->cC l.prog w K mg base (gU l.prog w) true k fa fd [x] (uZ K)) :
  WalkO q loose XP (lY fs ms xs lk b).says l.row.toRowW d [] (λf vs=>PySem.call f vs):=by
 show X8.nZ hn Rq λw s₀ s₁ mg mb fa o pm cd doc a vs ns G Y ho hd j_ hmg Bs hints hlen hg=>?_;let⟨K,KX,SY⟩:=Y;let⟨fd,hb,hF⟩:=F w K mg fa _ SY KX G.T.g hmg;show zht KX G.T.g G.T.b G.T.builtins G.T.nolimit hg Bs hints (jz hlen J0) hr hF hb (λH hO hS=>⟨a,ns,rfl,hS,hlen,hO,λ_=>rfl⟩) λH e s' h=>by
  show h
section
variable {K:Frag}{b:Bd}
def zpA{cA:Cl}(h:yN K b=true)(hb:cA.b 0=dU K b.n)(hg:cA.g 0=b.fs)(nd:b.fs.Nodup):Ow K cA 0:=by
 unfold yN at h;simp only[fH,rG,cT]at h;let⟨⟨⟨⟨⟨⟨⟨h1,h2⟩,h3⟩,h4⟩,h5⟩,h6⟩,h7⟩,h8⟩:=h;show⟨by rw[hb];show⟨h2,h3,h4,h5⟩,λf hf=>by rw[hb];rw[hg]at hf;show h8 f hf,by rw[hg];show nd⟩
def zpi{f:Addr}(h:yN K b=true)(m:Meth K (dU K b.n) "__init__" f):Mk K (dU K b.n) f:=by
 unfold yN at h;simp only[fH,rG,cT]at h;show⟨h.1.1.2,m.at_,m.fn,h.1.2⟩
def zo7{h:Heap}{mg:Str->Option Value}(z:yN K b=true)(X:K.In h)(G:h.Ns mainGlobals mg):mg b.n=some (.ref (dU K b.n)):=by
 unfold yN at z;simp only[fH]at z;show zph z.1.1.1.1.1.1.1 X G
end
theorem bH.made{k:Nat}{A:Around}(r:bH (k+1) A)(env:Env)(C:Addr)(us:List Value):bH k ((A.deeper env).under (.builtin "type.__call__" ⟨.ref C::us,[]⟩)):=
 ⟨by let:=r.dp;rw[zfn];change A.depth+1+1+3*k+5<_;lia,by let:=r.un;rw[zfG];change A.units+3+1+16*k+200<_;lia,by
  let e:(A.deeper env).guards=some []:=r.gd;rw[<-e];cases h:(A.deeper env).guards<;>simp[Around.under,pushGuards,Code.guards,Code.isGuard,guardIds,h]⟩
section
variable {P:Program}{w:World}{K:Frag}{mg:Str->Option Value}{base:Heap}{cA:Cl}{aq:Nat->Nat->Bool}{T:Nat->Option Df}{x m q:Str}{st:Stmt}{ps:List Str}{k n:Nat}{cm:Bool}{df:Df}{C fa:Addr}{fd:FuncData}
theorem fM(D:Mt K C m q st ps fa fd)(N:List Str)(hT:T n=some df)
  (hb:∀(cdv:Value) (A:Around) (outer:List Env) (s:Shared) (H:Hp) (E:XK),bH k (A.deeper (envOfC q (aB st) s.heap.objs.size fa cdv))->
   JB (gR (gU P w) P w K mg base N q (aB st) fa cdv A outer s H E cm) cA aq cm (λc=>call aq T k c) (λ_ C dx H'=>E C dx H') (aK st) df.body) (S:dh N ps (aB st):=by show⟨rfl,rfl,rfl,dk,rfl,dk,dk⟩) (hp:df.iB=ps.length:=by rfl) (hm:df.many=N.length:=by rfl) :
  cC P w K mg base (gU P w) cm (k+1) fa fd ps (lq K cA (call aq T (k+1) cm n)):=ZK D.fn S hT hp hm hb
def zhU{c:Nat}:cC P w K mg base (gU P w) cm 0 fa fd ps (Kr K cA c (call aq T 0 cm n)):=by
 let no:∀vs H Q E,Kr K cA c (call aq T 0 cm n) vs H Q E->False:=by
  rintro vs H Q E ⟨_,_,_,_,_,_,_,_,_,_,_,_,_,_,h⟩;show h.elim
 show⟨λvs H Q E h=>(no _ _ _ _ h).elim,λA outer s H args us vs Q E _ _ _ _ _ h=>(no _ _ _ _ h).elim⟩
theorem fR(D:D3 K mg x st ps)(N:List Str)(hT:T n=some df)
  (hb:∀(cdv:Value) (A:Around) (outer:List Env) (s:Shared) (H:Hp) (E:XK),bH (k+1) A->
   JB (gR (gU P w) P w K mg base N x (aB st) (iD K x) cdv A outer s H E cm) cA aq cm (λc=>call aq T k c) (λ_ C dx H'=>E C dx H') (aK st) df.body) (S:dh N ps (aB st):=by show⟨rfl,rfl,rfl,dk,rfl,dk,dk⟩) (hp:df.iB=ps.length:=by rfl) (hm:df.many=N.length:=by rfl) :
  cC P w K mg base (gU P w) cm (k+1) (iD K x) (fdOf K x st) ps (lq K cA (call aq T (k+1) cm n)):=Zj D.f S hT hp hm λcdv A outer s H E hr=>(hb cdv A outer s H E hr).o
theorem Uz{p p2:Str}(h:oK K m q st fa fd/\Meth K C m fa)(hb:∀(kV doc pm:Value) (an:Option Addr) (cdv ct a b:Value),bindArgs (fnOf m q (aY st) (aK st) (aB st) .none kV doc pm an cdv ct) ⟨[a,b],[]⟩=pure [(p,a),(p2,b)]:=by intros;rfl):Mt K C m q st [p,p2] fa fd:=⟨h.1,h.2,by
 let⟨oc,od,kV,doc,pm,an,cdv,ct,osl,rfl,lk,j_⟩:=h.1.ex;show u5 (hb kV doc pm an cdv ct)⟩
theorem zqi{p p2 p3:Str}(h:oK K m q st fa fd/\Meth K C m fa)(hb:∀(kV doc pm:Value) (an:Option Addr) (cdv ct a b c:Value),bindArgs (fnOf m q (aY st) (aK st) (aB st) .none kV doc pm an cdv ct) ⟨[a,b,c],[]⟩=pure [(p,a),(p2,b),(p3,c)]:=by intros;rfl):Mt K C m q st [p,p2,p3] fa fd:=⟨h.1,h.2,by
 let⟨oc,od,kV,doc,pm,an,cdv,ct,osl,rfl,lk,j_⟩:=h.1.ex;show u6 (hb kV doc pm an cdv ct)⟩
theorem zqh{p p2 p3 p4:Str}(h:oK K m q st fa fd/\Meth K C m fa)(hb:∀(kV doc pm:Value) (an:Option Addr) (cdv ct a b c d:Value),bindArgs (fnOf m q (aY st) (aK st) (aB st) .none kV doc pm an cdv ct) ⟨[a,b,c,d],[]⟩=pure [(p,a),(p2,b),(p3,c),(p4,d)]:=by intros;rfl):Mt K C m q st [p,p2,p3,p4] fa fd:=⟨h.1,h.2,by
 let⟨oc,od,kV,doc,pm,an,cdv,ct,osl,rfl,lk,j_⟩:=h.1.ex;show u9 (hb kV doc pm an cdv ct)⟩
end
end Mi
namespace Mi
open PySem
def m7(n:Int):D->Bool
 |.tup xs=>decide ((xs.length:Int)=n)|_=>false
def xZ(a b:Int):D->Bool
 |.int i=>decide (a<=i/\i<=b)|_=>false
def znJ{d:D}(h:Kq d=true):qe d=true:=by cases d<;>first|rfl|cases h
end Mi
namespace Mi
open PySem PySem.W L2
def rz(k d:Int)(ps:List (Int×Int))(hs:List Int):List (Int×Int):=ps.filter λp=>decide (gC k (at' hs p.1) (at' hs p.2)<d)
def wD(k d:Int)(ps:List (Int×Int))(hs:List Int):D:=match rz k d ps hs with
 |[]=>.non|p::_=>iG p
def Dk{k d:Int}{ps:List (Int×Int)}{hs:List Int}:rz k d ps hs=[]↔Dg k d ps hs=true:=by
 unfold rz;rw[List.filter_eq_nil_iff,oU]
 constructor
 .intro h p hp;let:=h p hp;simp at this
  lia
 .intro h p hp;let:=h p hp;simp
  lia
end Mi
namespace Mi
open PySem
theorem W.c0{F:List Xv->M Xv}{xs:List Xv}{s:S}{e:D}{P:Xv->S->Prop}(h:W (F (cY 0 xs)) [] λv _=>v=.d e)(k:P (.d e) s)(hl:locs xs=[]:=by rfl):W (bY F xs) s P:=jg hl (h.imp λ_ _ q=>⟨_,q,k⟩)
theorem W.c1{F:List Xv->M Xv}{xs:List Xv}{s:S}{P:Xv->S->Prop}(h:W (F (cY 0 xs)) [] λv _=>∃d,v=.d d)(k:∀d,P (.d d) s)(hl:locs xs=[]:=by rfl):W (bY F xs) s P:=jg hl (h.imp λ_ _ ⟨d,q⟩=>⟨d,q,k d⟩)
section
variable {s:S}{o o' L L':SO}
def g1_:(s++[o]++[L])[s.length]?=some o:=by simp
def zow:(s++[o]++[L]).set s.length o'=s++[o']++[L]:=by simp
def Kav{F:List Xv->M Xv}{xs:List Xv}{P:Xv->S->Prop}(hl:locs xs=[s.length])(h:W (F (cY 0 xs)) [o] λv s1=>∃d o',v=.d d/\s1=[o']/\P (.d d) (s++[o']++[L])):W (bY F xs) (s++[o]++[L]) P:=by
 show NQ (n:=s.length) (o:=o) hl g1_ (h.imp λv s1=>?_);rintro⟨d,o',rfl,rfl,hp⟩;show⟨d,o',rfl,rfl,by rw[zow];show hp⟩
end
noncomputable abbrev Fr:=List (Option (List Int))
def aN:Option (List Int)->D
 |none=>.non|some l=>.tup (l.map .int)
def cellK:Option (List Int)->Kx
 |none=>.non|some l=>.row l
def gD(F:Fr):D:=.tup (F.map aN)
theorem Dl:∀l:List Int,bI (l.map .int)=some l
 |[]=>rfl|i::l=>by change Option.map _ (bI (l.map .int))=_;rw[Dl l];rfl
def zR(F:Fr):kOf (gD F)=some (F.map cellK):=by
 change Ca (F.map aN)=_
 induction F with
 |nil=>rfl|cons c F ih=>
  let e:uO (aN c)=some (cellK c):=by
   cases c with
   |none=>rfl|some l=>change Option.map _ (bI (l.map .int))=_;rw[Dl];rfl
  simp only[iV,Ca,e,ih]
theorem UG:∀{F G:Fr},F.map cellK=G.map cellK->F=G
 |[],[],_=>rfl|[],_::_,h=>by cases h|_::_,[],h=>by cases h|c::F,e::G,h=>by
  simp only[iV,List.cons.injEq]at h;rw[UG h.2]
  congr 1
  let h1:=h.1;cases c with
  |none=>cases e with
   |none=>rfl|some _=>cases h1
  |some l=>cases e with
   |none=>cases h1|some m=>cases h1;rfl
structure Bo(n k:Nat)(es:Nat->List Int)(A:Int->Int->Bool):Prop where
 hn:n<=8
 hk:k<=24
 mem:∀i,i<n->∀e∈es i,0<=e/\e<n/\e≠i
 sym:∀i e:Nat,i<n->e<n->(e:Int)∈es i->(i:Int)∈es e
 len:∀i,i<n->(es i).length<=8
 asy:∀a b:Int,0<=a->a<k->0<=b->b<k->A a b=A b a
structure Fv(n k:Nat)(F:Fr):Prop where
 len:F.length=n
 lo:∀(i:Nat) L,F[i]?=some (some L)->∀x∈L,0<=x/\x<k
 ll:∀(i:Nat) L,F[i]?=some (some L)->L.length<=24
 so:∀(i:Nat) L,F[i]?=some (some L)->L.Pairwise (·<·)
structure lA(es:Nat->List Int)(A:Int->Int->Bool)(F:Fr)(g:Nat->Int):Prop where
 mem:∀(i:Nat) L,F[i]?=some (some L)->g i∈L
 fit:∀(i e:Nat) L M,F[i]?=some (some L)->F[e]?=some (some M)->(e:Int)∈es i->A (g i) (g e)=true
def Sat(es:Nat->List Int)(A:Int->Int->Bool)(F:Fr):Prop:=∃g,lA es A F g
def f9(f:Int->Bool)(F:Fr)(e:Int):Fr:=F.set e.toNat ((F[e.toNat]?.join).map (·.filter f))
def settle(es:Nat->List Int)(A:Int->Int->Bool)(F:Fr)(p:Nat)(x:Int):Fr:=(es p).foldl (f9 (A x)) (F.set p none)
theorem zem{f:Int->Bool}{F:Fr}{e:Int}:(f9 f F e).length=F.length:=pq ..
theorem UJ{f:Int->Bool}:∀{l:List Int} {F:Fr},(l.foldl (f9 f) F).length=F.length
 |[],F=>rfl|e::l,F=>by rw[Lw,UJ,zem]
def zk8{f:Int->Bool}{F:Fr}{e:Int}(h0:0<=e)(i:Nat)(hi:i<F.length):(f9 f F e)[i]?=if (i:Int)=e then F[i]?.map (Option.map (·.filter f)) else F[i]?:=by
 unfold f9;by_cases z:(i:Int)=e
 .let:e.toNat=i:=by lia
  rw[if_pos z,this,qp hi,cB hi];rfl
 .rw[if_neg z,lF gV]
theorem UL{f:Int->Bool}:∀{l:List Int} {F:Fr} (i:Nat),(∀e∈l,0<=e)->i<F.length->(l.foldl (f9 f) F)[i]?=if (i:Int)∈l then F[i]?.map (Option.map (·.filter f)) else F[i]?
 |[],F,i,_,hi=>by simp|e::l,F,i,h,hi=>by
  rw[Lw,UL i (λx hx=>h x (by simp[hx])) (by rw[zem];show hi),zk8 (h e R3) i hi];let ff:∀c:Option (Option (List Int)),(c.map (Option.map (·.filter f))).map (Option.map (·.filter f))=c.map (Option.map (·.filter f)):=λc=>by
   cases c with
   |none=>rfl|some c=>cases c with
    |none=>rfl|some L=>simp
  by_cases a:(i:Int)=e
  .by_cases b:(i:Int)∈l
   .rw[if_pos b,if_pos a,if_pos (by simp[b]),ff]
   .rw[if_neg b,if_pos a,if_pos (by simp[a])]
  .by_cases b:(i:Int)∈l
   .rw[if_pos b,if_neg a,if_pos (by simp[b])]
   .rw[if_neg b,if_neg a,if_neg (by simp[a,b])]
section
variable {n k:Nat}{es:Nat->List Int}{A:Int->Int->Bool}{F:Fr}{p:Nat}{x:Int}{g:Nat->Int}
def zcn:(settle es A F p x).length=F.length:=by unfold settle;rw[UJ,pq]
def zdI(B:Bo n k es A)(hF:F.length=n)(hp:p<n)(i:Nat)(hi:i<n):(settle es A F p x)[i]?=if i=p then some none else if (i:Int)∈es p then F[i]?.map (Option.map (·.filter (A x))) else F[i]?:=by
 unfold settle;rw[UL i (λe he=>(B.mem p hp e he).1) (by rw[pq,hF];show hi)];by_cases e:i=p
 .subst e;rw[if_pos rfl,if_neg (λz=>(B.mem i hp _ z).2.2 rfl),qp (by rw[hF];show hi)]
 .rw[if_neg e,lF (Ne.symm e)]
def lB{i:Nat}{c:Option (List Int)}(hF:F.length=n)(h:F[i]?=some c):i<n:=by rw[<-hF];show(cJ.mp h).1
def KH(B:Bo n k es A)(hF:F.length=n)(hp:p<n){i:Nat}{M:List Int}(h:(settle es A F p x)[i]?=some (some M)):i≠p/\∃L,F[i]?=some (some L)/\M=if (i:Int)∈es p then L.filter (A x) else L:=by
 let hi:i<n:=lB (by rw[zcn];show hF) h;rw[zdI B hF hp i hi]at h;by_cases e:i=p
 .rw[if_pos e]at h;cases h
 .rw[if_neg e]at h;show⟨e,?_⟩;by_cases m:(i:Int)∈es p
  .rw[if_pos m]at h;let⟨c,e1,e2⟩:=iI.mp h;cases c with
   |none=>cases e2|some L=>cases e2;show⟨L,e1,by rw[if_pos m]⟩
  .rw[if_neg m]at h;show⟨M,h,by rw[if_neg m]⟩
def Gu(B:Bo n k es A)(hF:F.length=n)(hp:p<n){i:Nat}{L:List Int}(hi:i≠p)(h:F[i]?=some (some L)):(settle es A F p x)[i]?=some (some (if (i:Int)∈es p then L.filter (A x) else L)):=by
 rw[zdI B hF hp i (lB hF h),if_neg hi,h]
 split<;>rfl
def Dm(B:Bo n k es A)(v:Fv n k F)(hp:p<n):Fv n k (settle es A F p x):=by
 show⟨by rw[zcn];show v.len,λi M h=>?_,λi M h=>?_,λi M h=>?_⟩<;>let⟨_,L,e,rfl⟩:=KH B v.len hp h
 .intro y hy;show v.lo i L e y ?_;split at hy
  .exact(jN.mp hy).1
  .exact hy
 .split
  .exact jz (GP _ _) (v.ll i L e)
  .exact v.ll i L e
 .split
  .exact(v.so i L e).filter _
  .exact v.so i L e
def Oc(B:Bo n k es A)(v:Fv n k F)(hp:p<n){L:List Int}(hL:F[p]?=some (some L))(s:lA es A F g):lA es A (settle es A F p (g p)) g:=by
 show⟨λi M h=>?_,λi e M N h1 h2 he=>?_⟩
 .obtain⟨_,L',e,rfl⟩:=KH B v.len hp h;let:=s.mem i L' e
  split
  .exact jN.mpr ⟨this,s.fit p i L L' hL e (by assumption)⟩
  .exact this
 .obtain⟨_,L',e1,_⟩:=KH B v.len hp h1;let⟨_,L2,e2,_⟩:=KH B v.len hp h2;show s.fit i e L' L2 e1 e2 he
def zeo(B:Bo n k es A)(v:Fv n k F)(hp:p<n){L:List Int}(hL:F[p]?=some (some L))(hx:x∈L)(s:lA es A (settle es A F p x) g):lA es A F λi=>if i=p then x else g i:=by
 let ap:∀(i:Nat) M,i≠p->F[i]?=some (some M)->(i:Int)∈es p->A x (g i)=true/\(0<=g i/\g i<k):=λi M ni h m=>by
  let h2:=Gu (x:=x) B v.len hp ni h;let:=s.mem i _ h2;rw[if_pos m]at this;show⟨(jN.mp this).2,v.lo i M h _ (jN.mp this).1⟩
 let hxk:=v.lo p L hL x hx;show⟨λi M h=>?_,λi e M N h1 h2 he=>?_⟩
 .by_cases z:i=p
  .subst z;rw[if_pos rfl];rw[hL]at h;cases h;show hx
  .rw[if_neg z];let:=s.mem i _ (Gu (x:=x) B v.len hp z h);split at this
   .exact(jN.mp this).1
   .exact this
 .let li:=lB v.len h1;let le:=lB v.len h2;by_cases z:i=p
  .subst z;let ne:e≠i:=λq=>(B.mem i li _ he).2.2 (by rw[q]);rw[if_pos rfl,if_neg ne];show(ap e N ne h2 he).1
  .by_cases y:e=p
   .subst y;rw[if_neg z,if_pos rfl];let m:=B.sym i e li le he;let⟨q1,q2⟩:=ap i M z h1 m;rw[B.asy _ _ q2.1 q2.2 hxk.1 hxk.2];show q1
   .rw[if_neg z,if_neg y];show s.fit i e _ _ (Gu (x:=x) B v.len hp z h1) (Gu (x:=x) B v.len hp y h2) he
theorem Dn(B:Bo n k es A)(v:Fv n k F)(hp:p<n){L:List Int}(hL:F[p]?=some (some L)):Sat es A F↔∃x∈L,Sat es A (settle es A F p x):=
 ⟨λ⟨g,s⟩=>⟨g p,s.mem p L hL,g,Oc B v hp hL s⟩,λ⟨x,hx,g,s⟩=>⟨_,zeo B v hp hL hx s⟩⟩
def dM(es:Nat->List Int)(F:Fr)(p:Nat):Nat:=((es p).filter λe=>(F[e.toNat]?.join).isSome).length
def bnd(es:Nat->List Int)(F:Fr):Fr:=F.mapIdx λi c=>if 0<dM es F i then c else none
def ziQ{i:Nat}:(bnd es F)[i]?=F[i]?.map λc=>if 0<dM es F i then c else none:=by unfold bnd;rw[List.getElem?_mapIdx]
def zT{i:Nat}{L:List Int}(h:(bnd es F)[i]?=some (some L)):F[i]?=some (some L)/\0<dM es F i:=by
 rw[ziQ]at h;let⟨c,e1,e2⟩:=iI.mp h;split at e2
 .subst e2;show⟨e1,by assumption⟩
 .cases e2
theorem UW(v:Fv n k F):Fv n k (bnd es F):=⟨by unfold bnd;rw[PN];show v.len,λi L h=>v.lo i L (zT h).1,λi L h=>v.ll i L (zT h).1,λi L h=>v.so i L (zT h).1⟩
def ze4{i e:Nat}{L:List Int}(hm:(e:Int)∈es i)(h:F[e]?=some (some L)):0<dM es F i:=by
 unfold dM;show List.length_pos_of_mem (a:=(e:Int)) (jN.mpr ⟨hm,?_⟩);rw[iU,h];rfl
def zhm(B:Bo n k es A)(v:Fv n k F)(ne:∀(i:Nat) L,F[i]?=some (some L)->L≠[]):Sat es A (bnd es F)↔Sat es A F:=by
 constructor
 .rintro⟨g,s⟩;let to:∀(i:Nat) L,F[i]?=some (some L)->0<dM es F i->(bnd es F)[i]?=some (some L):=λi L h q=>by rw[ziQ,h];change some (if _ then _ else _)=_;rw[if_pos q]
  show⟨λi=>if 0<dM es F i then g i else ((F[i]?.join).getD []).headD 0,λi L h=>?_,λi e L M h1 h2 he=>?_⟩
  .by_cases q:0<dM es F i
   .rw[if_pos q];show s.mem i L (to i L h q)
   .rw[if_neg q,h];change L.headD 0∈L;cases L with
    |nil=>show absurd rfl (ne i [] h)|cons a L=>show lG
  .let q1:=ze4 he h2;let q2:=ze4 (B.sym i e (lB v.len h1) (lB v.len h2) he) h1;rw[if_pos q1,if_pos q2];show s.fit i e L M (to i L h1 q1) (to e M h2 q2) he
 .rintro⟨g,s⟩;show⟨g,λi L h=>s.mem i L (zT h).1,λi e L M h1 h2 he=>s.fit i e L M (zT h1).1 (zT h2).1 he⟩
theorem Od(h:∀(i:Nat) L,F[i]?≠some (some L)):Sat es A F:=⟨λ_=>0,λi L q=>absurd q (h i L),λi _ L _ q=>absurd q (h i L)⟩
theorem zjn{i:Nat}(h:F[i]?=some (some [])):¬Sat es A F:=λ⟨g,s⟩=>nomatch s.mem i [] h
def aX(k:Nat):List Int:=(List.range k).map λ(i:Nat)=>(i:Int)
def aL{k:Nat}{y:Int}:y∈aX k↔0<=y/\y<k:=by
 unfold aX;rw[j9]
 constructor
 .rintro⟨i,hi,rfl⟩;let:=vK.mp hi;lia
 .intro h;show⟨y.toNat,vK.mpr gV,by lia⟩
def U6(B:Bo n k es A)(v:Fv n k F)(hp:p<n)(hk:1<=k)(cg:∀t a b:Int,0<=a->a<k->0<=b->b<k->A ((a+t)%k) ((b+t)%k)=A a b)(all:∀(i:Nat) L,F[i]?=some (some L)->L=aX k)(hL:F[p]?=some (some (aX k))):Sat es A F↔Sat es A (settle es A F p 0):=by
 constructor
 .rintro⟨g,s⟩;let md:∀z:Int,0<=z%(k:Int)/\z%(k:Int)<k:=λz=>⟨Aj _ gV,Ed _ gV⟩;let s2:lA es A F λi=>(g i + -(g p))%k:=by
   show⟨λi L h=>?_,λi e L M h1 h2 he=>?_⟩
   .rw[all i L h];show aL.mpr (md _)
   .let a:=aL.mp (all i L h1▸s.mem i L h1);let b:=aL.mp (all e M h2▸s.mem e M h2);change A ((g i + -(g p))%k) ((g e + -(g p))%k)=true;rw[cg _ _ _ a.1 a.2 b.1 b.2];show s.fit i e L M h1 h2 he
  let:=Oc B v hp hL s2;let e0:(g p + -(g p))%(k:Int)=0:=by rw[Int.add_right_neg];rfl
  simp only[e0]at this;show⟨_,this⟩
 .intro h;show(Dn B v hp hL).mpr ⟨0,aL.mpr ⟨by lia,by lia⟩,h⟩
def unset(F:Fr):Nat:=F.countP Option.isSome
def U7:unset (bnd es F)<=unset F:=by
 unfold unset bnd;generalize dM es F=f
 induction F generalizing f with
 |nil=>simp|cons c F ih=>
  rw[List.mapIdx_cons,Eh,Eh];let:=ih (λi=>f (i+1));let e:(if (if 0<f 0 then c else none).isSome=true then 1 else 0)<=(if c.isSome=true then 1 else 0):=by
   split<;>split<;>simp_all
  lia
def zgZ{F:Fr}:∀{p:Nat} {L:List Int},F[p]?=some (some L)->unset (F.set p none)+1=unset F:=by
 unfold unset
 induction F with
 |nil=>intro p L h;simp at h|cons c F ih=>
  intro p L h;cases p with
  |zero=>simp at h;subst h;simp|succ p=>
   let:=ih (p:=p) (L:=L) (by simpa using h);rw[List.set_cons_succ,Eh,Eh]
   lia
def zgh{f:Int->Bool}{F:Fr}{e:Int}:unset (f9 f F e)<=unset F:=by
 unfold unset f9;generalize e.toNat=j
 induction F generalizing j with
 |nil=>simp|cons c F ih=>
  cases j with
  |zero=>cases c<;>simp|succ j=>
   rw[List.set_cons_succ,Eh,Eh,Ac];let:=ih j
   lia
theorem zcl{f:Int->Bool}:∀{l:List Int} {F:Fr},unset (l.foldl (f9 f) F)<=unset F
 |[],F=>bQ _|e::l,F=>jz (zcl (l:=l)) zgh
def Dp{L:List Int}(h:F[p]?=some (some L)):unset (settle es A F p x)+1<=unset F:=by
 let:=zcl (f:=A x) (l:=es p) (F:=F.set p none);let:=zgZ h;unfold settle
 lia
theorem zfK(h:unset F=0)(i:Nat)(L:List Int):F[i]?≠some (some L):=λe=>by
 let:=List.countP_eq_zero.mp h _ (dG e);show this rfl
def lC(es:Nat->List Int)(A:Int->Int->Bool)(kvs:gJ):Prop:=∀F d,bW (F.map cellK) kvs=some d->∃b,d=.bl b/\(b=true↔Sat es A F)
def Oe{j q:List Kx}{d:D}:∀{kvs:gJ},bW j (jd q d kvs)=if j=q then some d else bW j kvs:=by
 intro kvs;unfold jd;let app:∀{r:gJ},bW j (r++[(q,d)])=match bW j r with|some e=>some e|none=>if j=q then some d else none:=λ{r}=>by
  induction r with
  |nil=>
   change (if q=j then some d else none)=if j=q then some d else none
   by_cases e:q=j
   .rw[if_pos e,if_pos e.symm]
   .rw[if_neg e,if_neg λz=>e z.symm]
  |cons p r ih=>
   rw[List.cons_append];unfold bW;by_cases e:p.1=j
   .simp[e]
   .simp only[e,qu];show ih
 by_cases h:(bW q kvs).isSome=true
 .rw[if_pos h];by_cases e:j=q
  .subst e;rw[if_pos rfl]
   induction kvs with
   |nil=>simp[bW]at h|cons p r ih=>
    rw[iV];by_cases z:p.1=j
    .rw[if_pos z];unfold bW;rw[if_pos z]
    .rw[if_neg z];unfold bW at h ⊢;rw[if_neg z]at h ⊢;show ih h
  .rw[if_neg e];clear h
   induction kvs with
   |nil=>rfl|cons p r ih=>
    rw[iV];by_cases z:p.1=q
    .rw[if_pos z];unfold bW;rw[if_neg (λy=>e (y.symm.trans z)),if_neg (λy=>e (y.symm.trans z))];show ih
    .rw[if_neg z];unfold bW;by_cases y:p.1=j
     .rw[if_pos y,if_pos y]
     .rw[if_neg y,if_neg y];show ih
 .rw[if_neg h,app];by_cases e:j=q
  .subst e;let:bW j kvs=none:=by simpa using h
   simp[this]
  .rw[if_neg e,if_neg e];cases bW j kvs<;>rfl
def zeD{q:List Kx}{d:D}{kvs:gJ}:(jd q d kvs).length<=kvs.length+1:=by
 unfold jd
 split
 .rw[bN];lia
 .simp
theorem zkV{kvs:gJ}{b:Bool}(h:lC es A kvs)(hb:b=true↔Sat es A F):lC es A (jd (F.map cellK) (.bl b) kvs):=λG d e=>by
 rw[Oe]at e;by_cases z:G.map cellK=F.map cellK
 .rw[if_pos z]at e;cases e;rw[UG z];show⟨b,rfl,hb⟩
 .rw[if_neg z]at e;show h G d e
end
def cnt(k:Nat):Nat->Nat
 |0=>1|m+1=>1+k*cnt k m
section
variable {aq:Nat->Nat->Bool}{aj:Bool}{F:Fn}{J:Vs}{s:S}{P:Xv->S->Prop}
def W.p7{c:Nat}{fs:List D}{P:List D->S->Prop}(h:P fs s):W (Mi.p7 c (.d (.ob c fs))) s P:=by
 change W (if c=c then M.ret fs else M.no) s P;rw[if_pos rfl];show W.ret h
theorem W.cm{c f:Nat}{o:E}{xs:Es}{fs:List D}{vs:List Xv}(h1:dF aq o J=some (.d (.ob c fs)))(h2:oR aq xs J=some vs)(k:W (bY (F f) (.d (.ob c fs)::vs)) s P):W (ev aq aj F (.cm c f o xs) J) s P:=
 W.bd (W.eq (fZ o _ h1) (W.bd (W.p7 (W.bd (W.eq (jK xs h2) (W.qt k))))))
theorem W.ou(h:P (.l s.length) (s++[.dct []])):W (ev aq aj F .ou J) s P:=⟨_,_,rfl,h⟩
theorem W.key{x:D}{kx:List Kx}{P:List Kx->S->Prop}(e:kOf x=some kx)(h:P kx s):W (Mi.key (.d x)) s P:=W.opt e h
theorem W.fU{n:Nat}{kvs:gJ}{P:Nat×gJ->S->Prop}(e:s[n]?=some (.dct kvs))(h:P (n,kvs) s):W (Mi.fU (.l n)) s P:=⟨_,s,by unfold Mi.fU;simp only[e],h⟩
theorem W.wY{b:Bool}{k d:E}{x:D}{n:Nat}{kx:List Kx}{kvs:gJ}(h1:dF aq k J=some (.d x))(h2:dF aq d J=some (.l n))(e:kOf x=some kx)(hn:s[n]?=some (.dct kvs))(h:P (.d (.bl ((bW kx kvs).isSome==b))) s):W (ev aq aj F (.wY b k d) J) s P:=
 W.bd (W.eq (fZ k _ h1) (W.bd (W.eq (fZ d _ h2) (W.bd (W.key e (W.bd (W.fU hn (W.ret h))))))))
theorem W.k_{d k:E}{x v:D}{n:Nat}{kx:List Kx}{kvs:gJ}(h1:dF aq d J=some (.l n))(h2:dF aq k J=some (.d x))(e:kOf x=some kx)(hn:s[n]?=some (.dct kvs))(hv:bW kx kvs=some v)(h:P (.d v) s):W (ev aq aj F (.k_ d k) J) s P:=
 W.bd (W.eq (fZ d _ h1) (W.bd (W.eq (fZ k _ h2) (W.bd (W.key e (W.bd (W.fU hn (W.opt (a:=.d v) (by change Option.map _ (bW kx kvs)=_;rw[hv];rfl) h))))))))
theorem W.Fl{a:E}(h:W (ev aq aj F a J) s λx s1=>W (rd x) s1 λd s2=>∃b,wZ d=some b/\P (.d (.bl b)) s2):W (ev aq aj F (.Fl a) J) s P:=
 W.bd (h.imp λ_ _ h=>W.bd (h.imp λ_ _ ⟨_,e,h⟩=>W.bd (W.opt e (W.ret h))))
theorem U8{xs:List D}{P:Src×Nat->S->Prop}(h:P (.fix (enumFrom 0 xs),(enumFrom 0 xs).length) s):W (oF (.d (.tup xs))) s P:=⟨_,s,rfl,h⟩
def W.mk{c f:Nat}{xs:Es}{vs:List Xv}{ds:List D}(h:W (evs aq aj F xs J) s λus s1=>us=vs/\P (.d (.ob c ds)) s1)(hl:locs vs=[])(k:W (F f (.d .any::vs)) [] λv _=>v=.d (.tup ds)):W (ev aq aj F (.mk c f xs) J) s P:=by
 show W.bd (h.imp λus s1 ⟨e,hp⟩=>?_);subst e;let⟨v,s2,e1,rfl⟩:=k;show⟨_,s1,?_,hp⟩;unfold Sv;rw[if_pos hl];simp only[e1]
end
def WS.dput{aq:Nat->Nat->Bool}{aj:Bool}{F:Bool->Fn}{J:Vs}{s:S}{Q:Out->S->Prop}{d k v:E}{x:D}{n:Nat}{kx:List Kx}(h1:dF aq d J=some (.l n))(h2:dF aq k J=some (.d x))(e:kOf x=some kx)
  (h:W (ev aq aj (F aj) v J) s λz s1=>∃w kvs,z=.d w/\s1[n]?=some (.dct kvs)/\kvs.length<sizeLine/\Q (.nx J) (s1.set n (.dct (jd kx w kvs)))):WS (ex aq aj F (.dput d k v) J) s Q:=by
 show WS.ofM (W.bd (h.imp λz s1 hz=>?_));let⟨w,kvs,ez,hn,hl,q⟩:=hz;subst ez;show W.bd (W.dat (W.bd (W.eq (fZ d _ h1) (W.bd (W.eq (fZ k _ h2) (W.bd (W.key e (W.bd (W.fU hn ?_)))))))));rw[if_pos hl];show⟨_,_,rfl,WS.nx q⟩
theorem zbr{α:Type}{f:α->D}:∀(l:List α) (j:Nat),enumFrom j (l.map f)=(l.zipIdx j).map λp=>.tup [.int p.2,f p.1]
 |[],j=>rfl|a::l,j=>by rw[iV,List.zipIdx_cons,iV,<-zbr l (j+1)];rfl
def Ka4{o:Option Rz}{xs:List D}{s:S}{P:Xv->S->Prop}(e:o=some (.nw xs))(h:P (.l s.length) (s++[.lst xs])):W (b_ false o) s P:=by subst e;show⟨_,_,rfl,h⟩
def zi9{n:Nat}{j:Int}(h0:0<=j)(h:j<n):L2.rQ n j=some j.toNat:=by
 unfold L2.rQ;rw[if_pos h0,if_pos h]
def zkg{n:Nat}{j:Int}(h0:j<0)(h : -(n:Int)<=j):L2.rQ n j=some (j+n).toNat:=by
 unfold L2.rQ;rw[if_neg gV,if_pos h]
def zpe{xs:List D}{j:Int}{x:D}(h0:j<0)(h1 : -(xs.length:Int)<=j)(h:xs[(j+xs.length).toNat]?=some x):prim .ix [.fl xs,.int j]=some (.dat x):=by
 change Option.map Rz.dat (L2.qG xs j)=_;let:L2.qG xs j=some x:=by
  unfold L2.qG;rw[zkg h0 h1];show h
 rw[this];rfl
def zih(F:Fr):memD (.tup []) (F.map aN)=some (decide (some []∈F)):=by
 induction F with
 |nil=>rfl|cons c F ih=>
  simp only[iV,memD,ih];cases c with
  |none=>
   let e:cO 50 (aN none) (.tup [])=some false:=rfl;simp[e]
  |some l=>
   cases l with
   |nil=>
    let:cO 50 (aN (some [])) (.tup [])=some true:=rfl;rw[this];simp
   |cons a l=>
    let:cO 50 (aN (some (a::l))) (.tup [])=some false:=rfl;rw[this];simp
def znN{f:Bool->Bool}{F:Fr}:Fp f [.tup [],gD F]=some (.dat (.bl (f (decide (some []∈F))))):=by
 change Option.map _ (memD (.tup []) (F.map aN))=_;rw[zih];rfl
theorem zfY{k':Nat}:∀(a b:List Int),dO (cO k') (a.map D.int) (b.map D.int)=some (decide (a=b))
 |[],[]=>by simp[dO]|[],_::_=>by simp[dO]|_::_,[]=>by simp[dO]|x::a,y::b=>by
  let hi:cO k' (.int x) (.int y)=some (x==y):=by cases k'<;>rfl
  simp only[iV,dO,zfY a b,hi]
  congr 1
  by_cases e:x=y<;>by_cases e2:a=b<;>simp[e,e2]
def zmF{f:Bool->Bool}{a b:List Int}:BL f [.tup (a.map .int),.tup (b.map .int)]=some (.dat (.bl (f (decide (a=b))))):=by
 change Option.map _ (dO (cO 49) (a.map D.int) (b.map D.int))=_;rw[zfY];rfl
theorem zdk:∀rs:List (List Int),jU (rs.map λr=>D.tup (r.map .int))=some rs
 |[]=>rfl|r::rs=>by simp only[iV,jU,Dl,zdk rs]
theorem U9:∀(rs:List (List Int)) (b:List Int),fQ b rs=b\/fQ b rs∈rs
 |[],b=>.inl rfl|x::r,b=>by
  unfold fQ
  split
  .rcases U9 r x with h|h
   .rw[h];show .inr lG
   .exact .inr (iJ _ h)
  .rcases U9 r b with h|h
   .exact .inl h
   .exact .inr (iJ _ h)
def zmx{rs:List (List Int)}(h:rs≠[]):∃r∈rs,prim .rR [.fl (rs.map λr=>D.tup (r.map .int))]=some (.dat (.tup (r.map .int))):=by
 cases rs with
 |nil=>show absurd rfl h|cons x r=>
  show⟨fQ x r,?_,?_⟩
  .rcases U9 r x with h|h
   .rw[h];show lG
   .exact iJ _ h
  .show oA [.fl ((x::r).map λr=>D.tup (r.map .int))]=_;unfold oA;simp only[zdk]
def zoD{n:Nat}(h:n<=65536):prim .Fj [.int n]=some (.dat (.tup ((aX n).map .int))):=by
 change (if okR 0 (n:Int)=true then some (Rz.dat (.tup (Sq 0 ((n:Int)-0).toNat))) else none)=_;rw[if_pos (show okR 0 (n:Int)=true from cQ gV)];unfold Sq aX;rw[tX,show ((n:Int)-0).toNat=n by lia]
 congr 4
 funext i
 simp
def yc(n:Nat)(es:Nat->List Int):List D:=(List.range n).map λi=>.tup ((es i).map .int)
def tL(k:Nat)(A:Int->Int->Bool):List D:=(List.range k).map λ(a:Nat)=>.fl ((List.range k).map λ(b:Nat)=>.bl (A a b))
def jy(al:Bool)(n k:Nat)(es:Nat->List Int)(A:Int->Int->Bool):D:=.ob 0 [.fl (yc n es),.tup ((aX k).map .int),.fl (tL k A),.bl al]
noncomputable abbrev nA(n k:Nat)(es:Nat->List Int)(A:Int->Int->Bool):D:=jy true n k es A
def Og{n:Nat}{es:Nat->List Int}{i:Nat}(h:i<n):(yc n es)[i]?=some (.tup ((es i).map .int)):=by
 unfold yc;rw[dH,yu h];rfl
def zoN{k:Nat}{A:Int->Int->Bool}{a:Int}(h0:0<=a)(h:a<k):(tL k A)[a.toNat]?=some (.fl ((List.range k).map λ(b:Nat)=>.bl (A a b))):=by
 unfold tL;rw[dH,yu gV];let:((a.toNat:Nat):Int)=a:=by lia
 simp[this]
def U_{k:Nat}{f:Int->Bool}{b:Int}(h0:0<=b)(h:b<k):((List.range k).map λ(b:Nat)=>D.bl (f b))[b.toNat]?=some (.bl (f b)):=by
 rw[dH,yu gV];let:((b.toNat:Nat):Int)=b:=by lia
 simp[this]
def Gv{F:Fr}{i:Nat}{c:Option (List Int)}(h:F[i]?=some c):(F.map aN)[i]?=some (aN c):=by rw[dH,h];rfl
def zj2{f:Int->Bool}{F:Fr}{e:Int}:(f9 f F e).map aN=(F.map aN).set e.toNat (aN ((F[e.toNat]?.join).map (·.filter f))):=by
 unfold f9;rw[List.map_set]
def zhC{f:Int->Bool}{F:Fr}{e:Int}(h:F[e.toNat]?=some none):f9 f F e=F:=by
 unfold f9;rw[h];let⟨hl,e2⟩:=cJ.mp h;change F.set e.toNat none=F;rw[<-e2,List.set_getElem_self]
def Va{α:Type}{p:Int->Bool}(l:List Int):l.filterMap (λy=>if p y=true then some (D.int y) else none)=(l.filter p).map .int:=by
 induction l with
 |nil=>rfl|cons a l ih=>
  rw[DQ,Ej];by_cases q:p a=true
  .simp[q,ih]
  .simp[q,ih]
def tot(k:Nat):Nat->Nat
 |0=>0|m+1=>k*cnt k m+tot k m
def Oh{k:Nat}{L:List Int}(h:L.Pairwise (·<·))(hb:∀x∈L,0<=x/\x<k):L.length<=k:=by
 let key:∀(L:List Int) (a:Int),L.Pairwise (·<·)->(∀x∈L,a<=x/\x<k)->a<=k->(L.length:Int)<=k-a:=by
  intro L
  induction L with
  |nil=>intro a _ _ ha;simp;lia|cons x r ih=>
   intro a h hb ha;rw[D_]at h;let hx:=hb x R3;let:=ih (x+1) h.2 (λy hy=>by let:=h.1 y hy;let:=hb y (by simp[hy]);lia) gV;rw[eE]
   lia
 let:=key L 0 h hb gV
 lia
def aJ(k d:Int)(a b:Int):Bool:=decide (d<=gC k a b)
section
variable {n k d:Int}{ps:List (Int×Int)}{ls:List Int}
def zU(hd:1<=d){a b:Int}:aJ k d a b=aJ k d b a:=by
 unfold aJ;rw[tW,Gp hd,Gp hd]
 lia
def KJ(hd:1<=d)(t a b:Int)(a0:0<=a)(ak:a<k)(b0:0<=b)(bk:b<k):aJ k d ((a+t)%k) ((b+t)%k)=aJ k d a b:=by
 unfold aJ;rw[tW,Gp hd,Gp hd];let e1:=Pq (a+t) k;let e2:=Pq (b+t) k;let u0:=Aj (a+t) (b:=k) gV;let w0:=Aj (b+t) (b:=k) gV;let uk:=Ed (a+t) (b:=k) gV;let wk:=Ed (b+t) (b:=k) gV;generalize (a+t)%k=u at *;generalize (b+t)%k=w at *;generalize (a+t)/k=q1 at *;generalize (b+t)/k=q2 at *;let e3:k*(q1-q2)=(a-b)-(u-w):=by rw[Int.mul_sub];lia
 let c:q1-q2 = -1\/q1-q2=0\/q1-q2=1:=by
  let h1:q1-q2<2:=Int.not_le.mp λz=>by
   let:=Int.mul_le_mul_of_nonneg_left z (show 0<=k by lia)
   lia
  let h2 : -2<q1-q2:=Int.not_le.mp λz=>by
   let:=Int.mul_le_mul_of_nonneg_left z (show 0<=k by lia)
   lia
  lia
 rcases c with c|c|c<;>rw[c]at e3<;>lia
def yd(w:Web n ps){i e:Int}:e∈aA i ps↔(i,e)∈ps\/(e,i)∈ps:=by
 unfold aA;rw[tR]
 constructor
 .rintro⟨p,hp,h⟩;let⟨a,b⟩:=p;unfold endOf at h;dsimp only at h;split at h
  .cases h;subst_vars;show .inl hp
  .split at h
   .cases h;subst_vars;show .inr hp
   .cases h
 .rintro(hp|hp)
  .exact⟨_,hp,by simp[endOf]⟩
  .let:=w.tie _ hp;dsimp only at this;show⟨_,hp,by unfold endOf;dsimp only;rw[if_neg gV,if_pos rfl]⟩
def vq(w:Web n ps)(hd:1<=d)(hk:k<=24):Bo n.toNat k.toNat (λi=>aA i ps) (aJ k d) where
 hn:=by let:=w.h8;lia
 hk:=by lia
 mem:=λi hi e he=>by
  let:=zP w he;show⟨this.1,by lia,λz=>?_⟩;subst z;rcases(yd w).mp he with h|h<;>have:=w.tie _ h<;>dsimp only at this<;>lia
 sym:=λi e _ _ he=>(yd w).mpr ((yd w).mp he).symm
 len:=λi hi=>by
  let:=Oh (k:=n.toNat) (NZ w i) (λx hx=>by let:=zP w hx;let:=w.h1;lia);let:=w.h8
  lia
 asy:=λa b _ _ _ _=>zU hd
def iH(n k:Int):Fr:=List.replicate n.toNat (some (aX k.toNat))
def zV{i:Nat}{L:List Int}(h:(iH n k)[i]?=some (some L)):i<n.toNat/\L=aX k.toNat:=by
 unfold iH at h;rw[tQ]at h;split at h
 .cases h;show⟨by assumption,rfl⟩
 .cases h
def zW{i:Nat}(h:i<n.toNat):(iH n k)[i]?=some (some (aX k.toNat)):=by
 unfold iH;rw[tQ,if_pos h]
def Oi(hk:k<=24):Fv n.toNat k.toNat (iH n k) where
 len:=by unfold iH;simp
 lo:=λi L h x hx=>by rw[(zV h).2]at hx;show aL.mp hx
 ll:=λi L h=>by rw[(zV h).2];unfold aX;simp;lia
 so:=λi L h=>by
  rw[(zV h).2];unfold aX;rw[wj];show GK.imp (by intro a b h;lia)
theorem Oj(w:Web n ps)(hd:1<=d){hs:List Int}(h:cU n k d ps hs):lA (λi=>aA i ps) (aJ k d) (iH n k) λj=>at' hs j where
 mem:=λi L e=>by
  let⟨h1,rfl⟩:=zV e;let:=h.len;let:=h.lo _ (tH (fs:=hs) (j:=i) gV gV);show aL.mpr gV
 fit:=λi e L M _ _ he=>by
  rcases(yd w).mp he with q|q
  .let:=h.fit _ q;change aJ k d (at' hs i) (at' hs e)=true;unfold aJ;rw[yx];show this
  .let:=h.fit _ q;rw[zU hd];change aJ k d (at' hs e) (at' hs i)=true;unfold aJ;rw[yx];show this
def zeJ(w:Web n ps){hs:List Int}(hl:hs.length=n.toNat)(s:lA (λi=>aA i ps) (aJ k d) (iH n k) λj=>at' hs j):cU n k d ps hs where
 len:=by let:=w.h1;lia
 lo:=λx hx=>by
  let⟨j,hj,e⟩:=pH hx;let:=s.mem j _ (zW gV);let e2:at' hs (j:Int)=x:=by
   unfold at';rw[iU,jL,cB hj,e];rfl
  rw[e2]at this;let:=aL.mp this
  lia
 fit:=λp hp=>by
  let ht:=w.tie p hp;let⟨a,b⟩:=p;dsimp only at ht;let⟨i,rfl⟩:=v9 ht.1;let⟨e,rfl⟩:=v9 (show 0<=b by lia);let:=s.fit i e _ _ (zW gV) (zW gV) ((yd w).mpr (.inl hp));unfold aJ at this;rw[yx]at this;show this
end
def Ol{k k2 m m2:Nat}(hk:k<=k2)(hm:m<=m2):cnt k m<=cnt k2 m2:=by
 let h1:∀m,cnt k m<=cnt k2 m:=by
  intro m
  induction m with
  |zero=>show bQ _|succ m ih=>show Nat.add_le_add_left (En hk ih) 1
 let h3:∀m,1<=cnt k2 m:=λm=>by cases m<;>unfold cnt<;>lia
 by_cases c:k2=0
 .subst c;let:k=0:=by lia
  subst this;cases m<;>cases m2<;>simp[cnt]
 .let h2:∀j,cnt k2 m<=cnt k2 (m+j):=by
   intro j
   induction j with
   |zero=>show bQ _|succ j ih=>
    let:1*cnt k2 (m+j)<=k2*cnt k2 (m+j):=yr _ gV;change _<=1+k2*cnt k2 (m+j)
    lia
  let:=h2 (m2-m);rw[show m+(m2-m)=m2 by lia]at this;show jz (h1 m) this
def zep{k k2 m m2:Nat}(hk:k<=k2)(hm:m<=m2):tot k m<=tot k2 m2:=by
 let h1:∀m,tot k m<=tot k2 m:=by
  intro m
  induction m with
  |zero=>show bQ _|succ m ih=>show Nat.add_le_add (En hk (Ol hk (bQ _))) ih
 let h2:∀j,tot k2 m<=tot k2 (m+j):=by
  intro j
  induction j with
  |zero=>show bQ _|succ j ih=>change _<=k2*cnt k2 (m+j)+tot k2 (m+j);lia
 let:=h2 (m2-m);rw[show m+(m2-m)=m2 by lia]at this;show jz (h1 m) this
def Vb(a b k:Int):(a%k+b)%k=(a+b)%k:=by
 let e:=Pq a k;let:a%k+b=(a+b)+k*(-(a/k)):=by rw[Int.mul_neg];lia
 rw[this,Int.add_mul_emod_self_left]
theorem Om{a k:Int}(h0:0<=a)(h:a<k):a%k=a:=Int.emod_eq_of_lt h0 h
theorem ziU{a k:Int}(h:0<k):0<=a%k/\a%k<k:=⟨Aj _ gV,Ed _ h⟩
def bL(k m:Int)(hs:List Int):List Int:=hs.map λx=>(x+m)%k
section
variable {n k d m:Int}{ps:List (Int×Int)}{hs:List Int}
theorem zgP(h:cU n k d ps hs):rz k d ps hs=[]:=Dk.mpr (oU.mpr h.fit)
def ziT:(wD k d ps hs).gG=decide (rz k d ps hs=[]):=by
 unfold wD;cases rz k d ps hs with
 |nil=>rfl|cons p r=>rfl
end
def cD:Option Int->D
 |none=>.non|some i=>.int i
def Dq(k:Int)(t:D):Bool:=t.gG||xZ 0 (k-1) t
def Dr(n k:Int):D->Bool
 |.tup xs=>decide ((xs.length:Int)=n)&&xs.all (Dq k)|_=>false
structure Kn(n k:Int)(ks:List (Option Int)):Prop where
 len:(ks.length:Int)=n
 lo:∀i,some i∈ks->0<=i/\i<k
structure rA(n k d:Int)(ps:List (Int×Int))(ks:List (Option Int))(h:List Int):Prop where
 hu:cU n k d ps h
 kn:∀(j:Nat) i,ks[j]?=some (some i)->at' h j=i
section
variable {n k d:Int}{ps:List (Int×Int)}{ks:List (Option Int)}{r:List Int}{x y:Int}
def gb(k:Int):Option Int->List Int
 |none=>aX k.toNat|some i=>[i]
def tM(k:Int)(ks:List (Option Int)):Fr:=ks.map λc=>some (gb k c)
def Ds{j:Nat}{L:List Int}(h:(tM k ks)[j]?=some (some L)):∃c,ks[j]?=some c/\L=gb k c:=by
 unfold tM at h;rw[dH,iI]at h;let⟨c,e,e2⟩:=h;show⟨c,e,(cP e2).symm⟩
def zot(q:Kn n k ks)(hk:k<=24)(hn:0<=n):Fv n.toNat k.toNat (tM k ks) where
 len:=by unfold tM;rw[bN];let:=q.len;lia
 lo:=λj L h x hx=>by
  let⟨c,e,rfl⟩:=Ds h;cases c with
  |none=>show aL.mp hx|some i=>
   let:=q.lo i (dG e);let:x=i:=jM.mp hx
   lia
 ll:=λj L h=>by
  let⟨c,e,rfl⟩:=Ds h;cases c with
  |none=>change (aX k.toNat).length<=24;unfold aX;simp;lia|some i=>change [i].length<=24;simp
 so:=λj L h=>by
  let⟨c,e,rfl⟩:=Ds h;cases c with
  |none=>
   change (aX k.toNat).Pairwise _;unfold aX;rw[wj];show GK.imp (by intro a b h;lia)
  |some i=>show List.pairwise_singleton ..
def KN{j:Nat}{c:Option Int}(h:ks[j]?=some c):(tM k ks)[j]?=some (some (gb k c)):=by
 unfold tM;rw[dH,h];rfl
theorem zf2(w:Web n ps)(hd:1<=d)(q:Kn n k ks){hs:List Int}(h:rA n k d ps ks hs):lA (λi=>aA i ps) (aJ k d) (tM k ks) λj=>at' hs j where
 mem:=λj L e=>by
  let⟨c,e1,rfl⟩:=Ds e;let hj:=(cJ.mp e1).1;let:=h.hu.len;let hl:=q.len;let:=h.hu.lo _ (tH (fs:=hs) (j:=j) gV gV);cases c with
  |none=>show aL.mpr gV|some i=>show jM.mpr (h.kn j i e1)
 fit:=λi e L M _ _ he=>by
  rcases(yd w).mp he with q|q
  .let:=h.hu.fit _ q;change aJ k d (at' hs i) (at' hs e)=true;unfold aJ;rw[yx];show this
  .let:=h.hu.fit _ q;rw[zU hd];change aJ k d (at' hs e) (at' hs i)=true;unfold aJ;rw[yx];show this
def zgz(w:Web n ps)(q:Kn n k ks){hs:List Int}(hl:hs.length=n.toNat)(s:lA (λi=>aA i ps) (aJ k d) (tM k ks) λj=>at' hs j):rA n k d ps ks hs:=by
 let h1:=w.h1;let hkl:=q.len;let mem:∀j:Nat,j<n.toNat->0<=at' hs j/\at' hs j<k:=λj hj=>by
  obtain⟨c,e⟩ : ∃c,ks[j]?=some c:=⟨_,cB gV⟩;let m:=s.mem j _ (KN e);cases c with
  |none=>have:=aL.mp m;lia|some i=>have m:=jM.mp m;let:=q.lo i (dG e);lia
 show⟨⟨by lia,λx hx=>?_,λp hp=>?_⟩,λj i e=>?_⟩
 .obtain⟨j,hj,e⟩:=pH hx;let e2:at' hs (j:Int)=x:=by
   unfold at';rw[iU,jL,cB hj,e];rfl
  rw[<-e2];show mem j gV
 .let ht:=w.tie p hp;let⟨a,b⟩:=p;dsimp only at ht;let⟨i,rfl⟩:=v9 ht.1;let⟨e,rfl⟩:=v9 (show 0<=b by lia);let:=s.fit i e _ _ (KN (cB (l:=ks) (i:=i) gV)) (KN (cB (l:=ks) (i:=e) gV)) ((yd w).mpr (.inl hp));unfold aJ at this;rw[yx]at this;show this
 .exact jM.mp (s.mem j _ (KN e))
end
def KQ{ks:List (Option Int)}{j:Nat}{c:Option Int}(h:ks[j]?=some c):(ks.map cD)[j]?=some (cD c):=by rw[dH,h];rfl
def zja{c:Option Int}:(cD c).gG=c.isNone:=by cases c<;>rfl
section
variable {n k d:Int}{ps:List (Int×Int)}
def oW(k d:Int)(ps:List (Int×Int))(r:List Int)(x:Int):Bool:=ps.all λp=>decide (p.2=(r.length:Int)->d<=gC k (at' r p.1) x)
def nextR(k d:Int)(ps:List (Int×Int))(r:List Int):List (List Int):=((aX k.toNat).filter (oW k d ps r)).map λx=>r++[x]
def grow(k d:Int)(ps:List (Int×Int))(rows:List (List Int)):List (List Int):=rows.flatMap (nextR k d ps)
def grows(k d:Int)(ps:List (Int×Int))(rows:List (List Int)):Nat->List (List Int)
 |0=>rows|i+1=>grow k d ps (grows k d ps rows i)
def oX{rows:List (List Int)}{h:List Int}:h∈grow k d ps rows↔∃r∈rows,∃x:Int,(0<=x/\x<(k.toNat:Nat))/\oW k d ps r x=true/\h=r++[x]:=by
 unfold grow nextR;rw[List.mem_flatMap]
 constructor
 .rintro⟨r,hr,hh⟩;let⟨x,hx,rfl⟩:=j9.mp hh;let⟨h1,h2⟩:=jN.mp hx;show⟨r,hr,x,aL.mp h1,h2,rfl⟩
 .rintro⟨r,hr,x,h1,h2,rfl⟩;show⟨r,hr,j9.mpr ⟨x,jN.mpr ⟨aL.mpr h1,h2⟩,rfl⟩⟩
def zfF(w:Web n ps):grow k d ps [[]]=(aX k.toNat).map λx=>[x]:=by
 unfold grow nextR;rw[yD,List.flatMap_nil,vI];let:(aX k.toNat).filter (oW k d ps [])=aX k.toNat:=by
  show PJ.mpr λx _=>cT.mpr λp hp=>cQ λe=>?_;let:=w.tie p hp;simp at e
  lia
 rw[this];rfl
def zgI(w:Web n ps)(hd:1<=d){r:List Int}(hr:∀x∈r,0<=x/\x<k)(t x:Int)(hx:0<=x/\x<k):oW k d ps (bL k t r) ((x+t)%k)=oW k d ps r x:=by
 unfold oW;rw[G6,cT,cT];let key:∀p∈ps,(p.2=((bL k t r).length:Int)->d<=gC k (at' (bL k t r) p.1) ((x+t)%k))↔(p.2=(r.length:Int)->d<=gC k (at' r p.1) x):=λp hp=>by
  let ht:=w.tie p hp;let el:(bL k t r).length=r.length:=by unfold bL;rw[bN]
  rw[el]
  constructor
  .intro h e;let:=h e;unfold bL at this;rw[zi4 gV gV]at this;let a:=hr _ (tH (fs:=r) (j:=p.1) gV gV);let f:=KJ (k:=k) hd t _ _ a.1 a.2 hx.1 hx.2;unfold aJ at f;rw[tW]at f;show f.mp this
  .intro h e;let:=h e;unfold bL;rw[zi4 gV gV];let a:=hr _ (tH (fs:=r) (j:=p.1) gV gV);let f:=KJ (k:=k) hd t _ _ a.1 a.2 hx.1 hx.2;unfold aJ at f;rw[tW]at f;show f.mpr this
 constructor
 .intro h p hp;show cQ ((key p hp).mp (gP (h p hp)))
 .intro h p hp;show cQ ((key p hp).mpr (gP (h p hp)))
def oY{k:Nat}:(aX k).Nodup:=by
 unfold aX;show wj.mpr (List.nodup_range.imp λh e=>h gV)
def zg1(w:Web n ps)(hd:1<=d)(hk:1<=k){r:List Int}(hr:∀x∈r,0<=x/\x<k)(t:Int):((nextR k d ps r).map (bL k t)).Perm (nextR k d ps (bL k t r)):=by
 unfold nextR;let e1:(((aX k.toNat).filter (oW k d ps r)).map λx=>r++[x]).map (bL k t)=((((aX k.toNat).filter (oW k d ps r)).map λx=>(x+t)%k).map λx=>bL k t r++[x]):=by
  rw[tX,tX];show List.map_congr_left λx _=>?_;change bL k t (r++[x])=bL k t r++[(x+t)%k];unfold bL;rw[pJ];rfl
 rw[e1];show List.Perm.map _ ?_;let inj:∀a b:Int,0<=a->a<k->0<=b->b<k->(a+t)%k=(b+t)%k->a=b:=λa b a0 a1 b0 b1 e=>by
  let h1:((a+t)%k + -t)%k=a:=by rw[Vb,show a+t + -t=a by lia,Om a0 a1]
  let h2:((b+t)%k + -t)%k=b:=by rw[Vb,show b+t + -t=b by lia,Om b0 b1]
  rw[<-h1,<-h2,e]
 show(List.perm_ext_iff_of_nodup ?_ (oY.filter _)).mpr λy=>?_
 .refine wj.mpr (List.Pairwise.imp_of_mem (λ{a b} ha hb h e=>?_) (oY.filter (oW k d ps r)));let a1:=aL.mp (jN.mp ha).1;let b1:=aL.mp (jN.mp hb).1;show h (inj a b gV gV gV gV e)
 .constructor
  .intro hy;let⟨x,hx,rfl⟩:=j9.mp hy;let⟨h1,h2⟩:=jN.mp hx;let h1:=aL.mp h1;let:=ziU (a:=x+t) (k:=k) gV;show jN.mpr ⟨aL.mpr gV,by rw[zgI w hd hr t x gV];show h2⟩
  .intro hy;let⟨h1,h2⟩:=jN.mp hy;let h1:=aL.mp h1;let hm:=ziU (a:=y + -t) (k:=k) gV;let ey:((y + -t)%k+t)%k=y:=by rw[Vb,show y + -t+t=y by lia,Om gV gV]
   show j9.mpr ⟨(y + -t)%k,jN.mpr ⟨aL.mpr gV,?_⟩,ey⟩;rw[<-zgI w hd hr t _ hm,ey];show h2
theorem zjw(hk:1<=k){rows:List (List Int)}(h:∀r∈rows,∀x∈r,0<=x/\x<k):∀r∈grow k d ps rows,∀x∈r,0<=x/\x<k:=λr hr x hx=>by
 let⟨q,hq,y,hy,_,rfl⟩:=oX.mp hr;rcases mj.mp hx with hx|hx
 .exact h q hq x hx
 .let:x=y:=jM.mp hx
  lia
theorem zda(w:Web n ps)(hd:1<=d)(hk:1<=k)(t:Int):∀{rows:List (List Int)},(∀r∈rows,∀x∈r,0<=x/\x<k)->((grow k d ps rows).map (bL k t)).Perm (grow k d ps (rows.map (bL k t)))
 |[],_=>List.Perm.refl _|r::rows,h=>by
  let e1:grow k d ps (r::rows)=nextR k d ps r++grow k d ps rows:=by unfold grow;rw[yD]
  let e2:grow k d ps ((r::rows).map (bL k t))=nextR k d ps (bL k t r)++grow k d ps (rows.map (bL k t)):=by unfold grow;rw[iV,yD]
  rw[e1,e2,pJ];show(zg1 w hd hk (h r R3) t).append (zda w hd hk t λq hq=>h q (by simp[hq]))
theorem Vc(w:Web n ps)(hd:1<=d)(hk:1<=k)(t:Int){rows:List (List Int)}(h:∀r∈rows,∀x∈r,0<=x/\x<k):∀m,(∀r∈grows k d ps rows m,∀x∈r,0<=x/\x<k)/\((grows k d ps rows m).map (bL k t)).Perm (grows k d ps (rows.map (bL k t)) m)
 |0=>⟨h,List.Perm.refl _⟩|m+1=>by
  let⟨h1,h2⟩:=Vc w hd hk t h m;show⟨zjw hk h1,?_⟩;change ((grow k d ps (grows k d ps rows m)).map (bL k t)).Perm (grow k d ps (grows k d ps (rows.map (bL k t)) m));show(zda w hd hk t h1).trans ?_;unfold grow;show List.Perm.flatMap_right _ h2
theorem zdG{a b:List (List Int)}:∀m,grows k d ps (a++b) m=grows k d ps a m++grows k d ps b m
 |0=>rfl|m+1=>by
  change grow k d ps (grows k d ps (a++b) m)=grow k d ps (grows k d ps a m)++grow k d ps (grows k d ps b m);rw[zdG m];unfold grow;rw[List.flatMap_append]
theorem zdu:∀m,grows k d ps [] m=[]
 |0=>rfl|m+1=>by change grow k d ps (grows k d ps [] m)=[];rw[zdu m];rfl
theorem zcz{rows:List (List Int)}:∀m,grows k d ps rows (m+1)=grows k d ps (grow k d ps rows) m
 |0=>rfl|m+1=>by
  change grow k d ps (grows k d ps rows (m+1))=grow k d ps (grows k d ps (grow k d ps rows) m);rw[zcz m]
def zej(w:Web n ps)(hd:1<=d)(hk:1<=k)(m:Nat):(grows k d ps [[]] (m+1)).length=k.toNat*(grows k d ps [[0]] m).length:=by
 rw[zcz,zfF w];let one:∀x:Int,0<=x->x<k->(grows k d ps [[x]] m).length=(grows k d ps [[0]] m).length:=λx h0 h1=>by
  let:=(Vc w hd hk x (rows:=[[0]]) (λr hr y hy=>by
   rw[jM.mp hr]at hy;let:y=0:=jM.mp hy
   lia) m).2.length_eq
  rw[bN]at this;rw[this];let e:[[(0:Int)]].map (bL k x)=[[x]]:=by
   unfold bL;simp[Om h0 h1]
  rw[e]
 let all:∀l:List Int,(∀x∈l,0<=x/\x<k)->(grows k d ps (l.map λx=>[x]) m).length=l.length*(grows k d ps [[0]] m).length:=λl=>by
  induction l with
  |nil=>intro _;rw[List.map_nil,zdu];simp|cons x l ih=>
   intro h;rw[iV,show [x]::l.map (λx=>[x])=[[x]]++l.map (λx=>[x]) from rfl,zdG,jk,one x (h x R3).1 (h x R3).2,ih λy hy=>h y (by simp[hy]),eE,yH]
   lia
 rw[all _ λx hx=>by let:=aL.mp hx;lia]
 congr 1
 unfold aX;simp
end
section
variable {aq:Nat->Nat->Bool}{F:Fn}{J:Vs}{s:S}{P:Xv->S->Prop}
def Kaw{α β:Type}{f:α->D}{l:List α}{f2:β->D}{l2:List β}{fz:Bool}{elt:E}{tg Jm:List Nat}{it yW:Wk}{fr:List Nat}{many:Nat}{cond:Eo}(g:α->β->Option D)(hc:l.length*l2.length<=sizeLine)
  (hw:W (g8 aq true F it J) s λcn s1=>cn=(.fix (l.map f),(l.map f).length)/\s1=s)
  (hb:∀x∈l,tG (dz tg (f x) (blk many fr J)) λJ'=>(W (g8 aq true F yW J') s λcn s1=>cn=(.fix (l2.map f2),(l2.map f2).length)/\s1=s)/\∀y∈l2,tG (dz Jm (f2 y) J') λJ2=>W (nu aq true F cond J2) s λb s1=>s1=s/\(b=true->W (ev aq true F elt J2) s λv s2=>s2=s/\∃d,v=.d d/\g x y=some d)/\(b=false->g x y=none))
  (h:W (newL fz (l.flatMap λx=>l2.filterMap (g x))) s P):W (ev aq true F (.lQ fz elt tg it Jm yW fr many cond) J) s P:=by
 change W (_root_.ite (true=true) _ _) s P
 rw[if_pos rfl];show W.bd (hw.imp λcn s1=>?_);rintro⟨rfl,rfl⟩;show W.bd ?_;show W.walk (c:=l.map f) (λi acc s'=>s'=s1/\acc=(l.take i).flatMap λx=>l2.filterMap (g x)) ⟨rfl,rfl⟩ (λi x acc s' e hI=>?_) (λacc s' hI=>?_)
 .obtain⟨rfl,rfl⟩:=hI;rw[dH]at e;cases el:l[i]? with
  |none=>rw[el]at e;cases e|some y=>
   rw[el]at e;cases e;let hi:i<l.length:=(cJ.mp el).1;let ht:l.take (i+1)=l.take i++[y]:=by rw[Ak,el];rfl
   let hl0:∀m:List α,(m.flatMap λx=>l2.filterMap (g x)).length<=m.length*l2.length:=by
    intro m
    induction m with
    |nil=>simp|cons a r ih=>
     let:=DN (g a) l2;simp only[yD,jk,eE];rw[yH]
     lia
   let hl1:(l.take i).length*l2.length+l2.length<=sizeLine:=by
    let:(l.take i).length+1<=l.length:=by rw[rD];lia
    let:=yr l2.length this;rw[yH]at this
    lia
   let⟨J',e1,hw2,hb2⟩:=hb y (dG el);show W.bd (W.opt e1 ?_);show W.bd (W.qt (hw2.imp λcn s2=>?_));rintro⟨rfl,rfl⟩;show W.walk (c:=l2.map f2) (λj acc s'=>s'=s2/\acc=((l.take i).flatMap λx=>l2.filterMap (g x))++(l2.take j).filterMap (g y)) ⟨rfl,by simp⟩ (λj x acc s' e hI=>?_) (λacc s' hI=>?_)
   .obtain⟨rfl,rfl⟩:=hI;rw[dH]at e;cases el2:l2[j]? with
    |none=>rw[el2]at e;cases e|some z=>
     rw[el2]at e;cases e;let hj:j<l2.length:=(cJ.mp el2).1;let ht2:l2.take (j+1)=l2.take j++[z]:=by rw[Ak,el2];rfl
     let⟨J2,e2,hv⟩:=hb2 z (dG el2);show W.bd (W.opt e2 ?_);show W.bd (W.qt (hv.imp λb s3=>?_));rintro⟨rfl,h1,h2⟩;cases b
     .rw[if_neg J0];show W.ret ⟨rfl,?_⟩;rw[ht2,Lb];simp[h2 rfl]
     .rw[if_pos rfl];show W.bd (W.qt ((h1 rfl).imp λv s4=>?_));rintro⟨rfl,d,rfl,eg⟩;show W.bd (W.dat ?_);let q1:=hl0 (l.take i);let q2:=DN (g y) (l2.take j);rw[rD (i:=j)]at q2;rw[if_pos (by rw[jk];lia)];show W.ret ⟨rfl,?_⟩;rw[ht2,Lb,yC];simp[eg]
   .obtain⟨rfl,rfl⟩:=hI;show⟨rfl,?_⟩;rw[bN,wu,ht,List.flatMap_append];simp
 .obtain⟨rfl,rfl⟩:=hI;rw[bN,wu];show h
end
section
variable {n k d:Int}{ps:List (Int×Int)}
def j8(r:List Int):D:=.tup (r.map .int)
def yg(ps:List (Int×Int))(i:Nat):List Int:=(aA i ps).filter λe=>decide (e<(i:Int))
def Vd(w:Web n ps){i:Nat}{e:Int}:e∈yg ps i↔(e,(i:Int))∈ps:=by
 unfold yg;rw[jN,yd w]
 constructor
 .rintro⟨h|h,q⟩
  .let:=w.tie _ h;let q:=gP q;dsimp only at this
   lia
  .exact h
 .intro h;let:=w.tie _ h;dsimp only at this;show⟨.inr h,cQ gV⟩
def zkG(w:Web n ps)(hd:1<=d){r:List Int}{x:Int}:((yg ps r.length).all λe=>aJ k d x (at' r e))=oW k d ps r x:=by
 unfold oW;rw[G6,cT,cT]
 constructor
 .intro h p hp;show cQ λe=>?_;let⟨a,b⟩:=p;dsimp only at e ⊢;subst e;let:=h a ((Vd w).mpr hp);rw[zU hd]at this;unfold aJ at this;rw[yx]at this;show this
 .intro h e he;let hp:=(Vd w).mp he;let:=gP (h _ hp) rfl;rw[zU hd];unfold aJ;rw[yx];show this
def zgf{m:Nat}:(grows k d ps [[0]] m).length<=k.toNat^m:=by
 induction m with
 |zero=>simp[grows]|succ m ih=>
  change (grow k d ps (grows k d ps [[0]] m)).length<=_;let:∀rows:List (List Int),(grow k d ps rows).length<=rows.length*k.toNat:=λrows=>by
   unfold grow
   induction rows with
   |nil=>simp|cons r rows ih2=>
    let e:(nextR k d ps r).length<=k.toNat:=by
     unfold nextR;rw[bN];show jz (GP _ _) ?_;unfold aX;simp
    rw[yD,jk,eE,yH]
    lia
  let h1:=this (grows k d ps [[0]] m);rw[Nat.pow_succ];show jz h1 (yr _ ih)
def zfQ{m:Nat}:∀r∈grows k d ps [[0]] m,r.length=m+1:=by
 induction m with
 |zero=>intro r hr;rw[jM.mp hr];rfl|succ m ih=>
  intro r hr;let⟨q,hq,x,_,_,rfl⟩:=oX.mp hr;simp[ih q hq]
end
section
variable {α β:Type}
theorem znD{p:α->Bool}{f:α->List β}:∀l:List α,(l.filter p).flatMap f=l.flatMap λa=>if p a=true then f a else []
 |[]=>rfl|x::l=>by
  rw[Ej,yD,<-znD l];by_cases h:p x=true
  .rw[if_pos h,if_pos h,yD]
  .rw[if_neg h,if_neg h];rfl
end
theorem zlh{α:Type}{f g:α->Bool}:∀{l:List α},(∀p∈l,f p=g p)->l.all f=l.all g
 |[],_=>rfl|a::l,h=>by rw[wA,wA,h a R3,zlh λp hp=>h p (by simp[hp])]
def allR(k:Nat):Nat->List (List Int)
 |0=>[[]]|m+1=>(allR k m).flatMap λr=>(aX k).map λx=>r++[x]
theorem KR{k:Nat}:∀{m:Nat} {r:List Int},r∈allR k m->r.length=m/\∀x∈r,0<=x/\x<k
 |0,r,h=>by
  rw[jM.mp h];show⟨rfl,λx hx=>nomatch hx⟩
 |m+1,r,h=>by
  let⟨q,hq,h2⟩:=List.mem_flatMap.mp h;let⟨x,hx,rfl⟩:=j9.mp h2;let⟨e1,e2⟩:=KR hq;show⟨by simp[e1],λy hy=>?_⟩;rcases mj.mp hy with hy|hy
  .exact e2 y hy
  .rw[jM.mp hy];show aL.mp hx
section
variable {n k d:Int}{ps:List (Int×Int)}
def sV(k d:Int)(ps:List (Int×Int))(r:List Int):Bool:=ps.all λp=>decide (p.2<(r.length:Int)->d<=gC k (at' r p.1) (at' r p.2))
def KY(k d:Int)(ps:List (Int×Int))(r:List Int):Bool:=ps.all λp=>decide (d<=gC k (at' r p.1) (at' r p.2))
def zdl(w:Web n ps)(r:List Int)(x:Int):sV k d ps (r++[x])=(sV k d ps r&&oW k d ps r x):=by
 unfold sV oW;rw[G6,fH,cT,cT,cT];let el:((r++[x]).length:Int)=r.length+1:=by simp
 rw[el]
 constructor
 .intro h;show⟨λp hp=>cQ λc=>?_,λp hp=>cQ λc=>?_⟩
  .let ht:=w.tie p hp;let:=gP (h p hp) gV
   rwa [CZ gV gV,CZ gV gV]at this
  .let ht:=w.tie p hp;let:=gP (h p hp) gV
   rwa [CZ gV gV,c,Uw]at this
 .rintro⟨h1,h2⟩ p hp;show cQ λc=>?_;let ht:=w.tie p hp;by_cases e:p.2=(r.length:Int)
  .let:=gP (h2 p hp) e
   rwa [CZ gV gV,e,Uw]
  .let:=gP (h1 p hp) gV
   rwa [CZ gV gV,CZ gV gV]
theorem zdd(w:Web n ps):∀m,grows k d ps [[]] m=(allR k.toNat m).filter (sV k d ps)
 |0=>by
  show(PJ.mpr λr hr=>?_).symm;rw[jM.mp hr];show cT.mpr λp hp=>cQ λc=>by let:=w.tie p hp;simp at c;lia
 |m+1=>by
  change grow k d ps (grows k d ps [[]] m)=((allR k.toNat m).flatMap _).filter _;rw[zdd w m];unfold grow nextR;rw[znD,List.filter_flatMap]
  congr 1
  funext r
  generalize aX k.toNat=l;by_cases c:sV k d ps r=true
  .rw[if_pos c]
   induction l with
   |nil=>rfl|cons x l ih=>
    rw[iV,Ej,Ej,zdl w,c,Ly,<-ih]
    split<;>rfl
  .rw[if_neg c];show(List.filter_eq_nil_iff.mpr λq hq=>?_).symm;let⟨x,_,rfl⟩:=j9.mp hq;rw[zdl w,Bool.not_eq_true]at *;rw[c];rfl
theorem zlG(w:Web n ps){r:List Int}(h:(r.length:Int)=n):sV k d ps r=KY k d ps r:=
 zlh λp hp=>tW.mpr ⟨λq=>q (by let:=w.tie p hp;lia),λq _=>q⟩
def Ve(w:Web n ps):grows k d ps [[]] n.toNat=(allR k.toNat n.toNat).filter (KY k d ps):=by
 rw[zdd w];show Qc λr hr=>zlG w ?_;let:=(KR hr).1;let:=w.h1
 lia
end
end Mi
namespace Mi
open PySem PySem.W L2
theorem Vf:∀a:List Int,ltI a a=false
 |[]=>rfl|x::a=>by change (if x=x then ltI a a else _)=false;rw[if_pos rfl];show Vf a
theorem ziN:∀{a b c:List Int},ltI a b=true->ltI b c=true->ltI a c=true
 |a,b,[],_,h=>by cases b<;>cases h|[],_,z::c,_,_=>rfl|x::a,[],z::c,h,_=>by cases h|x::a,y::b,z::c,h1,h2=>by
  let h1:(if x=y then ltI a b else decide (x<y))=true:=h1;let h2:(if y=z then ltI b c else decide (y<z))=true:=h2;change (if x=z then ltI a c else decide (x<z))=true;by_cases e1:x=y
  .subst e1;rw[if_pos rfl]at h1;by_cases e2:x=z
   .rw[if_pos e2]at h2 ⊢;show ziN h1 h2
   .rw[if_neg e2]at h2 ⊢;show h2
  .rw[if_neg e1]at h1;let h1:=gP h1;by_cases e2:y=z
   .subst e2;rw[if_neg e1];show cQ h1
   .rw[if_neg e2]at h2;let h2:=gP h2;rw[if_neg gV];show cQ gV
def zmf{a b:List Int}(h:ltI a b=true):ltI b a=false:=by
 cases e:ltI b a
 .rfl
 .let:=ziN h e;rw[Vf]at this;cases this
theorem zhk{c d:List Int}:∀{a b:List Int},a.length=b.length->ltI a b=true->ltI (a++c) (b++d)=true
 |[],[],_,h=>by cases h|[],_::_,h,_=>by cases h|_::_,[],h,_=>by cases h|x::a,y::b,hl,h=>by
  let h:(if x=y then ltI a b else decide (x<y))=true:=h;change (if x=y then ltI (a++c) (b++d) else decide (x<y))=true;by_cases e:x=y
  .rw[if_pos e]at h ⊢;show zhk (Nat.succ.inj hl) h
  .rw[if_neg e]at h ⊢;show h
theorem zg3{b c:List Int}:∀a:List Int,ltI (a++b) (a++c)=ltI b c
 |[]=>rfl|x::a=>by change (if x=x then ltI (a++b) (a++c) else _)=_;rw[if_pos rfl];show zg3 a
abbrev RLt(a b:List Int):Prop:=ltI a b=true
end Mi
namespace Mi
open PySem
def iR(ks:List (Option Int))(es:List Int):List Int:=es.filterMap λe=>(ks[e.toNat]?).join
def oZ(k d:Int)(ns:List Int)(x:Int):Bool:=ns.all λo=>aJ k d x o
def kj(k d:Int)(ps:List (Int×Int))(ks:List (Option Int))(p:Int):Bool:=match (ks[p.toNat]?).join with
 |none=>(aX k.toNat).all λx=>!(oZ k d (iR ks (aA p ps)) x)|some i=>!(oZ k d (iR ks (aA p ps)) i)
def m8(w:Str):D->Bool
 |.str x=>x==w|_=>false
def KZ(a:D):Bool:=(kq a).isSome
def zmi{a:D}{w:Str}(h:KZ a=true):prim .eq [a,.str w]=some (.dat (.bl (m8 w a))):=by
 cases a<;>first|rfl|cases h
def Sh:Nat->D->Prop
 |0,_=>False|m+1,x=>qe x=true/\∀xs,x=.tup xs->(∀a r,xs=a::r->KZ a=true)/\(∀y∈xs,qe y=true)/\∀a b ys,xs=[a,b,.tup ys]->∀y∈ys,Sh m y
def yh(n k d:Int)(ps:List (Int×Int))(ks:List (Option Int)):D->Bool
 |.int p=>decide (0<=p/\p<n)&&kj k d ps ks p|_=>false
def o7(P:List (Option Int)->D->Bool)(n k:Int)(ks:List (Option Int)):D->D->Bool
 |.int p,.tup xs=>decide (0<=p/\p<n)&&((ks[p.toNat]?).join).isNone&&decide ((xs.length:Int)=k)&&(List.range k.toNat).all λj=>P (ks.set p.toNat (some (j:Int))) (xs.getD j .non)|_,_=>false
def pap(n k d:Int)(ps:List (Int×Int)):Nat->List (Option Int)->D->Bool
 |m+1,ks,.tup [a,b]=>m8 "end" a&&yh n k d ps ks b|m+1,ks,.tup [a,b,c]=>m8 "case" a&&o7 (pap n k d ps m) n k ks b c|_,_,_=>false
def ziS{n k:Int}{ks:List (Option Int)}(q:Kn n k ks){p:Nat}{j:Int}(h:0<=j/\j<k):Kn n k (ks.set p (some j)) where
 len:=by rw[pq];show q.len
 lo:=λi hi=>by
  rcases List.mem_or_eq_of_mem_set hi with z|z
  .exact q.lo i z
  .cases z;show h
def znG{ks:List (Option Int)}{i:Nat}{x:Int}(hi:i<ks.length):(ks.map cD).take i++[D.int x]++(ks.map cD).drop (i+1)=(ks.set i (some x)).map cD:=by
 rw[List.map_set,List.set_eq_take_append_cons_drop,if_pos (by rw[bN];show hi)];simp[cD]
theorem Vg{n k:Int}{ks:List (Option Int)}(q:Kn n k ks){p:Int}(h0:0<=p)(h:p<n):∃c,ks[p.toNat]?=some c:=⟨_,cB (by let:=q.len;lia)⟩
def Mk(n k:Int):Nat->D->Prop
 |0,x=>∃p:Int,(0<=p/\p<n)/\x=.tup [.str "end",.int p]|m+1,x=>(∃p:Int,(0<=p/\p<n)/\x=.tup [.str "end",.int p])\/∃(p:Int) (xs:List D),(0<=p/\p<n)/\(xs.length:Int)=k/\(∀y∈xs,Mk n k m y)/\x=.tup [.str "case",.int p,.tup xs]
def Vh{n k:Int}{m:Nat}{p:Int}(h:0<=p/\p<n):Mk n k m (.tup [.str "end",.int p]):=by
 cases m with
 |zero=>show⟨p,h,rfl⟩|succ m=>show .inl ⟨p,h,rfl⟩
def zjl{m:Nat}{a b:D}{ys:List D}(ha:KZ a=true)(hb:qe b=true)(h:∀y∈ys,Sh m y):Sh (m+1) (.tup [a,b,.tup ys]):=by
 show⟨rfl,λxs e=>?_⟩;cases e;show⟨λa' r e=>by cases e;show ha,λy hy=>?_,λa' b' zs e=>by cases e;show h⟩;simp only[jo,List.not_mem_nil,or_false]at hy;rcases hy with rfl|rfl|rfl
 .cases y<;>first|rfl|cases ha
 .exact hb
 .rfl
theorem zjC{m:Nat}{xs:List D}(ha:∀a r,xs=a::r->KZ a=true)(hb:∀y∈xs,qe y=true)(hc:∀a b ys,xs≠[a,b,.tup ys]):Sh (m+1) (.tup xs):=⟨rfl,λys e=>by cases e;show⟨ha,hb,λa b ys e=>absurd e (hc a b ys)⟩⟩
theorem Vi{m:Nat}{a b:D}(ha:KZ a=true)(hb:qe b=true):Sh (m+1) (.tup [a,b]):=zjC (λa' r e=>by cases e;show ha) (λy hy=>by
 simp only[jo,List.not_mem_nil,or_false]at hy;rcases hy with rfl|rfl
 .cases y<;>first|rfl|cases ha
 .exact hb) (λa b ys e=>by cases e)
theorem zml{n k:Int}:∀{m:Nat} {x:D},Mk n k m x->Sh (m+1) x
 |0,_,⟨p,_,e⟩=>by subst e;show Vi rfl rfl|m+1,x,h=>by
  rcases h with ⟨p,_,e⟩|⟨p,xs,_,_,hx,e⟩
  .subst e;show Vi rfl rfl
  .subst e;show zjl rfl rfl λy hy=>zml (hx y hy)
def Kas{F:List Xv->M Xv}{xs:List Xv}{n:Nat}{o:SO}{s:S}{P:Xv->S->Prop}(hl:locs xs=[n])(ho:s[n]?=some o)(h:W (F (cY 0 xs)) [o] λv s1=>∃d o' r,v=.d d/\s1=o'::r/\P (.d d) (s.set n o')):W (bY F xs) s P:=by
 let⟨v,s1,e,d,o',r,rfl,rfl,p⟩:=h;show⟨.d d,s.set n o',?_,p⟩;unfold bY;rw[hl,if_pos R3];simp only[je,ho,e,cZ]
def Kau{F:List Xv->M Xv}{s:S}{o:SO}{xs:List Xv}{P:Xv->S->Prop}(hl:locs xs=[s.length])(h:W (F (cY 0 xs)) [o] λv s1=>∃d o' r,v=.d d/\s1=o'::r/\P (.d d) (s++[o'])):W (bY F xs) (s++[o]) P:=by
 show Kas (n:=s.length) (o:=o) hl R3 (h.imp λv s1=>?_);rintro⟨d,o',r,rfl,rfl,hp⟩;show⟨d,o',r,rfl,rfl,by rw[show (s++[o]).set s.length o'=s++[o'] by simp];show hp⟩
section
variable {n k d:Int}{ps:List (Int×Int)}{ks:List (Option Int)}{F:Fr}{p:Nat}{x y:Int}{L:List Int}{m:Nat}
def Ft(k d:Int)(ps:List (Int×Int))(F:Fr)(ks:List (Option Int)):Prop:=∀(i:Nat) L,F[i]?=some (some L)->ks[i]?=some none/\L=(aX k.toNat).filter (oZ k d (iR ks (aA i ps)))
def Vj{i:Nat}{es:List Int}{o:Int}(h0:∀e∈es,0<=e)(hi:ks[i]?=some none):o∈iR (ks.set i (some x)) es↔o∈iR ks es\/((i:Int)∈es/\o=x):=by
 unfold iR;rw[tR,tR];let hl:=(cJ.mp hi).1
 constructor
 .rintro⟨e,he,h⟩;by_cases q:e.toNat=i
  .rw[q,qp hl]at h;let:=h0 e he;show .inr ⟨by rw[show (i:Int)=e by lia];show he,(cP h).symm⟩
  .rw[lF (Ne.symm q)]at h;show .inl ⟨e,he,h⟩
 .rintro(⟨e,he,h⟩|⟨he,rfl⟩)
  .refine⟨e,he,?_⟩;by_cases q:e.toNat=i
   .rw[q,hi]at h;cases h
   .rw[lF (Ne.symm q)];show h
  .exact⟨i,he,by rw[iU,qp hl];rfl⟩
def Vk{i:Nat}{es:List Int}(h0:∀e∈es,0<=e)(hi:ks[i]?=some none):oZ k d (iR (ks.set i (some x)) es) y=(oZ k d (iR ks es) y&&(if (i:Int)∈es then aJ k d y x else true)):=by
 unfold oZ;rw[G6,fH,cT,cT]
 constructor
 .intro h;show⟨λo ho=>h o ((Vj h0 hi).mpr (.inl ho)),?_⟩
  split
  .exact h x ((Vj h0 hi).mpr (.inr ⟨by assumption,rfl⟩))
  .rfl
 .rintro⟨h1,h2⟩ o ho;rcases(Vj h0 hi).mp ho with ho|⟨he,rfl⟩
  .exact h1 o ho
  .rw[if_pos he]at h2;show h2
def zdH(w:Web n ps)(hd:1<=d)(hk:k<=24)(hF:F.length=n.toNat)(h:Ft k d ps F ks)(hL:F[p]?=some (some L)):Ft k d ps (settle (λi=>aA i ps) (aJ k d) F p x) (ks.set p (some x)):=by
 intro i M e;let B:=vq w hd hk;let hp:=lB hF hL;let⟨ne,L',e1,rfl⟩:=KH B hF hp e;let hi:=lB hF e1;let⟨f1,f2⟩:=h i L' e1;show⟨by rw[lF (Ne.symm ne)];show f1,?_⟩;let h0:∀e∈aA i ps,0<=e:=λe he=>(zP w he).1;let sy:(i:Int)∈aA p ps↔(p:Int)∈aA i ps:=⟨λz=>B.sym p i hp hi z,λz=>B.sym i p hi hp z⟩;rw[f2];by_cases q:(i:Int)∈aA p ps
 .rw[if_pos q,List.filter_filter];show Qc λy _=>?_;rw[Vk h0 (h p L hL).1,if_pos (sy.mp q),zU hd,Bool.and_comm]
 .rw[if_neg q];show Qc λy _=>?_;rw[Vk h0 (h p L hL).1,if_neg λz=>q (sy.mpr z),Bool.and_true]
theorem znk(h:Ft k d ps F ks):Ft k d ps (bnd (λi=>aA i ps) F) ks:=λi L e=>h i L (zT e).1
def zmV(h:Ft k d ps F ks)(hL:F[p]?=some (some [])):kj k d ps ks p=true:=by
 let⟨f1,f2⟩:=h p [] hL;unfold kj;rw[iU,f1];change List.all _ _=true;rw[cT];intro x hx;cases e:oZ k d (iR ks (aA p ps)) x with
 |false=>rfl|true=>
  let:x∈([]:List Int):=by rw[f2];show jN.mpr ⟨hx,e⟩
  cases this
def zlT(w:Web n ps)(hd:1<=d)(hk:k<=24)(hF:F.length=n.toNat)(h:Ft k d ps F ks)(hL:F[p]?=some (some L))(hx:x∈aX k.toNat)(hn:x∉L):kj k d ps (ks.set p (some x)) p=true:=by
 let B:=vq w hd hk;let hp:=lB hF hL;let⟨f1,f2⟩:=h p L hL;unfold kj;rw[iU,qp (cJ.mp f1).1];change (!oZ k d (iR (ks.set p (some x)) (aA p ps)) x)=true;rw[Vk (λe he=>(zP w he).1) f1,if_neg λz=>(B.mem p hp _ z).2.2 rfl,Bool.and_true];cases e:oZ k d (iR ks (aA p ps)) x with
 |false=>rfl|true=>show absurd (by rw[f2];show jN.mpr ⟨hx,e⟩) hn
theorem zlr:∀{m:Nat} {P:D},Mk n k m P->Mk n k (m+1) P
 |0,_,h=>.inl h|m+1,_,.inl h=>.inl h|m+1,_,.inr ⟨p,xs,h1,h2,h3,h4⟩=>.inr ⟨p,xs,h1,h2,λy hy=>zlr (h3 y hy),h4⟩
def zlY:∀{m:Nat} {ks:List (Option Int)} {P:D},pap n k d ps m ks P=true->pap n k d ps (m+1) ks P=true:=by
 intro m
 induction m with
 |zero=>intro ks P h;cases P<;>cases h|succ m ih=>
  intro ks P h;cases P with
  |tup xs=>
   match xs,h with
   |[a,b],h=>show h|[a,b,c],h=>
    let h:(m8 "case" a&&o7 (pap n k d ps m) n k ks b c)=true:=h;change (m8 "case" a&&o7 (pap n k d ps (m+1)) n k ks b c)=true;rw[fH]at h ⊢;show⟨h.1,?_⟩;let h2:=h.2;cases b with
    |int q=>
     cases c with
     |tup zs=>
      unfold o7 at h2 ⊢;rw[fH]at h2 ⊢;show⟨h2.1,cT.mpr λj hj=>ih (cT.mp h2.2 j hj)⟩
     |_=>cases h2
    |_=>cases h2
  |_=>cases h
def Pp(n k d:Int)(ps:List (Int×Int))(m:Nat)(F:Fr)(P:D):Prop:=Mk n k m P/\∀ks,Kn n k ks->Ft k d ps F ks->pap n k d ps (m+1) ks P=true
def Pp.up{P:D}(h:Pp n k d ps m F P):∀{m':Nat},m<=m'->Pp n k d ps m' F P:=by
 let key:∀t,Pp n k d ps (m+t) F P:=λt=>by
  induction t with
  |zero=>show h|succ t ih=>show⟨zlr ih.1,λks q f=>zlY (ih.2 ks q f)⟩
 intro m' hm;let:=key (m'-m)
 rwa [show m+(m'-m)=m' by lia]at this
def zlE(hp:p<n.toNat)(h:∀ks,Kn n k ks->Ft k d ps F ks->kj k d ps ks p=true):Pp n k d ps m F (.tup [.str "end",.int p]):=by
 show⟨Vh ⟨by lia,by lia⟩,λks q f=>?_⟩;change (m8 "end" (.str "end")&&(decide ((0:Int)<=p/\(p:Int)<n)&&kj k d ps ks p))=true;rw[h ks q f,cQ gV];simp[m8]
def Rw(n k d:Int)(ps:List (Int×Int))(m:Nat)(F:Fr)(p:Nat)(L:List Int)(x:Int)(P:D):Prop:=if x∈L then Pp n k d ps m (settle (λi=>aA i ps) (aJ k d) F p x) P else P=.tup [.str "end",.int p]
def zkB(w:Web n ps)(hd:1<=d)(tO:0<=k)(hk:k<=24)(hF:F.length=n.toNat)(hL:F[p]?=some (some L)){xs:List D}(hl:xs.length=k.toNat)(h:∀(j:Nat) P,xs[j]?=some P->Rw n k d ps m F p L j P):Pp n k d ps (m+1) F (.tup [.str "case",.int p,.tup xs]):=by
 let hp:=lB hF hL;let hr:0<=(p:Int)/\(p:Int)<n:=by lia
 show⟨.inr ⟨p,xs,hr,by lia,λy hy=>?_,rfl⟩,λks q f=>?_⟩
 .obtain⟨j,hj,e⟩:=pH hy;let:=h j y (by rw[cB hj,e]);unfold Rw at this;split at this
  .exact this.1
  .subst this;show Vh hr
 .show (m8 "case" (.str "case")&&(decide ((0:Int)<=p/\(p:Int)<n)&&((ks[((p:Nat):Int).toNat]?).join).isNone&&decide ((xs.length:Int)=k)&&(List.range k.toNat).all λj=>pap n k d ps (m+1) (ks.set ((p:Nat):Int).toNat (some (j:Int))) (xs.getD j .non)))=true;rw[iU,(f p L hL).1,cQ hr,cQ (show (xs.length:Int)=k by lia)];let e1:m8 "case" (.str "case")=true:=by simp[m8]
  rw[e1];change (true&&(true&&true&&true&&_))=true;simp only[Ly,cT];intro j hj;let hj:=vK.mp hj;let hx:(j:Int)∈aX k.toNat:=aL.mpr ⟨by lia,by lia⟩;let e:xs[j]?=some xs[j]:=cB gV;rw[jL,e];let z:=h j _ e;unfold Rw at z;split at z
  .exact z.2 _ (ziS q ⟨by lia,by lia⟩) (zdH w hd hk hF f hL)
  .show pap n k d ps (m+1) _ xs[j]=true;rw[z];change (m8 "end" (.str "end")&&(decide ((0:Int)<=p/\(p:Int)<n)&&kj k d ps _ p))=true;rw[zlT w hd hk hF f hL hx (by assumption),cQ hr];simp[m8]
def Dt(n k d:Int)(ps:List (Int×Int))(kvs:gJ):Prop:=∀F P,bW (F.map cellK) kvs=some P->Pp n k d ps (unset F) F P
theorem zk7{kvs:gJ}{P:D}(h:Dt n k d ps kvs)(hb:Pp n k d ps (unset F) F P):Dt n k d ps (jd (F.map cellK) P kvs):=λG Q e=>by
 rw[Oe]at e;by_cases z:G.map cellK=F.map cellK
 .rw[if_pos z]at e;cases e;rw[UG z];show hb
 .rw[if_neg z]at e;show h G Q e
theorem Vl:∀{F:Fr},some []∈F->∃j:Nat,F[j]?=some (some [])/\pB (F.map aN)=some j
 |none::F,h=>by
  let⟨j,h1,h2⟩:=Vl (F:=F) (by simpa using h);show⟨j+1,h1,by change (pB (F.map aN)).map (·+1)=_;rw[h2];rfl⟩
 |some []::F,_=>⟨0,rfl,rfl⟩|some (a::l)::F,h=>by
  let⟨j,h1,h2⟩:=Vl (F:=F) (by simpa using h);show⟨j+1,h1,by change (pB (F.map aN)).map (·+1)=_;rw[h2];rfl⟩
def zol{F:Fr}(h:some []∈F):∃j:Nat,F[j]?=some (some [])/\prim .pB [gD F,.tup []]=some (.dat (.int j)):=by
 let⟨j,h1,h2⟩:=Vl h;show⟨j,h1,?_⟩;change (pB (F.map aN)).map _=_;rw[h2];rfl
def znK(w:Web n ps)(hd:1<=d)(hk:k<=24)(hF:F.length=n.toNat)(q:Kn n k ks)(h:Ft k d ps F ks)(full:∀i:Nat,ks[i]?=some none->∃L,F[i]?=some (some L))(rK:∀i:Nat,i<n.toNat->kj k d ps ks i=false)(s:Sat (λi=>aA i ps) (aJ k d) F):∃hs,rA n k d ps ks hs:=by
 let⟨g,s⟩:=s;let h1:=w.h1;let hql:=q.len;obtain⟨f,ef⟩ : ∃f:Nat->Int,∀j,f j=((ks[j]?).join).getD (g j):=⟨_,λ_=>rfl⟩;let Cq:∀j:Nat,j<n.toNat->at' ((List.range n.toNat).map f) j=f j:=λj hj=>by
  unfold at';rw[iU,jL,dH,yu hj];rfl
 let far:∀i e:Nat,i<n.toNat->e<n.toNat->(e:Int)∈aA i ps->∀x,ks[e]?=some (some x)->aJ k d (f i) x=true:=λi e hi he hm x hx=>by
  let gF:x∈iR ks (aA i ps):=tR.mpr ⟨e,hm,by rw[iU,hx];rfl⟩;let hc:ks[i]?=some ks[i]:=cB gV;cases c:ks[i] with
  |none=>
   rw[c]at hc;let⟨L,eL⟩:=full i hc;let hm:=s.mem i L eL;rw[(h i L eL).2]at hm;let:f i=g i:=by rw[ef,hc];rfl
   rw[this];show cT.mp (jN.mp hm).2 x gF
  |some y=>
   rw[c]at hc;let h2:=rK i hi;unfold kj at h2;rw[iU,hc]at h2;let h2:(!oZ k d (iR ks (aA i ps)) y)=false:=h2;let:f i=y:=by rw[ef,hc];rfl
   rw[this];let h3:oZ k d (iR ks (aA i ps)) y=true:=by simpa using h2
   show cT.mp h3 x gF
 show⟨(List.range n.toNat).map f,zgz w q R3 ⟨λj L e=>?_,λi e L M e1 e2 he=>?_⟩⟩
 .obtain⟨c,e1,rfl⟩:=Ds e;let hj:=(cJ.mp e1).1;rw[Cq j gV];cases c with
  |none=>
   let⟨L,eL⟩:=full j e1;let hm:=s.mem j L eL;rw[(h j L eL).2]at hm;let:f j=g j:=by rw[ef,e1];rfl
   rw[this];show(jN.mp hm).1
  |some y=>
   let:f j=y:=by rw[ef,e1];rfl
   rw[this];show jM.mpr rfl
 .obtain⟨c1,f1,_⟩:=Ds e1;let⟨c2,f2,_⟩:=Ds e2;let hi:i<n.toNat:=by let:=(cJ.mp f1).1;lia
  let hj:e<n.toNat:=by let:=(cJ.mp f2).1;lia
  rw[Cq i hi,Cq e hj];let B:=vq w hd hk;cases c2 with
  |some x=>
   let:f e=x:=by rw[ef,f2];rfl
   rw[this];show far i e hi hj he x f2
  |none=>
   cases c1 with
   |some x=>
    let:f i=x:=by rw[ef,f1];rfl
    rw[zU hd,this];show far e i hj hi (B.sym i e hi hj he) x f1
   |none=>
    let⟨L1,g1⟩:=full i f1;let⟨L2,g2⟩:=full e f2;let a1:f i=g i:=by rw[ef,f1];rfl
    let a2:f e=g e:=by rw[ef,f2];rfl
    rw[a1,a2];show s.fit i e L1 L2 g1 g2 he
def ktl(ks:List (Option Int))(i:Nat):List (Option Int):=ks.mapIdx λj c=>if j<i then c else none
def yj{i j:Nat}:(ktl ks i)[j]?=(ks[j]?).map λc=>if j<i then c else none:=by unfold ktl;rw[List.getElem?_mapIdx]
def zkY:ktl ks ks.length=ks:=by
 show Lj λj=>?_;rw[yj];by_cases h:j<ks.length
 .rw[cB h,G7,if_pos h]
 .rw[yq gV];rfl
def Vm{i:Nat}{c:Option Int}(h:ks[i]?=some c):ktl ks (i+1)=(ktl ks i).set i c:=by
 let hi:=(cJ.mp h).1;show Lj λj=>?_;by_cases e:j=i
 .subst e;rw[qp (by unfold ktl;rw[PN];show hi),yj,h,G7,if_pos gV]
 .rw[lF (Ne.symm e),yj,yj]
  congr 1
  funext c
  by_cases q:j<i
  .rw[if_pos q,if_pos gV]
  .rw[if_neg q,if_neg gV]
structure Sg(n k d:Int)(ps:List (Int×Int))(ks:List (Option Int))(i:Nat)(F:Fr):Prop where
 fv:Fv n.toNat k.toNat F
 ft:Ft k d ps F (ktl ks i)
 full:∀j:Nat,(ktl ks i)[j]?=some none->∃L,F[j]?=some (some L)
 st:∀j:Nat,j<i->kj k d ps ks j=false
def zqE(hk:k<=24)(hl:ks.length=n.toNat):Sg n k d ps ks 0 (ks.map λ_=>some (aX k.toNat)):=by
 let hL:∀(i:Nat) L,(ks.map λ_=>some (aX k.toNat))[i]?=some (some L)->L=aX k.toNat/\∃c,ks[i]?=some c:=λi L e=>by
  rw[dH]at e;let⟨c,e1,e2⟩:=iI.mp e;show⟨(cP e2).symm,c,e1⟩
 let hn:∀es:List Int,iR (ktl ks 0) es=[]:=λes=>by
  unfold iR;rw[List.filterMap_eq_nil_iff];intro e _;rw[yj];cases ks[e.toNat]?<;>rfl
 show⟨⟨by rw[bN];show hl,λi L e x hx=>?_,λi L e=>?_,λi L e=>?_⟩,λi L e=>?_,λj e=>?_,λj hj=>absurd hj (G5 _)⟩
 .rw[(hL i L e).1]at hx;show aL.mp hx
 .rw[(hL i L e).1];unfold aX;simp;lia
 .rw[(hL i L e).1];unfold aX;rw[wj];show GK.imp (by intro a b h;lia)
 .obtain⟨e1,c,e2⟩:=hL i L e;show⟨by rw[yj,e2];rfl,?_⟩;rw[e1,hn];show(PJ.mpr λ_ _=>rfl).symm
 .rw[yj]at e;let⟨c,e1,_⟩:=iI.mp e;show⟨aX k.toNat,by rw[dH,e1];rfl⟩
def zlm{i:Nat}(h:Sg n k d ps ks i F)(hi:ks[i]?=some none)(hs:kj k d ps ks i=false):Sg n k d ps ks (i+1) F:=by
 let e:ktl ks (i+1)=ktl ks i:=by
  rw[Vm hi];show Lj λj=>?_;by_cases e:j=i
  .subst e;rw[qp (by unfold ktl;rw[PN];show(cJ.mp hi).1),yj,hi,G7,if_neg gV]
  .rw[lF (Ne.symm e)]
 show⟨h.fv,by rw[e];show h.ft,by rw[e];show h.full,λj hj=>?_⟩;by_cases z:j=i
 .rw[z];show hs
 .exact h.st j gV
def zks(w:Web n ps)(hd:1<=d)(hk:k<=24){i:Nat}(h:Sg n k d ps ks i F)(hi:ks[i]?=some (some x))(hs:kj k d ps ks i=false):Sg n k d ps ks (i+1) (settle (λi=>aA i ps) (aJ k d) F i x):=by
 let B:=vq w hd hk;let h0:(ktl ks i)[i]?=some none:=by rw[yj,hi,G7,if_neg gV]
 let⟨L,hL⟩:=h.full i h0;let hp:=lB h.fv.len hL;show⟨Dm B h.fv hp,by rw[Vm hi];show zdH w hd hk h.fv.len h.ft hL,λj e=>?_,λj hj=>?_⟩
 .rw[Vm hi]at e;by_cases z:j=i
  .subst z;rw[qp (cJ.mp h0).1]at e;cases e
  .rw[lF (Ne.symm z)]at e;let⟨M,hM⟩:=h.full j e;show⟨_,Gu B h.fv.len hp z hM⟩
 .by_cases z:j=i
  .rw[z];show hs
  .exact h.st j gV
theorem zhK:unset F<=F.length:=GQ
theorem KaX{aq:Nat->Nat->Bool}{aj:Bool}{F:Fn}{J:Vs}{s:S}{P:Xv->S->Prop}{fz:Bool}{p:Pr}{k:Kd}{o:E}{xs:Es}(h:W (ev aq aj F o J) s λx s1=>W (rd x) s1 λd s2=>mU k d=true/\W (evs aq aj F xs J) s2 λys s3=>W (gH (x::ys)) s3 λds s4=>W (b_ fz (prim p ds)) s4 P):W (ev aq aj F (.meth fz p k o xs) J) s P:=
 W.bd (h.imp λ_ _ h=>W.bd (h.imp λ_ _ h=>by rw[if_pos h.1];show W.bd (h.2.imp λ_ _ h=>W.bd h)))
end
end Mi
namespace Mi
open PySem PySem.Spec PyProof.Rows L2 PySem.W
def lD(XN:List Str)(fr:List Nat):List Str:=fr.map λj=>XN.getD j ""
section
variable {X:Cx}{cA:Cl}{aq:Nat->Nat->Bool}{aj:Bool}{F:Fn}{EX:XS}{elt iter:Expr}{ifs:List Expr}{scope:Scope}{cond:Eo}{w:Wk}{B:E}{fr:List Nat}{fz:Bool}{x y:Str}{tp px py pos:Pos}{kt:Nat}
def nF(hc:X.aj=true)(hi:JI X cA aq aj F EX (.Name x tp) iter w)
  (ht:∀cl C s3 H3 fp ao,JC (X.blk scope cl ([x]++lD X.N fr) C s3 H3 fp ao) cA aq aj F (λ_ _ _ _=>False) ifs cond) (he:∀cl C s3 H3 fp ao,JE (X.blk scope cl ([x]++lD X.N fr) C s3 H3 fp ao) cA aq aj F (λ_ _ _ _=>False) elt B)
  (hk:(oM X.env.scope scope&&frB scope X.N (lD X.N fr) fr&&decide (([x]++lD X.N fr).Nodup)&&zE scope x)=true:=by kernel_rfl)
  (hs:∀x,foldedSetIterable iter X.env x=pure x:=by intro _;rfl):JE X cA aq aj F EX (.ListComp elt [⟨.Name x tp,iter,ifs,0⟩] scope pos) (.comp fz B [0] w fr 1 cond):=by
 simp only[fH,tV]at hk;let⟨⟨⟨h1,h2⟩,h3⟩,h4⟩:=hk;show ZD X.env.scope X.N [x] (lD X.N fr) fr hc rfl rfl h1 h2 (Cg 0) rfl hi (λ_ _ _ _ _ _=>Cy 0 h3 rfl h4) ht he hs
def Vn(hc:X.aj=true)(hi:JI X cA aq aj F EX (.Tuple [.Name x px,.Name y py] kt tp) iter w)
  (ht:∀cl C s3 H3 fp ao,JC (X.blk scope cl ([x,y]++lD X.N fr) C s3 H3 fp ao) cA aq aj F (λ_ _ _ _=>False) ifs cond) (he:∀cl C s3 H3 fp ao,JE (X.blk scope cl ([x,y]++lD X.N fr) C s3 H3 fp ao) cA aq aj F (λ_ _ _ _=>False) elt B)
  (hk:(oM X.env.scope scope&&frB scope X.N (lD X.N fr) fr&&decide (([x,y]++lD X.N fr).Nodup)&&zE scope x&&zE scope y)=true:=by kernel_rfl)
  (hs:∀x,foldedSetIterable iter X.env x=pure x:=by intro _;rfl):JE X cA aq aj F EX (.ListComp elt [⟨.Tuple [.Name x px,.Name y py] kt tp,iter,ifs,0⟩] scope pos) (.comp fz B [0,1] w fr 2 cond):=by
 simp only[fH,tV]at hk;let⟨⟨⟨⟨h1,h2⟩,h3⟩,h4⟩,h5⟩:=hk;show ZD X.env.scope X.N [x,y] (lD X.N fr) fr hc rfl rfl h1 h2 (Te 0 1) rfl hi (λ_ _ _ _ _ _=>ZC 0 1 hc h3 rfl rfl h4 h5) ht he hs
end
theorem au{Q:Prop}(h:Q:=by
 repeat' first
  |exact gv _|exact gvb _|exact zod|exact zqu|exact zoc|exact zoa|exact zpt|exact zmC|exact zqD
  |refine fX ?_ ?_|refine bw ?_ ?_|refine lW ?_|refine ZF ?_|refine sI _ nd rfl jl rfl ?_|refine qX ?_ ?_ ?_
  |refine gc (by assumption) (by assumption) (by assumption) Gk gk ?_|refine gc (by assumption) (by assumption) (by assumption) zqr Gq ?_
  |refine Gh ?_|refine zpu ?_|refine Zv ?_ ?_|refine Cv ?_ ?_|refine zqo ?_ ?_|refine Nj ?_|refine zoQ ?_|refine zog ?_|refine zoK ?_|refine Zr ?_|refine Zu ?_ ?_ ?_
  |refine sG Ni ?_ ?_|refine sG zo6 ?_ ?_|refine sG zoJ ?_ ?_|refine sG zlQ ?_ ?_|refine sG zoF ?_ ?_|refine sG zpl ?_ ?_
  |refine u_ Cw ?_ ?_|refine u_ Nm ?_ ?_|refine u_ Zn ?_ ?_|refine u_ (Tw (by assumption)) ?_ ?_|refine u_ (Nk (by assumption)) ?_ ?_|refine u_ (Tv (by assumption)) ?_ ?_|refine u_ (Zo (by assumption)) ?_ ?_|refine u_ (K1 (by assumption)) ?_ ?_
  |refine Zq Cw Cw ?_ ?_ ?_|refine Zq Cw (Tw (by assumption)) ?_ ?_ ?_
  |refine zoV ?_|refine zlw ?_|refine Nq ?_|refine Nr ?_ ?_|refine TF ?_|refine TJ ?_ ?_|refine Tz ?_
  |refine tD Cw ?_ ?_|refine tD Nm ?_ ?_|refine tD Zn ?_ ?_|refine tD (Tw (by assumption)) ?_ ?_|refine tD (Nk (by assumption)) ?_ ?_|refine tD (Tv (by assumption)) ?_ ?_|refine tD (Zo (by assumption)) ?_ ?_|refine tD (K1 (by assumption)) ?_ ?_
  |refine Np ?_
  |refine TQ (by assumption) gk ?_|refine TQ (by assumption) Gq ?_|refine Gi (by assumption) gk ?_|refine Gi (by assumption) Gq ?_|refine zlB (by assumption) gk ?_|refine Zw (by assumption) gk ?_|refine Zw (by assumption) Gq ?_|refine zlc (by assumption) gk ?_|refine zB rfl (by assumption) gk ?_|refine Zx rfl (by assumption) gk ?_|refine Zx rfl (by assumption) Gq ?_|refine zmY rfl (by assumption) gk ?_
  |refine zqA (by assumption) (by assumption) (by assumption) (by assumption) ?_ ?_|refine zqC (by assumption) ?_|refine ZG ?_ ?_ ?_|refine aac _ nd rfl jl rfl ?_|refine vf sH rfl rfl ?_ ?_ ?_|refine ZJ sH ?_ ?_|refine Zz (by assumption) gk ?_|refine Zz (by assumption) Gq ?_|refine zqz (by assumption) gk ?_ ?_|refine zmD (by assumption) gk ?_|refine zon ?_|exact zL _ nd rfl jl rfl|exact zqy|refine zou ?_|refine zlR (by assumption) ?_ ?_|refine znw (by assumption) ?_ ?_|refine aad (by assumption) ?_ ?_|refine zii (by assumption) gk ?_|refine aae ?_|refine zmd (by assumption) ?_ ?_ ?_
  |refine nF rfl ?_ (λ_ _ _ _ _ _=>?_) (λ_ _ _ _ _ _=>?_)|refine Vn rfl ?_ (λ_ _ _ _ _ _=>?_) (λ_ _ _ _ _ _=>?_)|refine zpr (by assumption) gk ?_ ?_|refine Zy ?_ ?_|refine zqB ?_ ?_ ?_|exact zqF|refine zpf ?_|refine aaf ?_|exact zqt (by assumption) gk dk|refine zlx rfl (by assumption) gk ?_ ?_|exact Nt rfl (by assumption) zls gk dk|exact Nt rfl (by assumption) zjy gk dk|exact Nt rfl (by assumption) Tt gk dk|exact Nt rfl (by assumption) Zm gk dk|refine Gg ?_
  ):Q:=h
end Mi
namespace dZ
open PySem Mi
def b0:bM:=(.cons (.ret (.and (.qK (.v 0) .int) (.not (.qK (.v 0) .bool)))) .nil)
def b1:bM:=(.cons (.ret (.and (.call 0 (Ea (.v 0))) (.yX .le .le (.v 1) (.v 0) (.v 2)))) .nil)
def b2:bM:=(.cons (.ret (.and (.qK (.v 0) .tuple) (.pr true .eq (Eb (.pr true .len (Ea (.v 0))) (.v 1))))) .nil)
def b3:bM:=(.cons (.iff (.pr true .gt (Eb (.v 0) (.v 1))) (.cons .no .nil) .nil) .nil)
def b4:bM:=(.cons (.iff (.not (.call 2 (Eb (.v 0) (Ci 2)))) (.cons (.ret (.c (.bl false))) .nil) .nil) (.cons (.asg (.tp [1,2]) (.v 0)) (.cons (.iff (.or (.not (.call 5 (Ea (.v 1)))) (.not (.qK (.v 2) .tuple))) (.cons (.ret (.c (.bl false))) .nil) .nil) (.cons (.iff (.not (.pr true .all (Ea (.comp true (.call 7 (Eb (.v 1) (.v 0))) [0] (.seq (.v 2)) [1] 1 .no)))) (.cons (.ret (.c (.bl false))) .nil) .nil) (.cons (.ret (.pr true .all (Ea (.comp true (.pr true .lt (Eb (.v 0) (.v 1))) [0,1] (.zip (.v 2) (.sl true (.v 2) (.yes (Ci 1)) .no)) [] 2 .no)))) .nil)))))
def b5:bM:=(.cons (.ret (.call 1 (Ec (.v 0) (Ci 1) (Ci 8)))) .nil)
def b6:bM:=(.cons (.ret (.call 1 (Ec (.v 1) (Ci 0) (.pr true .aq (Eb (.v 0) (Ci 1)))))) .nil)
def b7:bM:=(.cons (.iff (.not (.call 2 (Eb (.v 1) (Ci 2)))) (.cons (.ret (.c (.bl false))) .nil) .nil) (.cons (.asg (.tp [2,3]) (.v 1)) (.cons (.ret (.and (.call 6 (Eb (.v 0) (.v 2))) (.and (.call 6 (Eb (.v 0) (.v 3))) (.pr true .lt (Eb (.v 2) (.v 3)))))) .nil)))
def b8:bM:=(.cons (.iff (.not (.call 4 (Ea (.v 0)))) (.cons .no .nil) .nil) .nil)
def b9:bM:=(.cons (.asg (.nm 2) (.comp true (.ite (.pr true .eq (Eb (.v 0) (.v 2))) (.v 1) (.v 0)) [0,1] (.seq (Ei (.v 0) (Ci 1))) [1] 2 (.yes (.pr true .inn (Eb (.v 2) (.tup (Eb (.v 0) (.v 1)))))))) (.cons (.ret (.pr true .tuple (Ea (.pr true .sorted (Ea (.v 2)))))) .nil))
def b10:bM:=(.cons (.ret (.comp true (.call 9 (Eb (.v 1) (.v 0))) [0] (.rg (Ci 0) (Ei (.v 0) (Ci 0))) [0] 1 .no)) .nil)
def Vo:bM:=(.cons (.ret (.tup (.cons (.call 10 (Ea (.v 1))) (Ec (.pr true .Fj (Ea (.pr true .len (Ea (.v 2))))) (.v 2) (.v 3))))) .nil)
def Vp:bM:=(.cons (.ret (Ei (Ei (.of (.v 0) 0 2) (.v 1)) (.v 2))) .nil)
def Vq:bM:=(.cons (.asg (.nm 4) (.pr false .list (Ea (.v 1)))) (.cons (.asg (.aq (.v 4) (.v 2)) (.c .non)) (.cons (.fr (.nm 5) (.seq (Ei (.of (.v 0) 0 0) (.v 2))) (.cons (.iff (.pr true .lO (Ea (Ei (.v 4) (.v 5)))) (.cons (.asg (.aq (.v 4) (.v 5)) (.pr true .tuple (Ea (.comp true (.v 0) [0] (.seq (Ei (.v 4) (.v 5))) [0,3] 1 (.yes (.cm 0 12 (.v 1) (Eb (.v 2) (.v 0)))))))) .nil) .nil) .nil)) (.cons (.ret (.pr true .tuple (Ea (.v 4)))) .nil))))
def Vr:bM:=(.cons (.ret (.pr true .len (Ea (.comp true (.v 0) [0] (.seq (Ei (.of (.v 0) 0 0) (.v 2))) [1] 1 (.yes (.pr true .lO (Ea (Ei (.v 1) (.v 0))))))))) .nil)
def Vt:bM:=(.cons (.ret (.pr true .tuple (Ea (.comp true (.ite (.pr true .gt (Eb (.cm 0 14 (.v 2) (Eb (.v 3) (.v 0))) (Ci 0))) (.v 1) (.c .non)) [0,1] (.enum (.v 1)) [0,1] 2 .no)))) .nil)
def Vu:bM:=(.cons (.asg (.nm 2) (.lst false .nil)) (.cons (.fr (.tp [3,4]) (.enum (.v 1)) (.cons (.iff (.pr true .lO (Ea (.v 4))) (.cons (.ex (.push (.v 2) (.tup (Ec (.pr true .len (Ea (.v 4))) (.pr true .neg (Ea (.cm 0 14 (.v 0) (Eb (.v 1) (.v 3))))) (.v 3))))) .nil) .nil) .nil)) (.cons (.ret (.ite (.Fl (.v 2)) (Ei (.pr true .rR (Ea (.v 2))) (Ci 2)) (.c .non))) .nil)))
def Vv:bM:=(.cons (.ret (.pr true .all (Ea (.comp true (.or (.pr true .pW (Ea (.v 0))) (.pr true .eq (Eb (.v 0) (.of (.v 1) 0 1)))) [0] (.seq (.v 1)) [0] 1 .no)))) .nil)
def Vw:bM:=(.cons (.asg (.tp [2,3]) (.v 1)) (.cons (.asg (.nm 4) (.comp true (.pr true .ge (Eb (.pr true .min2 (Eb (.v 0) (.pr true .aq (Eb (.v 1) (.v 0))))) (.v 2))) [0] (.rg (Ci 0) (.v 2)) [2,3] 1 .no)) (.cons (.ret (.mk 0 11 (Ec (.v 0) (.comp true (.comp true (Ei (.v 1) (.pr true .aq (Eb (.v 2) (.v 0)))) [0] (.rg (Ci 0) (.v 1)) [2,0] 1 .no) [0] (.rg (Ci 0) (.v 2)) [2,4] 1 .no) (.c (.bl true))))) .nil)))
def Vx:bM:=(.cons (.iff (.not (.call 2 (Eb (.v 0) (Ci 2)))) (.cons (.ret (.c (.bl false))) .nil) .nil) (.cons (.asg (.tp [1,2]) (.v 0)) (.cons (.ret (.and (.call 1 (Ec (.v 1) (Ci 1) (Ci 24))) (.call 1 (Ec (.v 2) (Ci 1) (.v 1))))) .nil)))
def Oo:bM:=(.cons (.ret (.call 1 (Ec (.v 1) (Ci 0) (.pr true .aq (Eb (Ei (.v 0) (Ci 0)) (Ci 1)))))) .nil)
def Vy:bM:=(.cons (.iff (.not (.call 19 (Ea (.v 0)))) (.cons .no .nil) .nil) .nil)
def b22:bM:=(.cons (.asg (.nm 3) (.pr true .abs (Ea (.pr true .aq (Eb (.v 1) (.v 2)))))) (.cons (.ret (.pr true .min2 (Eb (.v 3) (.pr true .aq (Eb (Ei (.v 0) (Ci 0)) (.v 3)))))) .nil))
def Vz:bM:=(.cons (.ex (.call 8 (Ea (.v 0)))) (.cons (.ex (.call 21 (Ea (.v 1)))) (.cons (.ret (.call 25 (Ec (.v 0) (.v 1) (.v 2)))) .nil)))
def VB:bM:=(.cons (.ret (.and (.call 2 (Eb (.v 2) (Ei (.v 0) (Ci 0)))) (.pr true .all (Ea (.comp true (.call 20 (Eb (.v 1) (.v 0))) [0] (.seq (.v 2)) [1] 1 .no))))) .nil)
def Oq:bM:=(.cons (.ret (.and (.call 24 (Ec (.v 0) (.v 1) (.v 2))) (.pr true .pW (Ea (.call 27 (Ec (.v 0) (.v 1) (.v 2))))))) .nil)
def VD:bM:=(.cons (.ex (.call 8 (Ea (.v 0)))) (.cons (.ex (.call 21 (Ea (.v 1)))) (.cons (.iff (.not (.call 25 (Ec (.v 0) (.v 1) (.v 2)))) (.cons .no .nil) .nil) .nil)))
def VF:bM:=(.cons (.fr (.tp [3,4]) (.seq (Ei (.v 0) (Ci 1))) (.cons (.iff (.pr true .lt (Eb (.call 22 (Ec (.v 1) (Ei (.v 2) (.v 3)) (Ei (.v 2) (.v 4)))) (Ei (.v 1) (Ci 1)))) (.cons (.ret (.tup (Eb (.v 3) (.v 4)))) .nil) .nil) .nil)) (.cons (.ret (.c .non)) .nil))
def VG:bM:=(.cons (.ex (.call 8 (Ea (.v 0)))) (.cons (.ex (.call 21 (Ea (.v 1)))) (.cons (.asg (.nm 2) (.call 18 (Eb (.v 0) (.v 1)))) (.cons (.ret (.call 33 (Eb (.v 2) (.comp true (.of (.v 1) 0 1) [0] (.rg (Ci 0) (Ei (.v 0) (Ci 0))) [2] 1 .no)))) .nil))))
def VH:bM:=(.cons (.ex (.call 26 (Ec (.v 0) (.v 1) (.v 2)))) (.cons (.asg (.nm 3) (.call 18 (Eb (.v 0) (.v 1)))) (.cons (.fr (.nm 4) (.Jp (Ei (.v 0) (Ci 0))) (.cons (.asg (.nm 5) (.comp true (.tup (Ea (.v 0))) [0] (.seq (.sl true (.v 2) .no (.yes (.v 4)))) [] 1 .no)) (.cons (.asg (.nm 6) (.sl true (.of (.v 3) 0 1) (.yes (.pr true .add (Eb (Ei (.v 2) (.v 4)) (Ci 1)))) .no)) (.cons (.asg (.nm 7) (.comp true (.of (.v 1) 0 1) [0] (.rg (.pr true .add (Eb (.v 4) (Ci 1))) (Ei (.v 0) (Ci 0))) [3] 1 .no)) (.cons (.asg (.nm 8) (.call 33 (Eb (.v 3) (.pr true .add (Eb (.pr true .add (Eb (.v 5) (.lst true (Ea (.v 6))))) (.v 7)))))) (.cons (.iff (.pr true .lO (Ea (.v 8))) (.cons (.ret (.v 8)) .nil) .nil) .nil)))))) (.cons (.ret (.c .non)) .nil))))
def VJ:bM:=(.cons (.ex (.call 32 (Ec (.v 0) (.v 1) (.v 2)))) (.cons (.asg (.nm 3) (.call 18 (Eb (.v 0) (.v 1)))) (.cons (.ret (.call 33 (Eb (.v 3) (.comp true (.ite (.pr true .pW (Ea (.v 0))) (.of (.v 1) 0 1) (.tup (Ea (.v 0)))) [0] (.seq (.v 2)) [3] 1 .no)))) .nil)))
def VL:bM:=(.cons (.ret (.and (.call 2 (Eb (.v 2) (Ei (.v 0) (Ci 0)))) (.pr true .all (Ea (.comp true (.or (.pr true .pW (Ea (.v 0))) (.call 20 (Eb (.v 1) (.v 0)))) [0] (.seq (.v 2)) [1] 1 .no))))) .nil)
def VN:bM:=(.cons (.ex (.call 8 (Ea (.v 0)))) (.cons (.ex (.call 21 (Ea (.v 1)))) (.cons (.iff (.not (.call 31 (Ec (.v 0) (.v 1) (.v 2)))) (.cons .no .nil) .nil) .nil)))
def VP:bM:=(.cons (.asg (.nm 2) (.pr true .tuple (Ea (.v 1)))) (.cons (.asg (.nm 3) .ou) (.cons (.iff (.not (.call 35 (Ec (.v 0) (.v 3) (.v 2)))) (.cons (.ret (.c .non)) .nil) .nil) (.cons (.asg (.nm 4) (.lst false .nil)) (.cons (.fr (.nm 5) (.rg (Ci 0) (.pr true .len (Ea (.v 1)))) (.cons (.asg (.nm 6) (.call 34 (.cons (.v 0) (Ec (.v 3) (.v 2) (.v 5))))) (.cons (.asg (.nm 2) (.cm 0 13 (.v 0) (Ec (.v 2) (.v 5) (.v 6)))) (.cons (.ex (.push (.v 4) (.v 6))) .nil)))) (.cons (.ret (.pr true .tuple (Ea (.v 4)))) .nil))))))
def Ot:bM:=(.cons (.fr (.nm 4) (.seq (Ei (.v 2) (.v 3))) (.cons (.iff (.call 35 (Ec (.v 0) (.v 1) (.cm 0 13 (.v 0) (Ec (.v 2) (.v 3) (.v 4))))) (.cons (.ret (.v 4)) .nil) .nil) .nil)) (.cons (.ret (.c .non)) .nil))
def VR:bM:=(.cons (.iff (.pr true .inn (Eb (.tup .nil) (.v 2))) (.cons (.ret (.c (.bl false))) .nil) .nil) (.cons (.asg (.nm 3) (.cm 0 15 (.v 0) (Ea (.v 2)))) (.cons (.iff (.wY false (.v 3) (.v 1)) (.cons (.dput (.v 1) (.v 3) (.call 36 (Ec (.v 0) (.v 1) (.v 3)))) .nil) .nil) (.cons (.ret (.k_ (.v 1) (.v 3))) .nil))))
def K3:bM:=(.cons (.asg (.nm 3) (.cm 0 16 (.v 0) (Ea (.v 2)))) (.cons (.iff (.pr true .pW (Ea (.v 3))) (.cons (.ret (.c (.bl true))) .nil) .nil) (.cons (.iff (.and (.of (.v 0) 0 3) (.cm 0 17 (.v 0) (Ea (.v 2)))) (.cons (.ret (.call 35 (Ec (.v 0) (.v 1) (.cm 0 13 (.v 0) (Ec (.v 2) (.v 3) (Ci 0)))))) .nil) .nil) (.cons (.ret (.pr true .lO (Ea (.call 34 (.cons (.v 0) (Ec (.v 1) (.v 2) (.v 3))))))) .nil))))
def V0:bM:=(.cons (.asg (.nm 2) (.call 38 (Eb (.v 0) (.v 1)))) (.cons (.ret (.pr true .mul (Eb (Ei (.v 1) (Ci 0)) (.v 2)))) .nil))
def V1:bM:=(.cons (.ex (.call 39 (Eb (.v 0) (.v 1)))) (.cons (.ret (.pr true .len (Ea (.call 40 (Eb (.v 0) (.v 1)))))) .nil))
def V2:bM:=(.cons (.ex (.call 8 (Ea (.v 0)))) (.cons (.ex (.call 21 (Ea (.v 1)))) (.cons (.ex (.call 3 (Eb (Ei (.v 0) (Ci 0)) (Ci 6)))) (.cons (.ex (.call 3 (Eb (Ei (.v 1) (Ci 0)) (Ci 8)))) .nil))))
def V3:bM:=(.cons (.asg (.nm 2) (.call 18 (Eb (.v 0) (.v 1)))) (.cons (.asg (.nm 3) (.lst true (Ea (.tup (Ea (Ci 0)))))) (.cons (.fr (.nm 4) (.rg (Ci 1) (Ei (.v 0) (Ci 0))) (.cons (.asg (.nm 5) (.comp true (.v 0) [0] (.seq (Ei (.of (.v 2) 0 0) (.v 4))) [4] 1 (.yes (.pr true .lt (Eb (.v 0) (.v 1)))))) (.cons (.asg (.nm 3) (.lQ true (.pr true .add (Eb (.v 0) (.tup (Ea (.v 1))))) [0] (.seq (.v 3)) [1] (.seq (.of (.v 2) 0 1)) [2,5] 2 (.yes (.call 41 (.cons (.v 2) (Ec (.v 0) (.v 3) (.v 1))))))) .nil))) (.cons (.ret (.v 3)) .nil))))
def V4:bM:=(.cons (.ret (.pr true .all (Ea (.comp true (.cm 0 12 (.v 1) (Eb (.v 2) (Ei (.v 3) (.v 0)))) [0] (.seq (.v 2)) [0,3,1] 1 .no)))) .nil)
def V5:bM:=(.cons (.ex (.call 32 (Ec (.v 0) (.v 1) (.v 2)))) (.cons (.ret (.call 44 (Ec (.call 18 (Eb (.v 0) (.v 1))) (.v 2) (.v 3)))) .nil))
def V6:bM:=(.cons (.iff (.pr true .lO (Ea (.call 30 (Ec (.v 0) (.v 1) (.v 2))))) (.cons (.ret (.c .non)) .nil) .nil) (.cons (.asg (.nm 3) (.call 18 (Eb (.v 0) (.v 1)))) (.cons (.asg (.nm 4) (.pr true .tuple (Ea (.comp true (.of (.v 1) 0 1) [0] (.seq (.v 2)) [3] 1 .no)))) (.cons (.fr (.tp [5,6]) (.enum (.v 2)) (.cons (.iff (.call 46 (Ec (.v 3) (.v 2) (.v 5))) (.cons (.ret (.tup (Eb (.c (.str "end")) (.v 5)))) .nil) .nil) (.cons (.iff (.pr true .lO (Ea (.v 6))) (.cons (.asg (.nm 4) (.cm 0 13 (.v 3) (Ec (.v 4) (.v 5) (.v 6)))) .nil) .nil) .nil))) (.cons (.ret (.call 47 (Ec (.v 3) .ou (.v 4)))) .nil)))))
def V7:bM:=(.cons (.iff (.and (.call 2 (Eb (.v 2) (Ci 2))) (.pr true .eq (Eb (Ei (.v 2) (Ci 0)) (.c (.str "end"))))) (.cons (.ret (.and (.call 6 (Eb (.pr true .len (Ea (.v 1))) (Ei (.v 2) (Ci 1)))) (.call 46 (Ec (.v 0) (.v 1) (Ei (.v 2) (Ci 1)))))) .nil) .nil) (.cons (.iff (.and (.call 2 (Eb (.v 2) (Ci 3))) (.pr true .eq (Eb (Ei (.v 2) (Ci 0)) (.c (.str "case"))))) (.cons (.ret (.call 45 (.cons (.v 0) (Ec (.v 1) (Ei (.v 2) (Ci 1)) (Ei (.v 2) (Ci 2)))))) .nil) .nil) (.cons (.ret (.c (.bl false))) .nil)))
def V8:bM:=(.cons (.iff (.or (.not (.call 6 (Eb (.pr true .len (Ea (.v 1))) (.v 2)))) (.pr true .lO (Ea (Ei (.v 1) (.v 2))))) (.cons (.ret (.c (.bl false))) .nil) .nil) (.cons (.iff (.not (.call 2 (Eb (.v 3) (.pr true .len (Ea (.of (.v 0) 0 1)))))) (.cons (.ret (.c (.bl false))) .nil) .nil) (.cons (.fr (.nm 4) (.seq (.of (.v 0) 0 1)) (.cons (.iff (.not (.call 44 (Ec (.v 0) (.pr true .add (Eb (.pr true .add (Eb (.sl true (.v 1) .no (.yes (.v 2))) (.tup (Ea (.v 4))))) (.sl true (.v 1) (.yes (.pr true .add (Eb (.v 2) (Ci 1)))) .no))) (Ei (.v 3) (.v 4))))) (.cons (.ret (.c (.bl false))) .nil) .nil) .nil)) (.cons (.ret (.c (.bl true))) .nil))))
def V9:bM:=(.cons (.asg (.nm 3) (.comp true (Ei (.v 1) (.v 0)) [0] (.seq (Ei (.of (.v 0) 0 0) (.v 2))) [1] 1 (.yes (.pr true .lO (Ea (Ei (.v 1) (.v 0))))))) (.cons (.asg (.nm 4) (.ite (.pr true .pW (Ea (Ei (.v 1) (.v 2)))) (.of (.v 0) 0 1) (.tup (Ea (Ei (.v 1) (.v 2)))))) (.cons (.fr (.nm 5) (.seq (.v 4)) (.cons (.iff (.pr true .all (Ea (.comp true (.cm 0 12 (.v 1) (Eb (.v 2) (.v 0))) [0] (.seq (.v 3)) [0,5] 1 .no))) (.cons (.ret (.c (.bl false))) .nil) .nil) .nil)) (.cons (.ret (.c (.bl true))) .nil))))
def V_:bM:=(.cons (.iff (.pr true .inn (Eb (.tup .nil) (.v 2))) (.cons (.ret (.tup (Eb (.c (.str "end")) (.meth true .pB .tuple (.v 2) (Ea (.tup .nil)))))) .nil) .nil) (.cons (.asg (.nm 3) (.cm 0 15 (.v 0) (Ea (.v 2)))) (.cons (.iff (.wY false (.v 3) (.v 1)) (.cons (.dput (.v 1) (.v 3) (.call 48 (Ec (.v 0) (.v 1) (.v 3)))) .nil) .nil) (.cons (.ret (.k_ (.v 1) (.v 3))) .nil))))
def Wa:bM:=(.cons (.asg (.nm 3) (.cm 0 16 (.v 0) (Ea (.v 2)))) (.cons (.asg (.nm 4) (.lst false .nil)) (.cons (.fr (.nm 5) (.seq (.of (.v 0) 0 1)) (.cons (.iff (.pr true .inn (Eb (.v 5) (Ei (.v 2) (.v 3)))) (.cons (.ex (.push (.v 4) (.call 47 (Ec (.v 0) (.v 1) (.cm 0 13 (.v 0) (Ec (.v 2) (.v 3) (.v 5))))))) .nil) (.cons (.ex (.push (.v 4) (.tup (Eb (.c (.str "end")) (.v 3))))) .nil)) .nil)) (.cons (.ret (.tup (Ec (.c (.str "case")) (.v 3) (.pr true .tuple (Ea (.v 4)))))) .nil))))
def Wb:bM:=(.cons (.iff (.pr true .lt (Eb (.v 1) (.pr true .len (Ea (.v 0))))) (.cons (.ret (Ei (.v 0) (.v 1))) .nil) .nil) (.cons (.ret (Ci 0)) .nil))
def Wc:bM:=(.cons (.asg (.nm 1) (.pr true .max2 (Eb (.v 0) (.pr true .aq (Eb (Ci 0) (.v 0)))))) (.cons (.ret (.lst false (Eb (.v 1) (.pr true .wX (Ea (.pr true .ge (Eb (.v 1) (.pr true .pow (Eb (Ci 10) (Ci 18)))))))))) .nil))
def Wd:bM:=(.cons (.iff (.pr true .eq (Eb (Ei (.v 0) (Ci 1)) (Ci 1))) (.cons (.asg (.tp [2,3]) (.pr true .divmod (Eb (Ei (.v 0) (Ci 0)) (.v 1)))) (.cons (.asg (.aq (.v 0) (Ci 0)) (.v 2)) (.cons (.ret (.v 3)) .nil))) .nil) (.cons (.asg (.nm 4) (.pr true .mod (Eb (.pr true .mul (Eb (.pr true .add (Eb (.pr true .mod (Eb (Ei (.v 0) (Ci 0)) (Ci 2147483647))) (Ci 40503))) (Ci 69621))) (Ci 2147483629)))) (.cons (.asg (.nm 4) (.pr true .mod (Eb (.pr true .add (Eb (.pr true .mul (Eb (.v 4) (.v 4))) (Ci 7817))) (Ci 2147483587)))) (.cons (.asg (.aq (.v 0) (Ci 0)) (.pr true .mod (Eb (.pr true .add (Eb (.pr true .mul (Eb (.v 4) (Ci 48271))) (Ci 11))) (Ci 2147483629)))) (.cons (.ret (.pr true .mod (Eb (.pr true .fdiv (Eb (Ei (.v 0) (Ci 0)) (Ci 32))) (.v 1)))) .nil)))))
def Wf:bM:=(.cons (.asg (.nm 2) (Ei (.lst true (Ec (Ci 2) (Ci 4) (Ci 6))) (.call 51 (Eb (.v 0) (Ci 3))))) (.cons (.asg (.nm 3) (.lst true .nil)) (.cons (.fr (.nm 4) (.rg (Ci 0) (.v 1)) (.cons (.asg (.nm 3) (.pr true .add (Eb (.v 3) (.comp true (.tup (Eb (.v 1) (.v 0))) [0] (.rg (.pr true .add (Eb (.v 4) (Ci 1))) (.v 1)) [4,0,2] 1 (.yes (.pr true .lt (Eb (.call 51 (Eb (.v 2) (Ci 8))) (.v 3)))))))) .nil)) (.cons (.ret (.tup (Eb (.v 1) (.pr true .tuple (Ea (.v 3)))))) .nil))))
def Wg:bM:=(.cons (.asg (.nm 3) (Ei (.lst true (Ec (Ci 1) (Ci 2) (Ci 4))) (.call 51 (Eb (.v 0) (Ci 3))))) (.cons (.ret (.pr true .tuple (Ea (.comp true (.ite (.pr true .lt (Eb (.call 51 (Eb (.v 1) (Ci 5))) (.v 2))) (.call 51 (Eb (.v 1) (Ei (.v 3) (Ci 0)))) (.c .non)) [0] (.rg (Ci 0) (Ei (.v 1) (Ci 0))) [0,3,2] 1 .no)))) .nil))
def Wh:bM:=(.cons (.asg (.nm 3) (.call 28 (Eb (.v 1) (.v 2)))) (.cons (.asg (.nm 4) (.tup .nil)) (.cons (.asg (.nm 5) (Ci 0)) (.cons (.wh (.pr true .lO (Ea (.v 3))) (.cons (.iff (.or (.not (.pr true .M7 (Eb (.v 3) (.v 4)))) (.not (.call 23 (Ec (.v 1) (.v 2) (.v 3))))) (.cons (.ret (.c (.bl false))) .nil) .nil) (.cons (.asg (.nm 4) (.v 3)) (.cons (.asg (.nm 5) (.pr true .add (Eb (.v 5) (Ci 1)))) (.cons (.asg (.nm 3) (.call 29 (Ec (.v 1) (.v 2) (.v 3)))) .nil))))) (.cons (.iff (.or (.pr true .ne (Eb (.v 5) (.call 37 (Eb (.v 1) (.v 2))))) (.pr true .ne (Eb (.pr true .eq (Eb (.v 5) (Ci 0))) (.pr true .lO (Ea (.call 43 (Ec (.v 1) (.v 2) (.pr true .mult (Eb (.tup (Ea (.c .non))) (Ei (.v 1) (Ci 0))))))))))) (.cons (.ret (.c (.bl false))) .nil) .nil) (.cons (.iff (.pr true .eq (Eb (.v 5) (Ci 0))) (.cons (.ret (.c (.bl true))) .nil) .nil) (.cons (.asg (.nm 6) (.call 51 (Eb (.v 0) (Ei (.v 1) (Ci 0))))) (.cons (.asg (.nm 7) (.pr true .add (Eb (.pr true .add (Eb (.pr true .mult (Eb (.tup (Ea (.c .non))) (.v 6))) (.tup (Ea (Ei (.v 4) (.v 6)))))) (.pr true .mult (Eb (.tup (Ea (.c .non))) (.pr true .aq (Eb (.pr true .aq (Eb (Ei (.v 1) (Ci 0)) (.v 6))) (Ci 1)))))))) (.cons (.asg (.nm 8) (.call 30 (Ec (.v 1) (.v 2) (.v 7)))) (.cons (.ret (.and (.pr true .eq (Eb (.call 30 (Ec (.v 1) (.v 2) (.v 4))) (.v 4))) (.and (.pr true .lO (Ea (.v 8))) (.and (.pr true .M8 (Eb (.v 8) (.v 4))) (.pr true .eq (Eb (Ei (.v 8) (.v 6)) (Ei (.v 4) (.v 6)))))))) .nil))))))))))
def Wi:bM:=(.cons (.par 3 4 (.call 30 (Ec (.v 0) (.v 1) (.v 2))) (.call 43 (Ec (.v 0) (.v 1) (.v 2)))) (.cons (.iff (.pr true .eq (Eb (.pr true .pW (Ea (.v 3))) (.pr true .pW (Ea (.v 4))))) (.cons (.ret (.c (.bl false))) .nil) .nil) (.cons (.iff (.pr true .lO (Ea (.v 4))) (.cons (.ret (.pr true .M9 (Eb (.call 42 (.cons (.v 0) (Ec (.v 1) (.v 2) (.v 4)))) (.c (.bl true))))) .nil) .nil) (.cons (.ret (.and (.call 23 (Ec (.v 0) (.v 1) (.v 3))) (.pr true .M9 (Eb (.call 42 (.cons (.v 0) (Ec (.v 1) (.v 2) (.tup (Eb (.c (.str "end")) (Ci 0)))))) (.c (.bl false)))))) .nil))))
def Wj:bM:=(.cons (.fr (.nm 1) (.seq (.pr true .add (Eb (.lst true (Ea (.call 49 (Eb (.v 0) (Ci 0))))) (.sl true (.v 0) (.yes (Ci 1)) (.yes (Ci 2)))))) (.cons (.asg (.nm 2) (.call 50 (Ea (.v 1)))) (.cons (.asg (.nm 3) (.call 52 (Eb (.v 2) (.pr true .add (Eb (Ci 1) (.call 51 (Eb (.v 2) (Ci 4)))))))) (.cons (.asg (.nm 4) (Ei (.lst true (.cons (.tup (Eb (Ci 2) (Ci 1))) (.cons (.tup (Eb (Ci 3) (Ci 1))) (.cons (.tup (Eb (Ci 5) (Ci 2))) (Ec (.tup (Eb (Ci 4) (Ci 1))) (.tup (Eb (Ci 4) (Ci 2))) (.tup (Eb (Ci 6) (Ci 2)))))))) (.call 51 (Eb (.v 2) (Ci 6))))) (.cons (.iff (.or (.not (.call 54 (Ec (.v 2) (.v 3) (.v 4)))) (.not (.call 55 (Ec (.v 3) (.v 4) (.pr true .mult (Eb (.tup (Ea (.c .non))) (Ei (.v 3) (Ci 0)))))))) (.cons (.ret (.c (.bl false))) .nil) .nil) (.cons (.iff (.not (.call 55 (Ec (.v 3) (.v 4) (.call 53 (Ec (.v 2) (.v 3) (.v 4)))))) (.cons (.ret (.c (.bl false))) .nil) .nil) .nil)))))) (.cons (.ret (.c (.bl true))) .nil))
def T(n:Nat):Option Df:=([⟨1,1,b0⟩,⟨3,3,b1⟩,⟨2,2,b2⟩,⟨2,2,b3⟩,⟨3,1,b4⟩,⟨1,1,b5⟩,⟨2,2,b6⟩,⟨4,2,b7⟩,⟨1,1,b8⟩,⟨3,2,b9⟩,⟨1,1,b10⟩,⟨4,4,Vo⟩,⟨3,3,Vp⟩,⟨6,4,Vq⟩,⟨3,3,Vr⟩,⟨2,2,Vt⟩,⟨5,2,Vu⟩,⟨2,2,Vv⟩,⟨5,2,Vw⟩,⟨3,1,Vx⟩,⟨2,2,Oo⟩,⟨1,1,Vy⟩,⟨4,3,b22⟩,⟨3,3,Vz⟩,⟨3,3,VB⟩,⟨3,3,Oq⟩,⟨3,3,VD⟩,⟨5,3,VF⟩,⟨3,2,VG⟩,⟨9,3,VH⟩,⟨4,3,VJ⟩,⟨3,3,VL⟩,⟨3,3,VN⟩,⟨7,2,VP⟩,⟨5,4,Ot⟩,⟨4,3,VR⟩,⟨4,3,K3⟩,⟨3,2,V0⟩,⟨2,2,V1⟩,⟨2,2,V2⟩,⟨6,2,V3⟩,⟨4,4,V4⟩,⟨4,4,V5⟩,⟨7,3,V6⟩,⟨3,3,V7⟩,⟨5,4,V8⟩,⟨6,3,V9⟩,⟨4,3,V_⟩,⟨6,3,Wa⟩,⟨2,2,Wb⟩,⟨2,1,Wc⟩,⟨5,2,Wd⟩,⟨5,2,Wf⟩,⟨4,3,Wg⟩,⟨9,3,Wh⟩,⟨5,3,Wi⟩,⟨5,1,Wj⟩]:List Df)[n]?
theorem T_0:T 0=some ⟨1,1,b0⟩:=rfl
theorem T_1:T 1=some ⟨3,3,b1⟩:=rfl
theorem Wm:T 2=some ⟨2,2,b2⟩:=rfl
theorem T_3:T 3=some ⟨2,2,b3⟩:=rfl
theorem T_4:T 4=some ⟨3,1,b4⟩:=rfl
theorem T_5:T 5=some ⟨1,1,b5⟩:=rfl
theorem Wn:T 6=some ⟨2,2,b6⟩:=rfl
theorem T_7:T 7=some ⟨4,2,b7⟩:=rfl
theorem T_8:T 8=some ⟨1,1,b8⟩:=rfl
theorem T_9:T 9=some ⟨3,2,b9⟩:=rfl
theorem zpW:T 10=some ⟨1,1,b10⟩:=rfl
theorem zp5:T 11=some ⟨4,4,Vo⟩:=rfl
theorem zp4:T 12=some ⟨3,3,Vp⟩:=rfl
theorem zpJ:T 13=some ⟨6,4,Vq⟩:=rfl
theorem zqn:T 14=some ⟨3,3,Vr⟩:=rfl
theorem zpC:T 15=some ⟨2,2,Vt⟩:=rfl
theorem zpD:T 16=some ⟨5,2,Vu⟩:=rfl
theorem zp3:T 17=some ⟨2,2,Vv⟩:=rfl
theorem zp6:T 18=some ⟨5,2,Vw⟩:=rfl
theorem zpK:T 19=some ⟨3,1,Vx⟩:=rfl
theorem Wo:T 20=some ⟨2,2,Oo⟩:=rfl
theorem zpH:T 21=some ⟨1,1,Vy⟩:=rfl
theorem zqp:T 22=some ⟨4,3,b22⟩:=rfl
theorem zp2:T 23=some ⟨3,3,Vz⟩:=rfl
theorem zp9:T 24=some ⟨3,3,VB⟩:=rfl
theorem Wq:T 25=some ⟨3,3,Oq⟩:=rfl
theorem zp8:T 26=some ⟨3,3,VD⟩:=rfl
theorem zpQ:T 27=some ⟨5,3,VF⟩:=rfl
theorem zpE:T 28=some ⟨3,2,VG⟩:=rfl
theorem zqj:T 29=some ⟨9,3,VH⟩:=rfl
theorem zpT:T 30=some ⟨4,3,VJ⟩:=rfl
theorem zpM:T 31=some ⟨3,3,VL⟩:=rfl
theorem zpZ:T 32=some ⟨3,3,VN⟩:=rfl
theorem zqf:T 33=some ⟨7,2,VP⟩:=rfl
theorem Wr:T 34=some ⟨5,4,Ot⟩:=rfl
theorem zpX:T 35=some ⟨4,3,VR⟩:=rfl
theorem Ou:T 36=some ⟨4,3,K3⟩:=rfl
theorem zqc:T 37=some ⟨3,2,V0⟩:=rfl
theorem zp7:T 38=some ⟨2,2,V1⟩:=rfl
theorem zpG:T 39=some ⟨2,2,V2⟩:=rfl
theorem zql:T 40=some ⟨6,2,V3⟩:=rfl
theorem zpI:T 41=some ⟨4,4,V4⟩:=rfl
theorem zqe:T 42=some ⟨4,4,V5⟩:=rfl
theorem zqa:T 43=some ⟨7,3,V6⟩:=rfl
theorem zqd:T 44=some ⟨3,3,V7⟩:=rfl
theorem zpB:T 45=some ⟨5,4,V8⟩:=rfl
theorem zqb:T 46=some ⟨6,3,V9⟩:=rfl
theorem zpS:T 47=some ⟨4,3,V_⟩:=rfl
theorem zpL:T 48=some ⟨6,3,Wa⟩:=rfl
theorem zp1:T 49=some ⟨2,2,Wb⟩:=rfl
theorem zqk:T 50=some ⟨2,1,Wc⟩:=rfl
theorem zpR:T 51=some ⟨5,2,Wd⟩:=rfl
theorem zpP:T 52=some ⟨5,2,Wf⟩:=rfl
theorem zpF:T 53=some ⟨4,3,Wg⟩:=rfl
theorem zpO:T 54=some ⟨9,3,Wh⟩:=rfl
theorem zpV:T 55=some ⟨5,3,Wi⟩:=rfl
theorem zpY:T 56=some ⟨5,1,Wj⟩:=rfl
def aq:Nat->Nat->Bool:=λc e=>(let n:=λc=>if c<0 then c else 0;n e==0||n c==n e)
end dZ
namespace dZ
open PySem PySem.Spec PyProof.Rows L2 Mi
abbrev LK(i:Nat)(x:Str)(k:NameKind):Prop:=(aB (top i)).names.lookup x=some k
noncomputable abbrev gI:NameKind:=.globalImplicit
abbrev N4:List Str:=["thing","many","ties"]
abbrev N9:List Str:=["web","place","ends"]
abbrev N10:List Str:=["web"]
abbrev N13:List Str:=["self","free","place","spot","left","end"]
abbrev N14:List Str:=["self","free","place"]
abbrev N15:List Str:=["self","free"]
abbrev N17:List Str:=["self","free"]
abbrev N18:List Str:=["web","ring","k","d","wide"]
abbrev N24:List Str:=["web","ring","thing"]
abbrev N28:List Str:=["web","ring","board"]
abbrev Ws:List Str:=["web","ring","hues","board","place","same","higher","rest","found"]
abbrev N30:List Str:=["web","ring","known","board"]
abbrev N31:List Str:=["web","ring","thing"]
abbrev N40:List Str:=["web","ring","board","rows","place","ahead"]
abbrev N41:List Str:=["board","row","ahead","spot"]
abbrev N43:List Str:=["web","ring","known","board","free","place","spot"]
abbrev N46:List Str:=["board","known","place","near","spots","spot"]
abbrev N52:List Str:=["_law_pen_here","_law_many","_law_often","_law_ties","_law_one"]
abbrev N53:List Str:=["_law_pen_here","_law_web_here","_law_ring","_law_often"]
def cl(K:W.Frag):Cl:=⟨iW (lk.L K),λ_=>[],λ_=>dU K "Board",λ_=>["ends","spots","apart","alike"]⟩
structure Top(K:W.Frag)(mg:Str->Option Value):Prop where
 d0:D3 K mg "is_whole" (top 7) ["thing"]
 d1:D3 K mg "is_within" (top 8) ["thing","least","most"]
 d2:D3 K mg "is_row" (top 9) ["thing","many"]
 d3:D3 K mg "check_most" (top 10) ["many","most"]
 d4:D3 K mg "is_web" (top 13) ["thing"]
 d5:D3 K mg "is_many" (top 14) ["thing"]
 d6:D3 K mg "is_place" (top 15) ["many","thing"]
 d7:D3 K mg "is_tie" (top 16) ["many","thing"]
 d8:D3 K mg "check_web" (top 17) ["thing"]
 d9:D3 K mg "tied_to" (top 18) ["web","place"]
 d10:D3 K mg "all_ends" (top 19) ["web"]
 d18:D3 K mg "ring_board" (top 22) ["web","ring"]
 d19:D3 K mg "is_ring" (top 25) ["thing"]
 d20:D3 K mg "is_spot" (top 26) ["ring","thing"]
 d21:D3 K mg "check_ring" (top 27) ["thing"]
 d22:D3 K mg "gap_of" (top 28) ["ring","one","other"]
 d23:D3 K mg "hues_hold" (top 30) ["web","ring","thing"]
 d24:D3 K mg "are_spots" (top 31) ["web","ring","thing"]
 d25:D3 K mg "are_hues" (top 32) ["web","ring","thing"]
 d26:D3 K mg "check_hues" (top 33) ["web","ring","thing"]
 d27:D3 K mg "clash_of" (top 34) ["web","ring","spots"]
 d28:D3 K mg "first_hues" (top 36) ["web","ring"]
 d29:D3 K mg "next_hues" (top 37) ["web","ring","hues"]
 d30:D3 K mg "first_known" (top 38) ["web","ring","known"]
 d31:D3 K mg "are_known" (top 39) ["web","ring","thing"]
 d32:D3 K mg "check_known" (top 40) ["web","ring","thing"]
 Ov:D3 K mg "first_among" (top 41) ["board","choices"]
 d34:D3 K mg "first_spot" (top 42) ["board","answers","free","place"]
 d35:D3 K mg "can_settle" (top 43) ["board","answers","free"]
 d36:D3 K mg "search" (top 44) ["board","answers","free"]
 d37:D3 K mg "hues_many" (top 48) ["web","ring"]
 d38:D3 K mg "fixed_many" (top 49) ["web","ring"]
 d39:D3 K mg "check_few" (top 50) ["web","ring"]
 d40:D3 K mg "fixed_rows" (top 51) ["web","ring"]
 d41:D3 K mg "is_free" (top 52) ["board","row","ahead","spot"]
 Wt:D3 K mg "none_holds" (top 56) ["web","ring","known","thing"]
 Wu:D3 K mg "none_for" (top 57) ["web","ring","known"]
 d44:D3 K mg "paper_holds" (top 58) ["board","known","thing"]
 d45:D3 K mg "case_holds" (top 59) ["board","known","place","papers"]
 d46:D3 K mg "is_stuck" (top 60) ["board","known","place"]
 d47:D3 K mg "paper_of" (top 61) ["board","papers","free"]
 d48:D3 K mg "case_of" (top 62) ["board","papers","free"]
 d49:D3 K mg "_law_cell" (top 64) ["_law_script","_law_k"]
 d50:D3 K mg "_law_pen" (top 65) ["_law_cell_here"]
 d51:D3 K mg "_law_draw" (top 66) ["_law_pen_here","_law_many"]
 d52:D3 K mg "_law_web" (top 67) ["_law_pen_here","_law_many"]
 d53:D3 K mg "_law_known" (top 68) ["_law_pen_here","_law_web_here","_law_ring"]
 d54:D3 K mg "_law_row_right" (top 69) ["_law_pen_here","_law_web_here","_law_ring"]
 Wv:D3 K mg "_law_paper_right" (top 70) ["_law_web_here","_law_ring","_law_known_here"]
 Ox:D3 K mg "law" (top 71) ["_law_script"]
 lE:∃t,mg "MOST_PLACES"=some (.int 8 t)
 m9:∃t,mg "MOST_SPOTS"=some (.int 24 t)
 m_:∃t,mg "FEW_PLACES"=some (.int 6 t)
 o8:∃t,mg "FEW_SPOTS"=some (.int 8 t)
 o9:∃t,mg "END"=some (.str "end" t)
 ql:∃t,mg "CASE"=some (.str "case" t)
 z12:mg "abs"=none
 z6:mg "all"=none
 z2:mg "bool"=none
 z15:mg "divmod"=none
 z10:mg "enumerate"=none
 z1:mg "int"=none
 z0:mg "isinstance"=none
 z4:mg "len"=none
 z9:mg "list"=none
 z14:mg "max"=none
 z11:mg "min"=none
 z8:mg "range"=none
 z13:mg "reversed"=none
 z7:mg "sorted"=none
 z3:mg "tuple"=none
 z5:mg "zip"=none
 ow:Ow K (cl K) 0
 mq:Mk K ((cl K).b 0) (gZ K ((cl K).b 0) "__init__")
 mc:mg "Board"=some (.ref ((cl K).b 0))
 Ww:Mt K ((cl K).b 0) "__init__" "Board.__init__" Ey ["self","web","apart","alike"] (gZ K ((cl K).b 0) "__init__") (jD K ((cl K).b 0) "__init__" Ey)
 m12:Mt K ((cl K).b 0) "far_apart" "Board.far_apart" Hs ["self","spot","other"] (gZ K ((cl K).b 0) "far_apart") (jD K ((cl K).b 0) "far_apart" Hs)
 m13:Mt K ((cl K).b 0) "settled" "Board.settled" Ht ["self","free","place","spot"] (gZ K ((cl K).b 0) "settled") (jD K ((cl K).b 0) "settled" Ht)
 m14:Mt K ((cl K).b 0) "ties_left" "Board.ties_left" Hu ["self","free","place"] (gZ K ((cl K).b 0) "ties_left") (jD K ((cl K).b 0) "ties_left" Hu)
 m15:Mt K ((cl K).b 0) "bound" "Board.bound" Hv ["self","free"] (gZ K ((cl K).b 0) "bound") (jD K ((cl K).b 0) "bound" Hv)
 m16:Mt K ((cl K).b 0) "narrowest" "Board.narrowest" Hw ["self","free"] (gZ K ((cl K).b 0) "narrowest") (jD K ((cl K).b 0) "narrowest" Hw)
 m17:Mt K ((cl K).b 0) "all_free" "Board.all_free" Hx ["self","free"] (gZ K ((cl K).b 0) "all_free") (jD K ((cl K).b 0) "all_free" Hx)
theorem zmT{K:W.Frag}{h:Heap}{mg:Str->Option Value}(Sb:rm fs ms xs lk bd K)(X:K.In h)(G:h.Ns mainGlobals mg):Top K mg where
 d0:=xU Sb.i X G 0
 d1:=lu Sb.i X G 1
 d2:=pF Sb.i X G 2
 d3:=pF Sb.i X G 3
 d4:=xU Sb.i X G 4
 d5:=xU Sb.i X G 5
 d6:=pF Sb.i X G 6
 d7:=pF Sb.i X G 7
 d8:=xU Sb.i X G 8
 d9:=pF Sb.i X G 9
 d10:=xU Sb.i X G 10
 d18:=pF Sb.i X G 11
 d19:=xU Sb.i X G 12
 d20:=pF Sb.i X G 13
 d21:=xU Sb.i X G 14
 d22:=lu Sb.i X G 15
 d23:=lu Sb.i X G 16
 d24:=lu Sb.i X G 17
 d25:=lu Sb.i X G 18
 d26:=lu Sb.i X G 19
 d27:=lu Sb.i X G 20
 d28:=pF Sb.i X G 21
 d29:=lu Sb.i X G 22
 d30:=lu Sb.i X G 23
 d31:=lu Sb.i X G 24
 d32:=lu Sb.i X G 25
 Ov:=pF Sb.i X G 26
 d34:=Nz Sb.i X G 27
 d35:=lu Sb.i X G 28
 d36:=lu Sb.i X G 29
 d37:=pF Sb.i X G 30
 d38:=pF Sb.i X G 31
 d39:=pF Sb.i X G 32
 d40:=pF Sb.i X G 33
 d41:=Nz Sb.i X G 34
 Wt:=Nz Sb.i X G 35
 Wu:=lu Sb.i X G 36
 d44:=lu Sb.i X G 37
 d45:=Nz Sb.i X G 38
 d46:=lu Sb.i X G 39
 d47:=lu Sb.i X G 40
 d48:=lu Sb.i X G 41
 d49:=pF Sb.i X G 42
 d50:=xU Sb.i X G 43
 d51:=pF Sb.i X G 44
 d52:=pF Sb.i X G 45
 d53:=lu Sb.i X G 46
 d54:=lu Sb.i X G 47
 Wv:=lu Sb.i X G 48
 Ox:=xU Sb.i X G 49
 lE:=Nv (Sb.i.gd.it ("MOST_PLACES",8) (mG 0)) X G
 m9:=Nv (Sb.i.gd.it ("MOST_SPOTS",24) (mG 1)) X G
 m_:=Nv (Sb.i.gd.it ("FEW_PLACES",6) (mG 2)) X G
 o8:=Nv (Sb.i.gd.it ("FEW_SPOTS",8) (mG 3)) X G
 o9:=ZS (Sb.i.gd.st ("END","end") (mG 0)) X G
 ql:=ZS (Sb.i.gd.st ("CASE","case") (mG 1)) X G
 z12:=pD (Sb.i.gd.no "abs" (mG 0)) X G
 z6:=pD (Sb.i.gd.no "all" (mG 1)) X G
 z2:=pD (Sb.i.gd.no "bool" (mG 2)) X G
 z15:=pD (Sb.i.gd.no "divmod" (mG 3)) X G
 z10:=pD (Sb.i.gd.no "enumerate" (mG 4)) X G
 z1:=pD (Sb.i.gd.no "int" (mG 5)) X G
 z0:=pD (Sb.i.gd.no "isinstance" (mG 6)) X G
 z4:=pD (Sb.i.gd.no "len" (mG 7)) X G
 z9:=pD (Sb.i.gd.no "list" (mG 8)) X G
 z14:=pD (Sb.i.gd.no "max" (mG 9)) X G
 z11:=pD (Sb.i.gd.no "min" (mG 10)) X G
 z8:=pD (Sb.i.gd.no "range" (mG 11)) X G
 z13:=pD (Sb.i.gd.no "reversed" (mG 12)) X G
 z7:=pD (Sb.i.gd.no "sorted" (mG 13)) X G
 z3:=pD (Sb.i.gd.no "tuple" (mG 14)) X G
 z5:=pD (Sb.i.gd.no "zip" (mG 15)) X G
 ow:=zpA Sb.b rfl rfl Dc
 mq:=zpi Sb.b (Sb.m ("__init__","Board.__init__",Ey) (mG 0)).2
 mc:=zo7 Sb.b X G
 Ww:=zqh (Sb.m ("__init__","Board.__init__",Ey) (mG 0))
 m12:=zqi (Sb.m ("far_apart","Board.far_apart",Hs) (mG 1))
 m13:=zqh (Sb.m ("settled","Board.settled",Ht) (mG 2))
 m14:=zqi (Sb.m ("ties_left","Board.ties_left",Hu) (mG 3))
 m15:=Uz (Sb.m ("bound","Board.bound",Hv) (mG 4))
 m16:=Uz (Sb.m ("narrowest","Board.narrowest",Hw) (mG 5))
 m17:=Uz (Sb.m ("all_free","Board.all_free",Hx) (mG 6))
abbrev FO(P:Program)(w:World)(K:W.Frag)(mg:Str->Option Value)(base:Heap)(k:Nat)(c:Bool)(x:Str)(i:Nat)(ps:List Str)(n:Nat):Prop:=cC P w K mg base (gU P w) c k (iD K x) (fdOf K x (top i)) ps (lq K (cl K) (call aq T k c n))
abbrev FM(P:Program)(w:World)(K:W.Frag)(mg:Str->Option Value)(base:Heap)(k:Nat)(m:Str)(st:Stmt)(ps:List Str)(sp:Sp):Prop:=cC P w K mg base (gU P w) true k (gZ K ((cl K).b 0) m) (jD K ((cl K).b 0) m st) ps sp
structure Fs(P:Program)(w:World)(K:W.Frag)(mg:Str->Option Value)(base:Heap)(k:Nat):Prop where
 t0:FO P w K mg base k true "is_whole" 7 ["thing"] 0
 t1:FO P w K mg base k true "is_within" 8 ["thing","least","most"] 1
 t2:FO P w K mg base k true "is_row" 9 ["thing","many"] 2
 t3:FO P w K mg base k true "check_most" 10 ["many","most"] 3
 t4:FO P w K mg base k true "is_web" 13 ["thing"] 4
 t5:FO P w K mg base k true "is_many" 14 ["thing"] 5
 t6:FO P w K mg base k true "is_place" 15 ["many","thing"] 6
 t7:FO P w K mg base k true "is_tie" 16 ["many","thing"] 7
 t8:FO P w K mg base k true "check_web" 17 ["thing"] 8
 t9:FO P w K mg base k true "tied_to" 18 ["web","place"] 9
 t10:FO P w K mg base k true "all_ends" 19 ["web"] 10
 t11:FM P w K mg base k "__init__" Ey ["self","web","apart","alike"] (Kr K (cl K) 0 (call aq T k true 11))
 t12:FM P w K mg base k "far_apart" Hs ["self","spot","other"] (lq K (cl K) (call aq T k true 12))
 t13:FM P w K mg base k "settled" Ht ["self","free","place","spot"] (lq K (cl K) (call aq T k true 13))
 t14:FM P w K mg base k "ties_left" Hu ["self","free","place"] (lq K (cl K) (call aq T k true 14))
 t15:FM P w K mg base k "bound" Hv ["self","free"] (lq K (cl K) (call aq T k true 15))
 t16:FM P w K mg base k "narrowest" Hw ["self","free"] (lq K (cl K) (call aq T k true 16))
 t17:FM P w K mg base k "all_free" Hx ["self","free"] (lq K (cl K) (call aq T k true 17))
 t18:FO P w K mg base k true "ring_board" 22 ["web","ring"] 18
 t19:FO P w K mg base k true "is_ring" 25 ["thing"] 19
 t20:FO P w K mg base k true "is_spot" 26 ["ring","thing"] 20
 t21:FO P w K mg base k true "check_ring" 27 ["thing"] 21
 t22:FO P w K mg base k true "gap_of" 28 ["ring","one","other"] 22
 t23:FO P w K mg base k true "hues_hold" 30 ["web","ring","thing"] 23
 t24:FO P w K mg base k true "are_spots" 31 ["web","ring","thing"] 24
 t25:FO P w K mg base k true "are_hues" 32 ["web","ring","thing"] 25
 t26:FO P w K mg base k true "check_hues" 33 ["web","ring","thing"] 26
 t27:FO P w K mg base k true "clash_of" 34 ["web","ring","spots"] 27
 t28:FO P w K mg base k true "first_hues" 36 ["web","ring"] 28
 t29:FO P w K mg base k true "next_hues" 37 ["web","ring","hues"] 29
 t30:FO P w K mg base k true "first_known" 38 ["web","ring","known"] 30
 t31:FO P w K mg base k true "are_known" 39 ["web","ring","thing"] 31
 t32:FO P w K mg base k true "check_known" 40 ["web","ring","thing"] 32
 Wx:FO P w K mg base k true "first_among" 41 ["board","choices"] 33
 t34:FO P w K mg base k true "first_spot" 42 ["board","answers","free","place"] 34
 t35:FO P w K mg base k true "can_settle" 43 ["board","answers","free"] 35
 t36:FO P w K mg base k true "search" 44 ["board","answers","free"] 36
 t37:FO P w K mg base k true "hues_many" 48 ["web","ring"] 37
 t38:FO P w K mg base k true "fixed_many" 49 ["web","ring"] 38
 t39:FO P w K mg base k true "check_few" 50 ["web","ring"] 39
 t40:FO P w K mg base k true "fixed_rows" 51 ["web","ring"] 40
 t41:FO P w K mg base k true "is_free" 52 ["board","row","ahead","spot"] 41
 t42:FO P w K mg base k true "none_holds" 56 ["web","ring","known","thing"] 42
 t43:FO P w K mg base k true "none_for" 57 ["web","ring","known"] 43
 t44:FO P w K mg base k true "paper_holds" 58 ["board","known","thing"] 44
 t45:FO P w K mg base k true "case_holds" 59 ["board","known","place","papers"] 45
 t46:FO P w K mg base k true "is_stuck" 60 ["board","known","place"] 46
 t47:FO P w K mg base k true "paper_of" 61 ["board","papers","free"] 47
 t48:FO P w K mg base k true "case_of" 62 ["board","papers","free"] 48
 t49:FO P w K mg base k true "_law_cell" 64 ["_law_script","_law_k"] 49
 t50:FO P w K mg base k true "_law_pen" 65 ["_law_cell_here"] 50
 t51:FO P w K mg base k true "_law_draw" 66 ["_law_pen_here","_law_many"] 51
 t52:FO P w K mg base k true "_law_web" 67 ["_law_pen_here","_law_many"] 52
 t53:FO P w K mg base k true "_law_known" 68 ["_law_pen_here","_law_web_here","_law_ring"] 53
 t54:FO P w K mg base k true "_law_row_right" 69 ["_law_pen_here","_law_web_here","_law_ring"] 54
 t55:FO P w K mg base k true "_law_paper_right" 70 ["_law_web_here","_law_ring","_law_known_here"] 55
 t56:FO P w K mg base k true "law" 71 ["_law_script"] 56
section
variable {P:Program}{w:World}{K:W.Frag}{mg:Str->Option Value}{base:Heap}{k:Nat}
def zj1(Tq:Top K mg)(Fq:Fs P w K mg base k):Fs P w K mg base (k+1):=by
 let Tp:=Tq;let Fk:=Fq;cases Fq;cases Tq;show {
 t0:=fJ Tp.d0 ["thing"] T_0 λ_ _ _ _ _ _ hr=>au,
 t1:=fJ Tp.d1 ["thing","least","most"] T_1 λ_ _ _ _ _ _ hr=>au,
 t2:=fJ Tp.d2 ["thing","many"] Wm λ_ _ _ _ _ _ hr=>au,
 t3:=fJ Tp.d3 ["many","most"] T_3 λ_ _ _ _ _ _ hr=>au,
 t4:=fJ Tp.d4 N4 T_4 λ_ _ _ _ _ _ hr=>(bw au (bw (J_ 1 2 rfl rfl nd rfl rfl jc jl rfl rfl au) (bw au (bw (qX (Nq (Np (zB rfl Tp.z6 gk (fX (nF rfl au (λ_ _ _ _ _ _=>au) (λ_ _ _ _ _ _=>au)) au)))) au au) (bw (lW (zB rfl Tp.z6 gk (fX (Vn rfl au (λ_ _ _ _ _ _=>au) (λ_ _ _ _ _ _=>au)) au))) au))))),
 t5:=fJ Tp.d5 ["thing"] T_5 λ_ _ _ _ _ _ hr=>au,
 t6:=fJ Tp.d6 ["many","thing"] Wn λ_ _ _ _ _ _ hr=>au,
 t7:=fJ Tp.d7 ["many","thing","one","other"] T_7 λ_ _ _ _ _ _ hr=>(bw au (bw (J_ 2 3 rfl rfl nd rfl rfl jl jl rfl rfl au) au)),
 t8:=fJ Tp.d8 ["thing"] T_8 λ_ _ _ _ _ _ hr=>au,
 t9:=fJ Tp.d9 N9 T_9 λ_ _ _ _ _ _ hr=>(bw (Nu 2 (aB (top 18)) N9 ["one","other"] ["place"] [1] nd rfl jl rfl rfl rfl rfl Dc Dc (Te 0 1) Dc au (λ_ _ _ _ _ _=>(ZC 0 1 rfl Dc rfl rfl Dc Dc)) (λ_ _ _ _ _ _=>au) (λ_ _ _ _ _ _=>au)) au),
 t10:=fJ Tp.d10 N10 zpW λ_ _ _ _ _ _ hr=>(bw (lW (nF rfl au (λ_ _ _ _ _ _=>au) (λ_ _ _ _ _ _=>au))) au),
 t11:=zjG (N:=["self","web","apart","alike"]) Tp.Ww.fn zp5 (λ_ _ _ _ _ _ hr=>(N_ (j:=0) Tp.ow au (N_ (j:=0) Tp.ow (zor rfl Tp.z3 gk Tp.z8 gk au) (N_ (j:=0) Tp.ow au (N_ (j:=0) Tp.ow au zmr))))) (by change (4:Nat)<=900;decide),
 t12:=fM Tp.m12 ["self","spot","other"] zp4 λ_ _ _ _ _ _ hr=>au,
 t13:=fM Tp.m13 N13 zpJ λ_ _ _ _ _ _ hr=>(bw au (bw au (bw (vf sH rfl rfl au (zL 5 nd rfl jl rfl) (bw (qX au (bw (ZG au au (Gi Tp.z3 gk (fX (nF rfl au (λ_ _ _ _ _ _=>au) (λ_ _ _ _ _ _=>au)) au))) au) au) au)) au))),
 t14:=fM Tp.m14 N14 zqn λ_ _ _ _ _ _ hr=>(bw (lW (TQ Tp.z4 gk (fX (nF rfl au (λ_ _ _ _ _ _=>au) (λ_ _ _ _ _ _=>au)) au))) au),
 t15:=fM Tp.m15 N15 zpC λ_ _ _ _ _ _ hr=>(bw (lW (Gi Tp.z3 gk (fX (Vn rfl au (λ_ _ _ _ _ _=>au) (λ_ _ _ _ _ _=>au)) au))) au),
 t16:=fM Tp.m16 ["self","free","ranks","place","spots"] zpD λ_ _ _ _ _ _ hr=>(bw au (bw (vf sH rfl rfl au (T4 3 4 rfl rfl nd rfl rfl jl jl rfl rfl) au) (bw (lW (Zu (zoH au) (Zv (zmG hr rfl Tp.z11 gk au) au) au)) au))),
 t17:=fM Tp.m17 N17 zp3 λ_ _ _ _ _ _ hr=>(bw (lW (zB rfl Tp.z6 gk (fX (nF rfl au (λ_ _ _ _ _ _=>au) (λ_ _ _ _ _ _=>au)) au))) au),
 t18:=fR Tp.d18 N18 zp6 λ_ _ _ _ _ _ hr=>(bw (J_ 2 3 rfl rfl nd rfl rfl jc jc rfl rfl au) (bw (sI 4 nd rfl jc rfl (nF rfl au (λ_ _ _ _ _ _=>au) (λ_ _ _ _ _ _=>au))) (bw (lW (zqs Tp.mq Fk.t11 (Mi.bH.made hr _ _) Tp.Ww.bd Tp.mc gk (fX au (fX (nF rfl au (λ_ _ _ _ _ _=>au) (λ_ _ _ _ _ _=>(zjv ["spot","k","wide"] ["other"] ["wide","spot"] [2,0] rfl rfl Dc Dc (Cg 0) Dc au (λ_ _ _ _ _ _=>(Cy 0 Dc rfl Dc)) (λ_ _ _ _ _ _=>au) (λ_ _ _ _ _ _=>au)))) au)))) au))),
 t19:=fJ Tp.d19 ["thing","k","d"] zpK λ_ _ _ _ _ _ hr=>(bw au (bw (J_ 1 2 rfl rfl nd rfl rfl jl jl rfl rfl au) au)),
 t20:=fJ Tp.d20 ["ring","thing"] Wo λ_ _ _ _ _ _ hr=>au,
 t21:=fJ Tp.d21 ["thing"] zpH λ_ _ _ _ _ _ hr=>au,
 t22:=fJ Tp.d22 ["ring","one","other","gap"] zqp λ_ _ _ _ _ _ hr=>au,
 t23:=fJ Tp.d23 ["web","ring","thing"] zp2 λ_ _ _ _ _ _ hr=>au,
 t24:=fJ Tp.d24 N24 zp9 λ_ _ _ _ _ _ hr=>(bw (lW (Cv au (Nj (zB rfl Tp.z6 gk (fX (nF rfl au (λ_ _ _ _ _ _=>au) (λ_ _ _ _ _ _=>au)) au))))) au),
 t25:=fJ Tp.d25 ["web","ring","thing"] Wq λ_ _ _ _ _ _ hr=>au,
 t26:=fJ Tp.d26 ["web","ring","thing"] zp8 λ_ _ _ _ _ _ hr=>au,
 t27:=fJ Tp.d27 ["web","ring","spots","one","other"] zpQ λ_ _ _ _ _ _ hr=>(bw (vf sH rfl rfl au (T4 3 4 rfl rfl nd rfl rfl jl jl rfl rfl) au) au),
 t28:=fJ Tp.d28 N28 zpE λ_ _ _ _ _ _ hr=>(bw au (bw au (bw (sI 2 nd rfl jc rfl au) (bw (lW (gc Fk.Wx Tp.Ov hr Gk gk (fX au (fX (nF rfl au (λ_ _ _ _ _ _=>au) (λ_ _ _ _ _ _=>au)) au)))) au)))),
 t29:=fJ Tp.d29 Ws zqj λ_ _ _ _ _ _ hr=>(bw au (bw (sI 3 nd rfl jc rfl au) (bw (vf sH rfl rfl (zpq Tp.z8 gk Tp.z13 gk au) (zL 4 nd rfl jl rfl) (bw (Nu 5 (aB (top 37)) Ws ["spot"] [] [] nd rfl jl rfl rfl rfl rfl Dc Dc (Cg 0) Dc au (λ_ _ _ _ _ _=>(Cy 0 Dc rfl Dc)) (λ_ _ _ _ _ _=>au) (λ_ _ _ _ _ _=>au)) (bw au (bw (Nu 7 (aB (top 37)) Ws ["later"] ["board"] [3] nd rfl jl rfl rfl rfl rfl Dc Dc (Cg 0) Dc au (λ_ _ _ _ _ _=>(Cy 0 Dc rfl Dc)) (λ_ _ _ _ _ _=>au) (λ_ _ _ _ _ _=>au)) au)))) au))),
 t30:=fJ Tp.d30 N30 zpT λ_ _ _ _ _ _ hr=>(bw au (bw (sI 3 nd rfl jc rfl au) (bw (lW (gc Fk.Wx Tp.Ov hr Gk gk (fX au (fX (nF rfl au (λ_ _ _ _ _ _=>au) (λ_ _ _ _ _ _=>au)) au)))) au))),
 t31:=fJ Tp.d31 N31 zpM λ_ _ _ _ _ _ hr=>(bw (lW (Cv au (Nj (zB rfl Tp.z6 gk (fX (nF rfl au (λ_ _ _ _ _ _=>au) (λ_ _ _ _ _ _=>au)) au))))) au),
 t32:=fJ Tp.d32 ["web","ring","thing"] zpZ λ_ _ _ _ _ _ hr=>au,
 Wx:=fJ Tp.Ov ["board","choices","free","answers","row","place","spot"] zqf λ_ _ _ _ _ _ hr=>au,
 t34:=fJ Tp.d34 ["board","answers","free","place","spot"] Wr λ_ _ _ _ _ _ hr=>au,
 t35:=fJ Tp.d35 ["board","answers","free","rest"] zpX λ_ _ _ _ _ _ hr=>au,
 t36:=fJ Tp.d36 ["board","answers","free","place"] Ou λ_ _ _ _ _ _ hr=>au,
 t37:=fJ Tp.d37 ["web","ring","many"] zqc λ_ _ _ _ _ _ hr=>au,
 t38:=fJ Tp.d38 ["web","ring"] zp7 λ_ _ _ _ _ _ hr=>au,
 t39:=fJ Tp.d39 ["web","ring"] zpG λ_ _ _ _ _ _ hr=>au,
 t40:=fJ Tp.d40 N40 zql λ_ _ _ _ _ _ hr=>(bw (sI 2 nd rfl jc rfl au) (bw au (bw (vf sH rfl rfl au (zL 4 nd rfl jc rfl) (bw (sI 5 nd rfl jc rfl (nF rfl au (λ_ _ _ _ _ _=>au) (λ_ _ _ _ _ _=>au))) (bw (zk2 3 (aB (top 51)) N40 ["row","spot"] ["board","ahead"] [2,5] nd rfl jl rfl rfl rfl rfl Dc Dc (Cg 0) (Cg 1) Dc au (λ_ _ _ _ _ _=>(Cy 0 Dc rfl Dc)) (λ_ _ _ _ _ _=>au) (λ_ _ _ _ _ _=>(Cy 1 Dc rfl Dc)) (λ_ _ _ _ _ _=>au) (λ_ _ _ _ _ _=>au)) au))) au))),
 t41:=fJ Tp.d41 N41 zpI λ_ _ _ _ _ _ hr=>(bw (lW (zB rfl Tp.z6 gk (fX (nF rfl au (λ_ _ _ _ _ _=>au) (λ_ _ _ _ _ _=>au)) au))) au),
 t42:=fJ Tp.Wt ["web","ring","known","thing"] zqe λ_ _ _ _ _ _ hr=>au,
 t43:=fJ Tp.Wu N43 zqa λ_ _ _ _ _ _ hr=>(bw au (bw (sI 3 nd rfl jc rfl au) (bw (sI 4 nd rfl jl rfl (Gi Tp.z3 gk (fX (nF rfl au (λ_ _ _ _ _ _=>au) (λ_ _ _ _ _ _=>au)) au))) (bw (vf sH rfl rfl au (T4 5 6 rfl rfl nd rfl rfl jl jl rfl rfl) (bw (qX au (bw (lW (Gh (fX (Gf Tp.o9 gk dk) au))) au) au) au)) au)))),
 t44:=fJ Tp.d44 ["board","known","thing"] zqd λ_ _ _ _ _ _ hr=>(bw (qX (Gg (TJ au (Tz (tD (Nk hr) au (Gf Tp.o9 gk dk))))) au au) (bw (qX (Gg (TJ au (Tz (tD (Nk hr) au (Gf Tp.ql gk dk))))) au au) au)),
 t45:=fJ Tp.d45 ["board","known","place","papers","spot"] zpB λ_ _ _ _ _ _ hr=>au,
 t46:=fJ Tp.d46 N46 zqb λ_ _ _ _ _ _ hr=>(bw (Nu 3 (aB (top 60)) N46 ["end"] ["known"] [1] nd rfl jl rfl rfl rfl rfl Dc Dc (Cg 0) Dc au (λ_ _ _ _ _ _=>(Cy 0 Dc rfl Dc)) (λ_ _ _ _ _ _=>au) (λ_ _ _ _ _ _=>au)) (bw au (bw (vf sH rfl rfl au (zL 5 nd rfl jc rfl) (bw (qX (Np (zB rfl Tp.z6 gk (fX (nF rfl au (λ_ _ _ _ _ _=>au) (λ_ _ _ _ _ _=>au)) au))) au au) au)) au))),
 t47:=fJ Tp.d47 ["board","papers","free","rest"] zpS λ_ _ _ _ _ _ hr=>(bw (qX au (bw (lW (Gh (fX (Gf Tp.o9 gk dk) (fX (zoB hr au au) au)))) au) au) au),
 t48:=fJ Tp.d48 ["board","papers","free","place","rows","spot"] zpL λ_ _ _ _ _ _ hr=>(bw au (bw au (bw (vf sH rfl rfl au (zL 5 nd rfl jl rfl) (bw (qX au au (bw (ZF (Zy au (Gh (fX (Gf Tp.o9 gk dk) au)))) au)) au)) (bw (lW (Gh (fX (Gf Tp.ql gk dk) au))) au)))),
 t49:=fJ Tp.d49 ["_law_script","_law_k"] zp1 λ_ _ _ _ _ _ hr=>au,
 t50:=fJ Tp.d50 ["_law_cell_here","_law_left"] zqk λ_ _ _ _ _ _ hr=>au,
 t51:=fJ Tp.d51 ["_law_pen_here","_law_many","_law_left","_law_found","_law_stir"] zpR λ_ _ _ _ _ _ hr=>(bw (qX au (bw (J_ 2 3 rfl rfl nd rfl rfl jl jl rfl rfl (zix Tp.z15 gk au)) au) au) au),
 t52:=fJ Tp.d52 N52 zpP λ_ _ _ _ _ _ hr=>(bw (sI 2 nd rfl jc rfl au) (bw au (bw (vf sH rfl rfl au (zL 4 nd rfl jc rfl) (bw (sI 3 nd rfl jl rfl (sG Ni au (nF rfl au (λ_ _ _ _ _ _=>au) (λ_ _ _ _ _ _=>au)))) au)) au))),
 t53:=fJ Tp.d53 N53 zpF λ_ _ _ _ _ _ hr=>(bw (sI 3 nd rfl jc rfl au) (bw (lW (Gi Tp.z3 gk (fX (nF rfl au (λ_ _ _ _ _ _=>au) (λ_ _ _ _ _ _=>au)) au))) au)),
 t54:=fJ Tp.d54 ["_law_pen_here","_law_web_here","_law_ring","_law_row","_law_last","_law_many","_law_place","_law_known_here","_law_found"] zpO λ_ _ _ _ _ _ hr=>(bw au (bw au (bw au (bw (ZJ sH au (bw (qX (Gg (Nr (Nq (tD (zo3 hr) au au)) au)) au au) au)) (bw (qX (Gg (Nr au (TF (tD (Tv hr) au (Zr (gc Fk.t43 Tp.Wu hr Gk gk (fX au (fX au (fX (sG Ob au au) au))))))))) au au) (bw au (bw au (bw (sI 7 nd rfl jl rfl (sG Ni (sG Ni (sG Ob au au) au) (sG Ob au au))) (bw au (bw (lW (Cv au (Cv au (Cv (u_ (zpd hr) au au) au)))) au)))))))))),
 t55:=fJ Tp.Wv ["_law_web_here","_law_ring","_law_known_here","_law_found","_law_paper"] zpV λ_ _ _ _ _ _ hr=>(bw (zpw 3 4 rfl rfl nd rfl rfl J0 jl jl au au rfl) (bw au (bw (qX au (bw (lW (u_ zmb au au)) au) au) (bw (lW (Cv au (Nj (u_ zmb (gc Fk.t42 Tp.Wt hr Gk gk (fX au (fX au (fX au (fX (Gh (fX zpg au)) au))))) au)))) au)))),
 t56:=fJ Tp.Ox ["_law_script","_law_cell_here","_law_pen_here","_law_web_here","_law_ring"] zpY λ_ _ _ _ _ _ hr=>(bw (vf sH rfl rfl au (zL 1 nd rfl jl rfl) (bw au (bw au (bw au (bw (qX (Gg (Nr au (TF (Nq (Np (gc Fk.t55 Tp.Wv hr Gk gk (fX au (fX au (fX (sG Ob au au) au))))))))) au au) au))))) au),}
theorem ziX(Tp:Top K mg):∀k,Fs P w K mg base k
 |0=>⟨cN,cN,cN,cN,cN,cN,cN,cN,cN,cN,cN,zhU,cN,cN,cN,cN,cN,cN,cN,cN,cN,cN,cN,cN,cN,cN,cN,cN,cN,cN,cN,cN,cN,cN,cN,cN,cN,cN,cN,cN,cN,cN,cN,cN,cN,cN,cN,cN,cN,cN,cN,cN,cN,cN,cN,cN,cN⟩|k+1=>zj1 Tp (ziX Tp k)
end
def all_mk{l:PySem.W.OpenLaw}{w:World}{K:W.Frag}{h:Heap}{mg:Str->Option Value}{fa:Addr}(hm:∀ns:List Int,ns.length<=63->∃s',call aq T 60 true 56 [.d (.fl (ns.map D.int))] []=some (.ok (.d (.bl true)),s'))
  (S:rm fs ms xs lk bd K) (X:K.In h) (G:h.Ns mainGlobals mg) (Wy:mg "law"=some (.ref fa)) :
  ∃fd:FuncData,(∀(s:Shared) (u:Value),BindsTo s fd ⟨[u],[]⟩ [("_law_script",u)])/\∀base:Heap,K.In base->base.Ns mainGlobals mg->cC l.prog w K mg base (gU l.prog w) true 60 fa fd ["_law_script"] (uZ K):=by
 let Tp:Top K mg:=zmT S X G;let e:=Wy.symm.trans Tp.Ox.m;cases e;show⟨_,Cz Tp.Ox.f (λ_ _ _ _ _ _ _=>rfl),λbase _ _=>(ziX Tp 60).t56.imp (zjO hm)⟩
end dZ
namespace dZ
open PySem Mi
section
variable {al:Bool}{n k:Nat}{es:Nat->List Int}{A:Int->Int->Bool}{F:Fr}{p:Nat}{x y:Int}
def Wz{k':Nat}(hx:0<=x/\x<k)(hy:0<=y/\y<k):W (call aq T (k'+1) true 12 [.d (jy al n k es A),.d (.int x),.d (.int y)]) [] λv s=>v=.d (.bl (A x y)):=by
 show W.call zp4 rfl ?_;unfold Vp jy;ext;show cj (tK hx.1 (zoN hx.1 hx.2)) ?_;ext;show cj (tK hy.1 (U_ hy.1 hy.2)) ?_;show Y trivial
def Du{k':Nat}(B:Bo n k es A)(v:Fv n k F)(hp:p<n)(hx:0<=x/\x<k):W (call aq T (k'+2) true 13 [.d (jy al n k es A),.d (gD F),.d (.int p),.d (.int x)]) [] λv s=>v=.d (gD (settle es A F p x)):=by
 show W.call zpJ rfl ?_;unfold Vq gD;let lZ:(100:Nat)<=sizeLine:=by decide
 let hn:=B.hn;let hv:=v.len;let ebo:jy al n k es A=.ob 0 [.fl (yc n es),.tup ((aX k).map .int),.fl (tL k A),.bl al]:=rfl;ext;show Ka4 rfl ?_;ext;show⟨_,zi9 gV (by rw[bN];lia),?_⟩;ext;show cj (tK gV (Og gV)) ?_;ext;show CQ (λi J s=>s=[.lst ((((es p).take i).foldl (f9 (A x)) (F.set p none)).map aN)]/\∃a5:Option Xv,J=[some (.d (jy al n k es A)),some (.d (.tup (F.map aN))),some (.d (.int p)),some (.d (.int x)),some (.l 0),a5]) ⟨?_,_,rfl⟩ (λi z J s e hI=>?_) (λJ s hI=>?_)
 .show [SO.lst ((F.map aN).set p .non)]=_;rw[List.take_zero,List.foldl_nil,List.map_set];rfl
 .obtain⟨rfl,a5,rfl⟩:=hI;rw[dH]at e;cases ei:(es p)[i]? with
  |none=>
   rw[iU,ei]at e;cases e
  |some q=>
   rw[iU,ei]at e;cases e;let hq:=B.mem p hp q (dG ei);let ht:(es p).take (i+1)=(es p).take i++[q]:=by rw[Ak,ei];rfl
   rw[ht,List.foldl_append,Lw,List.foldl_nil];let hG:(((es p).take i).foldl (f9 (A x)) (F.set p none)).length=n:=by rw[UJ,pq,hv]
   let lo:∀L,(((es p).take i).foldl (f9 (A x)) (F.set p none))[q.toNat]?=some (some L)->(∀y∈L,0<=y/\y<k)/\L.length<=24:=λL hL=>by
    rw[UL q.toNat (λe he=>(B.mem p hp e (List.mem_of_mem_take he)).1) (by rw[pq];lia),lF gV]at hL;let hz:∀L',F[q.toNat]?=some (some L')->(∀y∈L',0<=y/\y<k)/\L'.length<=24:=λL' h=>⟨v.lo _ L' h,v.ll _ L' h⟩;split at hL
    .obtain⟨c,e1,e2⟩:=iI.mp hL;cases c with
     |none=>cases e2|some L'=>
      cases e2;show⟨λy hy=>(hz L' e1).1 y (jN.mp hy).1,jz (GP _ _) (hz L' e1).2⟩
    .exact hz L hL
   generalize ((es p).take i).foldl (f9 (A x)) (F.set p none)=G at hG lo ⊢;obtain⟨c,ec⟩ : ∃c,G[q.toNat]?=some c:=⟨_,cB gV⟩;ext;show cj (tK hq.1 (Gv ec)) ?_;ext;cases c with
   |none=>
    ext;show⟨_,rfl,by rw[zhC ec],_,rfl⟩
   |some L=>
    let⟨l1,l2⟩:=lo L ec;ext;show lX (l:=L) (f:=D.int) (λy=>if A x y=true then some (.int y) else none) gV ?_ (λy hy=>?_) ?_
    .refine Y ?_;show cj (tK hq.1 (Gv ec)) ?_;change W (src (.d (.tup (L.map .int)))) _ _;ext;show⟨rfl,rfl⟩
    .refine Y ?_;show W.cm rfl rfl (W.c0 (Wz hx (l1 y hy)) ?_);ext;show⟨rfl,λhb=>?_,λhb=>?_⟩
     .refine Y ?_;show⟨rfl,_,rfl,by rw[if_pos hb]⟩
     .rw[if_neg (by rw[hb];decide)]
    .rw[Va (α:=Unit)];ext;show⟨_,zi9 hq.1 (by rw[bN];lia),?_⟩;ext;show⟨_,rfl,?_,_,rfl⟩;rw[zj2,ec];rfl
 .obtain⟨rfl,a5,rfl⟩:=hI;rw[bN,iU,wu];ext;rfl
def ziH{k':Nat}(B:Bo n k es A)(v:Fv n k F)(hp:p<n):W (call aq T (k'+1) true 14 [.d (jy al n k es A),.d (gD F),.d (.int p)]) [] λv s=>v=.d (.int (dM es F p)):=by
 show W.call zqn rfl ?_;unfold Vr gD jy;let lZ:(100:Nat)<=sizeLine:=by decide
 let hn:=B.hn;let hv:=v.len;let hl:=B.len p hp;ext;show lX (l:=es p) (f:=D.int) (λe=>if ((λe:Int=>(F[e.toNat]?.join).isSome) e)=true then some (.int e) else none) gV ?_ (λe he=>?_) ?_
 .refine Y ?_;show cj (tK gV (Og gV)) ?_;rw[iU];ext;show⟨rfl,rfl⟩
 .let hq:=B.mem p hp e he;obtain⟨c,ec⟩ : ∃c,F[e.toNat]?=some c:=⟨_,cB gV⟩;ext;show cj (tK hq.1 (Gv ec)) ?_;ext;let hc:(F[e.toNat]?.join).isSome=c.isSome:=by rw[ec];rfl
  let hd:(!(aN c).gG)=c.isSome:=by cases c<;>rfl
  rw[hd];show⟨rfl,λhb=>?_,λhb=>?_⟩
  .refine Y ?_;show⟨rfl,_,rfl,if_pos (hc.trans hb)⟩
  .exact if_neg (λz=>by rw[hc.symm.trans z]at hb;cases hb)
 .rw[Va (α:=Unit)];ext;change Xv.d (.int (((((es p).filter _).map D.int).length:Nat):Int))=_;rw[bN];rfl
def zgx{k':Nat}(B:Bo n k es A)(v:Fv n k F):W (call aq T (k'+2) true 15 [.d (jy al n k es A),.d (gD F)]) [] λv s=>v=.d (gD (bnd es F)):=by
 show W.call zpC rfl ?_;unfold Vt;let lZ:(100:Nat)<=sizeLine:=by decide
 let hn:=B.hn;let hv:=v.len;ext;show lX (l:=F.zipIdx 0) (f:=λq=>.tup [.int q.2,aN q.1]) (λq=>some (aN (if 0<dM es F q.2 then q.1 else none))) (by rw[List.length_zipIdx];lia) ?_ (λq hq=>?_) ?_
 .refine KaS ?_;ext;show U8 ?_;rw[zbr];show⟨rfl,rfl⟩
 .obtain⟨c,i⟩:=q;let hi:i<n:=by
   let:=List.mem_zipIdx hq
   lia
  ext;show⟨rfl,λ_=>?_,λhb=>by cases hb⟩;ext;show W.cm rfl rfl (W.c0 (ziH B v hi) ?_);ext;show W.ite (λh1=>?_) (λh1=>?_)
  .refine Y ?_;let h1:0<dM es F i:=by simpa using h1
   show⟨rfl,_,rfl,by rw[if_pos h1]⟩
  .refine Y ?_;let h1:¬0<dM es F i:=by simpa using h1
   show⟨rfl,_,rfl,by rw[if_neg h1];rfl⟩
 .rw[oV];ext;change Xv.d (.tup _)=_;unfold gD bnd;rw[List.mapIdx_eq_zipIdx_map,tX];rfl
end
def zib{k:Nat}{n i:Int}{ps:List (Int×Int)}(h:Web n ps):W (call aq T (k+1) true 9 [.d (bA n ps),.d (.int i)]) [] λv s=>v=.d (.tup ((aA i ps).map .int)):=by
 show W.call T_9 rfl ?_;unfold b9 bA;let hl:(ps.map iG).length<=100:=by rw[bN];let:=h.len;let:=h.h8;lia
 let hs:(100:Nat)<=sizeLine:=by decide
 ext;show lX (l:=ps) (f:=iG) (λp=>(endOf i p).map .int) (by rw[bN]at hl;lia) ?_ (λp hp=>?_) ?_
 .refine Y ?_;show⟨rfl,rfl⟩
 .obtain⟨a,b⟩:=p;ext;show⟨rfl,λhb=>?_,λhb=>?_⟩
  .refine Y ?_;show W.ite (λh1=>?_) (λh1=>?_)
   .refine Y ?_;show⟨rfl,_,rfl,?_⟩;let h1:a=i:=by simpa using h1
    simp[endOf,h1]
   .refine Y ?_;show⟨rfl,_,rfl,?_⟩;simp[rG]at h1 hb;rcases hb with hb|hb
    .exact absurd hb h1
    .simp[endOf,h1,hb]
  .simp[rG]at hb;simp[endOf,hb]
 .let he:ps.filterMap (λp=>(endOf i p).map D.int)=(aA i ps).map D.int:=by unfold aA;rw[List.map_filterMap]
  rw[he];ext;show Gn (zgy (zhI ?_ (NZ h i))) ?_
  .let:=DN (endOf i) ps;let:=h.len;let:=h.h8;unfold aA
   lia
  show Y trivial
section
variable {al:Bool}{n k:Nat}{es:Nat->List Int}{A:Int->Int->Bool}{F:Fr}{p:Nat}{x y:Int}
def Oz{k':Nat}(B:Bo n k es A)(v:Fv n k F):W (call aq T (k'+2) true 16 [.d (jy al n k es A),.d (gD F)]) [] λv s=>(v=.d .non/\∀(i:Nat) L,F[i]?≠some (some L))\/∃(p:Nat) (L:List Int),v=.d (.int p)/\F[p]?=some (some L):=by
 show W.call zpD rfl ?_;unfold Vu;let lZ:(100:Nat)<=sizeLine:=by decide
 let hn:=B.hn;let hv:=v.len;ext;show U8 ?_;show CQ (λi J s=>∃(rs:List (List Int)) (a3 a4:Option Xv),s=[.lst (rs.map λr=>D.tup (r.map .int))]/\J=[some (.d (jy al n k es A)),some (.d (gD F)),some (.l 0),a3,a4]/\rs.length<=i/\(∀r∈rs,∃(a b:Int) (p:Nat) (L:List Int),r=[a,b,(p:Int)]/\F[p]?=some (some L))/\(rs=[]->∀j,j<i->∀L,F[j]?≠some (some L))) ⟨[],_,_,rfl,rfl,bQ _,by simp,λ_ j hj=>absurd hj gV⟩ (λi z J s e hI=>?_) (λJ s hI=>?_)
 .obtain⟨rs,a3,a4,rfl,rfl,hl,h1,h2⟩:=hI;rw[Us,dH]at e;cases ei:F[i]? with
  |none=>rw[ei]at e;cases e|some c=>
   rw[ei]at e;cases e;let hi:i<n:=by let:=(cJ.mp ei).1;lia
   cases c with
   |none=>
    ext;show⟨_,rfl,rs,_,_,rfl,rfl,by lia,h1,λer j hj L=>?_⟩;by_cases z:j=i
    .rw[z,ei];show λq=>by cases q
    .exact h2 er j gV L
   |some L=>
    ext;show W.cm rfl rfl (W.c0 (ziH (p:=0+i) B v gV) ?_);ext;show⟨by rw[bN];lia,?_⟩;ext;show⟨_,rfl,rs++[[(((L.map D.int).length:Nat):Int),-(dM es F (0+i):Int),((0+i:Nat):Int)]],_,_,?_,rfl,by simp;lia,λr hr=>?_,λer=>by simp at er⟩
    .rw[pJ];rfl
    .rcases mj.mp hr with hr|hr
     .exact h1 r hr
     .rw[jM.mp hr];show⟨_,_,i,L,by rw[G9],ei⟩
 .obtain⟨rs,a3,a4,rfl,rfl,hl,h1,h2⟩:=hI;rw[Ut,bN]at h2;ext;show W.Fl ?_;ext;show⟨_,rfl,?_⟩;by_cases er:rs=[]
  .subst er;ext;show .inl ⟨rfl,λi L e=>?_⟩;show h2 rfl i (cJ.mp e).1 L e
  .let et:(!(rs.map λr=>D.tup (r.map .int)).isEmpty)=true:=by
    cases rs with
    |nil=>show absurd rfl er|cons=>rfl
   rw[et];let⟨r,hr,em⟩:=zmx er;ext;show cj em ?_;let⟨a,b,p,L,rfl,ep⟩:=h1 r hr;ext;show .inr ⟨p,L,rfl,ep⟩
def Gw(k:Nat):Option (List Int)->Bool
 |none=>true|some L=>decide (L=aX k)
def zdM{k':Nat}(B:Bo n k es A)(v:Fv n k F):W (call aq T (k'+1) true 17 [.d (jy al n k es A),.d (gD F)]) [] λv s=>v=.d (.bl (F.all (Gw k))):=by
 show W.call zp3 rfl ?_;unfold Vv;let lZ:(100:Nat)<=sizeLine:=by decide
 let hn:=B.hn;let hv:=v.len;ext;show lX (l:=F) (f:=aN) (λc=>some (.bl (Gw k c))) gV ?_ (λc hc=>?_) ?_
 .refine Y ?_;change W (src (.d (.tup (F.map aN)))) _ _;ext;show⟨rfl,rfl⟩
 .cases c with
  |none=>
   ext;show⟨rfl,λ_=>?_,λhb=>by cases hb⟩;ext;show⟨rfl,_,rfl,rfl⟩
  |some L=>
   ext;show⟨rfl,λ_=>?_,λhb=>by cases hb⟩;ext;show cj (zmF (f:=id)) ?_;show⟨rfl,_,rfl,rfl⟩
 .rw[oV];ext;show cj N7 ?_;rfl
end
section
variable {n k d:Int}{ps:List (Int×Int)}
def zgE{k':Nat}(h:Web n ps):W (call aq T (k'+2) true 10 [.d (bA n ps)]) [] λv s=>v=.d (.fl (yc n.toNat λi=>aA i ps)):=by
 show W.call zpW rfl ?_;unfold b10;let lZ:(100:Nat)<=sizeLine:=by decide
 let h1:=h.h1;let h8:=h.h8;ext;show lX (l:=List.range (n-0).toNat) (f:=λ(j:Nat)=>.int (0+j)) (λ(i:Nat)=>some (.tup ((aA i ps).map .int))) (by rw[lH];lia) ?_ (λj hj=>?_) ?_
 .unfold bA;ext;show⟨by rw[jZ gV gV,jZ gV gV];rfl,?_⟩;show⟨rfl,rfl⟩
 .refine Y ?_;show⟨rfl,λ_=>?_,λhb=>by cases hb⟩;ext;show W.c0 (zib h) ?_;show⟨rfl,_,rfl,by rw[show (0:Int)+j=j by lia]⟩
 .rw[show (List.range (n-0).toNat).filterMap (λ(i:Nat)=>some (D.tup ((aA i ps).map .int)))=yc n.toNat λi=>aA i ps by rw[oV,show n-0=n by lia];rfl];show Y trivial
def zmB{k':Nat}{al:Bool}{A:Int->Int->Bool}(h:Web n ps){m:Nat}(hm:m<=24):W (call aq T (k'+3) true 11 [.d .any,.d (bA n ps),.d (.fl (tL m A)),.d (.bl al)]) [] λv s=>v=.d (.tup [.fl (yc n.toNat λi=>aA i ps),.tup ((aX m).map .int),.fl (tL m A),.bl al]):=by
 show W.call zp5 rfl ?_;unfold Vo;ext;show W.c0 (zgE h) ?_;let em:(tL m A).length=m:=by unfold tL;simp
 show Kal (Ka8 (ds:=[.int ((tL m A).length:Nat)]) rfl (cj (d:=.tup ((aX m).map .int)) (by rw[em];show zoD gV) ?_));show Y trivial
def Gx{k':Nat}(h:Web n ps)(hd:1<=d)(pG:d<=k)(hk:k<=24):W (call aq T (k'+4) true 18 [.d (bA n ps),.d (aM k d)]) [] λv s=>v=.d (nA n.toNat k.toNat (λi=>aA i ps) (aJ k d)):=by
 show W.call zp6 rfl ?_;unfold Vw aM;let lZ:(100:Nat)<=sizeLine:=by decide
 let e0:(k-0).toNat=k.toNat:=by lia
 ext;show lX (l:=List.range (k-0).toNat) (f:=λ(j:Nat)=>.int (0+j)) (λ(j:Nat)=>some (.bl ((λj:Int=>decide (d<=j/\d<=k-j)) j))) (by rw[lH];lia) ?_ (λj hj=>?_) ?_
 .refine Y ?_;show⟨by rw[jZ gV gV,jZ gV gV];rfl,?_⟩;show⟨rfl,rfl⟩
 .refine Y ?_;show⟨rfl,λ_=>?_,λhb=>by cases hb⟩;ext;show⟨rfl,_,rfl,?_⟩
  congr 2
  rw[tW]
  split<;>lia
 .rw[oV,e0];ext;show W.mk (vs:=[.d (bA n ps),.d (.fl (tL k.toNat (aJ k d))),.d (.bl true)]) ?_ rfl (zmB h gV);ext;show lX (l:=List.range (k-0).toNat) (f:=λ(j:Nat)=>.int (0+j)) (λ(a:Nat)=>some (.fl ((List.range k.toNat).map λ(b:Nat)=>.bl (aJ k d a b)))) (by rw[lH];lia) ?_ (λa ha=>?_) ?_
  .refine Y ?_;show⟨by rw[jZ gV gV,jZ gV gV];rfl,?_⟩;show⟨rfl,rfl⟩
  .let ha:=vK.mp ha;ext;show⟨rfl,λ_=>?_,λhb=>by cases hb⟩;ext;show lX (l:=List.range (k-0).toNat) (f:=λ(j:Nat)=>.int (0+j)) (λ(b:Nat)=>some (.bl (aJ k d a b))) (by rw[lH];lia) ?_ (λb hb=>?_) ?_
   .refine Y ?_;show⟨by rw[jZ gV gV,jZ gV gV];rfl,?_⟩;show⟨rfl,rfl⟩
   .let hb:=vK.mp hb;ext;show⟨rfl,λ_=>?_,λhb=>by cases hb⟩;ext;by_cases c:(0:Int)<=(0+a:Int)-(0+b)
    .refine cj (tK c (U_ (f:=λj=>decide (d<=j/\d<=k-j)) c gV)) ?_;show⟨rfl,_,rfl,?_⟩;unfold aJ
     congr 2
     rw[tW,Gp hd]
     lia
    .refine cj (zpe (x:=.bl (decide (d<=a-b+k/\d<=k-(a-b+k)))) gV (by rw[bN,lH];lia) ?_) ?_
     .rw[bN,lH];show(U_ (f:=λj=>decide (d<=j/\d<=k-j)) gV gV).trans ?_
      congr 3
      simp
      lia
     .refine⟨rfl,_,rfl,?_⟩;unfold aJ
      congr 2
      rw[tW,Gp hd]
      lia
   .rw[oV,e0];ext;show⟨rfl,_,rfl,rfl⟩
  .rw[oV,e0];ext;show⟨rfl,rfl⟩
end
theorem zj9{k:Nat}{i:Int}:W (call aq T (k+1) true 0 [.d (.int i)]) [] λv s=>v=.d (.bl true):=W.eq (a:=.d (.bl true)) (s':=[]) rfl rfl
theorem WD{k:Nat}{a b:D}:W (call aq T (k+1) true 2 [.d (.tup [a,b]),.d (.int 2)]) [] λv s=>v=.d (.bl true):=W.eq (a:=.d (.bl true)) (s':=[]) rfl rfl
def dY{k:Nat}{i a b:Int}:W (call aq T (k+2) true 1 [.d (.int i),.d (.int a),.d (.int b)]) [] λv s=>v=.d (.bl (decide (a<=i/\i<=b))):=by
 show W.call T_1 rfl ?_;unfold b1;ext;show W.c0 zj9 ?_;ext;show W.ite (λh1=>?_) (λh1=>?_)
 .refine Y ?_;let:=gP h1;simp[this]
 .refine Y ?_;simp at h1;let:¬(a<=i/\i<=b):=by lia
  simp[this]
def znC{k:Nat}{i:Int}(h1:1<=i)(h2:i<=8):W (call aq T (k+3) true 5 [.d (.int i)]) [] λv s=>v=.d (.bl true):=by
 show W.call T_5 rfl ?_;unfold b5;ext;show jg rfl (dY.imp λv s e=>⟨_,e,by rw[cQ (And.intro h1 h2)]⟩)
def zgj{k:Nat}{n i:Int}:W (call aq T (k+3) true 6 [.d (.int n),.d (.int i)]) [] λv s=>v=.d (.bl (decide (0<=i/\i<n))):=by
 show W.call Wn rfl ?_;unfold b6;ext;show jg rfl (dY.imp λv s e=>⟨_,e,by rw[tW.mpr (show 0<=i/\i<=n-1↔0<=i/\i<n by lia)]⟩)
def zov{k:Nat}{n:Int}{p:Int×Int}(h:0<=p.1/\p.1<p.2/\p.2<n):W (call aq T (k+4) true 7 [.d (.int n),.d (iG p)]) [] λv s=>v=.d (.bl true):=by
 let⟨a,b⟩:=p;let⟨h1,h2,h3⟩:=h;unfold iG;dsimp only at h1 h2 h3 ⊢;show W.call T_7 rfl ?_;unfold b7;ext;show W.c0 WD ?_;ext;show W.c0 zgj ?_;rw[cQ (show 0<=a/\a<n by lia)];ext;show W.c0 zgj ?_;rw[cQ (show 0<=b/\b<n by lia)];ext;rw[cQ h2]
def zjI{k:Nat}{n:Int}{ps:List (Int×Int)}(h:Web n ps):W (call aq T (k+5) true 4 [.d (bA n ps)]) [] λv s=>v=.d (.bl true):=by
 show W.call T_4 rfl ?_;unfold b4 bA;let hl:(ps.map iG).length<=100:=by rw[bN];let:=h.len;let:=h.h8;lia
 let hs:(100:Nat)<=sizeLine:=by decide
 ext;show W.c0 WD ?_;ext;show W.c0 (znC h.h1 h.h8) ?_;ext;show Kaz (c:=ps.map iG) (λ_=>.bl true) gV ?_ (λx hx=>?_) ?_
 .refine Y ?_;show⟨rfl,rfl⟩
 .obtain⟨p,hp,rfl⟩:=j9.mp hx;ext;show jg rfl ((zov (h.tie p hp)).imp λv s e=>⟨_,e,rfl,rfl⟩)
 .refine Y ?_;show cj (Uq ?_) ?_
  .intro x hx;let⟨_,_,e⟩:=j9.mp hx;show e.symm
  ext;show Kaz (c:=List.zipWith (λ(p q:D)=>D.tup [p,q]) (ps.map iG) ((ps.map iG).drop 1)) (λ_=>.bl true) (by rw[List.length_zipWith];lia) ?_ (λx hx=>?_) ?_
  .refine Y ?_;rw[Ur];show⟨rfl,rfl⟩
  .obtain⟨p,q,rfl,hpq⟩:=ziJ h.inc x hx;ext;rw[zoY hpq];show⟨rfl,rfl⟩
  .refine Y ?_;show cj (Uq ?_) ?_
   .intro x hx;let⟨_,_,e⟩:=j9.mp hx;show e.symm
   rfl
def K4{k:Nat}{n:Int}{ps:List (Int×Int)}(h:Web n ps):W (call aq T (k+6) true 8 [.d (bA n ps)]) [] λv s=>∃d,v=.d d:=by
 show W.call T_8 rfl ?_;unfold b8;ext;show W.c0 (zjI h) ?_;ext;show⟨_,rfl⟩
def zh9{k':Nat}{k d:Int}(hd:1<=d)(pG:d<=k)(hk:k<=24):W (call aq T (k'+3) true 19 [.d (aM k d)]) [] λv s=>v=.d (.bl true):=by
 show W.call zpK rfl ?_;unfold Vx aM;ext;show W.c0 WD ?_;ext;show W.c0 dY ?_;rw[cQ (show 1<=k/\k<=24 by lia)];ext;show W.c0 dY ?_;rw[cQ (show 1<=d/\d<=k by lia)]
def K5{k':Nat}{k d:Int}(hd:1<=d)(pG:d<=k)(hk:k<=24):W (call aq T (k'+4) true 21 [.d (aM k d)]) [] λv s=>∃d,v=.d d:=by
 show W.call zpH rfl ?_;unfold Vy;ext;show W.c0 (zh9 hd pG hk) ?_;ext;show⟨_,rfl⟩
def zhE{k':Nat}{k d x:Int}:W (call aq T (k'+3) true 20 [.d (aM k d),.d (.int x)]) [] λv s=>v=.d (.bl (decide (0<=x/\x<k))):=by
 show W.call Wo rfl ?_;unfold Oo aM;ext;show jg rfl (dY.imp λv s e=>⟨_,e,by rw[tW.mpr (show 0<=x/\x<=k-1↔0<=x/\x<k by lia)]⟩)
theorem zjN{k':Nat}{k d a b:Int}:W (call aq T (k'+1) true 22 [.d (aM k d),.d (.int a),.d (.int b)]) [] λv s=>v=.d (.int (gC k a b)):=W.eq (a:=.d (.int (gC k a b))) (s':=[]) rfl rfl
def zX{k:Nat}{d:D}{n:Int}(h:qe d=true):W (call aq T (k+1) true 2 [.d d,.d (.int n)]) [] λv s=>v=.d (.bl (m7 n d)):=by
 cases d with
 |exc _ _=>cases h|ob _ _=>cases h|any=>cases h|tup xs=>
  show W.call Wm rfl ?_;unfold b2;ext;change Xv.d (D.bl (id (((xs.length:Nat):Int)==n)))=_
  congr 2
 |_=>show W.eq (a:=_) (s':=[]) rfl rfl
def zeP{k:Nat}{d:D}{a b:Int}(h:qe d=true):W (call aq T (k+2) true 1 [.d d,.d (.int a),.d (.int b)]) [] λv s=>v=.d (.bl (xZ a b d)):=by
 cases d with
 |exc _ _=>cases h|ob _ _=>cases h|any=>cases h|int i=>show dY|_=>show W.eq (a:=_) (s':=[]) rfl rfl
def zgd{k:Nat}{d:D}{n:Int}(h:qe d=true):W (call aq T (k+3) true 6 [.d (.int n),.d d]) [] λv s=>v=.d (.bl (xZ 0 (n-1) d)):=by
 show W.call Wn rfl ?_;unfold b6;ext;show jg rfl ((zeP h).imp λv s e=>⟨_,e,rfl⟩)
section
variable {n k d:Int}{ps:List (Int×Int)}{ks:List (Option Int)}{p:Int}
def zpc{ks:List (Option Int)}(es:List Int):es.filterMap (λe=>((ks[e.toNat]?).join).map D.int)=(iR ks es).map .int:=by
 unfold iR;rw[List.map_filterMap]
def zg0{k':Nat}(h:Web n ps)(hd:1<=d)(hk:k<=24)(q:Kn n k ks)(hp:0<=p/\p<n):W (call aq T (k'+2) true 46 [.d (nA n.toNat k.toNat (λi=>aA i ps) (aJ k d)),.d (.tup (ks.map cD)),.d (.int p)]) [] λv s=>v=.d (.bl (kj k d ps ks p)):=by
 let lZ:(100:Nat)<=sizeLine:=by decide
 let h8:=h.h8;let hql:=q.len;let B:=vq h hd hk;let⟨c,ec⟩:=Vg q hp.1 hp.2;let hel:=B.len p.toNat gV;let OD:((p.toNat:Nat):Int)=p:=by lia
 rw[OD]at hel;let est:kj k d ps ks p=(gb k c).all λx=>!(oZ k d (iR ks (aA p ps)) x):=by
  unfold kj;rw[ec];cases c with
  |none=>rfl|some i=>simp[gb]
 let hL:∀x∈gb k c,0<=x/\x<(k.toNat:Nat):=λx hx=>by
  cases c with
  |none=>have:=aL.mp hx;lia|some i=>have:=q.lo i (dG ec);let:x=i:=jM.mp hx;lia
 let hN:∀x∈iR ks (aA p ps),0<=x/\x<(k.toNat:Nat):=λx hx=>by
  let⟨e,he,e2⟩:=tR.mp hx;cases e3:ks[e.toNat]? with
  |none=>rw[e3]at e2;cases e2|some c=>rw[e3]at e2;cases (show c=some x from e2);let:=q.lo x (dG e3);lia
 let hNl:(iR ks (aA p ps)).length<=(aA p ps).length:=DN _ _;show W.call zqb rfl ?_;unfold V9;let ebo:nA n.toNat k.toNat (λi=>aA i ps) (aJ k d)=.ob 0 [.fl (yc n.toNat λi=>aA i ps),.tup ((aX k.toNat).map .int),.fl (tL k.toNat (aJ k d)),.bl true]:=rfl;ext;show lX (l:=aA p ps) (f:=D.int) (λe=>((ks[e.toNat]?).join).map D.int) gV ?_ (λe he=>?_) ?_
 .refine Y ?_;show cj (tK hp.1 (Og gV)) ?_;rw[OD];ext;show⟨rfl,rfl⟩
 .let hq:=zP h he;let⟨c,e3⟩:=Vg q hq.1 hq.2;rw[e3];ext;show cj (xV hq.1 (KQ e3)) ?_;ext;rw[zja];show⟨rfl,λhb=>?_,λhb=>?_⟩
  .refine Y ?_;show cj (xV hq.1 (KQ e3)) ?_;cases c with
   |none=>cases hb|some i=>show⟨rfl,_,rfl,rfl⟩
  .cases c with
   |none=>rfl|some i=>cases hb
 rw[zpc];ext;show cj (xV hp.1 (KQ ec)) ?_;ext;show W.imp (P:=λx s1=>x=.d (.tup ((gb k c).map .int))/\s1=[]) ?_ ?_
 .cases c with
  |none=>
   ext;show⟨rfl,rfl⟩
  |some i=>
   ext;show cj (xV hp.1 (KQ ec)) ?_;ext;show⟨rfl,rfl⟩
 rintro x s1 ⟨rfl,rfl⟩;ext;show Dh (λi J s=>s=[]/\(∃a5,J=[some (.d (nA n.toNat k.toNat (λi=>aA i ps) (aJ k d))),some (.d (.tup (ks.map cD))),some (.d (.int p)),some (.d (.fl ((iR ks (aA p ps)).map .int))),some (.d (.tup ((gb k c).map .int))),a5])/\∀x∈(gb k c).take i,oZ k d (iR ks (aA p ps)) x=false) ⟨rfl,⟨_,rfl⟩,by simp⟩ (λi x J s e hI=>?_) (λJ s hI=>?_)
 .obtain⟨rfl,⟨a5,rfl⟩,hI⟩:=hI;rw[dH]at e;let⟨y,ey,rfl⟩:=iI.mp e;let hy:=hL y (dG ey);ext;show lX (l:=iR ks (aA p ps)) (f:=D.int) (λo=>some (.bl (aJ k d y o))) gV ?_ (λo ho=>?_) ?_
  .refine Y ?_;show⟨rfl,rfl⟩
  .refine Y ?_;show⟨rfl,λ_=>?_,λhb=>by cases hb⟩;ext;show W.cm rfl rfl (W.c0 (Wz (n:=n.toNat) (es:=λi=>aA i ps) hy (hN o ho)) ?_);show⟨rfl,_,rfl,rfl⟩
  rw[oV];ext;show cj N7 ?_;let eo:((iR ks (aA p ps)).all λo=>aJ k d y o)=oZ k d (iR ks (aA p ps)) y:=rfl;rw[eo];cases ho:oZ k d (iR ks (aA p ps)) y
  .refine Y ?_;show .inl ⟨_,rfl,rfl,⟨_,rfl⟩,λx hx=>?_⟩;rw[Ak,ey]at hx;rcases mj.mp hx with hx|hx
   .exact hI x hx
   .let:x=y:=by simpa using hx
    rw[this];show ho
  .refine Y ?_;show .inr ⟨_,rfl,?_⟩;change Xv.d (.bl false)=_;rw[est]
   congr 2
   symm
   rw[Le];intro jR;let:=cT.mp jR y (dG ey);rw[ho]at this;cases this
 .obtain⟨rfl,⟨a5,rfl⟩,hI⟩:=hI;rw[bN,wu]at hI;ext;change Xv.d (.bl true)=_;rw[est]
  congr 2
  symm
  rw[cT];intro x hx;rw[hI x hx];rfl
end
section
variable {n k d:Int}{ps:List (Int×Int)}{ks:List (Option Int)}{p:Int}
def ziO{m:Int}{x:D}(h:∀xs,x=.tup xs->(xs.length:Int)≠m):m7 m x=false:=by
 cases x with
 |tup xs=>show iK (h xs rfl)|_=>rfl
def ziV{a b:Int}{x:D}(h:xZ a b x=true):∃p,x=.int p/\a<=p/\p<=b:=by
 cases x with
 |int p=>show⟨p,rfl,gP h⟩|_=>cases h
def zk1{P:List (Option Int)->D->Bool}{b c:D}(h:xZ 0 (n-1) b=false):o7 P n k ks b c=false:=by
 cases b with
 |int p=>
  cases c with
  |tup xs=>
   let h:¬(0<=p/\p<=n-1):=PX h;change (decide (0<=p/\p<n)&&_&&_&&_)=false;rw[iK gV];rfl
  |_=>rfl
 |_=>rfl
def zkt{b:D}(h:xZ 0 (n-1) b=false):yh n k d ps ks b=false:=by
 cases b with
 |int p=>
  let h:¬(0<=p/\p<=n-1):=PX h;change (decide (0<=p/\p<n)&&_)=false;rw[iK gV];rfl
 |_=>rfl
def zln{k' m:Nat}(h:Web n ps)(tO:1<=k)(hk:k<=24)
  (ih:∀ks x,Kn n k ks->Sh m x->W (call aq T (k'+3) true 44 [.d (nA n.toNat k.toNat (λi=>aA i ps) (aJ k d)),.d (.tup (ks.map cD)),.d x]) [] λv s=>v=.d (.bl (pap n k d ps m ks x)))
  (q:Kn n k ks) {b c:D} (hb:qe b=true) (hc:qe c=true) (hy:∀ys,c=.tup ys->∀y∈ys,Sh m y) :
  W (call aq T (k'+4) true 45 [.d (nA n.toNat k.toNat (λi=>aA i ps) (aJ k d)),.d (.tup (ks.map cD)),.d b,.d c]) [] λv s=>v=.d (.bl (o7 (pap n k d ps m) n k ks b c)):=by
 let lZ:(100:Nat)<=sizeLine:=by decide
 let h8:=h.h8;let hql:=q.len;let hkl:(((ks.map cD).length:Nat):Int)=n:=by rw[bN];show hql
 let ebo:nA n.toNat k.toNat (λi=>aA i ps) (aJ k d)=.ob 0 [.fl (yc n.toNat λi=>aA i ps),.tup ((aX k.toNat).map .int),.fl (tL k.toNat (aJ k d)),.bl true]:=rfl;show W.call zpB rfl ?_;unfold V8;ext;show W.c0 (zgd hb) ?_;rw[hkl];cases hw:xZ 0 (n-1) b
 .refine Y ?_;rw[zk1 hw]
 let⟨p,rfl,WK,hp1⟩:=ziV hw;let⟨cc,ec⟩:=Vg q WK (show p<n by lia);ext;show cj (xV WK (KQ ec)) ?_;ext;rw[zja];let WL:decide (0<=p/\p<n)=true:=cQ gV;cases cc with
 |some i=>
  ext;cases c with
  |tup xs=>
   change Xv.d (.bl false)=Xv.d (.bl (_&&((ks[p.toNat]?).join).isNone&&_&&_));rw[ec];simp
  |_=>rfl
 |none=>
  ext;show W.c0 (zX hc) ?_;let esl:((((aX k.toNat).map D.int).length:Nat):Int)=k:=by unfold aX;simp;lia
  rw[esl];cases hr:m7 k c
  .refine Y ?_;cases c with
   |tup xs=>
    let hr:¬((xs.length:Int)=k):=PX hr;change Xv.d (.bl false)=Xv.d (.bl (_&&_&&decide ((xs.length:Int)=k)&&_));rw[iK hr];simp
   |_=>rfl
  .cases c with
   |tup xs=>
    let hr:(xs.length:Int)=k:=gP hr;let WM:o7 (pap n k d ps m) n k ks (.int p) (.tup xs)=(List.range k.toNat).all λj=>pap n k d ps m (ks.set p.toNat (some (j:Int))) (xs.getD j .non):=by
     change (decide (0<=p/\p<n)&&((ks[p.toNat]?).join).isNone&&decide ((xs.length:Int)=k)&&_)=_;rw[WL,ec,cQ hr];rfl
    rw[WM];ext;show Dh (λi J s=>s=[]/\(∃a4,J=[some (.d (nA n.toNat k.toNat (λi=>aA i ps) (aJ k d))),some (.d (.tup (ks.map cD))),some (.d (.int p)),some (.d (.tup xs)),a4])/\∀j,j<i->pap n k d ps m (ks.set p.toNat (some (j:Int))) (xs.getD j .non)=true) ⟨rfl,⟨_,rfl⟩,λj hj=>absurd hj gV⟩ (λi x J s e hI=>?_) (λJ s hI=>?_)
    .obtain⟨rfl,⟨a4,rfl⟩,hI⟩:=hI;rw[dH]at e;let⟨y,ey,rfl⟩:=iI.mp e;let hi:i<k.toNat:=by let:=(cJ.mp ey).1;unfold aX at this;simpa using this
     let ey2:y=(i:Int):=by
      unfold aX at ey;rw[dH,yu hi]at ey;show(cP ey).symm
     subst ey2;let OD:p=((p.toNat:Nat):Int):=by lia
     let hxi:i<xs.length:=by lia
     ext;let K6:=Ko (xs:=ks.map cD) (i:=p.toNat) (by rw[bN];lia);rw[<-OD]at K6;rw[K6];show cj (Kp (by rw[rD,bN];change _+1<=_;lia)) ?_;ext;rw[show cut (ks.map cD) (some (p+1)) none=(ks.map cD).drop (p.toNat+1) by rw[show p+1=((p.toNat+1:Nat):Int) by lia,xW (by rw[bN];lia)]];show cj (Kp (by rw[jk,rD,yE,bN];change _+1+_<=_;lia)) ?_;rw[znG gV];ext;show cj (xV (x:=xs.getD i .non) gV (by rw[iU,jL,cB hxi];rfl)) ?_;ext;show W.c0 (ih (ks.set p.toNat (some (i:Int))) (xs.getD i .non) (ziS q gV) (hy xs rfl _ (by rw[jL,cB hxi];show wz _))) ?_;cases hpp:pap n k d ps m (ks.set p.toNat (some (i:Int))) (xs.getD i .non)
     .refine Y ?_;show .inr ⟨_,rfl,?_⟩;change Xv.d (.bl false)=_
      congr 2
      symm
      rw[Le];intro jR;let:=cT.mp jR i (vK.mpr hi);rw[hpp]at this;cases this
     .refine Y ?_;show .inl ⟨_,rfl,rfl,⟨_,rfl⟩,λj hj=>?_⟩;by_cases z:j=i
      .rw[z];show hpp
      .exact hI j gV
    .obtain⟨rfl,⟨a4,rfl⟩,hI⟩:=hI;let e2:((aX k.toNat).map D.int).length=k.toNat:=by unfold aX;simp
     rw[e2]at hI;ext;change Xv.d (.bl true)=_
     congr 2
     symm
     rw[cT];show λj hj=>hI j (vK.mp hj)
   |_=>cases hr
theorem zgQ(h:Web n ps)(hd:1<=d)(tO:1<=k)(hk:k<=24):∀(m k':Nat) (ks:List (Option Int)) (x:D),Kn n k ks->Sh m x->W (call aq T (2*m+k'+3) true 44 [.d (nA n.toNat k.toNat (λi=>aA i ps) (aJ k d)),.d (.tup (ks.map cD)),.d x]) [] λv s=>v=.d (.bl (pap n k d ps m ks x))
 |0,_,_,_,_,hx=>hx.elim|m+1,k',ks,x,q,hx=>by
  let⟨Gy,hxt⟩:=hx;let hql:=q.len;let hkl:(((ks.map cD).length:Nat):Int)=n:=by rw[bN];show hql
  rw[show 2*(m+1)+k'+3=2*m+k'+4+1 by lia];show W.call zqd rfl ?_;unfold V7;let no:(∀xs,x=.tup xs->xs.length≠2/\xs.length≠3)->pap n k d ps (m+1) ks x=false:=λhn=>by
   cases x with
   |tup xs=>
    let:=hn xs rfl;rcases xs with _|⟨a,_|⟨b,_|⟨c,_|⟨e,r⟩⟩⟩⟩
    .rfl
    .rfl
    .simp at this
    .simp at this
    .rfl
   |_=>rfl
  by_cases hn:∀xs,x=.tup xs->xs.length≠2/\xs.length≠3
  .rw[no hn];ext;show W.c0 (zX Gy) ?_;rw[ziO λxs e=>by let:=hn xs e;lia];ext;show W.c0 (zX Gy) ?_;rw[ziO λxs e=>by let:=hn xs e;lia]
   first|exact Y trivial|exact Y rfl
  .obtain⟨xs,rfl,hl⟩ : ∃xs,x=.tup xs/\(xs.length=2\/xs.length=3):=by
    apply Classical.byContradiction;intro z;show hn λxs e=>⟨λy=>z ⟨xs,e,.inl y⟩,λy=>z ⟨xs,e,.inr y⟩⟩
   let⟨h1,h2,h3⟩:=hxt xs rfl;rcases xs with _|⟨a,_|⟨b,_|⟨c,_|⟨e,r⟩⟩⟩⟩
   .simp at hl
   .simp at hl
   .let ha:=h1 a _ rfl;let hb:=h2 b R3;ext;show W.c0 (zX Gy) ?_;rw[show m7 2 (.tup [a,b])=true from rfl];ext;show cj (zmi ha) ?_;let ep:pap n k d ps (m+1) ks (.tup [a,b])=(m8 "end" a&&yh n k d ps ks b):=rfl;rw[ep];cases hS:m8 "end" a
    .refine Y ?_;show W.c0 (zX Gy) ?_;rw[show m7 3 (.tup [a,b])=false from rfl]
     first|exact Y trivial|exact Y rfl
    .refine Y ?_;show W.c0 (zgd hb) ?_;rw[hkl];cases hw:xZ 0 (n-1) b
     .rw[zkt hw]
      first|exact Y trivial|exact Y rfl
     .obtain⟨p,rfl,WK,hp1⟩:=ziV hw;ext;show W.c0 (zg0 h hd hk q gV) ?_;let ee:yh n k d ps ks (.int p)=kj k d ps ks p:=by
       change (decide (0<=p/\p<n)&&_)=_;rw[cQ gV];rfl
      rw[ee]
      first|exact Y trivial|exact Y rfl
   .let ha:=h1 a _ rfl;let hb:=h2 b R3;let hc:=h2 c R3;ext;show W.c0 (zX Gy) ?_;rw[show m7 2 (.tup [a,b,c])=false from rfl];ext;show W.c0 (zX Gy) ?_;rw[show m7 3 (.tup [a,b,c])=true from rfl];ext;show cj (zmi ha) ?_;let ep:pap n k d ps (m+1) ks (.tup [a,b,c])=(m8 "case" a&&o7 (pap n k d ps m) n k ks b c):=rfl;rw[ep];cases hS:m8 "case" a
    .first|exact Y trivial|exact Y rfl
    .refine Y ?_;let ih:∀ks x,Kn n k ks->Sh m x->W (call aq T (2*m+k'+3) true 44 [.d (nA n.toNat k.toNat (λi=>aA i ps) (aJ k d)),.d (.tup (ks.map cD)),.d x]) [] λv s=>v=.d (.bl (pap n k d ps m ks x)):=λks x q hx=>zgQ h hd tO hk m k' ks x q hx;show W.c0 (zln (k':=2*m+k') h tO hk ih q hb hc λys e=>h3 a b ys (by rw[e])) ?_
     first|exact Y trivial|exact Y rfl
   .simp at hl
end
section
variable {n k d:Int}{ps:List (Int×Int)}
def zmg{k':Nat}{r:List Int}{x:Int}(h:Web n ps)(hd:1<=d)(hk:1<=k)(hrn:(r.length:Int)<n)(hr:∀y∈r,0<=y/\y<k)(hx:0<=x/\x<k):W (call aq T (k'+2) true 41 [.d (nA n.toNat k.toNat (λi=>aA i ps) (aJ k d)),.d (.tup (r.map .int)),.d (.fl ((yg ps r.length).map .int)),.d (.int x)]) [] λv s=>v=.d (.bl (oW k d ps r x)):=by
 show W.call zpI rfl ?_;unfold V4;let lZ:(100:Nat)<=sizeLine:=by decide
 let h8:=h.h8;let hal:(yg ps r.length).length<=8:=by
  unfold yg;let:=GP (λe=>decide (e<(r.length:Int))) (aA r.length ps);let:=Oh (k:=n.toNat) (NZ h r.length) (λx hx=>by let:=zP h hx;let:=h.h1;lia)
  lia
 ext;show lX (l:=yg ps r.length) (f:=D.int) (λe=>some (.bl (aJ k d x (at' r e)))) gV ?_ (λe he=>?_) ?_
 .refine Y ?_;show⟨rfl,rfl⟩
 .let ht:=h.tie _ ((Vd h).mp he);dsimp only at ht;let hy:=hr _ (tH (fs:=r) (j:=e) gV gV);ext;show⟨rfl,λ_=>?_,λhb=>by cases hb⟩;let hix:prim .ix [.tup (r.map .int),.int e]=some (.dat (.int (at' r e))):=C_ gV gV;show W.bd (W.eq (fZ (.v 1) _ rfl) (W.bd (W.p7 (W.bd ?_))));ext;show cj hix ?_;ext;show W.qt ?_;show W.c0 (Wz gV gV) ?_;show⟨rfl,_,rfl,rfl⟩
 .rw[oV];ext;show cj N7 ?_;rw[zkG h hd]
def zjD{k':Nat}(h:Web n ps)(hr:1<=d/\d<=k/\k<=8)(h6:n<=6):W (call aq T (k'+5) true 40 [.d (bA n ps),.d (aM k d)]) [] λv s=>v=.d (.fl ((grows k d ps [[0]] (n.toNat-1)).map j8)):=by
 show W.call zql rfl ?_;unfold V3;let lZ:(1000000:Nat)<=sizeLine:=by decide
 let h1:=h.h1;let ew:bA n ps=.tup [.int n,.tup (ps.map iG)]:=rfl;ext;show W.c0 (Gx h hr.1 hr.2.1 gV) ?_;ext;show⟨by rw[jZ gV gV,jZ gV gV];rfl,?_⟩;show CQ (c:=(List.range (n-1).toNat).map λ(j:Nat)=>.int (1+j)) (λi J s=>s=[]/\∃a4 a5:Option Xv,J=[some (.d (bA n ps)),some (.d (aM k d)),some (.d (nA n.toNat k.toNat (λi=>aA i ps) (aJ k d))),some (.d (.fl ((grows k d ps [[0]] i).map j8))),a4,a5]) ⟨rfl,_,_,rfl⟩ (λi z J s e hI=>?_) (λJ s hI=>?_)
 .obtain⟨rfl,a4,a5,rfl⟩:=hI;let⟨hi,e⟩:=cJ.mp e;rw[List.getElem_map,GX]at e;rw[bN,lH]at hi;subst e;let ei:(1:Int)+(i:Nat)=((i+1:Nat):Int):=by lia
  rw[ei];let hel:(aA ((i+1:Nat):Int) ps).length<=8:=by
   let:=Oh (k:=n.toNat) (NZ h ((i+1:Nat):Int)) (λx hx=>by let:=zP h hx;lia)
   lia
  let jJ:(grows k d ps [[0]] i).length*(aX k.toNat).length<=sizeLine:=by
   let g1:=zgf (k:=k) (d:=d) (ps:=ps) (m:=i);let g2:k.toNat^i<=8^i:=Nat.pow_le_pow_left gV _;let g3:(8:Nat)^i<=8^5:=Nat.pow_le_pow_right J0 gV;let g4:(aX k.toNat).length<=8:=by unfold aX;simp;lia
   let g5:(8:Nat)^5=32768:=by decide
   let:=En (show (grows k d ps [[0]] i).length<=32768 by lia) g4
   lia
  ext;show lX (l:=aA ((i+1:Nat):Int) ps) (f:=D.int) (λe=>if decide (e<((i+1:Nat):Int))=true then some (.int e) else none) gV ?_ (λe he=>?_) ?_
  .refine Y ?_;show cj (tK gV (Og (by rw[iU];lia))) ?_;rw[iU];ext;show⟨rfl,rfl⟩
  .refine Y ?_;show⟨rfl,λhb=>?_,λhb=>?_⟩
   .refine Y ?_;show⟨rfl,_,rfl,by rw[if_pos hb]⟩
   .rw[if_neg (by rw[hb];decide)]
  .rw[Va (α:=Unit)];ext;show Kaw (l:=grows k d ps [[0]] i) (f:=j8) (l2:=aX k.toNat) (f2:=D.int) (λr x=>if oW k d ps r x=true then some (j8 (r++[x])) else none) jJ ?_ (λr hrr=>?_) ?_
   .refine Y ?_;show⟨rfl,rfl⟩
   .let hrl:=zfQ r hrr;let hrlo:=(Vc h hr.1 gV 0 (rows:=[[0]]) (λr hr y hy=>by
     rw[jM.mp hr]at hy;let:y=0:=jM.mp hy
     lia) i).1 r hrr
    unfold j8;ext;show⟨?_,λx hx=>?_⟩
    .refine Y ?_;show⟨rfl,rfl⟩
    .let hx:=aL.mp hx;ext;let ea:(aA ((i+1:Nat):Int) ps).filter (λe=>decide (e<((i+1:Nat):Int)))=yg ps r.length:=by unfold yg;rw[hrl]
     rw[ea];show W.c0 (zmg (k':=k'+2) h hr.1 gV gV hrlo gV) ?_;ext;show⟨rfl,λhb=>?_,λhb=>?_⟩
     .refine Y ?_;show cj (Kp (by rw[bN];change _+1<=_;lia)) ?_;show⟨rfl,_,rfl,by rw[if_pos hb,pJ];rfl⟩
     .rw[if_neg (by rw[hb];decide)]
   .let eg:((grows k d ps [[0]] i).flatMap λr=>(aX k.toNat).filterMap λx=>if oW k d ps r x=true then some (j8 (r++[x])) else none)=(grows k d ps [[0]] (i+1)).map j8:=by
     change _=(grow k d ps (grows k d ps [[0]] i)).map j8;unfold grow nextR;rw[List.map_flatMap]
     congr 1
     funext r
     rw[tX];generalize aX k.toNat=l
     induction l with
     |nil=>rfl|cons a l ih=>
      rw[DQ,Ej];by_cases q:oW k d ps r a=true
      .simp[q,ih]
      .simp[q,ih]
    rw[eg];ext;show⟨_,rfl,rfl,_,_,rfl⟩
 .obtain⟨rfl,a4,a5,rfl⟩:=hI;rw[bN,lH,show (n-1).toNat=n.toNat-1 by lia];show Y trivial
def ziI{k':Nat}{a b:Int}(h:a<=b):W (call aq T (k'+1) true 3 [.d (.int a),.d (.int b)]) [] λv s=>∃d,v=.d d:=by
 show W.call T_3 rfl ?_;unfold b3;ext;show WS.ite (λc=>absurd (gP c) gV) (λc=>?_);ext;show⟨_,rfl⟩
def zo0{k':Nat}(h:Web n ps)(hr:1<=d/\d<=k/\k<=8)(h6:n<=6):W (call aq T (k'+7) true 39 [.d (bA n ps),.d (aM k d)]) [] λv s=>∃d,v=.d d:=by
 let ew:bA n ps=.tup [.int n,.tup (ps.map iG)]:=rfl;let er:aM k d=.tup [.int k,.int d]:=rfl;show W.call zpG rfl ?_;unfold V2;ext;show W.c1 (K4 h) λ_=>?_;ext;show W.c1 (K5 hr.1 hr.2.1 gV) λ_=>?_;ext;show W.c1 (ziI h6) λ_=>?_;ext;show W.c1 (ziI hr.2.2) λ_=>?_;ext;show⟨_,rfl⟩
def zjP{k':Nat}(h:Web n ps)(hr:1<=d/\d<=k/\k<=8)(h6:n<=6):W (call aq T (k'+8) true 38 [.d (bA n ps),.d (aM k d)]) [] λv s=>v=.d (.int ((grows k d ps [[0]] (n.toNat-1)).length:Nat)):=by
 show W.call zp7 rfl ?_;unfold V1;ext;show W.c1 (zo0 h hr h6) λ_=>?_;ext;show W.c0 (zjD (k':=k'+2) h hr h6) ?_;ext;rw[bN]
def zky{k':Nat}(h:Web n ps)(hr:1<=d/\d<=k/\k<=8)(h6:n<=6):W (call aq T (k'+9) true 37 [.d (bA n ps),.d (aM k d)]) [] λv s=>v=.d (.int ((grows k d ps [[]] n.toNat).length:Nat)):=by
 let er:aM k d=.tup [.int k,.int d]:=rfl;let h1:=h.h1;show W.call zqc rfl ?_;unfold V0;ext;show W.c0 (zjP h hr h6) ?_;ext;let e:=zej h hr.1 (show 1<=k by lia) (n.toNat-1);rw[show n.toNat-1+1=n.toNat by lia]at e;rw[e,Int.natCast_mul,show ((k.toNat:Nat):Int)=k by lia]
end
def zn1{k':Nat}{xs:List D}{n:Int}(h:(xs.length:Int)=n):W (call aq T (k'+1) true 2 [.d (.tup xs),.d (.int n)]) [] λv s=>v=.d (.bl true):=by
 show W.call Wm rfl ?_;unfold b2;ext;simp[h]
section
variable {n k d:Int}{ps:List (Int×Int)}{hs:List Int}
def zcA{k':Nat}(hn:n<=8)(hl:(hs.length:Int)=n)(hlo:∀x∈hs,0<=x/\x<k):W (call aq T (k'+4) true 24 [.d (bA n ps),.d (aM k d),.d (.tup (hs.map .int))]) [] λv s=>v=.d (.bl true):=by
 show W.call zp9 rfl ?_;unfold VB bA;let lZ:(100:Nat)<=sizeLine:=by decide
 ext;show W.c0 (zn1 (by rw[bN];show hl)) ?_;ext;show lX (l:=hs) (f:=D.int) (λ_=>some (.bl true)) gV ?_ (λx hx=>?_) ?_
 .refine Y ?_;show⟨rfl,rfl⟩
 .refine Y ?_;show⟨rfl,λ_=>?_,λhb=>by cases hb⟩;ext;show W.c0 zhE ?_;rw[cQ (hlo x hx)];show⟨rfl,_,rfl,rfl⟩
 .refine Y ?_;show cj (Uq ?_) ?_
  .intro x hx;let⟨_,_,e⟩:=tR.mp hx;show(cP e).symm
  show Y trivial
end
section
variable {n k d m:Int}{ps:List (Int×Int)}{hs:List Int}
def ze3{k':Nat}(h:Web n ps)(hl:(hs.length:Int)=n):W (call aq T (k'+2) true 27 [.d (bA n ps),.d (aM k d),.d (.tup (hs.map .int))]) [] λv s=>v=.d (wD k d ps hs):=by
 show W.call zpQ rfl ?_;unfold VF;ext;show Dh (λi J s=>s=[]/\(∃(a b:Option Xv),J=[some (.d (bA n ps)),some (.d (aM k d)),some (.d (.tup (hs.map .int))),a,b])/\rz k d (ps.take i) hs=[]) ⟨rfl,⟨_,_,rfl⟩,rfl⟩ (λi x J s e hI=>?_) (λJ s hI=>?_)
 .obtain⟨rfl,⟨a,b,rfl⟩,hI⟩:=hI;rw[dH,iI]at e;let⟨p,ep,rfl⟩:=e;let ht:=h.tie p (dG ep);let⟨p1,p2⟩:=p;dsimp only at ht;ext;show cj (C_ gV gV) ?_;ext;show cj (C_ gV gV) ?_;ext;show W.c0 zjN ?_;unfold aM;ext;let et:ps.take (i+1)=ps.take i++[(p1,p2)]:=by rw[Ak,ep];rfl
  let ec:rz k d (ps.take (i+1)) hs=if gC k (at' hs p1) (at' hs p2)<d then [(p1,p2)] else []:=by
   unfold rz at hI ⊢;rw[et,List.filter_append,hI,List.nil_append,Ej];simp only[List.filter_nil,tV]
  show WS.ite (λhb=>?_) (λhb=>?_)
  .let hb:=gP hb;rw[if_pos hb]at ec;ext;show .inr ⟨_,rfl,?_⟩;let:rz k d ps hs=(p1,p2)::rz k d (ps.drop (i+1)) hs:=by
    let e1:ps=ps.take (i+1)++ps.drop (i+1):=(List.take_append_drop ..).symm;unfold rz at ec ⊢
    conv=>lhs;rw[e1,List.filter_append,ec]
    rfl
   unfold wD;rw[this];rfl
  .let hb:¬gC k (at' hs p1) (at' hs p2)<d:=λz=>hb (cQ z);rw[if_neg hb]at ec;ext;show .inl ⟨_,rfl,rfl,⟨_,_,rfl⟩,ec⟩
 .obtain⟨rfl,⟨a,b,rfl⟩,hI⟩:=hI;rw[bN,wu]at hI;ext;unfold wD;rw[hI]
def zl6{k':Nat}(h:Web n ps)(hr:1<=d/\d<=k/\k<=24)(hl:(hs.length:Int)=n)(hlo:∀x∈hs,0<=x/\x<k):W (call aq T (k'+8) true 23 [.d (bA n ps),.d (aM k d),.d (.tup (hs.map .int))]) [] λv s=>v=.d (.bl (decide (rz k d ps hs=[]))):=by
 let key:∀kk,W (call aq T (kk+5) true 25 [.d (bA n ps),.d (aM k d),.d (.tup (hs.map .int))]) [] λv s=>v=.d (.bl (decide (rz k d ps hs=[]))):=λkk=>by
  show W.call Wq rfl ?_;unfold Oq;ext;show W.c0 (zcA h.h8 hl hlo) ?_;ext;show W.c0 (ze3 h hl) ?_;ext;change Xv.d (.bl (wD k d ps hs).gG)=_;rw[ziT]
 show W.call zp2 rfl ?_;unfold Vz;ext;show W.c1 (K4 h) λ_=>?_;ext;show W.c1 (K5 hr.1 hr.2.1 hr.2.2) λ_=>?_;ext;show jg rfl ((key _).imp λv s e=>⟨_,e,rfl⟩)
def zgg{k':Nat}(h:Web n ps)(hr:1<=d/\d<=k/\k<=24)(hh:cU n k d ps hs):W (call aq T (k'+8) true 23 [.d (bA n ps),.d (aM k d),.d (.tup (hs.map .int))]) [] λv s=>v=.d (.bl true):=by
 let:=zl6 (k':=k') h hr hh.len hh.lo;rw[cQ (zgP hh)]at this;show this
end
section
variable {al:Bool}{n k:Nat}{es:Nat->List Int}{A:Int->Int->Bool}
def Told(al:Bool)(n k:Nat)(es:Nat->List Int)(A:Int->Int->Bool)(f l m c:Nat):Prop:=∀F kvs,Fv n k F->unset F<=m->lC es A kvs->kvs.length+c<sizeLine->
 W (call aq T l true f [.d (jy al n k es A),.l 0,.d (gD F)]) [.dct kvs] λv s=>∃b kvs',v=.d (.bl b)/\(b=true↔Sat es A F)/\s=[.dct kvs']/\lC es A kvs'/\kvs'.length<=kvs.length+c
def K7{l m c:Nat}(B:Bo n k es A)(H:Told al n k es A 35 (l+2) m c){F:Fr}{p:Nat}{L:List Int}{kvs:gJ}(v:Fv n k F)(hu:unset F<=m+1)(hL:F[p]?=some (some L))(ha:lC es A kvs)(hl:kvs.length+k*c<sizeLine) :
  W (call aq T (l+3) true 34 [.d (jy al n k es A),.l 0,.d (gD F),.d (.int p)]) [.dct kvs] λv s=>∃kvs',s=[.dct kvs']/\lC es A kvs'/\kvs'.length<=kvs.length+k*c /\
   ((v=.d .non/\∀x∈L,¬Sat es A (settle es A F p x))\/∃x∈L,v=.d (.int x)/\Sat es A (settle es A F p x)/\∀y∈L,y<x->¬Sat es A (settle es A F p y)):=by
 show W.call Wr rfl ?_;unfold Ot;let lZ:(100:Nat)<=sizeLine:=by decide
 let hp:=lB v.len hL;let hLk:L.length<=k:=Oh (v.so p L hL) (v.lo p L hL);ext;show cj (xV gV (Gv hL)) ?_;change W (src (.d (.tup (L.map .int)))) _ _;ext;show Dh (λi J s=>∃(kvs':gJ) (a4:Option Xv),s=[.dct kvs']/\J=[some (.d (jy al n k es A)),some (.l 0),some (.d (gD F)),some (.d (.int p)),a4]/\lC es A kvs'/\kvs'.length<=kvs.length+i*c/\∀j y,j<i->L[j]?=some y->¬Sat es A (settle es A F p y)) ⟨kvs,_,rfl,rfl,ha,by lia,λj _ hj=>absurd hj gV⟩ (λi z J s e hI=>?_) (λJ s hI=>?_)
 .obtain⟨kvs',a4,rfl,rfl,h1,h2,h3⟩:=hI;rw[dH]at e;cases ei:L[i]? with
  |none=>rw[ei]at e;cases e|some x=>
   rw[ei]at e;cases e;let hi:i<L.length:=(cJ.mp ei).1;let hx:=dG ei;let hc:(i+1)*c<=k*c:=yr _ gV;let kW:(i+1)*c=i*c+c:=yH ..;ext;show W.cm rfl rfl (W.c0 (Du B v hp (v.lo p L hL x hx)) ?_);ext;let hu2:=Dp (es:=es) (A:=A) (x:=x) hL;show qZ (s:=[]) rfl ((H _ kvs' (Dm B v hp) gV h1 gV).imp λv1 s1=>?_);rintro⟨b,cI,rfl,hb,rfl,g1,g2⟩;show⟨_,_,rfl,rfl,?_⟩;ext;cases b with
   |true=>
    ext;show .inr ⟨_,rfl,?_⟩;show⟨cI,rfl,g1,by lia,.inr ⟨x,hx,rfl,hb.mp rfl,λy hy cW=>?_⟩⟩;let⟨j,hj,ej⟩:=pH hy;show h3 j y ?_ (by rw[cB hj,ej]);let⟨_,ex⟩:=cJ.mp ei;show Nat.lt_of_not_le λq=>by
     rcases Nat.lt_or_eq_of_le q with q|q
     .let:=O8.mp (v.so p L hL) i j hi hj q
      lia
     .subst q;lia
   |false=>
    ext;show .inl ⟨_,rfl,cI,_,rfl,rfl,g1,by lia,λj y hj ej=>?_⟩;by_cases q:j=i
    .subst q;rw[ei]at ej;cases ej;show λz=>by cases hb.mpr z
    .exact h3 j y gV ej
 .obtain⟨kvs',a4,rfl,rfl,h1,h2,h3⟩:=hI;rw[bN]at h2 h3;let hc:L.length*c<=k*c:=yr _ hLk;ext;show⟨kvs',rfl,h1,by lia,.inl ⟨rfl,λx hx=>?_⟩⟩;let⟨j,hj,ej⟩:=pH hx;show h3 j x hj (by rw[cB hj,ej])
def zhx{l:Nat}(B:Bo n k es A):Told al n k es A 36 (l+3) 0 0:=by
 intro F kvs v hu ha hl;show W.call Ou rfl ?_;unfold K3;ext;show W.cm rfl rfl (jg rfl ((Oz B v).imp λx s=>?_));rintro(⟨rfl,hz⟩|⟨p,L,rfl,hL⟩)
 .refine⟨_,rfl,?_⟩;ext;show⟨true,kvs,rfl,⟨λ_=>Od hz,λ_=>rfl⟩,rfl,ha,by lia⟩
 .exact absurd hL (zfK gV p L)
def zhT{l m c:Nat}(B:Bo n k es A)(ji:1<=k)(cg:al=true->∀t a b:Int,0<=a->a<k->0<=b->b<k->A ((a+t)%k) ((b+t)%k)=A a b)(H:∀j,Told al n k es A 35 (l+2+j) m c):Told al n k es A 36 (l+4) (m+1) (k*c):=by
 intro F kvs v hu ha hl;show W.call Ou rfl ?_;unfold K3;let hkc:1*c<=k*c:=yr _ ji;ext;show W.cm rfl rfl (jg rfl ((Oz B v).imp λx s=>?_));rintro(⟨rfl,hz⟩|⟨p,L,rfl,hL⟩)
 .refine⟨_,rfl,?_⟩;ext;show⟨true,kvs,rfl,⟨λ_=>Od hz,λ_=>rfl⟩,rfl,ha,by lia⟩
 .refine⟨_,rfl,?_⟩;let hp:=lB v.len hL;cases al with
  |false=>
   ext;show qZ (s:=[]) rfl ((K7 B (H 0) v hu hL ha gV).imp λv1 s1=>?_);rintro⟨cI,rfl,g1,g2,h⟩;rcases h with ⟨rfl,gF⟩|⟨x,hx,rfl,hs,_⟩
   .refine⟨_,_,rfl,rfl,?_⟩;ext;show⟨false,cI,rfl,⟨λz=>(by cases z),λz=>?_⟩,rfl,g1,g2⟩;let⟨x,hx,q⟩:=(Dn B v hp hL).mp z;show absurd q (gF x hx)
   .refine⟨_,_,rfl,rfl,?_⟩;ext;show⟨true,cI,rfl,⟨λ_=>(Dn B v hp hL).mpr ⟨x,hx,hs⟩,λ_=>rfl⟩,rfl,g1,g2⟩
  |true=>
  let cg:=cg rfl;ext;show W.cm rfl rfl (W.c0 (zdM B v) ?_);ext;cases eb:F.all (Gw k) with
  |true=>
   let all:∀(i:Nat) L,F[i]?=some (some L)->L=aX k:=λi L h=>gP (cT.mp eb _ (dG h));ext;show W.cm rfl rfl (W.c0 (Du B v hp ⟨by lia,by lia⟩) ?_);ext;let hu2:=Dp (es:=es) (A:=A) (x:=0) hL;show qZ (s:=[]) rfl ((H 1 _ kvs (Dm B v hp) gV ha gV).imp λv1 s1=>?_);rintro⟨b,cI,rfl,hb,rfl,g1,g2⟩;show⟨_,_,rfl,rfl,?_⟩;ext;show⟨b,cI,rfl,hb.trans (U6 B v hp ji cg all (all p L hL▸hL)).symm,rfl,g1,by lia⟩
  |false=>
   ext;show qZ (s:=[]) rfl ((K7 B (H 0) v hu hL ha gV).imp λv1 s1=>?_);rintro⟨cI,rfl,g1,g2,h⟩;rcases h with ⟨rfl,gF⟩|⟨x,hx,rfl,hs,_⟩
   .refine⟨_,_,rfl,rfl,?_⟩;ext;show⟨false,cI,rfl,⟨λz=>(by cases z),λz=>?_⟩,rfl,g1,g2⟩;let⟨x,hx,q⟩:=(Dn B v hp hL).mp z;show absurd q (gF x hx)
   .refine⟨_,_,rfl,rfl,?_⟩;ext;show⟨true,cI,rfl,⟨λ_=>(Dn B v hp hL).mpr ⟨x,hx,hs⟩,λ_=>rfl⟩,rfl,g1,g2⟩
def zh2{l m c:Nat}(B:Bo n k es A)(ji:1<=k)(cg:∀t a b:Int,0<=a->a<k->0<=b->b<k->A ((a+t)%k) ((b+t)%k)=A a b)(H:Told true n k es A 35 (l+3) m c){F:Fr}{kvs:gJ}(v:Fv n k F)(hu:unset F<=m+1)(eb:F.all (Gw k)=true)(ha:lC es A kvs)(hl:kvs.length+c<sizeLine) :
  W (call aq T (l+4) true 36 [.d (jy true n k es A),.l 0,.d (gD F)]) [.dct kvs] λv s=>∃b kvs',v=.d (.bl b)/\(b=true↔Sat es A F)/\s=[.dct kvs']/\lC es A kvs'/\kvs'.length<=kvs.length+c:=by
 show W.call Ou rfl ?_;unfold K3;ext;show W.cm rfl rfl (jg rfl ((Oz B v).imp λx s=>?_));rintro(⟨rfl,hz⟩|⟨p,L,rfl,hL⟩)
 .refine⟨_,rfl,?_⟩;ext;show⟨true,kvs,rfl,⟨λ_=>Od hz,λ_=>rfl⟩,rfl,ha,by lia⟩
 .refine⟨_,rfl,?_⟩;let hp:=lB v.len hL;ext;show W.cm rfl rfl (W.c0 (zdM B v) ?_);ext;let all:∀(i:Nat) L,F[i]?=some (some L)->L=aX k:=λi L h=>gP (cT.mp eb _ (dG h));rw[eb];ext;show W.cm rfl rfl (W.c0 (Du B v hp ⟨by lia,by lia⟩) ?_);ext;let hu2:=Dp (es:=es) (A:=A) (x:=0) hL;show qZ (s:=[]) rfl ((H _ kvs (Dm B v hp) gV ha gV).imp λv1 s1=>?_);rintro⟨b,cI,rfl,hb,rfl,g1,g2⟩;show⟨_,_,rfl,rfl,?_⟩;ext;show⟨b,cI,rfl,hb.trans (U6 B v hp ji cg all (all p L hL▸hL)).symm,rfl,g1,by lia⟩
def zl1{l c:Nat}(B:Bo n k es A){F:Fr}{kvs:gJ}(v:Fv n k F)(ha:lC es A kvs)(hl:kvs.length+(1+c)<sizeLine)(H:W (call aq T (l+3) true 36 [.d (jy al n k es A),.l 0,.d (gD (bnd es F))]) [.dct kvs] λv s=>∃b kvs',v=.d (.bl b)/\(b=true↔Sat es A (bnd es F))/\s=[.dct kvs']/\lC es A kvs'/\kvs'.length<=kvs.length+c) :
  W (call aq T (l+4) true 35 [.d (jy al n k es A),.l 0,.d (gD F)]) [.dct kvs] λv s=>∃b kvs',v=.d (.bl b)/\(b=true↔Sat es A F)/\s=[.dct kvs']/\lC es A kvs'/\kvs'.length<=kvs.length+(1+c):=by
 show W.call zpX rfl ?_;unfold VR;ext;show cj (znN (f:=id)) ?_;by_cases e0:some []∈F
 .rw[cQ e0];ext;let⟨i,hi,ei⟩:=pH e0;show⟨false,kvs,rfl,⟨λz=>(by cases z),λz=>absurd z (zjn (i:=i) (by rw[cB hi,ei]))⟩,rfl,ha,by lia⟩
 .rw[iK e0];let ne:∀(i:Nat) L,F[i]?=some (some L)->L≠[]:=λi L h q=>by subst q;show e0 (dG h)
  let sb:=zhm B v ne;ext;show W.cm rfl rfl (W.c0 (zgx B v) ?_);ext;show W.wY rfl rfl (zR _) rfl ?_;cases eg:bW ((bnd es F).map cellK) kvs with
  |some d=>
   let⟨b,rfl,hb⟩:=ha _ _ eg;ext;show W.k_ rfl rfl (zR _) rfl eg ?_;ext;show⟨b,kvs,rfl,hb.trans sb,rfl,ha,by lia⟩
  |none=>
   ext;show WS.dput rfl rfl (zR _) ?_;ext;show qZ (s:=[]) rfl (H.imp λv1 s1=>?_);rintro⟨b,cI,rfl,hb,rfl,g1,g2⟩;show⟨_,_,rfl,rfl,?_⟩;show⟨_,cI,rfl,rfl,by lia,?_⟩;ext;show W.k_ (v:=.bl b) rfl rfl (zR _) rfl (by rw[Oe,if_pos rfl]) ?_;ext;let:=zeD (q:=(bnd es F).map cellK) (d:=.bl b) (kvs:=cI);show⟨b,_,rfl,hb.trans sb,rfl,zkV g1 hb,by lia⟩
def zlD{l m c:Nat}(B:Bo n k es A)(H:Told al n k es A 36 (l+3) m c):Told al n k es A 35 (l+4) m (1+c):=by
 intro F kvs v hu ha hl;let hu2:=U7 (es:=es) (F:=F);show zl1 B v ha hl (H _ kvs (UW v) gV ha gV)
theorem zY(B:Bo n k es A)(ji:1<=k)(cg:al=true->∀t a b:Int,0<=a->a<k->0<=b->b<k->A ((a+t)%k) ((b+t)%k)=A a b):∀m j,Told al n k es A 35 (3*m+4+j) m (cnt k m)
 |0,j=>by
  rw[show 3*0+4+j=j+4 by lia];show zlD (c:=0) B (zhx B)
 |m+1,j=>by
  rw[show 3*(m+1)+4+j=(3*m+3+j)+4 by lia];show zlD B ?_;rw[show 3*m+3+j+3=(3*m+2+j)+4 by lia];show zhT B ji cg λi=>?_;rw[show 3*m+2+j+2+i=3*m+4+(j+i) by lia];show zY B ji cg m (j+i)
def zis{m j:Nat}(B:Bo n k es A)(ji:1<=k)(cg:∀t a b:Int,0<=a->a<k->0<=b->b<k->A ((a+t)%k) ((b+t)%k)=A a b){F:Fr}{kvs:gJ}(v:Fv n k F)(hu:unset F<=m+1)(eb:F.all (Gw k)=true)(ha:lC es A kvs)(hl:kvs.length+(1+cnt k m)<sizeLine) :
  W (call aq T (3*(m+1)+4+j) true 35 [.d (jy true n k es A),.l 0,.d (gD F)]) [.dct kvs] λv s=>∃b kvs',v=.d (.bl b)/\(b=true↔Sat es A F)/\s=[.dct kvs']/\lC es A kvs'/\kvs'.length<=kvs.length+(1+cnt k m):=by
 rw[show 3*(m+1)+4+j=(3*m+3+j)+4 by lia];show zl1 B v ha hl ?_;rw[show 3*m+3+j+3=(3*m+2+j)+4 by lia];let hu2:=U7 (es:=es) (F:=F);show zh2 B ji cg ?_ (UW v) (jz hu2 hu) ?_ ha gV
 .rw[show 3*m+2+j+3=3*m+4+(j+1) by lia];show zY B ji (λ_=>cg) m (j+1)
 .refine cT.mpr λc hc=>?_;cases c with
  |none=>rfl|some L=>
   let⟨i,hi,ei⟩:=pH hc;let:=zT (es:=es) (F:=F) (i:=i) (L:=L) (by rw[cB hi,ei]);show cT.mp eb _ (dG this.1)
def zlA{l m c:Nat}(B:Bo n k es A)(ji:1<=k)(cg:∀t a b:Int,0<=a->a<k->0<=b->b<k->A ((a+t)%k) ((b+t)%k)=A a b)(H:Told true n k es A 35 (l+2) m c){F:Fr}{p:Nat}{kvs:gJ}(v:Fv n k F)(hu:unset F<=m+1)(all:∀(i:Nat) L,F[i]?=some (some L)->L=aX k)(hL:F[p]?=some (some (aX k)))(o_:Sat es A F)(ha:lC es A kvs)(hl:kvs.length+c<sizeLine) :
  W (call aq T (l+3) true 34 [.d (jy true n k es A),.l 0,.d (gD F),.d (.int p)]) [.dct kvs] λv s=>∃kvs',s=[.dct kvs']/\lC es A kvs'/\kvs'.length<=kvs.length+c /\
   ((v=.d .non/\∀x∈aX k,¬Sat es A (settle es A F p x))\/∃x∈aX k,v=.d (.int x)/\Sat es A (settle es A F p x)/\∀y∈aX k,y<x->¬Sat es A (settle es A F p y)):=by
 show W.call Wr rfl ?_;unfold Ot;let hp:=lB v.len hL;let h0:=(U6 B v hp ji cg all hL).mp o_;ext;show cj (xV gV (Gv hL)) ?_;change W (src (.d (.tup ((aX k).map .int)))) _ _;ext;show Dh (λi J s=>i=0/\∃a4:Option Xv,s=[.dct kvs]/\J=[some (.d (jy true n k es A)),some (.l 0),some (.d (gD F)),some (.d (.int p)),a4]) ⟨rfl,_,rfl,rfl⟩ (λi z J s e hI=>?_) (λJ s hI=>?_)
 .obtain⟨rfl,a4,rfl,rfl⟩:=hI;rw[dH]at e;let ei:(aX k)[0]?=some 0:=by unfold aX;rw[dH,yu gV];rfl
  rw[ei]at e;cases e;let hx:(0:Int)∈aX k:=aL.mpr ⟨by lia,by lia⟩;ext;show W.cm rfl rfl (W.c0 (Du B v hp ⟨by lia,by lia⟩) ?_);ext;let hu2:=Dp (es:=es) (A:=A) (x:=0) hL;show qZ (s:=[]) rfl ((H _ kvs (Dm B v hp) gV ha gV).imp λv1 s1=>?_);rintro⟨b,cI,rfl,hb,rfl,g1,g2⟩;let eb:b=true:=hb.mpr h0;subst eb;show⟨_,_,rfl,rfl,?_⟩;ext;show .inr ⟨_,rfl,?_⟩;show⟨cI,rfl,g1,g2,.inr ⟨0,hx,rfl,h0,λy hy cW=>absurd (aL.mp hy).1 gV⟩⟩
 .obtain⟨hz,_⟩:=hI;rw[bN]at hz;let:(aX k).length=k:=by unfold aX;simp
  lia
end
section
variable {al:Bool}{n k:Nat}{es:Nat->List Int}{A:Int->Int->Bool}
def WQ{k':Nat}(B:Bo n k es A)(ji:1<=k)(cg:al=true->∀t a b:Int,0<=a->a<k->0<=b->b<k->A ((a+t)%k) ((b+t)%k)=A a b){F0:Fr}(v0:Fv n k F0)(all:∀i,i<n->∃L,F0[i]?=some (some L)){c0 c1:Nat}(hz:c0+c1+tot k (n-1)<sizeLine)
  (Hc:W (call aq T (3*n+4+k') true 35 [.d (jy al n k es A),.l 0,.d (gD F0)]) [.dct []] λv s=>∃b kvs',v=.d (.bl b)/\(b=true↔Sat es A F0)/\s=[.dct kvs']/\lC es A kvs'/\kvs'.length<=c0)
  (Hf:∀kvs L,F0[0]?=some (some L)->Sat es A F0->lC es A kvs->kvs.length<=c0->W (call aq T (3*n+1+k'+3) true 34 [.d (jy al n k es A),.l 0,.d (gD F0),.d (.int (0:Nat))]) [.dct kvs] λv s=>∃kvs',s=[.dct kvs']/\lC es A kvs'/\kvs'.length<=kvs.length+c1 /\
   ((v=.d .non/\∀x∈L,¬Sat es A (settle es A F0 0 x))\/∃x∈L,v=.d (.int x)/\Sat es A (settle es A F0 0 x)/\∀y∈L,y<x->¬Sat es A (settle es A F0 0 y))) :
  W (call aq T (3*n+5+k') true 33 [.d (jy al n k es A),.d (.fl (F0.map aN))]) [] λv s=>(v=.d .non/\¬Sat es A F0)\/∃hs:List Int,v=.d (.tup (hs.map .int))/\hs.length=n/\lA es A F0 (λj=>at' hs j)/\∀g,lA es A F0 g->∀j,j<n->(∀t,t<j->g t=at' hs t)->at' hs j<=g j:=by
 let hn:=B.hn;let hl:=v0.len;rw[show 3*n+5+k'=(3*n+4+k')+1 by lia];show W.call zqf rfl ?_;unfold VP;let lZ:(100:Nat)<=sizeLine:=by decide
 let xu:unset F0<=n:=by unfold unset;rw[<-hl];show GQ
 ext;show W.ou ?_;ext;show qZ (s:=[]) rfl (Hc.imp λv1 s1=>?_);rintro⟨b,kvs,rfl,hb,rfl,g1,g2⟩;show⟨_,_,rfl,rfl,?_⟩;ext;cases b with
 |false=>
  ext;show .inl ⟨rfl,λz=>by cases hb.mpr z⟩
 |true=>
  let o_:=hb.mp rfl;ext;let K8:((F0.map aN).length:Int)=n:=by rw[bN,hl]
  show⟨by rw[K8,jZ gV gV,jZ gV gV];rfl,?_⟩;rw[K8];show CQ (c:=(List.range ((n:Int)-0).toNat).map λ(j:Nat)=>.int (0+j)) (λi J s=>∃(kvs':gJ) (Fi:Fr) (hs:List Int) (a5 a6:Option Xv),s=[.dct kvs',.lst (hs.map .int)]/\J=[some (.d (jy al n k es A)),some (.d (.fl (F0.map aN))),some (.d (gD Fi)),some (.l 0),some (.l 1),a5,a6]/\lC es A kvs'/\(i=0->Fi=F0/\kvs'.length<=c0)/\(1<=i->kvs'.length+tot k (n-i)<=c0+c1+tot k (n-1))/\hs.length=i/\Fv n k Fi/\unset Fi<=n-i/\(∀j,i<=j->j<n->∃L,Fi[j]?=some (some L))/\Sat es A Fi /\
   (∀g,lA es A Fi g->lA es A F0 λj=>if j<i then at' hs j else g j)/\(∀g,lA es A F0 g->(∀t,t<i->g t=at' hs t)->lA es A Fi g)/\(∀g,lA es A F0 g->∀j,j<i->(∀t,t<j->g t=at' hs t)->at' hs j<=g j)) ?_ (λi z J s e hI=>?_) (λJ s hI=>?_)
  .exact⟨kvs,F0,[],_,_,rfl,rfl,g1,λ_=>⟨rfl,g2⟩,λz=>absurd z gV,rfl,v0,by lia,λj _ hj=>all j hj,o_,λg s=>by simpa using s,λg s _=>s,λg _ j hj=>absurd hj gV⟩
  .obtain⟨kvs',Fi,hs,a5,a6,rfl,rfl,i1,i0,i2,i3,i4,i5,i6,i7,i8,i9,OJ⟩:=hI;rw[dH]at e;cases ei:(List.range ((n:Int)-0).toNat)[i]? with
   |none=>rw[ei]at e;cases e|some j=>
    rw[ei]at e;cases e;let⟨hil,ej⟩:=cJ.mp ei;rw[GX]at ej;rw[lH]at hil;subst ej;let⟨L,hL⟩:=i6 i (bQ _) gV;let ez:((0:Int)+(i:Nat))=(i:Int):=by lia
    dsimp only;rw[ez];let hp:=lB i4.len hL;obtain⟨m,hm⟩ : ∃m,n-i=m+1:=⟨n-i-1,by lia⟩;rw[hm]at i2 i5;let et:tot k (m+1)=k*cnt k m+tot k m:=rfl;ext;let lv:3*n+4+k'=(3*n+1+k')+3:=by lia
    show Kav (s:=[]) rfl ?_;rw[lv];let H:Told al n k es A 35 (3*n+1+k'+2) m (cnt k m):=by
     rw[show 3*n+1+k'+2=3*m+4+(3*n-3*m+k'-1) by lia];show zY B ji cg m _
    obtain⟨c2,kW,hW⟩ : ∃c2,(kvs'.length+c2+tot k m<=c0+c1+tot k (n-1))/\W (call aq T (3*n+1+k'+3) true 34 [.d (jy al n k es A),.l 0,.d (gD Fi),.d (.int i)]) [.dct kvs'] λv s=>∃cI,s=[.dct cI]/\lC es A cI/\cI.length<=kvs'.length+c2 /\
      ((v=.d .non/\∀x∈L,¬Sat es A (settle es A Fi i x))\/∃x∈L,v=.d (.int x)/\Sat es A (settle es A Fi i x)/\∀y∈L,y<x->¬Sat es A (settle es A Fi i y)):=by
     by_cases c:i=0
     .subst c;let⟨rfl,q⟩:=i0 rfl;let em:n-1=m:=by lia
      rw[em];show⟨c1,by lia,Hf kvs' L hL o_ i1 q⟩
     .let i2:=i2 gV;show⟨k*cnt k m,by lia,K7 B H i4 i5 hL i1 gV⟩
    clear i2;show hW.imp λv1 s1=>?_;rintro⟨cI,rfl,q1,q2,h⟩;rcases h with ⟨rfl,gF⟩|⟨x,hx,rfl,rK,cW⟩
    .obtain⟨x,hx,q⟩:=(Dn B i4 hp hL).mp i7;show absurd q (gF x hx)
    .refine⟨_,_,rfl,rfl,?_⟩;ext;show W.cm rfl rfl (W.c0 (Du (k':=3*n+2+k') B i4 hp (i4.lo i L hL x hx)) ?_);ext;show⟨by rw[bN];lia,?_⟩;ext;let ag:∀j:Nat,j<i->at' (hs++[x]) j=at' hs j:=λj hj=>CZ gV gV;let ai:at' (hs++[x]) (i:Int)=x:=by rw[<-i3];show Uw
     show⟨_,rfl,cI,settle es A Fi i x,hs++[x],_,_,?_,rfl,q1,λz=>absurd z gV,λ_=>by rw[show n-(i+1)=m by lia];lia,by simp[i3],Dm B i4 hp,?_,λj hj hjn=>?_,rK,λg s=>?_,λg s hg=>?_,λg s j hj hg=>?_⟩
     .rw[pJ];rfl
     .let:=Dp (es:=es) (A:=A) (x:=x) hL
      lia
     .obtain⟨M,hM⟩:=i6 j gV hjn;show⟨_,Gu B i4.len hp gV hM⟩
     .let s2:=i8 _ (zeo B i4 hp hL hx s);show⟨λj M hM=>?_,λj e M N h1 h2 he=>?_⟩
      .let:=s2.mem j M hM
       try dsimp only at this ⊢
       by_cases c1:j<i
       .rw[if_pos c1]at this;rw[if_pos gV,ag j c1];show this
       .rw[if_neg c1]at this;by_cases c2:j=i
        .rw[if_pos c2]at this;rw[if_pos gV,c2,ai];show this
        .rw[if_neg c2]at this;rw[if_neg gV];show this
      .let ff:∀j:Nat,(if j<i then at' hs j else if j=i then x else g j)=if j<i+1 then at' (hs++[x]) j else g j:=λj=>by
        by_cases c1:j<i
        .rw[if_pos c1,if_pos gV,ag j c1]
        .rw[if_neg c1];by_cases c2:j=i
         .rw[if_pos c2,if_pos gV,c2,ai]
         .rw[if_neg c2,if_neg gV]
       let:=s2.fit j e M N h1 h2 he
       try dsimp only at this ⊢
       rw[<-ff,<-ff];show this
     .let s2:=i9 g s λt ht=>by rw[hg t gV,ag t ht]
      let s3:=Oc B i4 hp hL s2;rw[hg i gV,ai]at s3;show s3
     .by_cases c1:j<i
      .rw[ag j c1];show OJ g s j c1 λt ht=>by rw[hg t ht,ag t gV]
      .let:j=i:=by lia
       subst this;rw[ai];let s2:=i9 g s λt ht=>by rw[hg t ht,ag t ht]
       let s3:=Oc B i4 hp hL s2;show Int.not_lt.mp λq=>cW (g j) (s2.mem j L hL) q ⟨g,s3⟩
  .obtain⟨kvs',Fi,hs,a5,a6,rfl,rfl,i1,i0,i2,i3,i4,i5,i6,i7,i8,i9,OJ⟩:=hI;rw[bN,lH,show ((n:Int)-0).toNat=n by lia]at i3 i8 OJ;ext;show .inr ⟨hs,rfl,i3,?_,OJ⟩;let⟨g,sg⟩:=i7;let s2:=i8 g sg;show⟨λj M hM=>?_,λj e M N h1 h2 he=>?_⟩
   .let:=s2.mem j M hM;rw[if_pos (lB hl hM)]at this;show this
   .let:=s2.fit j e M N h1 h2 he;rw[if_pos (lB hl h1),if_pos (lB hl h2)]at this;show this
end
section
variable {n k d:Int}{ps:List (Int×Int)}
def zed{k':Nat}(h:Web n ps)(hd:1<=d)(pG:d<=k)(hk:k<=24)(hz:1+cnt k.toNat (n.toNat-1)+cnt k.toNat (n.toNat-1)+tot k.toNat (n.toNat-1)<sizeLine):W (call aq T (k'+40) true 28 [.d (bA n ps),.d (aM k d)]) [] λv s=>(v=.d .non/\∀hs,¬cU n k d ps hs)\/∃hs,v=.d (.tup (hs.map .int))/\cU n k d ps hs/\∀g,cU n k d ps g->Ge g hs:=by
 show W.call zpE rfl ?_;unfold VG;let lZ:(100:Nat)<=sizeLine:=by decide
 let h1:=h.h1;let h8:=h.h8;ext;show W.c1 (K4 h) λ_=>?_;ext;show W.c1 (K5 hd pG hk) λ_=>?_;ext;show W.c0 (Gx h hd pG hk) ?_;ext;show lX (l:=List.range (n-0).toNat) (f:=λ(j:Nat)=>.int (0+j)) (λ(_:Nat)=>some (aN (some (aX k.toNat)))) (by rw[lH];lia) ?_ (λj hj=>?_) ?_
 .unfold bA;ext;show⟨by rw[jZ gV gV,jZ gV gV];rfl,?_⟩;show⟨rfl,rfl⟩
 .refine Y ?_;show⟨rfl,λ_=>?_,λhb=>by cases hb⟩;ext;show⟨rfl,_,rfl,rfl⟩
 .let ef:(List.range (n-0).toNat).filterMap (λ(_:Nat)=>some (aN (some (aX k.toNat))))=(iH n k).map aN:=by
   rw[oV,show n-0=n by lia];unfold iH;rw[List.map_replicate];rw[List.map_const',lH]
  rw[ef];ext;let lv:k'+39=3*n.toNat+5+(k'+34-3*n.toNat):=by lia
  show jg rfl ?_;change W (Mi.call aq T (k'+39) true _ _) _ _;rw[lv];let B:=vq h hd hk;let ji:1<=k.toNat:=by lia
  let cg:∀t a b:Int,0<=a->a<(k.toNat:Nat)->0<=b->b<(k.toNat:Nat)->aJ k d ((a+t)%(k.toNat:Nat)) ((b+t)%(k.toNat:Nat))=aJ k d a b:=λt a b a0 ak b0 bk=>by rw[show ((k.toNat:Nat):Int)=k by lia]at *;show KJ hd t a b a0 ak b0 bk
  obtain⟨m,hm⟩ : ∃m,n.toNat=m+1:=⟨n.toNat-1,by lia⟩;let em:n.toNat-1=m:=by lia
  let xu:unset (iH n k)<=m+1:=by
   let:=(Oi (n:=n) hk).len;rw[<-hm,<-this];show GQ
  let al:∀(i:Nat) L,(iH n k)[i]?=some (some L)->L=aX k.toNat:=λi L e=>(zV e).2;let eb:(iH n k).all (Gw k.toNat)=true:=cT.mpr λc hc=>by rw[List.eq_of_mem_replicate hc];show cQ rfl
  rw[em]at hz;show(WQ (c0:=1+cnt k.toNat m) (c1:=cnt k.toNat m) B ji (λ_=>cg) (Oi hk) (λi hi=>⟨_,zW hi⟩) (by rw[em];show hz) ?_ (λkvs L hL o_ ha hl=>?_)).imp λv s=>?_
  .rw[hm];let:=zis (m:=m) (j:=k'+34-3*(m+1)) (kvs:=[]) B ji cg (Oi hk) xu eb (λF d e=>by cases e) (by simp;lia);rw[hm]at this;simpa using this
  .let e:=al 0 L hL;subst e;show zlA B ji cg ?_ (Oi hk) xu al hL o_ ha gV;rw[show 3*n.toNat+1+(k'+34-3*n.toNat)+2=3*m+4+(k'+33-3*m) by lia];show zY B ji (λ_=>cg) m _
  rintro(⟨rfl,gF⟩|⟨hs,rfl,hl,vA,Ce⟩)
  .refine⟨_,rfl,?_⟩;ext;show .inl ⟨rfl,λhs hh=>gF ⟨_,Oj h hd hh⟩⟩
  .refine⟨_,rfl,?_⟩;ext;show .inr ⟨hs,rfl,zeJ h hl vA,λg hg j hj ha=>?_⟩;show Ce _ (Oj h hd hg) j gV ha
end
section
variable {n k d:Int}{ps:List (Int×Int)}{x:D}{ks:List (Option Int)}
def zkj{k':Nat}{x:D}(h:qe x=true):W (call aq T (k'+3) true 20 [.d (aM k d),.d x]) [] λv s=>v=.d (.bl (xZ 0 (k-1) x)):=by
 show W.call Wo rfl ?_;unfold Oo aM;ext;show jg rfl ((zeP h).imp λv s e=>⟨_,e,rfl⟩)
def zfx{k':Nat}(h:Kq x=true)(hl:∀xs,x=.tup xs->xs.length<=200):W (call aq T (k'+4) true 31 [.d (bA n ps),.d (aM k d),.d x]) [] λv s=>v=.d (.bl (Dr n k x)):=by
 let hs:(200:Nat)<=sizeLine:=by decide
 show W.call zpM rfl ?_;unfold VL bA;ext;show W.c0 (zX (znJ h)) ?_;cases x with
 |tup xs=>
  let hx:∀y∈xs,qe y=true:=cT.mp h;let hxl:=hl xs rfl;rw[show Dr n k (.tup xs)=(decide ((xs.length:Int)=n)&&xs.all (Dq k)) from rfl];by_cases hn:(xs.length:Int)=n
  .rw[show m7 n (.tup xs)=true from cQ hn,cQ hn];ext;show lX (l:=xs) (f:=λx=>x) (λt=>some (.bl (Dq k t))) gV ?_ (λt ht=>?_) ?_
   .refine Y ?_;rw[List.map_id'];show⟨rfl,rfl⟩
   .refine Y ?_;show⟨rfl,λ_=>?_,λhb=>by cases hb⟩;ext;show W.ite (λc=>?_) (λc=>?_)
    .refine Y ?_;show⟨rfl,_,rfl,by unfold Dq;rw[show t.gG=true from c];rfl⟩
    .refine Y ?_;show jg rfl ((zkj (hx t ht)).imp λv s e=>⟨_,e,rfl,_,rfl,?_⟩);unfold Dq;rw[show t.gG=false from by simpa using c];rfl
   rw[oV];ext;show cj N7 ?_;rfl
  .rw[show m7 n (.tup xs)=false from iK hn,iK hn,Bool.false_and];show Y trivial
 |_=>show Y rfl
def zcs{k':Nat}(h:Web n ps)(hr:1<=d/\d<=k/\k<=24)(hx:Kq x=true)(hl:∀xs,x=.tup xs->xs.length<=200)(hb:Dr n k x=true):W (call aq T (k'+7) true 32 [.d (bA n ps),.d (aM k d),.d x]) [] λv s=>∃d,v=.d d:=by
 show W.call zpZ rfl ?_;unfold VN;ext;show W.c1 (K4 h) λ_=>?_;ext;show W.c1 (K5 hr.1 hr.2.1 hr.2.2) λ_=>?_;ext;show W.c0 (zfx hx hl) ?_;rw[hb];ext;show⟨_,rfl⟩
def O1{k':Nat}(h:Web n ps)(hd:1<=d)(pG:d<=k)(hk:k<=24)(q:Kn n k ks)(hz:cnt k.toNat n.toNat+k.toNat*cnt k.toNat (n.toNat-1)+tot k.toNat (n.toNat-1)<sizeLine):W (call aq T (k'+40) true 30 [.d (bA n ps),.d (aM k d),.d (.tup (ks.map cD))]) [] λv s=>(v=.d .non/\∀hs,¬rA n k d ps ks hs)\/∃hs,v=.d (.tup (hs.map .int))/\rA n k d ps ks hs/\∀g,rA n k d ps ks g->Ge g hs:=by
 let lZ:(200:Nat)<=sizeLine:=by decide
 let h1:=h.h1;let h8:=h.h8;let hql:=q.len;let WR:Dr n k (.tup (ks.map cD))=true:=by
  rw[show Dr n k (.tup (ks.map cD))=(decide (((ks.map cD).length:Int)=n)&&(ks.map cD).all (Dq k)) from rfl,bN,cQ hql,Ly,Er,cT];intro c hc;cases c with
  |none=>rfl|some i=>have:=q.lo i hc;show cQ (p:=(0<=i/\i<=k-1)) gV
 let hok:Kq (.tup (ks.map cD))=true:=cT.mpr λy hy=>by
  let⟨c,_,rfl⟩:=j9.mp hy;cases c<;>rfl
 show W.call zpT rfl ?_;unfold VJ;ext;show W.c1 (zcs h ⟨hd,pG,hk⟩ hok (λxs e=>by cases e;rw[bN];lia) WR) λ_=>?_;ext;show W.c0 (Gx h hd pG hk) ?_;ext;show lX (l:=ks) (f:=cD) (λc=>some (aN (some (gb k c)))) gV ?_ (λc hc=>?_) ?_
 .refine Y ?_;show⟨rfl,rfl⟩
 .cases c with
  |none=>
   ext;show⟨rfl,λ_=>?_,λhb=>by cases hb⟩;ext;show⟨rfl,_,rfl,rfl⟩
  |some i=>
   ext;show⟨rfl,λ_=>?_,λhb=>by cases hb⟩;ext;show⟨rfl,_,rfl,rfl⟩
 .let ef:ks.filterMap (λc=>some (aN (some (gb k c))))=(tM k ks).map aN:=by
   rw[oV];unfold tM;rw[tX];rfl
  rw[ef];ext;let lv:k'+39=3*n.toNat+5+(k'+34-3*n.toNat):=by lia
  show jg rfl ?_;change W (Mi.call aq T (k'+39) true _ _) _ _;rw[lv];let B:=vq h hd hk;let ji:1<=k.toNat:=by lia
  let cg:∀t a b:Int,0<=a->a<(k.toNat:Nat)->0<=b->b<(k.toNat:Nat)->aJ k d ((a+t)%(k.toNat:Nat)) ((b+t)%(k.toNat:Nat))=aJ k d a b:=λt a b a0 ak b0 bk=>by rw[show ((k.toNat:Nat):Int)=k by lia]at *;show KJ hd t a b a0 ak b0 bk
  let fv:=zot q hk gV;let xu:unset (tM k ks)<=n.toNat:=by rw[<-fv.len];show GQ
  obtain⟨m,hm⟩ : ∃m,n.toNat=m+1:=⟨n.toNat-1,by lia⟩;let em:n.toNat-1=m:=by lia
  rw[em]at hz;show(WQ (c0:=cnt k.toNat n.toNat) (c1:=k.toNat*cnt k.toNat m) B ji (λ_=>cg) fv (λi hi=>⟨_,KN (cB (l:=ks) (i:=i) gV)⟩) (by rw[em];show hz) ?_ (λkvs L hL o_ ha hl=>?_)).imp λv s=>?_
  .let:=zY (al:=true) B ji (λ_=>cg) n.toNat (k'+34-3*n.toNat) (tM k ks) [] fv xu (λF d e=>by cases e) (by simp;lia);simpa using this
  .refine K7 (m:=m) B ?_ fv gV hL ha gV;rw[show 3*n.toNat+1+(k'+34-3*n.toNat)+2=3*m+4+(k'+33-3*m) by lia];show zY (al:=true) B ji (λ_=>cg) m _
  rintro(⟨rfl,gF⟩|⟨hs,rfl,hl,vA,Ce⟩)
  .refine⟨_,rfl,?_⟩;ext;show .inl ⟨rfl,λhs hh=>gF ⟨_,zf2 h hd q hh⟩⟩
  .refine⟨_,rfl,?_⟩;ext;show .inr ⟨hs,rfl,zgz h q hl vA,λg hg j hj ha=>?_⟩;show Ce _ (zf2 h hd q hg) j gV ha
end
section
variable {n k d:Int}{ps:List (Int×Int)}
def O2(n k d:Int)(ps:List (Int×Int))(l m c:Nat):Prop:=∀F kvs,Fv n.toNat k.toNat F->unset F<=m->¬Sat (λi=>aA i ps) (aJ k d) F->Dt n k d ps kvs->kvs.length+c<sizeLine->
 W (call aq T l true 47 [.d (nA n.toNat k.toNat (λi=>aA i ps) (aJ k d)),.l 0,.d (gD F)]) [.dct kvs] λv s=>∃P kvs',v=.d P/\Pp n k d ps (unset F) F P/\s=[.dct kvs']/\Dt n k d ps kvs'/\kvs'.length<=kvs.length+c
def ziA{l m c:Nat}(w:Web n ps)(hd:1<=d)(tO:0<=k)(hk:k<=24)(H:∀m',m=m'+1->O2 n k d ps (l+2) m' c){F:Fr}{kvs:gJ}(v:Fv n.toNat k.toNat F)(hu:unset F<=m)(hs:¬Sat (λi=>aA i ps) (aJ k d) F)(ha:Dt n k d ps kvs)(hl:kvs.length+k.toNat*c<sizeLine) :
  W (call aq T (l+3) true 48 [.d (nA n.toNat k.toNat (λi=>aA i ps) (aJ k d)),.l 0,.d (gD F)]) [.dct kvs] λv s=>∃P kvs' r,v=.d P/\Pp n k d ps (unset F) F P/\s=.dct kvs'::r/\Dt n k d ps kvs'/\kvs'.length<=kvs.length+k.toNat*c:=by
 let B:=vq w hd hk;let lZ:(100:Nat)<=sizeLine:=by decide
 show W.call zpL rfl ?_;unfold Wa;ext;show W.cm rfl rfl (jg rfl ((Oz (al:=true) B v).imp λx s=>?_));rintro(⟨rfl,hz⟩|⟨p,L,rfl,hL⟩)
 .exact absurd (Od hz) hs
 show⟨_,rfl,?_⟩;let hp:=lB v.len hL;obtain⟨u,eu⟩ : ∃u,unset F=u+1:=by
  let:=Dp (es:=λi=>aA i ps) (A:=aJ k d) (x:=0) hL;show⟨unset F-1,by lia⟩
 obtain⟨m',rfl⟩ : ∃m',m=m'+1:=⟨m-1,by lia⟩;let H:=H m' rfl;let RK:(aX k.toNat).length=k.toNat:=by unfold aX;simp
 ext;show CQ (λi J s=>∃(kvs':gJ) (xs:List D) (a5:Option Xv),s=[.dct kvs',.lst xs]/\J=[some (.d (nA n.toNat k.toNat (λi=>aA i ps) (aJ k d))),some (.l 0),some (.d (gD F)),some (.d (.int p)),some (.l 1),a5]/\Dt n k d ps kvs'/\kvs'.length<=kvs.length+i*c/\xs.length=i/\∀(j:Nat) P,xs[j]?=some P->Rw n k d ps u F p L j P) ⟨kvs,[],_,rfl,rfl,ha,by lia,rfl,λj P e=>by simp at e⟩ (λi z J s e hI=>?_) (λJ s hI=>?_)
 .obtain⟨kvs',xs,a5,rfl,rfl,h1,h2,h3,h4⟩:=hI;rw[dH]at e;cases ei:(aX k.toNat)[i]? with
  |none=>rw[ei]at e;cases e|some x=>
   rw[ei]at e;cases e;let hi:i<k.toNat:=by let:=(cJ.mp ei).1;lia
   let ex:x=i:=by
    unfold aX at ei;rw[dH,yu hi]at ei;show(cP ei).symm
   subst ex;let hc:(i+1)*c<=k.toNat*c:=yr _ hi;let kW:(i+1)*c=i*c+c:=yH ..;let put:∀{P:D},Rw n k d ps u F p L i P->∀(j:Nat) Q,(xs++[P])[j]?=some Q->Rw n k d ps u F p L j Q:=λ{P} hP j Q e=>by
    rw[List.getElem?_append]at e;split at e
    .exact h4 j Q e
    .let hj:j=i:=by
      let:=(cJ.mp e).1;simp at this
      lia
     subst hj;rw[h3,Nat.sub_self]at e;cases e;show hP
   ext;show cj (xV gV (Gv hL)) ?_;ext;show cj (show prim .inn [.int (i:Int),aN (some L)]=_ from zlS (f:=id)) ?_;by_cases hx:(i:Int)∈L
   .rw[cQ hx];ext;show W.cm rfl rfl (W.c0 (Du B v hp (v.lo p L hL _ hx)) ?_);ext;let hu2:=Dp (es:=λi=>aA i ps) (A:=aJ k d) (x:=(i:Int)) hL;let Fb:¬Sat (λi=>aA i ps) (aJ k d) (settle (λi=>aA i ps) (aJ k d) F p i):=λz=>hs ((Dn B v hp hL).mpr ⟨_,hx,z⟩);show NQ (n:=0) rfl rfl ((H _ kvs' (Dm B v hp) gV Fb h1 gV).imp λv1 s1=>?_);rintro⟨P,cI,rfl,hP,rfl,g1,g2⟩;show⟨_,_,rfl,rfl,?_⟩;ext;show⟨by lia,?_⟩;ext;show⟨_,rfl,cI,xs++[P],_,rfl,rfl,g1,by lia,by simp;lia,put ?_⟩;unfold Rw;rw[if_pos hx];show hP.up gV
   .rw[iK hx];ext;show⟨by lia,?_⟩;ext;show⟨_,rfl,kvs',xs++[.tup [.str "end",.int p]],_,rfl,rfl,h1,by lia,by simp;lia,put ?_⟩;unfold Rw;rw[if_neg hx]
 .obtain⟨kvs',xs,a5,rfl,rfl,h1,h2,h3,h4⟩:=hI;rw[bN,RK]at h2 h3;ext;show⟨_,kvs',_,rfl,?_,rfl,h1,h2⟩;rw[eu];show zkB w hd tO hk v.len hL h3 h4
def zdA{l m c:Nat}(w:Web n ps)(hd:1<=d)(tO:0<=k)(hk:k<=24)(H:∀m',m=m'+1->O2 n k d ps (l+2) m' c):O2 n k d ps (l+4) m (1+k.toNat*c):=by
 intro F kvs v hu hs ha hl;let B:=vq w hd hk;let hub:=U7 (es:=λi=>aA i ps) (F:=F);show W.call zpS rfl ?_;unfold V_;ext;show cj (znN (f:=id)) ?_;by_cases e0:some []∈F
 .rw[cQ e0];let⟨j,hj,ej⟩:=zol e0;ext;show KaX ?_;ext;show⟨rfl,?_⟩;ext;show cj ej ?_;ext;show⟨_,kvs,rfl,zlE (lB v.len hj) λks q f=>zmV f hj,rfl,ha,by lia⟩
 .rw[iK e0];let ne:∀(i:Nat) L,F[i]?=some (some L)->L≠[]:=λi L h q=>by subst q;show e0 (dG h)
  let sb:=zhm B v ne;let up:∀{P:D},Pp n k d ps (unset (bnd (λi=>aA i ps) F)) (bnd (λi=>aA i ps) F) P->Pp n k d ps (unset F) F P:=λ{P} h=>(show Pp n k d ps _ F P from ⟨h.1,λks q f=>h.2 ks q (znk f)⟩).up hub;ext;show W.cm rfl rfl (W.c0 (zgx B v) ?_);ext;show W.wY rfl rfl (zR _) rfl ?_;cases eg:bW ((bnd (λi=>aA i ps) F).map cellK) kvs with
  |some P=>
   ext;show W.k_ rfl rfl (zR _) rfl eg ?_;ext;show⟨P,kvs,rfl,up (ha _ _ eg),rfl,ha,by lia⟩
  |none=>
   ext;show WS.dput rfl rfl (zR _) ?_;ext;show Kau (s:=[]) rfl ((ziA (m:=m) (c:=c) w hd tO hk H (UW v) gV (λz=>hs (sb.mp z)) ha gV).imp λv1 s1=>?_);rintro⟨P,cI,r,rfl,hP,rfl,g1,g2⟩;show⟨_,_,_,rfl,rfl,?_⟩;show⟨_,cI,rfl,rfl,by lia,?_⟩;ext;show W.k_ (v:=P) rfl rfl (zR _) rfl (by rw[Oe,if_pos rfl]) ?_;ext;let:=zeD (q:=(bnd (λi=>aA i ps) F).map cellK) (d:=P) (kvs:=cI);show⟨P,_,rfl,up hP,rfl,zk7 g1 hP,by lia⟩
theorem zdg(w:Web n ps)(hd:1<=d)(tO:0<=k)(hk:k<=24):∀m j,O2 n k d ps (2*m+4+j) m (cnt k.toNat m)
 |0,j=>by
  rw[show 2*0+4+j=j+4 by lia];let:=zdA (l:=j) (m:=0) (c:=0) w hd tO hk (λm' e=>by lia);show this
 |m+1,j=>by
  rw[show 2*(m+1)+4+j=(2*m+2+j)+4 by lia];show zdA w hd tO hk λm' e=>?_;let em:m=m':=by lia
  subst em;rw[show 2*m+2+j+2=2*m+4+j by lia];show zdg w hd tO hk m j
end
section
variable {n k d:Int}{ps:List (Int×Int)}{ks:List (Option Int)}
def Tld(n k d:Int)(ps:List (Int×Int))(ks:List (Option Int))(P:D):Prop:=Mk n k n.toNat P/\pap n k d ps (n.toNat+1) ks P=true
def WT{k':Nat}(h:Web n ps)(hd:1<=d)(pG:d<=k)(hk:k<=24)(q:Kn n k ks)(hz:cnt k.toNat n.toNat+k.toNat*cnt k.toNat (n.toNat-1)+tot k.toNat (n.toNat-1)<sizeLine) :
  W (call aq T (k'+41) true 43 [.d (bA n ps),.d (aM k d),.d (.tup (ks.map cD))]) [] λv s=>(v=.d .non/\∃hs,rA n k d ps ks hs)\/∃P,v=.d P/\Tld n k d ps ks P/\∀hs,¬rA n k d ps ks hs:=by
 let lZ:(100:Nat)<=sizeLine:=by decide
 let h1:=h.h1;let h8:=h.h8;let hql:=q.len;let B:=vq h hd hk;show W.call zqa rfl ?_;unfold V6;ext;show jg rfl ((O1 h hd pG hk q hz).imp λv s=>?_);rintro(⟨rfl,gF⟩|⟨hs,rfl,hh,_⟩)
 .refine⟨_,rfl,?_⟩;ext;show W.c0 (Gx h hd pG hk) ?_;ext;show lX (l:=ks) (f:=cD) (λ_=>some (.tup ((aX k.toNat).map .int))) gV ?_ (λc hc=>?_) ?_
  .refine Y ?_;show⟨rfl,rfl⟩
  .refine Y ?_;show⟨rfl,λ_=>?_,λhb=>by cases hb⟩;ext;show⟨rfl,_,rfl,rfl⟩
  let e0:D.tup (ks.filterMap λ_=>some (D.tup ((aX k.toNat).map .int)))=gD (ks.map λ_=>some (aX k.toNat)):=by
   rw[oV];unfold gD;rw[tX];rfl
  ext;rw[e0];show U8 ?_;show Dh (λi J s=>s=[]/\∃(F:Fr) (a5 a6:Option Xv),J=[some (.d (bA n ps)),some (.d (aM k d)),some (.d (.tup (ks.map cD))),some (.d (nA n.toNat k.toNat (λi=>aA i ps) (aJ k d))),some (.d (gD F)),a5,a6]/\Sg n k d ps ks i F) ⟨rfl,_,_,_,rfl,zqE hk gV⟩ (λi z J s e hI=>?_) (λJ s hI=>?_)
  .obtain⟨rfl,F,a5,a6,rfl,hS⟩:=hI;rw[Us,dH]at e;cases ei:ks[i]? with
   |none=>rw[ei]at e;cases e|some c=>
    rw[ei]at e;cases e;let hi:i<n.toNat:=by let:=(cJ.mp ei).1;lia
    ext;show W.c0 (zg0 (p:=((0+i:Nat):Int)) h hd hk q gV) ?_;rw[G9];cases rK:kj k d ps ks i with
    |true=>
     ext;show .inr ⟨_,rfl,.inr ⟨_,rfl,⟨Vh ⟨by lia,by lia⟩,?_⟩,gF⟩⟩;change (m8 "end" (.str "end")&&(decide ((0:Int)<=i/\(i:Int)<n)&&kj k d ps ks i))=true;rw[rK,cQ gV];simp[m8]
    |false=>
     ext;cases c with
     |none=>
      ext;show .inl ⟨_,rfl,rfl,F,_,_,rfl,zlm hS ei rK⟩
     |some x=>
      let hx:=q.lo x (dG ei);ext;show W.cm rfl rfl (W.c0 (Du B hS.fv hi gV) ?_);ext;show .inl ⟨_,rfl,rfl,_,_,_,rfl,zks h hd hk hS ei rK⟩
  .obtain⟨rfl,F,a5,a6,rfl,hS⟩:=hI;rw[Ut,bN]at hS;let hft:=hS.ft;let zZ:=hS.full;rw[zkY]at hft zZ;let Fb:¬Sat (λi=>aA i ps) (aJ k d) F:=λz=>by
    let⟨hs,hh⟩:=znK h hd hk hS.fv.len q hft zZ (λi hi=>hS.st i gV) z;show gF hs hh
   let hu:unset F<=n.toNat:=by let:=zhK (F:=F);let:=hS.fv.len;lia
   let key:=zdg h hd (show 0<=k by lia) hk n.toNat (k'+40-(2*n.toNat+4)) F [] hS.fv hu Fb (λF P e=>by cases e) (by change 0+_<_;lia);rw[show 2*n.toNat+4+(k'+40-(2*n.toNat+4))=k'+40 by lia]at key;ext;show W.ou ?_;ext;show qZ (s:=[]) rfl (key.imp λv1 s1=>?_);rintro⟨P,kvs,rfl,hP,rfl,_,_⟩;show⟨_,_,rfl,rfl,?_⟩;ext;let hP:=hP.up hu;show .inr ⟨P,rfl,⟨hP.1,hP.2 ks q hft⟩,gF⟩
 .refine⟨_,rfl,?_⟩;ext;show .inl ⟨rfl,hs,hh⟩
def zje{m:Nat}{P:D}(h:Mk n k m P):∃xs,P=.tup xs:=by
 cases m with
 |zero=>let⟨p,_,rfl⟩:=h;show⟨_,rfl⟩|succ m=>
  rcases h with ⟨p,_,rfl⟩|⟨p,xs,_,_,_,rfl⟩
  .exact⟨_,rfl⟩
  .exact⟨_,rfl⟩
end
section
variable {n k d:Int}{ps:List (Int×Int)}{hs:List Int}
def rB(n k:Int)(hs:List Int)(p:Nat):Fr:=(hs.take p).map (λx=>some [x])++[some ((aX k.toNat).drop (at' hs p+1).toNat)]++List.replicate (n.toNat-(p+1)) (some (aX k.toNat))
def Gz{l:List Int}{i:Nat}(h:i<l.length):l[i]?=some (at' l i):=by
 unfold at';rw[iU,jL,cB h];rfl
def O4{p i:Nat}(hp:p<hs.length)(hi:i<p):(rB n k hs p)[i]?=some (some [at' hs i]):=by
 unfold rB;rw[yC,nH (by simp;lia),dH,List.getElem?_take_of_lt hi,Gz gV];rfl
def O5{p:Nat}(hp:p<hs.length):(rB n k hs p)[p]?=some (some ((aX k.toNat).drop (at' hs p+1).toNat)):=by
 unfold rB;rw[yC,nG (by simp;lia)];simp;rw[show p-min p hs.length=0 by lia];rfl
def WW{p i:Nat}(hp:p<hs.length)(hi:p<i)(hn:i<n.toNat):(rB n k hs p)[i]?=some (some (aX k.toNat)):=by
 unfold rB;rw[nG (by simp;lia),tQ,if_pos (by simp;lia)]
def ziP{p:Nat}(hl:(hs.length:Int)=n)(hp:p<hs.length):(rB n k hs p).length=n.toNat:=by
 unfold rB;simp
 lia
def Dv{p i:Nat}{L:List Int}(hl:(hs.length:Int)=n)(hp:p<hs.length)(h:(rB n k hs p)[i]?=some (some L)):i<n.toNat/\((i<p/\L=[at' hs i])\/(i=p/\L=(aX k.toNat).drop (at' hs p+1).toNat)\/(p<i/\L=aX k.toNat)):=by
 let hi:=(cJ.mp h).1;rw[ziP hl hp]at hi;show⟨hi,?_⟩;rcases GZ i p with c|c|c
 .rw[O4 hp c]at h;cases h;show .inl ⟨c,rfl⟩
 .subst c;rw[O5 hp]at h;cases h;show .inr (.inl ⟨rfl,rfl⟩)
 .rw[WW hp c hi]at h;cases h;show .inr (.inr ⟨c,rfl⟩)
def O6{m:Nat}{a x:Int}(ha:0<=a):x∈(aX m).drop a.toNat↔a<=x/\x<m:=by
 let e:(aX m).drop a.toNat=((List.range m).drop a.toNat).map λ(i:Nat)=>(i:Int):=by unfold aX;rw[List.map_drop]
 rw[e,j9]
 constructor
 .rintro⟨i,hi,rfl⟩;let⟨j,hj,e⟩:=pH hi;rw[List.getElem_drop,GX]at e;rw[yE,lH]at hj
  lia
 .rintro⟨h1,h2⟩;show⟨x.toNat,?_,by lia⟩;rw[List.mem_iff_getElem];show⟨x.toNat-a.toNat,by rw[yE,lH];lia,by rw[List.getElem_drop,GX];lia⟩
theorem zoL{p:Nat}(hh:cU n k d ps hs)(hk:k<=24)(hp:p<hs.length):Fv n.toNat k.toNat (rB n k hs p) where
 len:=ziP hh.len hp
 lo:=λi L h x hx=>by
  obtain⟨hi,⟨c,rfl⟩|⟨c,rfl⟩|⟨c,rfl⟩⟩:=Dv hh.len hp h
  .rw[jM]at hx;let:=hh.lo _ (tH (fs:=hs) (j:=i) gV (by let:=hh.len;lia))
   lia
  .let:=hh.lo _ (tH (fs:=hs) (j:=p) gV gV);let:=(O6 gV).mp hx
   lia
  .exact aL.mp hx
 ll:=λi L h=>by
  let hsl:(aX k.toNat).length=k.toNat:=by unfold aX;simp
  obtain⟨hi,⟨c,rfl⟩|⟨c,rfl⟩|⟨c,rfl⟩⟩:=Dv hh.len hp h
  .simp
  .rw[yE];lia
  .lia
 so:=λi L h=>by
  let wM:(aX k.toNat).Pairwise (·<·):=by
   unfold aX;rw[wj];show GK.imp λ{a b} h=>by lia
  obtain⟨hi,⟨c,rfl⟩|⟨c,rfl⟩|⟨c,rfl⟩⟩:=Dv hh.len hp h
  .simp
  .exact wM.drop
  .exact wM
def WX{p:Nat}{g:Nat->Int}(hh:cU n k d ps hs)(hp:p<hs.length):lA (λi=>aA i ps) (aJ k d) (rB n k hs p) g↔lA (λi=>aA i ps) (aJ k d) (iH n k) g/\(∀i,i<p->g i=at' hs i)/\at' hs p<g p:=by
 let hlp:=hh.lo _ (tH (fs:=hs) (j:=p) gV gV);let hl:=hh.len
 constructor
 .intro s;let m1:∀i,i<p->g i=at' hs i:=λi hi=>jM.mp (s.mem i _ (O4 hp hi));let m2:=(O6 gV).mp (s.mem p _ (O5 hp));let ex:∀i,i<n.toNat->∃L,(rB n k hs p)[i]?=some (some L):=λi hi=>by
   rcases GZ i p with c|c|c
   .exact⟨_,O4 hp c⟩
   .subst c;show⟨_,O5 hp⟩
   .exact⟨_,WW hp c hi⟩
  show⟨⟨λi L e=>?_,λi e L M h1 h2 he=>?_⟩,m1,by lia⟩
  .obtain⟨hi,rfl⟩:=zV e;let⟨L,hL⟩:=ex i hi;let:=s.mem i L hL;obtain⟨_,⟨c,rfl⟩|⟨c,rfl⟩|⟨c,rfl⟩⟩:=Dv hl hp hL
   .rw[jM]at this;let:=hh.lo _ (tH (fs:=hs) (j:=i) gV gV);show aL.mpr gV
   .let:=(O6 gV).mp this;show aL.mpr gV
   .exact this
  .obtain⟨hi,_⟩:=zV h1;let⟨hj,_⟩:=zV h2;let⟨L',hL⟩:=ex i hi;let⟨M',hM⟩:=ex e hj;show s.fit i e L' M' hL hM he
 .rintro⟨s,m1,m2⟩;show⟨λi L e=>?_,λi e L M h1 h2 he=>?_⟩
  .obtain⟨hi,⟨c,rfl⟩|⟨c,rfl⟩|⟨c,rfl⟩⟩:=Dv hl hp e
   .rw[m1 i c];simp
   .let:=aL.mp (s.mem i _ (zW hi));subst c;show(O6 gV).mpr gV
   .exact s.mem i _ (zW hi)
  .exact s.fit i e _ _ (zW (Dv hl hp h1).1) (zW (Dv hl hp h2).1) he
theorem GC:∀{a b:List Int},a.length=b.length->(ltI a b=true↔∃p:Nat,p<a.length/\(∀i:Nat,i<p->at' b i=at' a i)/\at' a p<at' b p)
 |[],[],_=>⟨λh=>(by cases h),λ⟨p,h,_⟩=>absurd h (G5 p)⟩|[],_::_,h=>by cases h|_::_,[],h=>by cases h|x::a,y::b,h=>by
  let ih:=GC (a:=a) (b:=b) (Nat.succ.inj h);let s:∀(z:Int) (l:List Int) (i:Nat),at' (z::l) ((i+1:Nat):Int)=at' l i:=λz l i=>rfl;change (if x=y then ltI a b else decide (x<y))=true↔_;by_cases e:x=y
  .subst e;rw[if_pos rfl,ih]
   constructor
   .rintro⟨p,h1,h2,h3⟩;show⟨p+1,Nat.succ_lt_succ h1,λi hi=>?_,by rw[s,s];show h3⟩;cases i with
    |zero=>rfl|succ i=>rw[s,s];show h2 i gV
   .rintro⟨p,h1,h2,h3⟩;cases p with
    |zero=>show absurd h3 (Int.lt_irrefl x)|succ p=>
     show⟨p,Nat.lt_of_succ_lt_succ h1,λi hi=>?_,by rw[s,s]at h3;show h3⟩;let:=h2 (i+1) gV;rw[s,s]at this;show this
  .rw[if_neg e,tV]
   constructor
   .intro h;show⟨0,Nat.zero_lt_succ _,λi hi=>absurd hi (G5 i),h⟩
   .rintro⟨p,h1,h2,h3⟩;cases p with
    |zero=>show h3|succ p=>show absurd (h2 0 (Nat.zero_lt_succ p)).symm e
end
section
variable {n k d:Int}{ps:List (Int×Int)}{hs:List Int}
def zjY{k':Nat}{F:Fr}(h:Web n ps)(hd:1<=d)(pG:d<=k)(hk:k<=24)(fv:Fv n.toNat k.toNat F)(all:∀i,i<n.toNat->∃L,F[i]?=some (some L))(hz:cnt k.toNat n.toNat+k.toNat*cnt k.toNat (n.toNat-1)+tot k.toNat (n.toNat-1)<sizeLine) :
  W (call aq T (k'+39) true 33 [.d (nA n.toNat k.toNat (λi=>aA i ps) (aJ k d)),.d (.fl (F.map aN))]) [] λv s=>(v=.d .non/\¬Sat (λi=>aA i ps) (aJ k d) F)\/∃hs:List Int,v=.d (.tup (hs.map .int))/\hs.length=n.toNat/\lA (λi=>aA i ps) (aJ k d) F (λj=>at' hs j)/\∀g,lA (λi=>aA i ps) (aJ k d) F g->∀j,j<n.toNat->(∀t,t<j->g t=at' hs t)->at' hs j<=g j:=by
 let h1:=h.h1;let h8:=h.h8;let lv:k'+39=3*n.toNat+5+(k'+34-3*n.toNat):=by lia
 rw[lv];let B:=vq h hd hk;let ji:1<=k.toNat:=by lia
 let cg:∀t a b:Int,0<=a->a<(k.toNat:Nat)->0<=b->b<(k.toNat:Nat)->aJ k d ((a+t)%(k.toNat:Nat)) ((b+t)%(k.toNat:Nat))=aJ k d a b:=λt a b a0 ak b0 bk=>by rw[show ((k.toNat:Nat):Int)=k by lia]at *;show KJ hd t a b a0 ak b0 bk
 let xu:unset F<=n.toNat:=by rw[<-fv.len];show GQ
 obtain⟨m,hm⟩ : ∃m,n.toNat=m+1:=⟨n.toNat-1,by lia⟩;let em:n.toNat-1=m:=by lia
 rw[em]at hz;show WQ (c0:=cnt k.toNat n.toNat) (c1:=k.toNat*cnt k.toNat m) B ji (λ_=>cg) fv all (by rw[em];show hz) ?_ (λkvs L hL o_ ha hl=>?_)
 .let:=zY (al:=true) B ji (λ_=>cg) n.toNat (k'+34-3*n.toNat) F [] fv xu (λF d e=>by cases e) (by simp;lia);simpa using this
 .refine K7 (m:=m) B ?_ fv gV hL ha gV;rw[show 3*n.toNat+1+(k'+34-3*n.toNat)+2=3*m+4+(k'+33-3*m) by lia];show zY B ji (λ_=>cg) m _
def zhA{α:Type}{xs:List α}{p:Nat}(h:p<=xs.length):cut xs none (some (p:Int))=xs.take p:=by
 unfold cut;rw[HT.iu,HT.fK,Ls h];simp
def zit{α:Type}{xs:List α}{a:Int}(h0:0<=a)(h:a<=xs.length):cut xs (some a) none=xs.drop a.toNat:=by
 let⟨p,rfl⟩:=v9 h0;unfold cut;rw[HT.iu,HT.fK,Ls gV,iU,List.take_of_length_le R3]
theorem KaU{aq:Nat->Nat->Bool}{aj:Bool}{F:Fn}{J:Vs}{s:S}{a:E}{P:Src×Nat->S->Prop}(h:W (ev aq aj F a J) s λx s1=>W (Mi.int x) s1 λi s2=>eY i=true/\P (.fix (gw 0 i).reverse,(gw 0 i).reverse.length) s2):W (g8 aq aj F (.Jp a) J) s P:=
 W.bd (h.imp λx s1 h=>W.bd (h.imp λi s2 h=>by rw[if_pos h.1,<-PB];show W.ret h.2))
def NoD(n k d:Int)(ps:List (Int×Int))(hs:List Int)(p:Nat):Prop:=∀g,cU n k d ps g->∀q:Nat,p<=q->q<n.toNat->(∀i:Nat,i<q->at' g i=at' hs i)->¬at' hs q<at' g q
def jT(n k d:Int)(ps:List (Int×Int))(hs g:List Int):Prop:=cU n k d ps g/\ltI hs g=true/\∀g',cU n k d ps g'->ltI hs g'=true->ltI g' g=false
def zoy{k':Nat}(h:Web n ps)(hr:1<=d/\d<=k/\k<=24)(hh:cU n k d ps hs):W (call aq T (k'+8) true 26 [.d (bA n ps),.d (aM k d),.d (.tup (hs.map .int))]) [] λv s=>∃d,v=.d d:=by
 let key:W (call aq T (k'+7) true 25 [.d (bA n ps),.d (aM k d),.d (.tup (hs.map .int))]) [] λv s=>v=.d (.bl true):=by
  show W.call Wq rfl ?_;unfold Oq;ext;show W.c0 (zcA h.h8 hh.len hh.lo) ?_;ext;show W.c0 (ze3 h hh.len) ?_;ext;change Xv.d (.bl (wD k d ps hs).gG)=_;rw[ziT,cQ (zgP hh)]
 show W.call zp8 rfl ?_;unfold VD;ext;show W.c1 (K4 h) λ_=>?_;ext;show W.c1 (K5 hr.1 hr.2.1 hr.2.2) λ_=>?_;ext;show W.c0 key ?_;ext;show⟨_,rfl⟩
def zfc{k':Nat}(h:Web n ps)(hr:1<=d/\d<=k/\k<=24)(hh:cU n k d ps hs)(hz:cnt k.toNat n.toNat+k.toNat*cnt k.toNat (n.toNat-1)+tot k.toNat (n.toNat-1)<sizeLine) :
  W (call aq T (k'+40) true 29 [.d (bA n ps),.d (aM k d),.d (.tup (hs.map .int))]) [] λv s=>(v=.d .non/\∀g,cU n k d ps g->ltI hs g=false)\/∃g,v=.d (.tup (g.map .int))/\jT n k d ps hs g:=by
 let h1:=h.h1;let h8:=h.h8;let hl:=hh.len;let lZ:(1000:Nat)<=sizeLine:=by decide
 let ew:bA n ps=.tup [.int n,.tup (ps.map iG)]:=rfl;show W.call zqj rfl ?_;unfold VH;ext;show W.c1 (zoy h hr hh) λ_=>?_;ext;show W.c0 (Gx h hr.1 hr.2.1 hr.2.2) ?_;ext;show KaU ?_;ext;show⟨jZ gV gV,?_⟩;show Dh (λi J s=>s=[]/\(∃(a4 a5 a6 a7 a8:Option Xv),J=[some (.d (bA n ps)),some (.d (aM k d)),some (.d (.tup (hs.map .int))),some (.d (nA n.toNat k.toNat (λi=>aA i ps) (aJ k d))),a4,a5,a6,a7,a8])/\i<=n.toNat/\NoD n k d ps hs (n.toNat-i)) ⟨rfl,⟨_,_,_,_,_,rfl⟩,by lia,λg _ q h1 h2=>by lia⟩ (λi x J s e hI=>?_) (λJ s hI=>?_)
 .obtain⟨rfl,⟨a4,a5,a6,a7,a8,rfl⟩,dD,hI⟩:=hI;rw[NP]at e;split at e
  .rename_i hi;cases e;obtain⟨p,hp⟩ : ∃p:Nat,(n.toNat:Int)-1-i=p:=⟨n.toNat-1-i,by lia⟩;rw[hp];let cF:p<hs.length:=by lia
   let hlp:=hh.lo _ (tH (fs:=hs) (j:=p) gV gV);ext;let ct:cut (hs.map D.int) none (some (p:Int))=(hs.take p).map .int:=by rw[zhA (by rw[bN];lia),List.map_take]
   show lX (l:=hs.take p) (f:=D.int) (λx=>some (aN (some [x]))) (by rw[rD];lia) ?_ (λx hx=>?_) ?_
   .refine Y ?_;rw[ct];show⟨rfl,rfl⟩
   .refine Y ?_;show⟨rfl,λ_=>?_,λhb=>by cases hb⟩;ext;show⟨rfl,_,rfl,rfl⟩
   ext;show cj (C_ gV gV) ?_;ext;let hsl:((aX k.toNat).map D.int).length=k.toNat:=by unfold aX;simp
   let cd:cut ((aX k.toNat).map D.int) (some (at' hs p+1)) none=((aX k.toNat).drop (at' hs p+1).toNat).map .int:=by rw[zit gV (by rw[hsl];lia),List.map_drop]
   rw[cd];show lX (l:=List.range (n-((p:Int)+1)).toNat) (f:=λ(j:Nat)=>.int ((p:Int)+1+j)) (λ_=>some (aN (some (aX k.toNat)))) (by rw[lH];lia) ?_ (λx hx=>?_) ?_
   .refine Y ?_;show⟨by rw[jZ gV gV,jZ gV gV];rfl,?_⟩;show⟨rfl,rfl⟩
   .refine Y ?_;show⟨rfl,λ_=>?_,λhb=>by cases hb⟩;ext;show⟨rfl,_,rfl,rfl⟩
   ext;show Gn (NT (by rw[oV,bN,rD];change _+1<=_;lia)) ?_;ext;show Gn (NT (by rw[oV,oV,jk,bN,bN,lH,rD];change _+1+_<=_;lia)) ?_;ext;let eF:(hs.take p).filterMap (λx=>some (aN (some [x])))++[.tup (((aX k.toNat).drop (at' hs p+1).toNat).map .int)]++(List.range (n-((p:Int)+1)).toNat).filterMap (λ(_:Nat)=>some (aN (some (aX k.toNat))))=(rB n k hs p).map aN:=by
    unfold rB;rw[oV,oV,pJ,pJ,tX,List.map_replicate,show (n-((p:Int)+1)).toNat=n.toNat-(p+1) by lia]
    congr 1
    rw[List.map_const',lH]
   rw[eF];show jg rfl ((zjY h hr.1 hr.2.1 hr.2.2 (zoL hh hr.2.2 cF) (λj hj=>by
    rcases GZ j p with c|c|c
    .exact⟨_,O4 cF c⟩
    .subst c;show⟨_,O5 cF⟩
    .exact⟨_,WW cF c hj⟩) hz).imp λv s hv=>?_)
   rcases hv with ⟨rfl,gF⟩|⟨g,rfl,jJ,vA,Ce⟩
   .refine⟨_,rfl,?_⟩;ext;show .inl ⟨_,rfl,rfl,⟨_,_,_,_,_,rfl⟩,by lia,λg hg q q1 q2 q3 q4=>?_⟩;by_cases e:q=p
    .subst e;show gF ⟨λj=>at' g j,(WX hh cF).mpr ⟨Oj h hr.1 hg,λj hj=>q3 j hj,q4⟩⟩
    .exact hI g hg q gV q2 q3 q4
   .obtain⟨s1,s2,s3⟩:=(WX hh cF).mp vA;let hg:=zeJ h jJ s1;show⟨_,rfl,?_⟩;ext;show .inr ⟨_,rfl,.inr ⟨g,rfl,hg,(GC gV).mpr ⟨p,cF,s2,s3⟩,λg' Di cW=>?_⟩⟩;let aah:=Di.len;let⟨q,q1,q2,q3⟩:=(GC gV).mp cW;cases e:ltI g' g with
    |false=>rfl|true=>
     exfalso
     let⟨r,r1,r2,r3⟩:=(GC gV).mp e;let hqp:q<=p:=by
      rcases Nat.lt_or_ge p q with c|c
      .exact absurd q3 (hI g' Di q gV gV q2)
      .exact c
     by_cases c:q=p
     .subst c;let:=Ce (λj=>at' g' j) ((WX hh cF).mpr ⟨Oj h hr.1 Di,λj hj=>q2 j hj,q3⟩) r gV λt ht=>(r2 t ht).symm
      lia
     .rcases GZ r q with z|z|z
      .let:=q2 r z;let:=s2 r gV
       lia
      .subst z;let:=s2 r gV
       lia
      .let:=r2 q z;let:=s2 q gV
       lia
  .cases e
 .obtain⟨rfl,⟨a4,a5,a6,a7,a8,rfl⟩,dD,hI⟩:=hI;rw[PB,Uv,show (n-0).toNat=n.toNat by lia,Nat.sub_self]at hI;ext;show .inl ⟨rfl,λg hg=>?_⟩;cases e:ltI hs g with
  |false=>rfl|true=>
   let jJ:=hg.len;let⟨q,q1,q2,q3⟩:=(GC gV).mp e;show absurd q3 (hI g hg q (sW _) gV q2)
end
section
variable {n k d:Int}{ps:List (Int×Int)}{hs:List Int}
theorem zel{k:Nat}:∀{m:Nat} {r:List Int},r.length=m->(∀x∈r,0<=x/\x<k)->r∈allR k m
 |0,r,h,_=>by rw[List.length_eq_zero_iff.mp h];show jM.mpr rfl|m+1,r,h,hx=>by
  rcases List.eq_nil_or_concat r with rfl|⟨e,x,rfl⟩
  .cases h
  .rw[List.concat_eq_append]at h hx ⊢;show List.mem_flatMap.mpr ⟨e,zel (by simpa using h) λy hy=>hx y (Px _ hy),j9.mpr ⟨x,aL.mpr (hx x R3),rfl⟩⟩
theorem ze1{k:Nat}:∀m,(allR k m).Pairwise RLt
 |0=>List.pairwise_singleton ..|m+1=>by
  unfold allR;rw[List.pairwise_flatMap];show⟨λr hr=>?_,(ze1 m).imp_of_mem λ{r s} hr hs h a ha b hb=>?_⟩
  .rw[wj];let wM:(aX k).Pairwise (·<·):=by
    unfold aX;rw[wj];show GK.imp λ{a b} h=>by lia
   show wM.imp λ{x y} h=>?_;change ltI _ _=true;rw[zg3];change (if x=y then _ else decide (x<y))=true;rw[if_neg gV];show cQ h
  .obtain⟨x,_,rfl⟩:=j9.mp ha;let⟨y,_,rfl⟩:=j9.mp hb;show zhk (by rw[(KR hr).1,(KR hs).1]) h
structure yp(n k d:Int)(ps:List (Int×Int))(G:List (List Int)):Prop where
 inc:G.Pairwise RLt
 mem:∀r,r∈G↔cU n k d ps r
def zoZ(w:Web n ps)(hk:1<=k):yp n k d ps (grows k d ps [[]] n.toNat) where
 inc:=by rw[Ve w];show(ze1 _).filter _
 mem:=λr=>by
  let h1:=w.h1;rw[Ve w,jN]
  constructor
  .rintro⟨a,b⟩;let⟨c,e⟩:=KR a;show⟨by lia,λx hx=>by let:=e x hx;lia,λp hp=>gP (cT.mp b p hp)⟩
  .intro h;let:=h.len;show⟨zel gV λx hx=>by let:=h.lo x hx;lia,cT.mpr λp hp=>cQ (h.fit p hp)⟩
variable {G:List (List Int)}
def cell(G:List (List Int))(i:Nat):D:=match G[i]? with
 |some r=>j8 r|none=>.non
def Dw(A:yp n k d ps G){i j:Nat}(hi:i<G.length)(hj:j<G.length):ltI G[i] G[j]=true↔i<j:=by
 let p:=O8.mp A.inc;rcases GZ i j with c|c|c
 .exact⟨λ_=>c,λ_=>p i j hi hj c⟩
 .subst c;rw[Vf];show⟨λh=>(by cases h),λh=>absurd h (rF _)⟩
 .let:=p j i hj hi c;rw[zmf this];show⟨λh=>(by cases h),λh=>by lia⟩
def znh(A:yp n k d ps G){i:Nat}(hi:i<G.length){v:Xv}(h:(v=.d .non/\∀g,cU n k d ps g->ltI G[i] g=false)\/∃g,v=.d (.tup (g.map .int))/\jT n k d ps G[i] g):v=.d (cell G (i+1)):=by
 rcases h with ⟨rfl,h⟩|⟨g,rfl,hg,hl,hm⟩
 .rcases Nat.lt_or_ge (i+1) G.length with c|c
  .let:=h G[i+1] ((A.mem _).mp (wz _));rw[(Dw A hi c).mpr gV]at this;cases this
  .unfold cell;rw[yq c]
 .obtain⟨j,hj,rfl⟩:=pH ((A.mem g).mpr hg);let hij:=(Dw A hi hj).mp hl;let c:i+1<G.length:=by lia
  let:=hm G[i+1] ((A.mem _).mp (wz _)) ((Dw A hi c).mpr gV);let hji:¬i+1<j:=λz=>by rw[(Dw A c hj).mpr z]at this;cases this
  let:j=i+1:=by lia
  subst this;unfold cell;rw[cB hj];rfl
def zkQ(A:yp n k d ps G){v:Xv}(h:(v=.d .non/\∀hs,¬cU n k d ps hs)\/∃hs,v=.d (.tup (hs.map .int))/\cU n k d ps hs/\∀g,cU n k d ps g->Ge g hs):v=.d (cell G 0):=by
 rcases h with ⟨rfl,h⟩|⟨hs,rfl,hh,hg⟩
 .cases G with
  |nil=>rfl|cons r G=>show absurd ((A.mem r).mp R3) (h r)
 .obtain⟨j,hj,rfl⟩:=pH ((A.mem hs).mpr hh);let h0:0<G.length:=by lia
  let:=hg G[0] ((A.mem _).mp (wz _));let hj0:j=0:=by
   rcases Nat.eq_zero_or_pos j with c|c
   .exact c
   .exfalso
    let l1:=hh.len;let l2:=((A.mem G[0]).mp (wz _)).len;let⟨p,p1,p2,p3⟩:=(GC gV).mp ((Dw A h0 hj).mpr c);let:=this p gV λi hi=>(p2 i hi).symm
    lia
  subst hj0;unfold cell;rw[cB hj];rfl
end
def rC(o:SO):Prop:=∃a b:Int,o=.lst [.int a,.int b]/\0<=a/\(b=0\/b=1)
def WY{k:Nat}{o:SO}{m:Int}(ho:rC o)(hm:0<m)(NK:m<1073741824):W (call aq T (k+1) true 51 [.l 0,.d (.int m)]) [o] λv s=>∃d o',v=.d d/\s=[o']/\(∃r:Int,d=.int r/\0<=r/\r<m)/\rC o':=by
 let⟨a,b,rfl,ha,hb⟩:=ho;show W.call zpR rfl ?_;unfold Wd;rcases hb with rfl|rfl
 .refine Y ?_;show⟨_,_,rfl,rfl,⟨_,rfl,Aj _ gV,Ed _ hm⟩,⟨_,_,rfl,Aj _ J0,.inl rfl⟩⟩
 .refine Y ?_;show⟨_,_,rfl,rfl,⟨_,rfl,Aj _ gV,Ed _ hm⟩,⟨_,_,rfl,Int.ediv_nonneg ha gV,.inr rfl⟩⟩
def zox{k:Nat}{n:Int}:W (call aq T (k+1) true 50 [.d (.int n)]) [] λv s=>∃i o,v=.l i/\s[i]?=some o/\rC o:=by
 show W.call zqk rfl ?_;unfold Wc;ext;show⟨0,_,rfl,rfl,⟨_,_,rfl,?_,?_⟩⟩
 .split<;>lia
 .let:∀c:Bool,(if c=true then (1:Int) else 0)=0\/(if c=true then (1:Int) else 0)=1:=by intro c;cases c<;>simp
  show this _
def GD{k:Nat}{o:SO}{m:Int}{P:Xv->S->Prop}(ho:rC o)(hm:0<m)(NK:m<1073741824)(h:∀(r:Nat) o',(r:Int)<m->rC o'->P (.d (.int r)) [o']):W (bY (call aq T (k+1) true 51) [.l 0,.d (.int m)]) [o] P:=by
 show NQ (n:=0) (o:=o) rfl rfl ((WY ho hm NK).imp λv s=>?_);rintro⟨d,o',rfl,rfl,⟨r,rfl,h0,h1⟩,hp⟩;let⟨n,rfl⟩:=v9 h0;show⟨_,_,rfl,rfl,h n o' h1 hp⟩
def zmm{k:Nat}{ns:List Int}:W (call aq T (k+1) true 49 [.d (.fl (ns.map D.int)),.d (.int 0)]) [] λv _=>∃n,v=.d (.int n):=by
 show W.call zp1 rfl ?_;unfold Wb;cases ns with
 |nil=>
  ext;show⟨_,rfl⟩
 |cons n r=>
  ext;show WS.ite (λ_=>?_) (λ_=>?_)
  .refine Y ?_;show cj (Kg (i:=0) (x:=.int n) rfl) ?_;ext;show⟨_,rfl⟩
  .refine Y ?_;show⟨_,rfl⟩
def ziq{k:Nat}{o:SO}{n:Int}(ho:rC o)(h1:1<=n)(h8:n<=8):W (call aq T (k+2) true 52 [.l 0,.d (.int n)]) [o] λv s=>∃ps o',v=.d (bA n ps)/\s=[o']/\Web n ps/\rC o':=by
 show W.call zpP rfl ?_;unfold Wf;let hs:(100:Nat)<=sizeLine:=by decide
 ext;show GD ho J0 J0 λr o' hr hp=>?_;ext;let Fw:r<3:=by lia
 show cj (Kg (x:=.int (([2,4,6]:List Int)[r]'Fw)) ?_) ?_
 .revert Fw;revert r;intro r _ Fw;show match r,Fw with
  |0,_=>rfl|1,_=>rfl|2,_=>rfl|n+3,h=>absurd h gV
 generalize ([2,4,6]:List Int)[r]=often;ext;show⟨by rw[jZ gV gV,jZ gV gV];rfl,?_⟩;show CQ (λ(i:Nat) J s=>∃(ps:List (Int×Int)) (a:Option Xv) (o':SO),J=[some (.l 0),some (.d (.int n)),some (.d (.int often)),some (.d (.fl (ps.map iG))),a]/\s=[o']/\rC o'/\(∀p∈ps,0<=p.1/\p.1<(i:Int)/\p.1<p.2/\p.2<n)/\ps.Pairwise lx/\ps.length<=7*i)
  ⟨[],_,_,rfl,rfl,hp,by simp,by simp,by simp⟩ (λi x J s e hI=>?_) (λJ s hI=>?_)
 .obtain⟨ps,a,o',rfl,rfl,hp,ht,Dy,hlen⟩:=hI;let⟨rfl,hi⟩:=zmI e;let hi8:i<8:=by lia
  ext;show Kay (c:=gw (0+(i:Int)+1) n) (λ(j:Nat) acc s=>∃(es:List Int) (o':SO),acc=es.map (λe=>iG (0+(i:Int),e))/\es.Pairwise (·<·)/\(∀e∈es,(i:Int)<e/\e<(i:Int)+1+j)/\s=[o']/\rC o') ?_ (λj x acc s e hJ=>?_) (λacc s hJ=>?_)
  .refine Y ?_;show⟨by rw[jZ gV gV,jZ gV gV];rfl,?_⟩;show⟨rfl,[],_,rfl,by simp,by simp,rfl,hp⟩
  .obtain⟨es,o',rfl,GF,z_,rfl,hp⟩:=hJ;let⟨rfl,hj⟩:=zmI e;let hel:(es.length:Int)<=(i:Int)+1+j-((i:Int)+1):=Uu GF (λe he=>by let:=z_ e he;lia) gV;ext;show GD hp J0 J0 λr o' hr hp=>?_;ext;show⟨λhb=>?_,λhb=>?_⟩
   .refine Y ?_;show⟨_,rfl,by rw[bN];lia,es++[0+(i:Int)+1+j],o',?_,?_,?_,rfl,hp⟩
    .rw[pJ];rfl
    .rw[List.pairwise_append];show⟨GF,by simp,λa ha b hb=>?_⟩;simp at hb;let:=z_ a ha
     lia
    .intro e he;rcases mj.mp he with he|he
     .let:=z_ e he;lia
     .simp at he;lia
   .exact⟨es,o',rfl,GF,λe he=>by let:=z_ e he;lia,rfl,hp⟩
  .obtain⟨es,o',rfl,GF,z_,rfl,hp⟩:=hJ;rw[Uv]at z_;let hel:(es.length:Int)<=n-((i:Int)+1):=Uu GF (λe he=>by let:=z_ e he;lia) gV;ext;show Gn (NT ?_) ?_
   .rw[bN,bN];lia
   ext;show⟨_,rfl,ps++es.map (λe=>(0+(i:Int),e)),some (.d (.int (0+(i:Int)))),o',?_,rfl,hp,?_,?_,?_⟩
   .rw[pJ,tX];rfl
   .intro p hp;rcases mj.mp hp with hp|hp
    .let:=ht p hp;lia
    .obtain⟨e,he,rfl⟩:=j9.mp hp;let:=z_ e he;dsimp only
     lia
   .rw[List.pairwise_append,wj];show⟨Dy,GF.imp λh=>.inr ⟨rfl,h⟩,λp hp q hq=>?_⟩;let⟨e,he,rfl⟩:=j9.mp hq;let:=ht p hp;show .inl (by dsimp only;lia)
   .rw[jk,bN];lia
 .obtain⟨ps,a,o',rfl,rfl,hp,ht,Dy,hlen⟩:=hI;rw[Uv]at ht hlen;ext;show⟨ps,o',rfl,rfl,⟨h1,h8,λp hp=>?_,Dy,by lia⟩,hp⟩;let:=ht p hp
  lia
theorem zmO{xs:List D}{r:Nat}(hr:r<xs.length):∃x,prim .ix [.fl xs,.int r]=some (.dat x)/\x∈xs:=⟨xs[r],Kg (cB hr),wz _⟩
def zkP{xs:List D}{z:Int}(h0:0<=z)(hz:z<xs.length):∃x,prim .ix [.fl xs,.int z]=some (.dat x)/\x∈xs:=by
 let⟨r,rfl⟩:=v9 h0;show zmO gV
theorem zlb{xs:List Int}{r:Nat}{q:Int->Prop}(hb:∀z∈xs,q z)(hr:r<xs.length):∃z:Int,prim .ix [.fl (xs.map .int),.int r]=some (.dat (.int z))/\q z:=
 ⟨xs[r],Kg (by rw[dH,cB hr];rfl),hb _ (wz _)⟩
def zhQ{k':Nat}{o:SO}{n k d:Int}{ps:List (Int×Int)}(ho:rC o)(h1:1<=n)(h8:n<=8)(hk:1<=k/\k<=24):W (call aq T (k'+2) true 53 [.l 0,.d (bA n ps),.d (aM k d)]) [o] λv s=>∃(ks:List (Option Int)) (o':SO),v=.d (.tup (ks.map cD))/\s=[o']/\Kn n k ks/\rC o':=by
 show W.call zpF rfl ?_;unfold Wg bA aM;let lZ:(100:Nat)<=sizeLine:=by decide
 ext;show GD ho J0 J0 λr o' hr hp=>?_;ext;let⟨z,ez,_⟩:=zlb (xs:=[1,2,4]) (r:=r) (q:=λz=>True) J0 (by change r<3;lia);show cj ez ?_;ext;show Kay (c:=(List.range (n-0).toNat).map λ(j:Nat)=>.int (0+j)) (λi acc s'=>∃(o:SO) (ks:List (Option Int)),s'=[o]/\rC o/\acc=ks.map cD/\ks.length=i/\∀x,some x∈ks->0<=x/\x<k) ?_ (λi x acc s' e hI=>?_) (λacc s' hI=>?_)
 .refine Y ?_;show⟨by rw[jZ gV gV,jZ gV gV];rfl,?_⟩;show⟨rfl,o',[],rfl,hp,rfl,rfl,λx hx=>by cases hx⟩
 .obtain⟨o,ks,rfl,hp,rfl,hl,hlo⟩:=hI;let hi:=(cJ.mp e).1;rw[bN,lH]at hi;ext;show⟨λ_=>?_,λhb=>by cases hb⟩;ext;show GD hp J0 J0 λr2 o2 hr2 hp=>?_;ext;show W.ite (λc=>?_) (λc=>?_)
  .refine Y ?_;show GD hp gV gV λr3 o3 hr3 hp=>?_;show⟨_,rfl,by rw[bN];lia,o3,ks++[some (r3:Int)],rfl,hp,by rw[pJ];rfl,by simp[hl],λx hx=>?_⟩;rcases mj.mp hx with hx|hx
   .exact hlo x hx
   .let:x=r3:=by simpa using hx
    lia
  .refine Y ?_;show⟨_,rfl,by rw[bN];lia,o2,ks++[none],rfl,hp,by rw[pJ];rfl,by simp[hl],λx hx=>?_⟩;rcases mj.mp hx with hx|hx
   .exact hlo x hx
   .simp at hx
 .obtain⟨o,ks,rfl,hp,rfl,hl,hlo⟩:=hI;rw[bN,lH]at hl;ext;show⟨ks,o,rfl,rfl,⟨by lia,hlo⟩,hp⟩
def small{n k:Int}(h5:n<=4)(hk:k<=6):cnt k.toNat n.toNat+k.toNat*cnt k.toNat (n.toNat-1)+tot k.toNat (n.toNat-1)<sizeLine:=by
 let h1:=Ol (k:=k.toNat) (k2:=6) (m:=n.toNat) (m2:=4) gV gV;let h2:=Ol (k:=k.toNat) (k2:=6) (m:=n.toNat-1) (m2:=3) gV gV;let h3:=zep (k:=k.toNat) (k2:=6) (m:=n.toNat-1) (m2:=3) gV gV;let h4:k.toNat*cnt k.toNat (n.toNat-1)<=6*cnt 6 3:=En gV h2;let e:cnt 6 4+6*cnt 6 3+tot 6 3<sizeLine:=by decide
 lia
def Dz{n k:Int}(h5:n<=4)(hk:k<=6):1+cnt k.toNat (n.toNat-1)+cnt k.toNat (n.toNat-1)+tot k.toNat (n.toNat-1)<sizeLine:=by
 let h2:=Ol (k:=k.toNat) (k2:=6) (m:=n.toNat-1) (m2:=3) gV gV;let h3:=zep (k:=k.toNat) (k2:=6) (m:=n.toNat-1) (m2:=3) gV gV;let e:1+cnt 6 3+cnt 6 3+tot 6 3<sizeLine:=by decide
 lia
def O7{n:Int}(h:0<=n/\n<=1000):prim .mult [.tup [.non],.int n]=some (.dat (.tup ((List.replicate n.toNat none).map cD))):=by
 change (if _ then _ else _)=_;rw[if_pos ⟨h.1,h.2,by decide,by decide⟩];let:∀k:Nat,rep [D.non] k=(List.replicate k (none:Option Int)).map cD:=λk=>by
  unfold rep
  induction k with
  |zero=>rfl|succ k ih=>rw[DW,P_,ih,DW];rfl
 rw[this]
def Nm{a b:List Int}:prim .M7 [.tup (a.map .int),.tup (b.map .int)]=some (.dat (.bl (ltI b a))):=by
 change (match bI (a.map D.int),bI (b.map D.int) with|some a,some b=>some (Rz.dat (.bl (ltI b a)))|_,_=>none)=_;rw[Dl,Dl]
def Cw{a b:List Int}:prim .M8 [.tup (a.map .int),.tup (b.map .int)]=some (.dat (.bl (!ltI b a))):=by
 change (match bI (a.map D.int),bI (b.map D.int) with|some a,some b=>some (Rz.dat (.bl (!ltI b a)))|_,_=>none)=_;rw[Dl,Dl]
theorem zgC{n k:Int}(h:0<=n):Kn n k (List.replicate n.toNat none):=⟨by rw[Ad];lia,λi hi=>by cases List.eq_of_mem_replicate hi⟩
section
variable {n k d:Int}{ps:List (Int×Int)}{ks:List (Option Int)}{hs L:List Int}{G:List (List Int)}
def zk6{k' m:Nat}{x:D}(h:Web n ps)(hd:1<=d)(pG:d<=k)(hk:k<=24)(q:Kn n k ks)(hx:Sh m x):W (call aq T (2*m+k'+9) true 42 [.d (bA n ps),.d (aM k d),.d (.tup (ks.map cD)),.d x]) [] λv s=>v=.d (.bl (pap n k d ps m ks x)):=by
 let hql:=q.len;let h8:=h.h8;let WR:Dr n k (.tup (ks.map cD))=true:=by
  rw[show Dr n k (.tup (ks.map cD))=(decide (((ks.map cD).length:Int)=n)&&(ks.map cD).all (Dq k)) from rfl,bN,cQ hql,Ly,Er,cT];intro c hc;cases c with
  |none=>rfl|some i=>have:=q.lo i hc;show cQ (p:=(0<=i/\i<=k-1)) gV
 let hok:Kq (.tup (ks.map cD))=true:=cT.mpr λy hy=>by
  let⟨c,_,rfl⟩:=j9.mp hy;cases c<;>rfl
 show W.call zqe rfl ?_;unfold V5;ext;show W.c1 (zcs (k':=2*m+k'+1) h ⟨hd,pG,hk⟩ hok (λxs e=>by cases e;rw[bN];lia) WR) λ_=>?_;ext;show W.c0 (Gx h hd pG hk) ?_;ext;show W.c0 (zgQ h hd gV hk m (k'+5) ks x q hx) ?_
 first|exact Y trivial|exact Y rfl
def znM(w:Web n ps)(hd:1<=d)(hh:rA n k d ps ks hs){p:Int}(hp:0<=p/\p<n):kj k d ps ks p=false:=by
 let hl:=hh.hu.len;let hlo:=hh.hu.lo _ (tH (fs:=hs) (j:=p) hp.1 gV);let far:oZ k d (iR ks (aA p ps)) (at' hs p)=true:=by
  unfold oZ;rw[cT];intro o ho;let⟨e,he,e2⟩:=tR.mp ho;let e3:ks[e.toNat]?=some (some o):=by
   cases e3:ks[e.toNat]? with
   |none=>rw[e3]at e2;cases e2|some c=>rw[e3]at e2;cases (show c=some o from e2);rfl
  let e4:=hh.kn _ _ e3;let he0:=zP w he;rw[show ((e.toNat:Nat):Int)=e by lia]at e4;rcases(yd w).mp he with z|z
  .let:=hh.hu.fit _ z;rw[e4]at this;show cQ this
  .let:=hh.hu.fit _ z;rw[e4]at this;rw[zU hd];show cQ this
 unfold kj
 split
 .rw[Le];intro z;let:=cT.mp z (at' hs p) (aL.mpr gV);rw[far]at this;cases this
 .rename_i i e;let e3:ks[p.toNat]?=some (some i):=by
   cases e3:ks[p.toNat]? with
   |none=>rw[e3]at e;cases e|some c=>rw[e3]at e;cases (show c=some i from e);rfl
  let e4:=hh.kn _ _ e3;rw[show ((p.toNat:Nat):Int)=p by lia]at e4;rw[<-e4,far];rfl
theorem vB{m:Nat}:rA n k d ps (List.replicate m none) hs↔cU n k d ps hs:=⟨λh=>h.hu,λh=>⟨h,λj i e=>by rw[tQ]at e;split at e<;>cases e⟩⟩
def vZ(n r:Nat)(x:Int):List (Option Int):=List.replicate r none++[some x]++List.replicate (n-r-1) none
def zi2{m r:Nat}{x i:Int}{j:Nat}(h:(vZ m r x)[j]?=some (some i)):j=r/\i=x:=by
 unfold vZ at h;rw[yC,List.getElem?_append]at h;split at h
 .rw[tQ]at h;split at h<;>cases h
 .rename_i c;rw[Ad]at h c;rw[List.singleton_append]at h;cases e:j-r with
  |zero=>rw[e]at h;cases h;show⟨by lia,rfl⟩|succ m=>rw[e,Ac,tQ]at h;split at h<;>cases h
def zoq{m r:Nat}{x:Int}:(vZ m r x)[r]?=some (some x):=by
 unfold vZ;simp
def znP{r:Nat}{x:Int}(hr:(r:Int)<n)(hx:0<=x/\x<k):Kn n k (vZ n.toNat r x) where
 len:=by unfold vZ;simp;lia
 lo:=λi hi=>by
  let⟨j,hj,e⟩:=pH hi;let:=zi2 (m:=n.toNat) (r:=r) (x:=x) (j:=j) (i:=i) (by rw[cB hj,e])
  lia
theorem zly(h:cU n k d ps L):Kn n k (L.map some):=⟨by rw[bN];show h.len,λi hi=>by
 let⟨y,hy,e⟩:=j9.mp hi;cases e;show h.lo _ hy⟩
theorem zkZ(h:cU n k d ps L):rA n k d ps (L.map some) L:=⟨h,λj i e=>by
 rw[dH,iI]at e;let⟨y,ey,e⟩:=e;cases e;let:=Gz (l:=L) (i:=j) (cJ.mp ey).1;rw[ey]at this;show(cP this).symm⟩
def zmJ(h:cU n k d ps L)(g:rA n k d ps (L.map some) hs):hs=L:=by
 let l1:=h.len;let l2:=g.hu.len;show Lj λj=>?_;by_cases c:j<L.length
 .rw[Gz c,Gz gV,g.kn j (at' L j) (by rw[dH,Gz c];rfl)]
 .rw[yq gV,yq gV]
def ziB(w:Web n ps)(hk:1<=k):(grows k d ps [[]] n.toNat).length<=k.toNat^n.toNat:=by
 rw[Ve w];show jz (GP _ _) ?_;generalize n.toNat=m
 induction m with
 |zero=>show bQ 1|succ m ih=>
  change ((allR k.toNat m).flatMap _).length<=_;let:∀l:List (List Int),(l.flatMap λr=>(aX k.toNat).map λx=>r++[x]).length=l.length*k.toNat:=λl=>by
   induction l with
   |nil=>simp|cons r l ih2=>
    rw[yD,jk,ih2,eE,bN,yH];let:(aX k.toNat).length=k.toNat:=by unfold aX;simp
    lia
  rw[this,Nat.pow_succ];show yr _ ih
def zng{k':Nat}{o:SO}(ho:rC o)(h:Web n ps)(h4:n<=4)(hr:1<=d/\d<=k/\k<=6):W (call aq T (k'+42) true 54 [.l 0,.d (bA n ps),.d (aM k d)]) [o] λv s=>∃e o',v=.d e/\s=[o']/\e=.bl true/\rC o':=by
 let lZ:(10000:Nat)<=sizeLine:=by decide
 let h1:=h.h1;let ew:bA n ps=.tup [.int n,.tup (ps.map iG)]:=rfl;let A:=zoZ (d:=d) h (show 1<=k by lia);let hGl:(grows k d ps [[]] n.toNat).length<=1296:=by
  let p6:∀i,i<=4->6^i<=1296:=by decide
  show jz (ziB h gV) (jz (Nat.pow_le_pow_left gV _) (p6 _ gV))
 let hm:=zky (k':=k'+32) h ⟨hr.1,hr.2.1,by lia⟩ gV;generalize grows k d ps [[]] n.toNat=G at A hGl hm;show W.call zpO rfl ?_;unfold Wh;ext;show jg rfl ((zed (k':=k'+1) h hr.1 hr.2.1 gV (Dz h4 hr.2.2)).imp λv s hv=>?_);let:=zkQ A hv;subst this;clear hv;show⟨_,rfl,?_⟩;ext;show WS.wh (λq J s'=>∃(i:Nat) (z:Int) (L:List Int) (a6 a7 a8:Option Xv),s'=[o]/\J=[some (.l 0),some (.d (bA n ps)),some (.d (aM k d)),some (.d (cell G i)),some (.d (.tup (L.map .int))),some (.d (.int z)),a6,a7,a8]/\i<=G.length/\z=i/\(i=0->L=[])/\(∀j,i=j+1->G[j]?=some L)/\q=G.length-i) (m:=G.length) (by change G.length<1000000000000;lia) ⟨0,0,[],_,_,_,rfl,rfl,sW _,rfl,λ_=>rfl,λj e=>by lia,rfl⟩ λq J s' hI=>?_;let⟨i,z,L,a6,a7,a8,rfl,rfl,hi,rfl,hL0,hL1,rfl⟩:=hI;by_cases c:i<G.length
 .let ec:cell G i=j8 G[i]:=by unfold cell;rw[cB c]
  let hG:=(A.mem _).mp (wz c);let cW:ltI L G[i]=true:=by
   cases i with
   |zero=>
    rw[hL0 rfl];let:=hG.len;cases e:G[0] with
    |nil=>rw[e]at this;simp at this;lia|cons x r=>rfl
   |succ j=>
    let e:=hL1 j rfl;let hj:j<G.length:=by lia
    rw[cB hj]at e;cases e;show(Dw A hj c).mpr gV
  rw[ec];unfold j8;ext;show⟨λ_=>?_,λe=>by cases e⟩;ext;show cj Nm ?_;rw[cW];ext;show W.c0 (zgg h ⟨hr.1,hr.2.1,by lia⟩ hG) ?_;ext;show jg rfl ((zfc h ⟨hr.1,hr.2.1,by lia⟩ hG (small h4 hr.2.2)).imp λv s hv=>?_);let:=znh A c hv;subst this;show⟨_,rfl,?_⟩;ext;show .inl ⟨_,G.length-(i+1),rfl,by lia,i+1,(i:Int)+1,G[i],_,_,_,rfl,rfl,by lia,by lia,λe=>by lia,λj e=>?_,rfl⟩;let:j=i:=by lia
  subst this;show cB c
 .let ei:i=G.length:=by lia
  subst ei;let ec:cell G G.length=.non:=by unfold cell;rw[yq (bQ _)]
  rw[ec];ext;show⟨λe=>(by cases e),λ_=>?_⟩;ext;show W.c0 hm ?_;ext;show W.ite (λe=>absurd e R3) (λ_=>?_);ext;show cj (O7 (n:=n) gV) ?_;ext;let h41:k'+41=k'+41:=rfl;show jg rfl ((WT (k':=k') h hr.1 hr.2.1 gV (zgC gV) (small h4 hr.2.2)).imp λv s hv=>?_);by_cases c0:G=[]
  .subst c0;obtain⟨P,rfl⟩ : ∃P,v=.d (.tup P):=by
    rcases hv with ⟨rfl,hs,hh⟩|⟨P,rfl,hP,_⟩
    .exact absurd ((A.mem hs).mpr hh.hu) R3
    .obtain⟨xs,rfl⟩:=zje hP.1;show⟨_,rfl⟩
   show⟨_,rfl,?_⟩;ext;show⟨_,_,rfl,rfl,rfl,ho⟩
  let Ru:0<G.length:=List.length_pos_iff.mpr c0;obtain⟨m,hm1⟩ : ∃m,G.length=m+1:=⟨G.length-1,by lia⟩;let eL:=hL1 m hm1;let hLm:=dG eL;let hLH:=(A.mem L).mp hLm;let hll:=hLH.len;obtain rfl:v=.d .non:=by
   rcases hv with ⟨rfl,_⟩|⟨P,rfl,_,gF⟩
   .rfl
   .exact absurd (vB.mpr hLH) (gF L)
  let eG:((G.length:Int)==0)=false:=by simp;show c0
  show⟨_,rfl,?_⟩;ext;rw[eG];show WS.ite (λe=>absurd e J0) (λ_=>?_);ext;rw[eG];show WS.ite (λe=>absurd e J0) (λ_=>?_);ext;show GD ho gV gV λr o1 hrn hp=>?_;ext;show cj (O7 (n:=r) gV) ?_;ext;show cj (C_ gV gV) ?_;ext;show cj (Kp (by simp;lia)) ?_;ext;show cj (O7 (n:=n-r-1) gV) ?_;ext;show cj (Kp (by simp;lia)) ?_;let hLr:=Gz (l:=L) (i:=r) gV;let ek:(List.replicate (r:Int).toNat (none:Option Int)).map cD++[D.int (at' L r)]++(List.replicate (n-r-1).toNat (none:Option Int)).map cD=(vZ n.toNat r (at' L r)).map cD:=by
   unfold vZ;rw[pJ,pJ,show (n-(r:Int)-1).toNat=n.toNat-r-1 by lia];rfl
  rw[ek];let hx:=hLH.lo _ (tH (fs:=L) (j:=r) gV gV);let hLK:rA n k d ps (vZ n.toNat r (at' L r)) L:=⟨hLH,λj i e=>by let⟨rfl,rfl⟩:=zi2 e;rfl⟩;ext;show jg rfl ((O1 (k':=k'+1) h hr.1 hr.2.1 gV (znP hrn hx) (small h4 hr.2.2)).imp λv s hv=>?_);obtain⟨F,rfl,hF⟩ : ∃F:List Int,v=.d (.tup (F.map .int))/\rA n k d ps (vZ n.toNat r (at' L r)) F:=by
   rcases hv with ⟨_,gF⟩|⟨F,rfl,hF,_⟩
   .exact absurd hLK (gF L)
   .exact⟨F,rfl,hF⟩
  show⟨_,rfl,?_⟩;let hFl:=hF.hu.len;let own:(D.tup (L.map .int))=.tup ((L.map some).map cD):=by rw[tX];rfl
  ext;rw[own];show jg rfl ((O1 (k':=k'+1) h hr.1 hr.2.1 gV (zly hLH) (small h4 hr.2.2)).imp λv s hv=>?_);obtain rfl:v=.d (.tup (L.map .int)):=by
   rcases hv with ⟨_,gF⟩|⟨F,rfl,hF,_⟩
   .exact absurd (zkZ hLH) (gF L)
   .rw[zmJ hLH hF]
  rw[<-own];show⟨_,rfl,?_⟩;ext;show cj (zmF (f:=id)) ?_;rw[cQ rfl];ext;show cj Cw ?_;let hle:ltI L F=false:=by
   let⟨j,hj,rfl⟩:=pH ((A.mem F).mpr hF.hu);rw[cB gV]at eL;rw[<-cP eL];cases e:ltI G[m] G[j] with
   |false=>rfl|true=>have:=(Dw A gV hj).mp e;lia
  rw[hle];ext;show cj (C_ gV gV) ?_;ext;show cj (C_ gV gV) ?_;ext;rw[hF.kn _ _ zoq];show⟨_,_,rfl,rfl,by simp,hp⟩
def zi5{k':Nat}(h:Web n ps)(h4:n<=4)(hr:1<=d/\d<=k/\k<=6)(q:Kn n k ks):W (call aq T (k'+42) true 55 [.d (bA n ps),.d (aM k d),.d (.tup (ks.map cD))]) [] λv s=>v=.d (.bl true):=by
 let h1:=h.h1;let hold:∀x,Sh (n.toNat+1) x->W (call aq T (k'+41) true 42 [.d (bA n ps),.d (aM k d),.d (.tup (ks.map cD)),.d x]) [] λv s=>v=.d (.bl (pap n k d ps (n.toNat+1) ks x)):=λx hx=>by
  let key:=zk6 (k':=k'+41-(2*(n.toNat+1)+9)) h hr.1 hr.2.1 gV q hx
  rwa [show 2*(n.toNat+1)+(k'+41-(2*(n.toNat+1)+9))+9=k'+41 by lia]at key
 show W.call zpV rfl ?_;unfold Wi;ext;show jg rfl ((O1 (k':=k'+1) h hr.1 hr.2.1 gV q (small h4 hr.2.2)).imp λv s=>?_);rintro(⟨rfl,gF⟩|⟨F,rfl,hF,_⟩)
 .refine⟨_,rfl,?_⟩;ext;show jg rfl ((WT (k':=k') h hr.1 hr.2.1 gV q (small h4 hr.2.2)).imp λv s=>?_);rintro(⟨rfl,hs,hh⟩|⟨P,rfl,hP,_⟩)
  .exact absurd hh (gF hs)
  show⟨_,rfl,?_⟩;let key:=hold P (zml hP.1);rw[hP.2]at key;let⟨xs,rfl⟩:=zje hP.1;ext;show W.c0 key ?_;show Y rfl
 .refine⟨_,rfl,?_⟩;ext;show jg rfl ((WT (k':=k') h hr.1 hr.2.1 gV q (small h4 hr.2.2)).imp λv s=>?_);rintro(⟨rfl,_⟩|⟨P,rfl,_,gF⟩)
  .refine⟨_,rfl,?_⟩;let key:=hold (.tup [.str "end",.int 0]) (Vi rfl rfl);let e0:pap n k d ps (n.toNat+1) ks (.tup [.str "end",.int 0])=false:=by
    let:=znM h hr.1 hF (p:=0) gV;change (m8 "end" (.str "end")&&(decide ((0:Int)<=0/\(0:Int)<n)&&kj k d ps ks 0))=false;rw[this];simp
   rw[e0]at key;ext;show W.c0 (zgg h ⟨hr.1,hr.2.1,by lia⟩ hF.hu) ?_;ext;show W.c0 key ?_;show Y rfl
  .exact absurd hF (gF F)
end
def Aa:List (Int×Int):=[(2,1),(3,1),(5,2),(4,1),(4,2),(6,2)]
def vC(ns:List Int)(hn:ns.length<=63):∃s',call aq T 60 true 56 [.d (.fl (ns.map D.int))] []=some (.ok (.d (.bl true)),s'):=by
 suffices h:W (call aq T 60 true 56 [.d (.fl (ns.map D.int))]) [] λv _=>v=.d (.bl true) by
  let⟨v,s',e,rfl⟩:=h;show⟨s',e⟩
 let hs:(20000:Nat)<=sizeLine:=by decide
 show W.call (k:=59) zpY rfl ?_;unfold Wj;ext;show jg rfl ((zmm (k:=58)).imp λv _=>?_);rintro⟨n0,rfl⟩;show⟨_,rfl,?_⟩;ext;show Gn (NT ?_) ?_
 .let:=zjK (ns:=ns) (lo:=some 1) (hi:=some 2);change 1+_<=_
  lia
 ext;show CQ (λ_ J s=>∃(a b c d:Option Xv),J=[some (.d (.fl (ns.map D.int))),a,b,c,d]) ⟨_,_,_,_,rfl⟩ (λi x J s hx DG=>?_) (λJ s DG=>?_)
 .obtain⟨m,rfl⟩ : ∃m,x=.int m:=by
   rcases mj.mp (dG hx) with z|z
   .rcases jo.mp z with rfl|z
    .exact⟨_,rfl⟩
    .cases z
   .exact zjz z
  let⟨a,b,c,d,rfl⟩:=DG;ext;show Kaq rfl ((zox (k:=58)).imp λv s1=>?_);rintro⟨j,o,rfl,hj,hp⟩;show⟨j,o,rfl,hj,?_⟩;ext;show qZ rfl ((WY (k:=58) hp (m:=4) gV gV).imp λv s1=>?_);rintro⟨_,o1,rfl,rfl,⟨r,rfl,hr0,hr1⟩,hp⟩;show⟨_,_,rfl,rfl,?_⟩;ext;let hz:1<=1+r/\1+r<=4:=by lia
  generalize 1+r=z at hz ⊢;show qZ rfl ((ziq (k:=57) hp (n:=z) gV gV).imp λv s1=>?_);rintro⟨ps,o3,rfl,rfl,hw,hp⟩;show⟨_,_,rfl,rfl,?_⟩;ext;show qZ rfl ((WY (k:=58) hp (m:=6) gV gV).imp λv s1=>?_);rintro⟨_,o4,rfl,rfl,⟨r2,rfl,hr2,hr3⟩,hp⟩;show⟨_,_,rfl,rfl,?_⟩;let⟨rg,er0,hrg⟩:=zkP (xs:=Aa.map λp=>aM p.1 p.2) (z:=r2) hr2 (by change r2<6;show hr3);ext;show cj er0 ?_;let⟨⟨kk,dd⟩,hkd,rfl⟩:=j9.mp hrg;let hr:1<=dd/\dd<=kk/\kk<=6:=(show ∀p∈Aa,1<=p.2/\p.2<=p.1/\p.1<=6 by decide) _ hkd;clear er0 hrg hkd;dsimp only;let ew:bA z ps=.tup [.int z,.tup (ps.map iG)]:=rfl;ext;show qZ rfl ((zng (k':=17) hp hw gV hr).imp λv s1=>?_);rintro⟨_,o5,rfl,rfl,rfl,hp⟩;show⟨_,_,rfl,rfl,?_⟩;ext;show cj (O7 (n:=z) gV) ?_;ext;show W.c0 (zi5 (k':=17) hw gV hr (zgC gV)) ?_;ext;show qZ rfl ((zhQ (k':=57) hp gV gV gV).imp λv s1=>?_);rintro⟨ks,o6,rfl,rfl,hks,hp⟩;show⟨_,_,rfl,rfl,?_⟩;ext;show W.c0 (zi5 (k':=17) hw gV hr hks) ?_;ext;show⟨_,rfl,_,_,_,_,rfl⟩
 .obtain⟨a,b,c,d,rfl⟩:=DG;show Y trivial
end dZ
end Lake
open Lake
open PySem PySem.W PyProof.Rows
set_option maxRecDepth 100000 in
set_option maxHeartbeats 0 in
theorem PySem.Challenge.cw_ringhues_k15_whole_hues_or_papers_holds : PySem.Challenge.rw_ringhues_k15_whole_hues_or_papers.Holds := by
 refine PySem.W.holds_law dZ.ws λsaid=>?_;refine holds_open (q:=dZ.qv) (loose:=dZ.loose) (Xt:=λs=>xlAt dZ.qv [] s&&recOk [] s) (XP:=XL dZ.qv []) (Yf:=(Mi.lY dZ.fs dZ.ms dZ.xs dZ.lk dZ.bd).obs) (Ya:=(Mi.lY dZ.fs dZ.ms dZ.xs dZ.lk dZ.bd).val) (YP:=(Mi.lY dZ.fs dZ.ms dZ.xs dZ.lk dZ.bd).says) (N:=20000) dZ.left (Mi.lY dZ.fs dZ.ms dZ.xs dZ.lk dZ.bd).of (Mi.lY dZ.fs dZ.ms dZ.xs dZ.lk dZ.bd).keeps (λs e=>xl_of s (Pu.mp e).1) XL.keeps (by rfl) (by rfl) (by rfl) (λs e=>recFacts_of (Pu.mp e).2) (by rfl) said dZ.wc ⟨rfl,rfl,rfl,rfl,rfl,dZ.wt⟩ ?hw ?hc
 case hw=>w_witness2
 case hc=>exact Mi.KD (l:=PySem.Challenge.rw_ringhues_k15_whole_hues_or_papers) (x:="_law_script") (k:=60) rfl rfl ⟨by decide,by decide,rfl⟩ (λw K mg fa h S X G Wy=>dZ.all_mk dZ.vC S X G Wy)
