import PyProof.Rows.All
import Wide.All
import KE.KIsAll
import KE.KSortTup
import KE.KRevIter
import KE.KTryDeep
import KE.KFromBytes
import KE.KDictOf
import Wide.FinOn
import PySem.Challenge.RW_ringhues_k10_next_hues
set_option compiler.extract_closed false
set_option Elab.async false
set_option linter.all false
set_option maxRecDepth 100000
set_option maxHeartbeats 4000000
namespace Lake
theorem gV{p:Prop}(h:p:=by lia):p:=h
theorem J0{p:Prop}(h:p:=by decide +kernel):p:=h
theorem Vu{p:Prop}(h:p:=by decide):p:=h
theorem Zaa{p:Prop}(h:p:=by simp):p:=h
abbrev aB:=@PySem.wpAny_bind
abbrev cX:=@List.getElem?_eq_getElem
abbrev cN:=@PySem.Heap.get?_push_of_some
abbrev eY:=@List.getElem?_eq_some_iff
abbrev bI:=@List.length_map
abbrev aZ:=@PySem.wpAny_pure
abbrev fK:=@List.mem_of_getElem?
abbrev dJ:=@Bool.and_eq_true
abbrev fL:=@PySem.Heap.get?_push_size
abbrev dz:=@Option.some.inj
abbrev bK:=@Nat.le_refl
abbrev cg:=@PySem.Heap.lt_size
abbrev dZ:=@List.all_eq_true
abbrev fO:=@of_decide_eq_true
abbrev dB:=@decide_eq_true
abbrev g_:=@List.mem_cons_of_mem
abbrev fQ:=@List.size_toArray
abbrev gC:=@List.getElem?_map
abbrev jE:=@Option.map_eq_some_iff
abbrev h_:=@List.length_append
abbrev lD:=@List.getElem?_append_left
abbrev iB:=@Nat.lt_of_lt_of_le
abbrev gD:=@List.length_cons
abbrev nF:=@List.getElem?_append_right
abbrev nP:=@List.getD_eq_getElem?_getD
abbrev dX:=@Nat.ne_of_lt
abbrev gQ:=@decide_eq_false
abbrev kJ:=@List.mem_cons_self
abbrev gF:=@List.mem_cons
abbrev o9:=@List.getElem?_eq_none_iff
abbrev iR:=@List.map_cons
abbrev lE:=@List.length_range
abbrev kO:=@List.mem_append
abbrev tV:=@PyProof.Rows.callWith_type1
abbrev o_:=@List.getElem?_set_ne
abbrev lF:=@List.length_set
abbrev jo:=@Nat.le_trans
abbrev oV:=@Int.toNat_natCast
abbrev tW:=@Option.bind_eq_some_iff
abbrev jO:=@List.mem_map
abbrev pq:=@List.lookup_cons
abbrev sV:=@List.getElem_of_mem
abbrev vM:=@List.getElem?_set_self
abbrev vN:=@List.mem_append_right
abbrev wH:=@Int.eq_ofNat_of_zero_le
abbrev sW:=@List.mem_singleton
abbrev wI:=@PySem.Heap.get?_update_other
abbrev nQ:=@List.all_cons
abbrev qg:=@List.mem_filter
abbrev Dy:=@PyProof.Rows.slot_tuple_getitem
abbrev vO:=@Array.length_toList
abbrev lG:=@PySem.wpAny_field
abbrev yH:=@List.getElem?_eq_none
abbrev qW:=@PySem.wpAny_seqItems
abbrev tX:=@decide_eq_decide
abbrev qj:=@Nat.lt_irrefl
abbrev lH:=@PySem.wpAny_mono
abbrev vP:=@PySem.wpAny_truthy_bool
abbrev Ad:=@List.getElem?_replicate
abbrev Ae:=@PySem.wpAny_callSpecial?_slot
abbrev vQ:=@PySem.wpAny_newObj_type
abbrev vR:=@Nat.lt_succ_of_lt
abbrev wJ:=@PySem.Obj.data_mapFields
abbrev vU:=@List.length_take
abbrev vV:=@List.getElem_mem
abbrev Af:=@PySem.Heap.get?_update_self
abbrev tY:=@List.mem_range
abbrev tZ:=@PySem.Heap.size_push
abbrev vW:=@List.map_append
abbrev sX:=@PySem.wpAny_holding
abbrev yI:=@PySem.wpAny_Call_Name_kw
abbrev yJ:=@Bool.false_eq_true
abbrev Dz:=@List.getElem?_cons_succ
abbrev yK:=@List.pairwise_cons
abbrev nR:=@beq_iff_eq
abbrev Gu:=@Array.getElem?_eq_some_iff
abbrev Ag:=@beq_eq_false_iff_ne
abbrev wK:=@List.append_nil
abbrev DG:=@List.length_replicate
abbrev yL:=@PySem.wpAny_call_entry
abbrev yM:=@List.filter_cons
abbrev DK:=@PySem.Around.under_plainId
abbrev Ah:=@List.append_assoc
abbrev Ai:=@decide_eq_true_eq
abbrev DN:=@List.filterMap_cons
abbrev sY:=@PySem.sizeLine_eq
abbrev yN:=@List.nodup_cons
abbrev DP:=@PySem.mem_of_lookup
abbrev DQ:=@List.replicate_succ
abbrev mj:=@congrArg
abbrev Lq:=@PySem.F.slot_tuple_iterator_next
abbrev Aj:=@List.length_drop
abbrev Ak:=@List.take_length
abbrev Al:=@List.countP_cons
abbrev Am:=@PySem.F.plain_min_loop
abbrev DR:=@List.mem_filterMap
abbrev DW:=@PySem.wpAny_setField_rec
abbrev DX:=@List.getElem_range
abbrev Gv:=@List.length_filter_le
abbrev Gw:=@PySem.Heap.get?_none_of_le
abbrev Gx:=@List.mem_append_left
abbrev Gy:=@Nat.mul_le_mul_right
abbrev Ao:=@List.length_nil
abbrev Lr:=@PySem.AutoSeq1.wpAny_loadPart'
abbrev wL:=@Nat.ne_of_gt
abbrev vX:=@Nat.zero_le
abbrev vY:=@PySem.wpAny_of_eq
abbrev Gz:=@List.getElem?_range
abbrev DY:=@Nat.zero_lt_succ
abbrev D_:=@beq_self_eq_true
abbrev Ed:=@List.not_mem_nil
abbrev Aq:=@List.nodup_nil
abbrev GC:=@List.zip_cons_cons
abbrev GD:=@decide_eq_true_iff
abbrev GF:=@Int.emod_lt_of_pos
abbrev yO:=@Nat.le_of_lt
abbrev Ls:=@PySem.Obj.isFreed_of_fields
abbrev Ef:=@List.forIn_cons
abbrev Eh:=@PySem.codeAny_builtin
abbrev Ej:=@Int.emod_nonneg
abbrev GJ:=@PySem.Calls.spliced_nil
abbrev GK:=@List.pairwise_map
abbrev GP:=@Nat.lt_trichotomy
abbrev Qd:=@List.pairwise_iff_getElem
abbrev GQ:=@Nat.le_of_not_lt
abbrev Qe:=@Option.isSome_iff_exists
abbrev Qf:=@PySem.F.args_tuple_add_2
abbrev Qg:=@List.length_filterMap_le
abbrev GR:=@PySem.wpAny_passesOwn
abbrev Lw:=@Bool.false_ne_true
abbrev Lx:=@PySem.Calls.spliced_cons
abbrev Qh:=@PySem.F.entry_tuple_add
abbrev sZ:=@if_false
abbrev Qi:=@PySem.F.plainAttrs_list
abbrev Ek:=@PySem.plainId_quiet
abbrev GX:=@PySem.wpAny_ite_false
abbrev Ly:=@List.filter_append
abbrev Qj:=@PySem.wpAny_pyIter_rangeiter
abbrev Qk:=@PySem.W.cellsFrom_some
abbrev Ql:=@PySem.F.slot_tuple_add
abbrev Qm:=@List.range_succ_eq_map
abbrev Qn:=@List.pairwise_lt_range
abbrev Lz:=@PySem.Heap.get?_push_ne
abbrev Ar:=@PySem.wpAny_letGo
abbrev LC:=@PySem.wpAny_pyIter_list
abbrev LQ:=@List.nodup_append
abbrev GZ:=@PySem.wpAny_setField
abbrev G3:=@List.take_succ
abbrev G4:=@Nat.mul_le_mul
abbrev El:=@PySem.codeAny_mono
abbrev Em:=@List.all_map
abbrev En:=@List.map_map
abbrev Qo:=@PySem.F.slot_range_reversed
abbrev Qp:=@List.countP_le_length
abbrev LR:=@Nat.lt_succ_self
abbrev L_:=@PySem.wpAny_isInstance
abbrev Ma:=@PySem.F.slot_tuple_mul
abbrev Qq:=@Bool.and_eq_true_iff
abbrev Qs:=@Array.toArray_toList
abbrev Qt:=@PySem.wpAny_updateSeq_pair
abbrev Qu:=@List.mem_of_mem_take
abbrev zs1:=@PySem.rangeSize_one
abbrev zs2:=@PySem.wpAny_attempt
abbrev Av:=@PySem.call_meets
abbrev Mf:=@Nat.not_lt_zero
abbrev Qv:=@PySem.W.plainGet_of
abbrev Ep:=@Nat.le_succ
abbrev Mg:=@PySem.F.slot_zip_next
abbrev Mh:=@PySem.wpAny_specialOf
abbrev Qw:=@List.length_reverse
abbrev Mj:=@List.foldl_cons
abbrev G5:=@Nat.zero_add
abbrev Qx:=@PySem.W.callWith_K
abbrev Qy:=@Array.forIn_toList
abbrev Ml:=@List.forIn_nil
abbrev Qz:=@List.getElem?_inj
abbrev QB:=@List.flatten_cons
abbrev QC:=@List.map_inj_left
abbrev QD:=@List.flatMap_cons
abbrev Aw:=@or_false
namespace L2
open PySem PySem.Spec PyProof.Rows PySem.W
noncomputable def subIn(K:W.Frag)(C D:Addr):Bool:=PySem.W.ktsIn K C "BaseException"&&PySem.W.ktsIn K D "BaseException"&&match K.lookup C with
 |some ⟨_,_,.cls cd,_⟩=>cd.mro.contains (.ref D)
 |_=>false
noncomputable def G6:List Value:=[.type "ValueError",.type "Exception",.type "BaseException",.type "object"]
noncomputable def t_:List Value->Bool
 |.ref _::r=>t_ r
 |l=>l==G6
noncomputable def X_:Value->Option String
 |.type n=>some n
 |_=>none
noncomputable def G7:Value->Option Addr
 |.ref a=>some a
 |_=>none
noncomputable def wM:Value->Option String
 |.builtin n=>some n
 |_=>none
noncomputable def Ax:Data->Option ClassData
 |.cls cd=>some cd
 |_=>none
noncomputable def Yb:List Value->Option (Value×List Value)
 |[]=>none
 |v::r=>some (v,r)
noncomputable def mz(K:Frag)(C:Addr)(bmB:List Value)(newId:String)(ini:Option Value):Bool:=(K.lookup C).any λo=>X_ o.cls==some "type"&&(Ax o.data).any λcd=>(Yb cd.mro).any λp=>
 G7 p.1==some C&&o.slots.size==6&&(o.slots[4]?.join).bind wM==some newId && !cd.hasDel&&tailIn K bmB p.2&&nsOkIn K cd.ns&&nsIn K cd.ns "__init__"==some ini
noncomputable def uc(K:Frag)(C fI:Addr):Bool:=mz K C G6 "ValueError.__new__" (some (.ref fI))
noncomputable def aQ(s:Stmt):Arguments:=match s with
 |.FunctionDef _ a _ _ _ _ _ _ _ _=>a
 |_=>{posonlyargs:=[],args:=[],vararg:=none,kwonlyargs:=[],kw_defaults:=[],kwarg:=none,defaults:=[]}
noncomputable def aL(s:Stmt):List Stmt:=match s with
 |.FunctionDef _ _ b _ _ _ _ _ _ _=>b
 |_=>[]
noncomputable def au(s:Stmt):Scope:=match s with
 |.FunctionDef _ _ _ _ _ _ sc _ _ _=>sc
 |_=>{kind:=.function,names:=[],isGenerator:=false,isCoroutine:=false}
end L2
namespace Mi
open PySem PySem.Spec PyProof.Rows L2 PySem.W
noncomputable def oW(n c:Nat):Nat:=if c<n then c else 0
noncomputable def jP(n c e:Nat):Bool:=oW n e==0||oW n c==oW n e
noncomputable def eE(L:List Addr)(c:Nat):Addr:=L.getD (oW L.length c) 0
noncomputable def Mp(K:W.Frag)(C:Addr):Bool:=
 PySem.W.findIn K (.ref C) "__getattribute__"==some (some (.builtin "BaseException.__getattribute__"))&&PySem.W.findIn K (.ref C) "__getattr__"==some none&&PySem.W.findIn K (.ref C) "__class__"==some (some (.builtin "object.__class__")) &&
 PySem.W.mroIn K C (.type "BaseException")==some true&&PySem.W.mroIn K C (.type "object")==some true&&(PySem.W.clsIn K C).isSome &&
 PySem.W.specialIn K (.builtin "object.__class__") "__get__"==some (some (.builtin "getset_descriptor.__get__"))&&PySem.W.takesIn K (.builtin "object.__class__")==some true
noncomputable def ql(K:W.Frag)(L:List Addr):Bool:=(List.range L.length).all λc=>Mp K (L.getD c 0)&&PySem.W.kitOne K (.ref (L.getD c 0)) (.type "ValueError")==some true &&
 (List.range L.length).all λe=>PySem.W.kitOne K (.ref (L.getD c 0)) (.ref (L.getD e 0))==some (jP L.length c e)
noncomputable def subB(K:W.Frag)(L:List Addr)(d:Nat):Bool:=(List.range L.length).all λc=>!(jP L.length c d)||L2.subIn K (L.getD c 0) (eE L d)
noncomputable def nU(fd:FuncData):FuncData:={fd with kwdefaults:=.none,doc:=.none,pyModule:=.none,annotations:=none,code:=.none,closureTuple:=.none}
noncomputable def vZ(x:Str)(st:Stmt):FuncData:=fnOf x x (aQ st) (aL st) (au st) .none .none .none .none none .none .none
noncomputable def Ay(K:Frag)(x:Str):Option (Addr×FuncData):=match nsIn K mainGlobals x with
 |some (some (.ref f))=>(match K.lookup f with
  |some ⟨_,_,.func fd,_⟩=>(match codeIn K fd.code x&&keepIn K (.ref f) with
   |true=>some (f,fd)
   |false=>none)
  |_=>none)
 |_=>none
noncomputable def eG(K:Frag)(x:Str):Addr:=match nsIn K mainGlobals x with
 |some (some (.ref C))=>C
 |_=>0
noncomputable def ud(K:Frag)(x:Str):Bool:=match nsIn K mainGlobals x with
 |some (some (.ref _))=>true
 |_=>false
noncomputable def mC(K:Frag)(p:Str×Int):Bool:=match nsIn K mainGlobals p.1 with
 |some (some (.int i _))=>decide (i=p.2)
 |_=>false
noncomputable def uf(K:Frag)(p:Str×Str):Bool:=match nsIn K mainGlobals p.1 with
 |some (some (.str x _))=>decide (x=p.2)
 |_=>false
noncomputable def qm(K:Frag)(x:Str):Bool:=match nsIn K mainGlobals x with
 |some none=>true
 |_=>false
noncomputable def G8(K:Frag)(C:Addr):Bool:=mz K C [.type "ValueError",.type "Exception",.type "BaseException",.type "object"] "ValueError.__new__" none
structure Lk where
 G9:List Str
 wN:List (Str×Int)
 Yc:List Str
 Yd:List Nat
 Ye:List Nat
 Yg:List (Str×Str)
noncomputable def Lk.L(l:Lk)(K:Frag):List Addr:=l.G9.map (eG K)
noncomputable def Lk.good(l:Lk)(K:Frag):Bool:=
 l.G9.all (ud K)&&(l.G9.isEmpty||ql K (l.L K))&&l.Yd.all (λk=>G8 K (eE (l.L K) k))&&l.Ye.all (λk=>subB K (l.L K) k)&&l.wN.all (mC K)&&l.Yc.all (qm K)&&l.Yg.all (uf K)
noncomputable def qp(h:Heap):List Addr->Frag
 |[]=>[]
 |a::r=>match h.get? a with
  |some o=>(a,o)::qp h r
  |none=>qp h r
noncomputable def eZ(s:Stmt):List Stmt:=match s with
 |.ClassDef _ _ _ b _ _ _ _ _ _ _=>b
 |_=>[]
noncomputable def Az(q:Str)(st:Stmt):FuncData:=fnOf "__init__" q (aQ st) (aL st) (au st) .none .none .none .none none .none .none
noncomputable def G_(K:Frag)(C:Addr):Option FuncData:=match clsIn K C with
 |some cd=>(match nsIn K cd.ns "__init__" with
  |some (some (.ref f))=>(match K.lookup f with
   |some ⟨.type "function",_,.func fd,_⟩=>(match codeIn K fd.code fd.qualname&&uc K C f&&t_ cd.mro&&cd.hasDict with
    |true=>some fd
    |false=>none)
   |_=>none)
  |_=>none)
 |none=>none
noncomputable def setB(K:Frag)(C:Addr)(fs:List Str):Bool:=findIn K (.ref C) "__setattr__"==some (some (.builtin "object.__setattr__"))&&fs.all (λf=>findIn K (.ref C) f==some none)
noncomputable def Mq(K:Frag)(C:Addr)(f:Str):Bool:=findIn K (.ref C) "__getattribute__"==some (some (.builtin "BaseException.__getattribute__"))&&findIn K (.ref C) "__getattr__"==some none&&mroIn K C (.type "BaseException")==some true&&findIn K (.ref C) f==some none&&hasDictIn K C
structure ug where
 c:Nat
 q:Str
 st:Stmt
 fs:List Str
noncomputable def Hg:Nat->List Obj->Frag
 |_,[]=>[]
 |i,o::r=>match o.isFreed with
  |true=>Hg (i+1) r
  |false=>(i,o)::Hg (i+1) r
noncomputable def bN(h:Heap):Frag:=qp h [mainGlobals]++(Hg 0 h.objs.toList).reverse
noncomputable def mD(fs:List (Str×Stmt))(ms:List ug)(xs:List (Nat×Str))(l:Lk)(s:Shared):List (Option FuncData)×List (Option FuncData)×Bool:=
 (fs.map (λp=>(Ay (bN s.heap) p.1).map (λq=>nU q.2)),ms.map (λm=>(G_ (bN s.heap) (eE (l.L (bN s.heap)) m.c)).map nU),
  l.good (bN s.heap)&&ms.all (λm=>setB (bN s.heap) (eE (l.L (bN s.heap)) m.c) m.fs)&&xs.all (λx=>Mq (bN s.heap) (eE (l.L (bN s.heap)) x.1) x.2))
noncomputable def nW(fs:List (Str×Stmt))(ms:List ug)(w:World):List (Option FuncData)×List (Option FuncData)×Bool:=(fs.map (λp=>some (vZ p.1 p.2)),ms.map (λm=>some (Az m.q m.st)),true)
noncomputable def Mr(fs:List (Str×Stmt))(s:Shared):List (Option FuncData):=fs.map (λp=>(Ay (bN s.heap) p.1).map (λq=>nU q.2))
noncomputable def Yh(ms:List ug)(xs:List (Nat×Str))(l:Lk)(s:Shared):List (Option FuncData)×Bool:=(ms.map (λm=>(G_ (bN s.heap) (eE (l.L (bN s.heap)) m.c)).map nU),
  l.good (bN s.heap)&&ms.all (λm=>setB (bN s.heap) (eE (l.L (bN s.heap)) m.c) m.fs)&&xs.all (λx=>Mq (bN s.heap) (eE (l.L (bN s.heap)) x.1) x.2))
theorem ze3{p q:Program}{loose:List Str}{Xt:Shared->Bool}{N:Nat}{fs1 qX:List (Str×Stmt)}{ms:List ug}{xs:List (Nat×Str)}{l:Lk}
  (a:∀w,(openEnds treeTable p w N).map (λs=>openSeen q loose (importedModules p.main.body) Xt true s)=some (openGood q loose))
  (b1:∀w,(openEnds treeTable p w N).map (Mr fs1)=some (fs1.map λp=>some (vZ p.1 p.2)))
  (b2:∀w,(openEnds treeTable p w N).map (Mr qX)=some (qX.map λp=>some (vZ p.1 p.2)))
  (c:∀w,(openEnds treeTable p w N).map (Yh ms xs l)=some (ms.map (λm=>some (Az m.q m.st)),true)):LeftO p q loose Xt (mD (fs1++qX) ms xs l) (nW (fs1++qX) ms) N:=by
 intro w;have a:=a w;have b1:=b1 w;have b2:=b2 w;have c:=c w;cases e:openEnds treeTable p w N with
 |none=>rw[e] at a;cases a
 |some s=>
  rw[e] at a b1 b2 c;have a:openSeen q loose (importedModules p.main.body) Xt true s=openGood q loose:=dz a;have b1:=dz b1;have b2:=dz b2;have c:=dz c;have c1:=mj Prod.fst c;have c2:=mj Prod.snd c;show some (_,mD (fs1++qX) ms xs l s)=_;rw[a];have:mD (fs1++qX) ms xs l s=nW (fs1++qX) ms w:=by
   unfold mD nW;rw[vW,vW];have b1:List.map _ fs1=List.map _ fs1:=b1;have b2:List.map _ qX=List.map _ qX:=b2;rw[b1,b2];exact Prod.ext rfl (Prod.ext c1 c2)
  rw[this]
inductive Tr where
 |em
 |lv (o:Obj)
 |nd (l r:Tr)
noncomputable def Tr.lf(t:Tr):Tr:=Tr.rec (motive:=λ_=>Tr) .em (λ_=>.em) (λl _ _ _=>l) t
noncomputable def Tr.rt(t:Tr):Tr:=Tr.rec (motive:=λ_=>Tr) .em (λ_=>.em) (λ_ r _ _=>r) t
noncomputable def Tr.get(d:Nat):Tr->Nat->Option Obj:=Nat.rec (motive:=λ_=>Tr->Nat->Option Obj) (λt _=>Tr.rec (motive:=λ_=>Option Obj) none (λo=>some o) (λ_ _ _ _=>none) t)
 (λ_ f t a=>cond (Nat.beq (Nat.mod a 2) 0) (f t.lf (Nat.div a 2)) (f t.rt (Nat.div a 2))) d
noncomputable def Tr.put(d:Nat):Tr->Nat->Obj->Tr:=Nat.rec (motive:=λ_=>Tr->Nat->Obj->Tr) (λ_ _ o=>.lv o)
 (λ_ f t a o=>cond (Nat.beq (Nat.mod a 2) 0) (.nd (f t.lf (Nat.div a 2) o) t.rt) (.nd t.lf (f t.rt (Nat.div a 2) o))) d
theorem QF(a:Nat):(Nat.beq (a%2) 0=true/\a%2=0)\/(Nat.beq (a%2) 0=false/\a%2=1):=by
 rcases(show a%2=0\/a%2=1 by lia) with e|e<;>rw[e]
 ·exact .inl ⟨rfl,rfl⟩
 ·exact .inr ⟨rfl,rfl⟩
theorem QG(o:Obj):∀(d:Nat) (t:Tr) (a:Nat),Tr.get d (Tr.put d t a o) a=some o
 |0,_,_=>rfl
 |d+1,t,a=>by
  have ih:=QG o d;show cond (Nat.beq (a%2) 0) (Tr.get d (Tr.lf (cond (Nat.beq (a%2) 0) _ _)) (a/2)) (Tr.get d (Tr.rt (cond (Nat.beq (a%2) 0) _ _)) (a/2))=_;rcases QF a with ⟨e,_⟩|⟨e,_⟩<;>rw[e]
  ·exact ih t.lf (a/2)
  ·exact ih t.rt (a/2)
theorem QJ(o:Obj):∀(d:Nat) (t:Tr) (a b:Nat),a<2^d->b<2^d->a≠b->Tr.get d (Tr.put d t a o) b=Tr.get d t b
 |0,_,a,b,h1,h2,h=>by lia
 |d+1,t,a,b,h1,h2,h=>by
  have ih:=QJ o d;show cond (Nat.beq (b%2) 0) (Tr.get d (Tr.lf (cond (Nat.beq (a%2) 0) _ _)) (b/2)) (Tr.get d (Tr.rt (cond (Nat.beq (a%2) 0) _ _)) (b/2))=cond (Nat.beq (b%2) 0) _ _;rw[Nat.pow_succ] at h1 h2;rcases QF a with ⟨e,x⟩|⟨e,x⟩<;>rw[e]<;>rcases QF b with ⟨f,y⟩|⟨f,y⟩<;>rw[f]
  ·exact ih t.lf (a/2) (b/2) gV gV gV
  ·rfl
  ·rfl
  ·exact ih t.rt (a/2) (b/2) gV gV gV
noncomputable def ali(o:Option Obj):Option Obj:=match o with
 |some ⟨_,_,.freed,_⟩=>none
 |o=>o
noncomputable def pA(t:Tr)(z a:Nat):Option Obj:=cond (Nat.ble (Nat.succ a) z) (ali (t.get 12 a)) none
structure Rl(t:Tr)(z:Nat)(h:Heap):Prop where
 sz:h.objs.size=z
 le:z<=4096
 at_:∀a,a<z->t.get 12 a=h.objs[a]?
theorem Rl.get{t:Tr}{z:Nat}{h:Heap}(r:Rl t z h)(a:Nat):pA t z a=h.get? a:=by
 unfold pA Heap.get?;by_cases e:a<z
 ·rw[show Nat.ble (Nat.succ a) z=true from Nat.ble_eq.mpr e,r.at_ a e];rfl
 ·rw[show Nat.ble (Nat.succ a) z=false from Bool.eq_false_iff.mpr λx=>e (Nat.ble_eq.mp x)];have:h.objs[a]?=none:=by simp only[Array.getElem?_eq_none_iff,r.sz];lia
  rw[this];rfl
theorem Rl.push{t:Tr}{z:Nat}{h:Heap}(r:Rl t z h)(o:Obj)(hz:z<4096):Rl (t.put 12 z o) (z+1) (h.push o):=by
 obtain⟨objs,l⟩:=h;obtain⟨sz,le,at_⟩:=r;dsimp only at sz at_;refine⟨by show (objs.push o).size=_;rw[Array.size_push,sz],hz,λa ha=>?_⟩;show _=(objs.push o)[a]?;by_cases e:a=z
 ·subst e;rw[QG,Array.getElem?_push,if_pos sz.symm]
 ·rw[QJ o 12 t z a hz (by show a<4096;lia) (Ne.symm e),at_ a gV,Array.getElem?_push,if_neg gV]
theorem Rl.upd{t:Tr}{z:Nat}{h:Heap}(r:Rl t z h){a:Nat}{o:Obj}{f:Obj->Obj}(ho:h.get? a=some o):Rl (t.put 12 a (f o)) z (h.update a f):=by
 have ha:h.objs[a]?=some o:=(Heap.get?_some_iff.mp ho).1;obtain⟨objs,l⟩:=h;obtain⟨sz,le,at_⟩:=r;dsimp only at sz at_ ha;have hl:a<objs.size:=(Gu.mp ha).1;refine⟨by show (objs.modify a f).size=_;rw[Array.size_modify,sz],le,λb hb=>?_⟩;show _=(objs.modify a f)[b]?;rw[Array.getElem?_modify];by_cases e:a=b
 ·subst e;rw[QG,if_pos rfl,ha];rfl
 ·rw[QJ _ 12 t a b (by show a<4096;lia) (by show b<4096;lia) e,at_ b hb,if_neg e]
inductive Hop where
 |ld (a:Addr) (k:Obj->Sem Fin)
 |la (a:Addr) (k:Option Obj->Sem Fin)
 |up (a:Addr) (f:Obj->Obj) (k:Unit->Sem Fin)
 |al (o:Obj) (k:Addr->Sem Fin)
 |st
 |no
noncomputable def A_:Sem Fin->Hop
 |.load a _ k=>.ld a k
 |.loadIfAlive a k=>.la a k
 |.update a _ f k=>.up a f k
 |.alloc o k=>.al o k
 |.pure _=>.st
 |.at ..=>.st
 |.rule ..=>.st
 |.ask _=>.st
 |.fresh _=>.st
 |.point ..=>.st
 |.stack _=>.st
 |.call ..=>.st
 |_=>.no
theorem zio{den:Code->Sem Fin}{p:Program}{w:World}{h:Heap}{s s':Shared}{t t':Thread}(hn:A_ t.cur=.st)(e:step den p w s t=.go s' t'):step den p w {s with heap:=h} t=.go {s' with heap:=h} t':=by
 obtain⟨cur,code,pos,stack⟩:=t;cases cur with
 |pure a=>
  cases a with
  |again c=>cases e;rfl
  |done f=>
   cases stack with
   |nil=>
    have e:(if leftWithCleanup s.gens=true then Step.halt _ _ else Step.halt _ _)=.go s' t':=e;split at e<;>cases e
   |cons r l=>cases r<;>cases e<;>rfl
 |«at»=>cases e;rfl
 |rule=>cases e;rfl
 |ask=>cases e;rfl
 |fresh=>cases e;rfl
 |point=>cases e;rfl
 |stack=>cases e;rfl
 |call=>cases e;rfl
 |_=>cases hn
theorem zmG{c:Sem Fin}{a:Addr}{k:Obj->Sem Fin}(h:A_ c=.ld a k):∃q,c=.load a q k:=by
 cases c<;>cases h;exact⟨_,rfl⟩
theorem zn4{c:Sem Fin}{a:Addr}{k:Option Obj->Sem Fin}(h:A_ c=.la a k):c=.loadIfAlive a k:=by
 cases c<;>cases h;rfl
theorem znU{c:Sem Fin}{a:Addr}{f:Obj->Obj}{k:Unit->Sem Fin}(h:A_ c=.up a f k):∃q,c=.update a q f k:=by
 cases c<;>cases h;exact⟨_,rfl⟩
theorem zni{c:Sem Fin}{o:Obj}{k:Addr->Sem Fin}(h:A_ c=.al o k):c=.alloc o k:=by
 cases c<;>cases h;rfl
noncomputable def nY(tb:String->Option Builtin)(p:Program)(w:World)(n₀:Nat)(ann:Option Value):Nat->Tr->Nat->Shared->Thread->Option (Tr×Nat×Shared)
 |0,_,_,_,_=>none
 |m+1,t,z,s,th=>match through th with
  |true=>some (t,z,s)
  |false=>match stepOk n₀ ann th with
   |false=>none
   |true=>match A_ th.cur with
    |.ld a k=>(match pA t z a with
     |some o=>nY tb p w n₀ ann m t z s ⟨k o,th.code,th.pos,th.stack⟩
     |none=>none)
    |.la a k=>nY tb p w n₀ ann m t z s ⟨k (pA t z a),th.code,th.pos,th.stack⟩
    |.up a f k=>(match pA t z a with
     |some o=>nY tb p w n₀ ann m (t.put 12 a (f o)) z s ⟨k (),th.code,th.pos,th.stack⟩
     |none=>none)
    |.al o k=>(match Nat.succ z with
     |0=>none
     |n+1=>match Nat.ble n 4095 with
      |true=>nY tb p w n₀ ann m (t.put 12 n o) (n+1) s ⟨k n,th.code,th.pos,th.stack⟩
      |false=>none)
    |.st=>(match step (denote tb) p w s th with
     |.go s' t'=>nY tb p w n₀ ann m t z s' t'
     |.halt _ _=>none)
    |.no=>none
theorem zk6{tb:String->Option Builtin}{p:Program}{w:World}{n₀:Nat}{ann:Option Value}:∀(m:Nat) {t t':Tr} {z z':Nat} {s s':Shared} {th:Thread} {h:Heap},Rl t z h->nY tb p w n₀ ann m t z s th=some (t',z',s')->
  ∃h',Rl t' z' h'/\h'.life=h.life/\topRun tb p w n₀ ann m {s with heap:=h} th=some {s' with heap:=h'}:=by
 intro m
 induction m with
 |zero=>intro t t' z z' s s' th h r e;cases e
 |succ m ih=>
  intro t t' z z' s s' th h r e;unfold nY at e;unfold topRun;cases ht:through th with
  |true=>
   rw[ht] at e;cases e;exact⟨h,r,rfl,rfl⟩
  |false=>
   rw[ht] at e;cases hk:stepOk n₀ ann th with
   |false=>rw[hk] at e;cases e
   |true=>
    rw[hk] at e;dsimp only at e ⊢;cases ho:A_ th.cur with
    |no=>rw[ho] at e;cases e
    |st=>
     rw[ho] at e;cases hs:step (denote tb) p w s th with
     |halt _ _=>rw[hs] at e;cases e
     |go s1 t1=>
      rw[hs] at e;rw[zio (h:=h) ho hs];exact ih r e
    |ld a k=>
     rw[ho] at e;dsimp only at e;cases hg:pA t z a with
     |none=>rw[hg] at e;cases e
     |some o=>
      rw[hg] at e;rw[r.get] at hg;obtain⟨cur,code,pos,stack⟩:=th;obtain⟨q,rfl⟩:=zmG ho;simp only[step,hg];exact ih r e
    |la a k=>
     rw[ho] at e;obtain⟨cur,code,pos,stack⟩:=th;obtain rfl:=zn4 ho;obtain⟨h',a1,b,c⟩:=ih r e;rw[r.get] at c;exact⟨h',a1,b,c⟩
    |up a f k=>
     rw[ho] at e;dsimp only at e;cases hg:pA t z a with
     |none=>rw[hg] at e;cases e
     |some o=>
      rw[hg] at e;rw[r.get] at hg;obtain⟨cur,code,pos,stack⟩:=th;obtain⟨q,rfl⟩:=znU ho;obtain⟨h',a1,b,c⟩:=ih (r.upd hg) e;refine⟨h',a1,b.trans (by cases h;rfl),?_⟩;simp only[step,hg];exact c
    |al o k=>
     rw[ho] at e;cases hb:Nat.ble z 4095 with
     |false=>dsimp only at e;rw[hb] at e;cases e
     |true=>
      dsimp only at e;rw[hb] at e;obtain⟨cur,code,pos,stack⟩:=th;obtain rfl:=zni ho;obtain⟨h',a1,b,c⟩:=ih (r.push o (by have:=Nat.ble_eq.mp hb;lia)) e;refine⟨h',a1,b.trans (by cases h;rfl),?_⟩;simp only[step,r.sz];exact c
noncomputable def lst(g:Nat->Option Obj):Nat->Nat->List Obj
 |0,_=>[]
 |n+1,i=>match g i with
  |some o=>o::lst g n (i+1)
  |none=>[]
theorem Yi{g:Nat->Option Obj}:∀{l:List Obj} {i:Nat},(∀j,j<l.length->g (i+j)=l[j]?)->lst g l.length i=l
 |[],_,_=>rfl
 |o::l,i,h=>by
  have h0:=h 0 (DY _);show (match g i with|some o=>o::lst g l.length (i+1)|none=>[])=_;rw[show g i=some o from h0,Yi (l:=l) λj hj=>by rw[show i+1+j=i+(j+1) by lia];exact h (j+1) (Nat.succ_lt_succ hj)]
noncomputable def yP(t:Tr)(z:Nat)(l:Life):Heap:=⟨⟨lst (t.get 12) z 0⟩,l⟩
theorem Rl.yP{t:Tr}{z:Nat}{h:Heap}(r:Rl t z h):yP t z h.life=h:=by
 obtain⟨⟨objs⟩,l⟩:=h;have sz:objs.length=z:=r.sz;subst sz;unfold Mi.yP;rw[Yi λj hj=>by rw[G5];exact(r.at_ j hj).trans Zaa]
noncomputable def Ms:List Obj->Nat->Tr->Tr
 |[],_,t=>t
 |o::r,i,t=>Ms r (i+1) (t.put 12 i o)
theorem Yj{l:Life}:∀{r a:List Obj} {t:Tr},(a++r).length<=4096->Rl t a.length ⟨⟨a⟩,l⟩->Rl (Ms r a.length t) (a++r).length ⟨⟨a++r⟩,l⟩
 |[],a,t,_,h=>by rw[wK];exact h
 |o::r,a,t,hl,h=>by
  have h2:=h.push o (by rw[h_,gD] at hl;lia);have e:a++o::r=(a++[o])++r:=by simp
  rw[e] at hl ⊢;have h3:=Yj (l:=l) (r:=r) (a:=a++[o]) (t:=t.put 12 a.length o) hl (by
   rw[h_];have e2:(⟨⟨a++[o]⟩,l⟩ : Heap)=Heap.push ⟨⟨a⟩,l⟩ o:=by unfold Heap.push;simp
   rw[e2];exact h2)
  rw[h_] at h3;exact h3
noncomputable def uh(p:Program)(w:World)(N:Nat):Option Shared:=(fencedOpening treeTable p w N).bind λs₀=>match s₀.heap.isNs mainGlobals&&s₀.gens.size==0&&Nat.ble s₀.heap.objs.size 4096 with
 |true=>(nY treeTable p w s₀.heap.objs.size (s₀.heap.nsMap mainGlobals "__annotations__") N (Ms s₀.heap.objs.toList 0 .em) s₀.heap.objs.size s₀ (topStub p)).bind λr=>
  match staticsOk (importedModules p.main.body) s₀.heap (yP r.1 r.2.1 s₀.heap.life)&&namesBound p (yP r.1 r.2.1 s₀.heap.life)&&gensDone r.2.2&&laidKept s₀.heap (yP r.1 r.2.1 s₀.heap.life) with
   |true=>some {r.2.2 with heap:=yP r.1 r.2.1 s₀.heap.life}
   |false=>none
 |false=>none
theorem zik{p:Program}{w:World}{N:Nat}{s:Shared}(e:uh p w N=some s):openEnds treeTable p w N=some s:=by
 unfold uh at e;unfold openEnds;obtain⟨s₀,h0,e⟩:=tW.mp e;rw[h0];show topFrom treeTable p w N s₀=some s;unfold topFrom;cases hb:(s₀.heap.isNs mainGlobals&&s₀.gens.size==0&&Nat.ble s₀.heap.objs.size 4096) with
 |false=>rw[hb] at e;cases e
 |true=>
  rw[hb] at e;obtain⟨h1,h2⟩:=Qq.mp hb;rw[h1];obtain⟨⟨t,z,s₁⟩,h3,e⟩:=tW.mp e;have r0:Rl (Ms s₀.heap.objs.toList 0 .em) s₀.heap.objs.size s₀.heap:=Yj (l:=s₀.heap.life) (r:=s₀.heap.objs.toList) (a:=[]) (t:=.em) (Nat.ble_eq.mp h2) ⟨rfl,vX _,λa ha=>absurd ha (Mf a)⟩;obtain⟨h',r,l,c⟩:=zk6 N r0 h3;dsimp only at e ⊢;rw[show ({s₀ with heap:=s₀.heap}:Shared)=s₀ from rfl] at c;rw[c];rw[<-l,r.yP] at e;exact e
theorem fe{p:Program}{w:World}{N:Nat}{α:Type}{f:Shared->α}{v:α}(e:(uh p w N).map f=some v):(openEnds treeTable p w N).map f=some v:=by
 obtain⟨s,h,e⟩:=jE.mp e;rw[zik h,<-e];rfl
structure Bd where
 n:Str
 fs:List Str
 ms:List (Str×Str×Stmt)
noncomputable def lJ(K:Frag)(C:Addr)(m:Str):Option (Addr×FuncData):=match findIn K (.ref C) m with
 |some (some (.ref f))=>(match K.lookup f with
  |some ⟨_,_,.func fd,_⟩=>(match codeIn K fd.code fd.qualname&&keepIn K (.ref f)&&isFn K (.ref f) with
   |true=>some (f,fd)
   |false=>none)
  |_=>none)
 |_=>none
noncomputable def Er(m q:Str)(st:Stmt):FuncData:=fnOf m q (aQ st) (aL st) (au st) .none .none .none .none none .none .none
noncomputable def yQ(K:Frag)(b:Bd):Bool:=ud K b.n&&plainGet K (eG K b.n) Str.empty&&hasDictIn K (eG K b.n)&&plainOver K (eG K b.n)&&findIn K (.ref (eG K b.n)) "__setattr__"==some (some (.builtin "object.__setattr__"))&&makesIn K (eG K b.n)&&keepIn K (.ref (eG K b.n))&&b.fs.all (λf=>findIn K (.ref (eG K b.n)) f==some none)
noncomputable def Ba(b:Bd)(s:Shared):List (Option FuncData)×Bool:=(b.ms.map λp=>(lJ (bN s.heap) (eG (bN s.heap) b.n) p.1).map λq=>nU q.2,yQ (bN s.heap) b)
noncomputable def Bb(b:Bd):List (Option FuncData)×Bool:=(b.ms.map λp=>some (Er p.1 p.2.1 p.2.2),true)
theorem zj1{p q:Program}{loose:List Str}{Xt:Shared->Bool}{N:Nat}{fs:List (Str×Stmt)}{ms:List ug}{xs:List (Nat×Str)}{l:Lk}{b:Bd}(h:LeftO p q loose Xt (mD fs ms xs l) (nW fs ms) N)(e:∀w,(openEnds treeTable p w N).map (Ba b)=some (Bb b)) :
  LeftO p q loose Xt (λs=>(mD fs ms xs l s,Ba b s)) (λw=>(nW fs ms w,Bb b)) N:=by
 intro w;have h:=h w;have e:=e w;cases z:openEnds treeTable p w N with
 |none=>rw[z] at e;cases e
 |some s=>
  rw[z] at h e;have e:Ba b s=Bb b:=dz e;have h:=dz h;have h1:=mj Prod.fst h;have h2:=mj Prod.snd h;show some (_,_,_)=some (_,_,_);rw[e];exact mj some (Prod.ext h1 (Prod.ext h2 rfl))
end Mi
namespace eU
open PySem PySem.Spec PyProof.Rows PySem.W L2 Mi
noncomputable def top(i:Nat):Stmt:=PySem.Challenge.pw_ringhues_k10_next_hues.main.body.getD i (.Pass ⟨0,0,0,0⟩)
noncomputable def Et:Stmt:=(eZ (top 27)).getD 0 (.Pass ⟨0,0,0,0⟩)
noncomputable def Hj:Stmt:=(eZ (top 27)).getD 1 (.Pass ⟨0,0,0,0⟩)
noncomputable def Eu:Stmt:=(eZ (top 27)).getD 2 (.Pass ⟨0,0,0,0⟩)
noncomputable def Ew:Stmt:=(eZ (top 27)).getD 3 (.Pass ⟨0,0,0,0⟩)
noncomputable def Ey:Stmt:=(eZ (top 27)).getD 4 (.Pass ⟨0,0,0,0⟩)
noncomputable def Hl:Stmt:=(eZ (top 27)).getD 5 (.Pass ⟨0,0,0,0⟩)
noncomputable def Ez:Stmt:=(eZ (top 27)).getD 6 (.Pass ⟨0,0,0,0⟩)
noncomputable def bd:Bd:=⟨"Board",["ends","spots","apart","alike"],[("__init__","Board.__init__",Et),("far_apart","Board.far_apart",Hj),("settled","Board.settled",Eu),("ties_left","Board.ties_left",Ew),("bound","Board.bound",Ey),("narrowest","Board.narrowest",Hl),("all_free","Board.all_free",Ez)]⟩
noncomputable def fs1:List (Str×Stmt):=("is_whole",top 14)::("is_within",top 15)::("is_row",top 16)::("is_web",top 19)::("is_many",top 20)::("is_place",top 21)::("is_tie",top 22)::("check_web",top 23)::("tied_to",top 24)::("all_ends",top 25)::("ring_board",top 28)::("is_ring",top 31)::("is_spot",top 32)::("check_ring",top 33)::("gap_of",top 34)::("are_spots",top 36)::("are_hues",top 37)::("check_hues",top 38)::("clash_of",top 39)::("first_hues",top 41)::("next_hues",top 42)::[]
noncomputable def qX:List (Str×Stmt):=("first_among",top 43)::("first_spot",top 44)::("can_settle",top 45)::("search",top 46)::("_law_cell",top 48)::("_law_pen",top 49)::("_law_draw",top 50)::("_law_whole",top 51)::("_law_odd",top 52)::("_law_kind",top 53)::("_law_web",top 54)::("_law_short",top 55)::("_law_apart",top 56)::("_law_fit_spots",top 57)::("_law_are_spots",top 58)::("_law_are_hues",top 59)::("_law_all",top 60)::("_law_bent_row",top 61)::("_law_told_as",top 62)::("_law_said",top 63)::("law",top 64)::[]
noncomputable abbrev fs:List (Str×Stmt):=fs1++qX
noncomputable def lk:Lk:=⟨["HueError","NoRing","NoHues","NoPlace","NoArrows","NoMap","NoPaper","Apart","NoRow","NoWeb","NoText","TooGreat"],[("MOST_PLACES",8),("MOST_SPOTS",24)],["ValueError","abs","all","bool","divmod","enumerate","int","isinstance","len","list","max","min","range","reversed","sorted","tuple","zip"],[2],[0],[]⟩
noncomputable def ms:List ug:=[]
noncomputable def xs:List (Nat×Str):=[]
noncomputable abbrev pv:Program:=PySem.Challenge.pw_ringhues_k10_next_hues
noncomputable def qv:Program:={pv with main:={pv.main with body:=[pv.main.body.getD 64 (.Pass ⟨0,0,0,0⟩)]}}
noncomputable def loose:List Str:=(["HueError","NoRing","NoHues","NoPlace","NoArrows","NoMap","NoPaper","Apart","NoRow","NoWeb","NoText","TooGreat","is_whole","is_within","is_row","MOST_PLACES","is_web","is_many","is_place","is_tie","check_web","tied_to","all_ends","Board","ring_board","MOST_SPOTS","is_ring","is_spot","check_ring","gap_of","are_spots","are_hues","check_hues","clash_of","first_hues","next_hues","first_among","first_spot","can_settle","search","_law_cell","_law_pen","_law_draw","_law_whole","_law_odd","_law_kind","_law_web","_law_short","_law_apart","_law_fit_spots","_law_are_spots","_law_are_hues","_law_all","_law_bent_row","_law_told_as","_law_said"]:List String).map Str.ofString
theorem znf(w:World):(openEnds treeTable pv w 20000).map (λs=>openSeen qv loose (importedModules pv.main.body) (λs=>xlAt qv [] s&&recOk [] s) true s)=some (openGood qv loose):=by
 refine fe ?_
 kernel_rfl
theorem zm8(w:World):(openEnds treeTable pv w 20000).map (Mr fs1)=some (fs1.map λp=>some (vZ p.1 p.2)):=by
 refine fe ?_
 kernel_rfl
theorem zmE(w:World):(openEnds treeTable pv w 20000).map (Mr qX)=some (qX.map λp=>some (vZ p.1 p.2)):=by
 refine fe ?_
 kernel_rfl
theorem zno(w:World):(openEnds treeTable pv w 20000).map (Yh ms xs lk)=some (ms.map (λm=>some (Az m.q m.st)),true):=by
 refine fe ?_
 kernel_rfl
theorem ws:PySem.Challenge.rw_ringhues_k10_next_hues.wellSaid=true:=by
 kernel_rfl
theorem wt:PySem.Challenge.rw_ringhues_k10_next_hues.row.prog.tablesWhole=true:=by
 decide +kernel
theorem wc:(chainsOk qv&&opensWell PySem.Challenge.rw_ringhues_k10_next_hues.row.prog&&(frees PySem.Challenge.rw_ringhues_k10_next_hues.row.toRowW&&PySem.Challenge.rw_ringhues_k10_next_hues.row.within.isEmpty))=true:=by
 decide +kernel
theorem zm6(w:World):(openEnds treeTable pv w 20000).map (Ba bd)=some (Bb bd):=by
 refine fe ?_
 kernel_rfl
theorem left:LeftO pv qv loose (λs=>xlAt qv [] s&&recOk [] s) (λs=>(mD fs ms xs lk s,Ba bd s)) (λw=>(nW fs ms w,Bb bd)) 20000:=zj1 (ze3 znf zm8 zmE zno) zm6
end eU
namespace L2
open PySem PySem.Spec PyProof.Rows
theorem dY{α:Sort u}{β:Sort v}{A B C:α->β->Prop}{P:Prop}(h:∃x y,A x y/\B x y/\C x y)(k:∀x y,A x y->B x y->C x y->P):P:=by
 obtain⟨x,y,a,b,c⟩:=h;exact k x y a b c
theorem QK{α:Sort u}{β:Sort v}{γ:Sort w}{A B:α->β->Prop}{C D:α->β->γ->Prop}{P:Prop}(h:∃x y,A x y/\B x y/\∃z,C x y z/\D x y z)(k:∀x y,A x y->B x y->∀z,C x y z->D x y z->P):P:=by
 obtain⟨x,y,a,b,z,c,d⟩:=h;exact k x y a b z c d
theorem wO{α:Sort u}{A B:α->Prop}{P:Prop}(h:∃x,A x/\B x)(k:∀x,A x->B x->P):P:=by
 obtain⟨x,a,b⟩:=h;exact k x a b
noncomputable abbrev Key:=Sum Int Str
noncomputable def lK:Key->Value->Bool
 |.inl k,v=>Value.isInt k v
 |.inr x,v=>Value.isStrOf x v
noncomputable def QL(w:World):Key->Int
 |.inl k=>hashInt k
 |.inr x=>hashStr w x
theorem wQ:∀{k:Key} {v:Value},lK k v=true->(∃i t,k=Sum.inl i/\v=Value.int i t)\/(∃x t,k=Sum.inr x/\v=Value.str x t)
 |.inl i,v,h=>by
  obtain⟨t,e⟩:=Value.isInt_shape (k:=i) (v:=v) h;exact .inl ⟨i,t,rfl,e⟩
 |.inr x,v,h=>by
  obtain⟨t,e⟩:=Value.isStrOf_shape (x:=x) (v:=v) h;exact .inr ⟨x,t,rfl,e⟩
theorem zge(i:Int)(t:Tok):lK (.inl i) (.int i t)=true:=by simp[lK,Value.isInt]
theorem zgK(x:Str)(t:Tok):lK (.inr x) (.str x t)=true:=by simp[lK,Value.isStrOf]
theorem znP(a b:Int):decide ((Sum.inl a:Key)=Sum.inl b)=(a==b):=by
 by_cases e:a=b
 ·subst e;simp
 ·have h:¬(Sum.inl a:Key)=Sum.inl b:=λq=>e (Sum.inl.inj q);rw[gQ h];exact(Ag.mpr e).symm
theorem zmK(a b:Str):decide ((Sum.inr a:Key)=Sum.inr b)=decide (a=b):=by
 by_cases e:a=b
 ·subst e;simp
 ·have h:¬(Sum.inr a:Key)=Sum.inr b:=λq=>e (Sum.inr.inj q);rw[gQ h,gQ e]
theorem zme(a:Int)(b:Str):decide ((Sum.inl a:Key)=Sum.inr b)=false:=gQ (λq=>nomatch q)
theorem znj(a:Str)(b:Int):decide ((Sum.inr a:Key)=Sum.inl b)=false:=gQ (λq=>nomatch q)
noncomputable def cB(prog:Program)(w:World):PySem.KeyKind prog w Key where
 is:=lK
 hash:=QL w
 inj:=λv a b ha hb=>by
  rcases wQ ha with ⟨i,t,rfl,rfl⟩|⟨x,t,rfl,rfl⟩
  ·rcases wQ hb with ⟨j,u,rfl,e⟩|⟨y,u,rfl,e⟩
   ·injection e with e1 _;rw[e1]
   ·exact nomatch e
  ·rcases wQ hb with ⟨j,u,rfl,e⟩|⟨y,u,rfl,e⟩
   ·exact nomatch e
   ·injection e with e1 _;rw[e1]
 byValue:=λk v h=>by
  rcases wQ h with ⟨i,t,rfl,rfl⟩|⟨x,t,rfl,rfl⟩<;>rfl
 pyHash:=λhv h=>by
  rcases wQ hv with ⟨i,t,rfl,rfl⟩|⟨x,t,rfl,rfl⟩
  ·exact wpAny_pyHash_int h
  ·exact wpAny_pyHash_str h
 eqBool:=λhu hv h=>by
  rcases wQ hu with ⟨i,t,rfl,rfl⟩|⟨x,t,rfl,rfl⟩
  ·rcases wQ hv with ⟨j,u,rfl,rfl⟩|⟨y,u,rfl,rfl⟩
   ·rw[znP] at h;exact wpAny_eqBool_int h
   ·rw[zme] at h;exact SeqAt.EqAt.int_str i t y u _ _ _ _ h
  ·rcases wQ hv with ⟨j,u,rfl,rfl⟩|⟨y,u,rfl,rfl⟩
   ·rw[znj] at h;exact SeqAt.EqAt.str_int x t j u _ _ _ _ h
   ·rw[zmK] at h;exact wpAny_eqBool_str h
 «strs»:=λk x t v h=>by
  rcases wQ h with ⟨i,u,rfl,e⟩|⟨y,u,rfl,e⟩
  ·exact nomatch e
  ·injection e with e1 _;subst e1;cases v<;>rfl
theorem zdS(prog:Program)(w:World)(i:Int)(t:Tok):(cB prog w).is (.inl i) (.int i t)=true:=zge i t
theorem zdX(prog:Program)(w:World)(x:Str)(t:Tok):(cB prog w).is (.inr x) (.str x t)=true:=zgK x t
inductive V where
 |non|bl (b:Bool)|int (i:Int)|str (x:Str)|Bc (b:Array UInt8)|flt (b:UInt64)|ref (a:Addr)|ty (n:String)
 deriving DecidableEq
noncomputable def RelV:V->Value->Prop
 |.non,u=>u=Value.none
 |.bl b,u=>u=Value.bool b
 |.int i,u=>∃t,u=Value.int i t
 |.str x,u=>∃t,u=Value.str x t
 |.Bc b,u=>∃t,u=Value.bytes b t
 |.flt b,u=>∃t,u=Value.float b t
 |.ref a,u=>u=Value.ref a
 |.ty n,u=>u=Value.type n
noncomputable abbrev Vals:List V->List Value->Prop:=Paired RelV
theorem Vals.length{xs:List V}{us:List Value}(r:Vals xs us):xs.length=us.length:=Paired.length r
theorem Vals.get:∀{xs:List V} {us:List Value} {i:Nat} {x:V},Vals xs us->xs[i]?=some x->∃u,us[i]?=some u/\RelV x u
 |_,_,_,_,.nil,e=>by simp at e
 |_,_,0,_,.cons r _,e=>by simp at e;subst e;exact⟨_,rfl,r⟩
 |_,_,i+1,x,.cons _ t,e=>by
  obtain⟨u,h1,h2⟩:=Vals.get (i:=i) (x:=x) t (by simpa using e);exact⟨u,by simpa using h1,h2⟩
theorem Vals.set{x:V}{u:Value}(r:RelV x u):∀{xs:List V} {us:List Value} (i:Nat),Vals xs us->Vals (xs.set i x) (us.set i u)
 |_,_,_,.nil=>.nil
 |_,_,0,.cons _ t=>.cons r t
 |_,_,i+1,.cons q t=>.cons q (Vals.set r i t)
theorem Vals.append{xs ys:List V}{us ws:List Value}(h:Vals xs us)(s:Vals ys ws):Vals (xs++ys) (us++ws):=by
 induction h with
 |nil=>exact s
 |cons r _ ih=>exact .cons r ih
theorem Vals.take:∀{xs:List V} {us:List Value} (n:Nat),Vals xs us->Vals (xs.take n) (us.take n)
 |_,_,0,_=>.nil
 |_,_,_+1,.nil=>.nil
 |_,_,n+1,.cons r t=>.cons r (Vals.take n t)
theorem Vals.drop:∀{xs:List V} {us:List Value} (n:Nat),Vals xs us->Vals (xs.drop n) (us.drop n)
 |_,_,0,r=>r
 |_,_,_+1,.nil=>.nil
 |_,_,n+1,.cons _ t=>Vals.drop n t
noncomputable def qY:Option V->Option Value->Prop
 |some v,some u=>RelV v u
 |none,none=>True
 |_,_=>False
noncomputable def KV{κ:Type}:List (κ×V)->List (κ×Value)->Prop:=Paired λ(p:κ×V) (q:κ×Value)=>p.1=q.1/\RelV p.2 q.2
noncomputable def kV:Key->V
 |.inl i=>.int i
 |.inr x=>.str x
inductive HO where
 |lst (xs:List V)
 |tup (xs:List V)
 |dK (kvs:List (Key×V))|dT (kvs:List (List Key×V))
 |set (S:Int->Bool) (n:Nat)
 |ins (C dx:Addr) (fs:List (Str×V))
 |own (x:Addr)
 |xd (fs:List (Str×V))
 |met (f x:Addr)
 |rng (lo hi:Int)
 |uo (o:Obj) (u:HO)
 |yR (ps:Array Value)
 |ext (U:Heap->Prop)
noncomputable abbrev Hp:=Addr->Option HO
noncomputable def upd(H:Hp)(a:Addr)(o:HO):Hp:=λb=>if b=a then some o else H b
theorem iY{H:Hp}{a:Addr}{o:HO}:upd H a o a=some o:=by unfold upd;rw[if_pos rfl]
theorem cY{H:Hp}{a b:Addr}{o:HO}(h:b≠a):upd H a o b=H b:=by unfold upd;rw[if_neg h]
theorem Yk{H:Hp}{a:Addr}{o u:HO}:upd (upd H a o) a u=upd H a u:=by
 funext b;unfold upd;split<;>rfl
theorem EY{H:Hp}{a b:Addr}{o:HO}(h:H a=some o)(h':H b=none):a≠b:=by
 intro e;subst e;rw[h] at h';cases h'
def jQ(h:Heap)(a:Addr)(items:Array Value):Prop:=∃o,h.get? a=some o/\o.cls=.type "tuple"/\∃n,o.data=.seq items n/\o.dict=none
theorem jQ.tup{h:Heap}{a:Addr}{items:Array Value}(x:jQ h a items):IsTup h a items:=by
 obtain⟨o,h1,h2,n,h3,_⟩:=x;exact⟨o,h1,h2,n,h3⟩
theorem jQ.lt{h:Heap}{a:Addr}{items:Array Value}(x:jQ h a items):a<h.objs.size:=x.tup.lt
theorem jQ.new(h:Heap)(xs:Array Value):jQ (h.push {cls:=.type "tuple",data:=.seq xs}) h.objs.size xs:=⟨_,fL h rfl,rfl,_,rfl,rfl⟩
section
variable (P:Program)(w:World)
noncomputable def aP(H:Hp)(h:Heap)(a:Addr):HO->Prop
 |.lst xs=>xs.length<=sizeLine/\∃(its:List Value) (n:Nat),Vals xs its/\h.get? a=some {cls:=.type "list",data:=.seq its.toArray n}
 |.tup xs=>xs.length<=sizeLine/\∃its:List Value,Vals xs its/\jQ h a its.toArray
 |.dK kvs=>kvs.length<=sizeLine/\(a==sysModules)=false/\∃vs,KV kvs vs/\h.DictOf (cB P w) a vs
 |.dT kvs=>kvs.length<=sizeLine/\(a==sysModules)=false/\∃xs:List (List Key×Addr×Value),
   Paired (λ(p:List Key×V) (q:List Key×Addr×Value)=>p.1=q.1/\H q.2.1=some (.tup (p.1.map kV))/\RelV p.2 q.2.2) kvs xs /\
   ∃o es ep,h.get? a=some o/\o.ExactDict/\o.data=.dict es ep/\es.toList=xs.map (entryOfKey (tupleKind (cB P w)))/\(xs.map (·.1)).Nodup
 |.set S n=>h.SetOf (intKind P w) a S n
 |.ins C dx fs=>H dx=some (.own a)/\fs.length<=1000/\dx≠a/\h.get? a=some (PySem.W.instObj C dx) /\
   ∃mA,h.Ns1 dx mA/\(∀f,qY (fs.lookup f) (mA f))/\PySem.Within mA (fs.map (·.1))
 |.own _=>∃o,h.get? a=some o
 |.xd fs=>∃mA,h.Ns1 a mA/\∀f,qY (fs.lookup f) (mA f)
 |.rng lo hi=>∃t u v,h.get? a=some {cls:=.type "range",data:=.fields #[.int lo t,.int hi u,.int 1 v]}
 |.uo o u=>h.get? a=some o/\aP H h a u
 |.yR ps=>h.get? a=some {cls:=.none,data:=.fields ps}
 |.met f x=>h.get? a=some (PySem.W.methodObj (.ref f) (.ref x))
 |.ext U=>U h/\(∃o,h.get? a=some o)/\∀h1 h2:Heap,U h1->(∀o,h1.get? a=some o->h2.get? a=some o)->U h2
def gR(H:Hp)(h:Heap):Prop:=∀a o,H a=some o->aP P w H h a o
end
section
variable {P:Program}{w:World}{H H':Hp}{h h':Heap}{a:Addr}{o:HO}
theorem aP.lt(x:aP P w H h a o):a<h.objs.size:=by
 cases o with
 |lst xs=>obtain⟨_,_,_,_,e⟩:=x;exact cg e
 |tup xs=>obtain⟨_,_,_,p⟩:=x;exact p.lt
 |dK kvs=>obtain⟨_,_,_,_,o,_,_,e,_⟩:=x;exact cg e
 |dT kvs=>obtain⟨_,_,_,_,o,_,_,e,_⟩:=x;exact cg e
 |set S n=>obtain⟨o,_,_,_,e,_⟩:=x;exact cg e
 |ins C dx fs=>obtain⟨_,_,_,e,_⟩:=x;exact cg e
 |own y=>obtain⟨_,e⟩:=x;exact cg e
 |xd fs=>obtain⟨_,⟨_,_,_,e,_⟩,_⟩:=x;exact cg e
 |rng lo hi=>obtain⟨_,_,_,e⟩:=x;exact cg e
 |uo ob u=>obtain⟨e,_⟩:=x;exact cg e
 |yR ps=>exact cg (show h.get? a=some _ from x)
 |met f y=>exact cg (show h.get? a=some _ from x)
 |ext U=>obtain⟨_,⟨_,e⟩,_⟩:=x;exact cg e
theorem Yl{α β:Type}{F G:α->β->Prop}:∀{l₁:List α} {l₂:List β},Paired F l₁ l₂->(∀a b,F a b->G a b)->Paired G l₁ l₂
 |_,_,.nil,_=>.nil
 |_,_,.cons r t,f=>.cons (f _ _ r) (Yl t f)
theorem aP.stay(x:aP P w H h a o)(k:∀b u,(b=a\/H b=some (.own a))->h.get? b=some u->h'.get? b=some u)
  (ho:∀b,H b=some (.own a)->H' b=some (.own a)) (ht:∀b xs,H b=some (.tup xs)->H' b=some (.tup xs)):aP P w H' h' a o:=by
 induction o with
 |lst xs=>obtain⟨z,its,n,r,e⟩:=x;exact⟨z,its,n,r,k _ _ (.inl rfl) e⟩
 |tup xs=>obtain⟨z,its,r,ob,e,c⟩:=x;exact⟨z,its,r,ob,k _ _ (.inl rfl) e,c⟩
 |dK kvs=>obtain⟨z,y,vs,r,ob,es,ep,e,c⟩:=x;exact⟨z,y,vs,r,ob,es,ep,k _ _ (.inl rfl) e,c⟩
 |dT kvs=>
  obtain⟨z,y,xs,r,ob,es,ep,e,c⟩:=x;exact⟨z,y,xs,Yl r λp q z=>⟨z.1,ht _ _ z.2.1,z.2.2⟩,ob,es,ep,k _ _ (.inl rfl) e,c⟩
 |set S n=>obtain⟨ob,es,ep,t,e,c⟩:=x;exact⟨ob,es,ep,t,k _ _ (.inl rfl) e,c⟩
 |ins C dx fs=>
  obtain⟨d,z,ne,e,mA,⟨od,es,ep,e2,c⟩,r⟩:=x;exact⟨ho _ d,z,ne,k _ _ (.inl rfl) e,mA,⟨od,es,ep,k _ _ (.inr d) e2,c⟩,r⟩
 |own y=>obtain⟨ob,e⟩:=x;exact⟨ob,k _ _ (.inl rfl) e⟩
 |xd fs=>obtain⟨mA,⟨od,es,ep,e,c⟩,r⟩:=x;exact⟨mA,⟨od,es,ep,k _ _ (.inl rfl) e,c⟩,r⟩
 |rng lo hi=>obtain⟨t,u,v,e⟩:=x;exact⟨t,u,v,k _ _ (.inl rfl) e⟩
 |uo ob u ih=>obtain⟨e,q⟩:=x;exact⟨k _ _ (.inl rfl) e,ih q⟩
 |yR ps=>
  have e:h.get? a=some {cls:=.none,data:=.fields ps}:=x;show h'.get? a=some {cls:=.none,data:=.fields ps};exact k a _ (.inl rfl) e
 |met f y=>
  have e:h.get? a=some (PySem.W.methodObj (.ref f) (.ref y)):=x;show h'.get? a=some (PySem.W.methodObj (.ref f) (.ref y));exact k a _ (.inl rfl) e
 |ext U=>obtain⟨p,⟨o,e⟩,st⟩:=x;exact⟨st _ _ p λo q=>k _ _ (.inl rfl) q,⟨o,k _ _ (.inl rfl) e⟩,st⟩
theorem gR.lt(x:gR P w H h)(e:H a=some o):a<h.objs.size:=(x a o e).lt
theorem gR.fresh(x:gR P w H h)(e:h.objs.size<=a):H a=none:=by
 cases q:H a with
 |none=>rfl
 |some u=>exact absurd (iB (x.lt q) e) (qj _)
theorem gR.kept(x:gR P w H h)(k:∀b u,h.get? b=some u->h'.get? b=some u):gR P w H h':=λa o e=>
 (x a o e).stay (λb u _ q=>k b u q) (λ_ q=>q) λ_ _ q=>q
theorem gR.laid(x:gR P w H h)(k:∀b u,h.get? b=some u->h'.get? b=some u)(hp:h.objs.size<=a)(new:aP P w (upd H a o) h' a o):gR P w (upd H a o) h':=λb u e=>by
 have hn:=x.fresh hp;by_cases hb:b=a
 ·subst hb;rw[iY] at e;cases e;exact new
 ·rw[cY hb] at e;exact(x b u e).stay (λc v _ q=>k c v q) (λc q=>by rw[cY (EY q hn)];exact q) λc xs q=>by rw[cY (EY q hn)];exact q
end
def Rd(H:Hp)(a:Addr)(u:HO):Prop:=H a=some u\/∃o,H a=some (.uo o u)
theorem Rd.ok{P:Program}{w:World}{H:Hp}{h:Heap}{a:Addr}{u:HO}(r:Rd H a u)(x:gR P w H h):aP P w H h a u:=by
 rcases r with r|⟨o,r⟩
 ·exact x a u r
 ·obtain⟨_,q⟩:=x a _ r;exact q
noncomputable def Ho:Option HO->Prop
 |some (.lst _)=>True
 |some (.dK _)=>True
 |some (.dT _)=>True
 |some (.set _ _)=>True
 |some (.ins _ _ _)=>True
 |some (.ext _)=>True
 |_=>False
section
variable {P:Program}{w:World}{H:Hp}{h h':Heap}{x e:Addr}{o':HO}
theorem gR.write(ok:gR P w H h)(mu:Ho (H x))(he:e=x\/H e=some (.own x))(k:∀b u,b≠e->h.get? b=some u->h'.get? b=some u)(E_:∃u,h'.get? e=some u)
  (new:aP P w (upd H x o') h' x o'):gR P w (upd H x o') h':=λb u q=>by
 have Hq:∀c y,H c=some (.own y)->c≠x:=λc y r z=>by subst z;rw[r] at mu;exact mu
 have QM:∀c xs,H c=some (.tup xs)->c≠x:=λc xs r z=>by subst z;rw[r] at mu;exact mu
 by_cases hb:b=x
 ·subst hb;rw[iY] at q;cases q;exact new
 ·rw[cY hb] at q;by_cases Bf:b=e
  ·have q':H b=some (.own x):=by
    rcases he with z|z
    ·exact absurd (Bf.trans z) hb
    ·rw[Bf];exact z
   rw[q] at q';cases q';obtain⟨v,hv⟩:=E_;exact⟨v,by rw[Bf];exact hv⟩
  ·refine(ok b u q).stay (λc v hc r=>k c v ?_ r) (λc r=>by rw[cY (Hq c b r)];exact r) λc xs r=>by rw[cY (QM c xs r)];exact r
   rcases hc with rfl|hc
   ·exact Bf
   ·rintro rfl;rcases he with z|z
    ·exact Hq c b hc z
    ·rw[hc] at z;cases z;exact hb rfl
end
structure Un(fs ex:List Addr)(H H':Hp)(h h':Heap):Prop where
 keep:∀b o,h.get? b=some o->H b=none->b∉fs->b∉ex->h'.get? b=some o
 slot:∀b o,h.get? b=some o->H b=none->b∈fs->b∉ex->∃sl,h'.get? b=some {o with slots:=sl}
 free:∀b o,h.get? b=some o->H b=none->b∉ex->H' b=none
 there:∀b o,h.get? b=some o->b∉ex->∃o',h'.get? b=some o'
 tups:∀b xs,H b=some (.tup xs)->H' b=some (.tup xs)
 jx:∀b o u,H b=some (.uo o u)->H' b=some (.uo o u)
 jR:∀b ps,H b=some (.yR ps)->∃more,H' b=some (.yR (ps++more))
section
variable {fs fs' ex ex':List Addr}{H H1 H2:Hp}{h h1 h2 h':Heap}{a x e:Addr}{o:HO}
theorem Un.any(u:Un fs ex H H1 h h1){b:Addr}{ob:Obj}(q:h.get? b=some ob)(n:H b=none)(hx:b∉ex):∃sl,h1.get? b=some {ob with slots:=sl}:=by
 by_cases hb:b∈fs
 ·exact u.slot b ob q n hb hx
 ·exact⟨ob.slots,u.keep b ob q n hb hx⟩
theorem Un.kept(k:∀b u,h.get? b=some u->h'.get? b=some u):Un fs ex H H h h':=
 ⟨λb ob q _ _ _=>k b ob q,λb ob q _ _ _=>⟨ob.slots,k b ob q⟩,λ_ _ _ n _=>n,λb ob q _=>⟨ob,k b ob q⟩,λ_ _ q=>q,λ_ _ _ q=>q,λ_ ps q=>⟨#[],by rw[q];simp⟩⟩
theorem Un.refl:Un fs ex H H h h:=Un.kept λ_ _ q=>q
theorem Un.laid(k:∀b u,h.get? b=some u->h'.get? b=some u)(hp:h.objs.size<=a)(hn:H a=none):Un fs ex H (upd H a o) h h' where
 keep:=λb u q _ _ _=>k b u q
 slot:=λb u q _ _ _=>⟨u.slots,k b u q⟩
 free:=λb u q n _=>by rw[cY (dX (iB (cg q) hp))];exact n
 there:=λb u q _=>⟨u,k b u q⟩
 tups:=λb xs q=>by rw[cY (EY q hn)];exact q
 jx:=λb u xs q=>by rw[cY (EY q hn)];exact q
 jR:=λb ps q=>⟨#[],by rw[cY (EY q hn),q];simp⟩
theorem Un.write(mu:Ho (H x))(he:e=x\/H e=some (.own x))(k:∀b u,b≠e->h.get? b=some u->h'.get? b=some u)(E_:∃u,h'.get? e=some u):Un fs ex H (upd H x o) h h':=by
 have hx:∀b,H b=none->b≠x:=λb n z=>by subst z;rw[n] at mu;exact mu
 have hb:∀b,H b=none->b≠e:=λb n z=>by
  subst z;rcases he with r|r
  ·exact hx b n r
  ·rw[n] at r;cases r
 have hm:∀b u,H b=some u->¬Ho (some u)->b≠x:=λb u q nm z=>by subst z;rw[q] at mu;exact nm mu
 refine⟨λb u q n _ _=>k b u (hb b n) q,λb u q n _ _=>⟨u.slots,k b u (hb b n) q⟩,λb u q n _=>by rw[cY (hx b n)];exact n,λb u q _=>?_,
  λb xs q=>by rw[cY (hm b _ q λz=>z)];exact q,λb u xs q=>by rw[cY (hm b _ q λz=>z)];exact q,λb ps q=>⟨#[],by rw[cY (hm b _ q λz=>z),q];simp⟩⟩
 by_cases Bf:b=e
 ·subst Bf;exact E_
 ·exact⟨u,k b u Bf q⟩
end
noncomputable def Mu(h:Heap)(H:Hp):List Addr:=(List.range h.objs.size).filter λa=>(H a).isSome
noncomputable def mF(h:Heap)(H:Hp):Heap:=PySem.W.hideAll h (Mu h H)
theorem zgI(h:Heap)(H:Hp):(mF h H).objs.size=h.objs.size:=PySem.W.hideAll_size _ _
theorem zic{h:Heap}{H:Hp}{b:Addr}{o:Obj}(e:h.get? b=some o)(n:H b=none):(mF h H).get? b=some o:=
 PySem.W.hideAll_get _ e λhm=>by
  have q:(H b).isSome=true:=(qg.mp hm).2;rw[n] at q;simp at q
theorem zj6{h:Heap}{H:Hp}{b:Addr}{o:Obj}(e:(mF h H).get? b=some o):h.get? b=some o/\H b=none:=by
 have e':h.get? b=some o:=PySem.W.of_hideAll (Mu h H) e;refine⟨e',?_⟩;cases q:H b with
 |none=>rfl
 |some x=>
  have hm:b∈Mu h H:=qg.mpr ⟨tY.mpr (cg e'),by simp[q]⟩;have z:(mF h H).get? b=none:=PySem.W.hideAll_none (Mu h H) hm;rw[z] at e;cases e
structure Mod(K:W.Frag)(mg:Str->Option Value)(base:Heap):Prop where
 wN:K.In base
 glob:base.Ns mainGlobals mg
 blt:∃mb,base.Ns builtinsNs mb/\∀x:Str,x≠"__name__"->mb x=bootBuiltins x
 nolimit:base.NoLimit
structure Cx where
 prog:Program
 w:World
 K:W.Frag
 mg:Str->Option Value
 base:Heap
 A:Around
 N:List Str
 s₀:Shared
 H₀:Hp
 env:Env
 outer:List Env
 stack:List Env
 ex:List Addr
 fn:Str->Bool
 aj:Bool
 pn:List (Addr×Obj)
 xe:Value->Shared->Prop
noncomputable def frs(l:List Env):List Addr:=l.filterMap (·.frame)
noncomputable abbrev Cx.fs(X:Cx):List Addr:=frs X.outer
def QS(sc:Scope)(x:Str):Prop:=sc.names.lookup x=some .local\/sc.names.lookup x=some .cell\/sc.names.lookup x=some .free
def Loc(sc:Scope)(x:Str):Prop:=sc.names.lookup x=some .local\/sc.names.lookup x=some .cell
def Look(env:Env)(h:Heap)(m:Str->Option Value)(x:Str)(u:Value):Prop:=
 (env.kindOf x=some .local/\m x=some u)\/((env.kindOf x=some .cell\/env.kindOf x=some .free)/\∃c,env.cells.lookup x=some c/\h.IsCell c (some u))
structure Cx.Ok(X:Cx):Prop where
 mod:Mod X.K X.mg X.base
 kind:X.env.scope.kind=.function
 glob:X.env.globals=mainGlobals
 blt:X.env.builtins=builtinsNs
 above:X.s₀.heap.objs.size<=X.env.locals
 inj:∀x y c,X.env.cells.lookup x=some c->X.env.cells.lookup y=some c->x=y
 has:∀x,(X.env.kindOf x=some .cell\/X.env.kindOf x=some .free)->∃c,X.env.cells.lookup x=some c
 cab:∀x c,X.fn x=true->X.env.cells.lookup x=some c->X.s₀.heap.objs.size<=c
 hd:X.aj=true->X.A.handled=none
 frames:X.A.frames=some X.stack
 stk:X.stack=X.outer\/(X.stack=X.env::X.outer/\X.env.frame=some X.env.locals)
 Ym:∀b∈X.ex,b≠X.env.locals/\∀x c,X.env.cells.lookup x=some c->c≠b
 bs:∀b o,X.base.get? b=some o->X.s₀.heap.get? b=some o/\X.H₀ b=none
 wR:X.base.objs.size<=X.s₀.heap.objs.size
 uq:∀b o,X.base.get? b=some o->b∉X.ex
 wU:∀b∈X.ex,b∉X.fs
 jy:X.s₀.heap.FunFrames X.base X.outer
 Bg:∀b∈X.fs,X.H₀ b=none
structure Inv(X:Cx)(ao:List (Addr×Obj))(Z:List (Option V))(H:Hp)(s:Shared):Prop where
 ok:X.Ok
 os:s.os=X.s₀.os
 bare:AllBare s.gens
 base:Un X.fs X.ex X.H₀ H X.s₀.heap s.heap
 loc:∃m,s.heap.Ns X.env.locals m/\∀(i:Nat) (x:Str) (v:V),X.N[i]?=some x->Z[i]?=some (some v)->QS X.env.scope x->∃u,RelV v u/\Look X.env s.heap m x u
 cell:∀x c,X.env.cells.lookup x=some c->∃v,s.heap.IsCell c v
 free:H X.env.locals=none
 fC:∀x c,X.env.cells.lookup x=some c->H c=none
 pin:∀p∈X.pn++ao,s.heap.get? p.1=some p.2/\H p.1=none/\p.1≠X.env.locals/\p.1∉X.fs/\∀v,p.2.data≠.cell v
 hok:gR X.prog X.w H s.heap
 len:Z.length=X.N.length
section
variable {X:Cx}{ao:List (Addr×Obj)}{Z:List (Option V)}{H H':Hp}{s:Shared}{h':Heap}
theorem Cx.Ok.QT(ok:X.Ok){b:Addr}{o:Obj}(e:X.base.get? b=some o):b∉X.fs:=λhb=>by
 have:=(ok.jy.mem hb).1;rw[e] at this;cases this
theorem Inv.bs(I:Inv X ao Z H s):∀b o,X.base.get? b=some o->s.heap.get? b=some o/\H b=none:=λb o e=>
 ⟨I.base.keep b o (I.ok.bs b o e).1 (I.ok.bs b o e).2 (I.ok.QT e) (I.ok.uq b o e),I.base.free b o (I.ok.bs b o e).1 (I.ok.bs b o e).2 (I.ok.uq b o e)⟩
theorem Inv.bk(I:Inv X ao Z H s):∀b o,X.base.get? b=some o->s.heap.get? b=some o:=λb o e=>(I.bs b o e).1
theorem Inv.mod(I:Inv X ao Z H s):Mod X.K X.mg X.base:=I.ok.mod
theorem Inv.nZ(I:Inv X ao Z H s):X.K.In s.heap:=I.ok.mod.wN.keeps I.bk
theorem Inv.lt(I:Inv X ao Z H s):X.env.locals<s.heap.objs.size:=let ⟨_,hn,_⟩:=I.loc;hn.lt
theorem Inv.sz(I:Inv X ao Z H s):X.s₀.heap.objs.size<=s.heap.objs.size:=jo I.ok.above (yO I.lt)
theorem Inv.QV(I:Inv X ao Z H s){a:Addr}(h:s.heap.objs.size<=a):a∉X.fs:=λhb=>by
 obtain⟨_,o,ho,_⟩:=I.ok.jy.mem hb;exact absurd (iB (cg ho) (jo I.sz h)) (qj _)
theorem Inv.wV(I:Inv X ao Z H s):∀x c,X.env.cells.lookup x=some c->c≠X.env.locals:=λx c e z=>by
 obtain⟨v,o,ho,hd⟩:=I.cell x c e;obtain⟨m,⟨o',es,ep,ur,Bh,_⟩,_⟩:=I.loc;rw[z,ur] at ho;cases ho;rw[Bh] at hd;cases hd
theorem Inv.jy(I:Inv X ao Z H s):s.heap.FunFrames X.base X.outer:=by
 have all:∀(l:List Env),(∀b∈frs l,b∈X.fs)->X.s₀.heap.FunFrames X.base l->s.heap.FunFrames X.base l:=by
  intro l
  induction l with
  |nil=>intro _ _;trivial
  |cons env r ih=>
   intro hs hl;obtain⟨hk,⟨L,o,hf,hn,ho,hd⟩,hr⟩:=hl;have hL:L∈X.fs:=hs L (by unfold frs;rw[DN,hf];exact kJ);obtain⟨sl,e⟩:=I.base.slot L o ho (I.ok.Bg L hL) hL λz=>I.ok.wU L z hL;exact⟨hk,⟨L,_,hf,hn,e,hd⟩,ih (λb hb=>hs b (by unfold frs;rw[DN,hf];exact g_ _ hb)) hr⟩
 exact all X.outer (λ_ hb=>hb) I.ok.jy
theorem Inv.stack(I:Inv X ao Z H s):s.heap.FunFrames X.base X.stack:=by
 rcases I.ok.stk with e|⟨e,hf⟩
 ·rw[e];exact I.jy
 ·rw[e];obtain⟨m,hn,_⟩:=I.loc;refine .cons (by rw[I.ok.kind];decide) hf hn ?_ I.jy;exact Gw (jo I.ok.wR I.ok.above)
theorem Inv.mH(I:Inv X ao Z H s):∀b∈frs X.stack,b∈X.env.locals::X.fs:=λb hb=>by
 rcases I.ok.stk with e|⟨e,hf⟩
 ·rw[e] at hb;exact g_ _ hb
 ·rw[e] at hb;unfold frs at hb;rw[DN,hf] at hb;exact hb
theorem Inv.jF(I:Inv X ao Z H s):∀b∈frs X.stack,H b=none:=λb hb=>by
 rcases gF.mp (I.mH b hb) with e|hb
 ·rw[e];exact I.free
 ·obtain⟨_,o,ho,_⟩:=I.ok.jy.mem hb;exact I.base.free b o ho (I.ok.Bg b hb) λz=>I.ok.wU b z hb
theorem Inv.step{g':Array GenState}{t':Nat}{d':Drawn}{ch:List Addr}(I:Inv X ao Z H s)
  (v7:∀b∈ch,(b∈X.ex\/X.s₀.heap.get? b=none)/\b≠X.env.locals/\(∀x c,X.env.cells.lookup x=some c->c≠b)/\∀p∈X.pn++ao,p.1≠b)
  (keep:∀b o,b≠X.env.locals->b∉X.fs->b∉ch->s.heap.get? b=some o->H b=none->h'.get? b=some o)
  (slot:∀b o,b≠X.env.locals->b∈X.fs->b∉ch->s.heap.get? b=some o->H b=none->∃sl,h'.get? b=some {o with slots:=sl}) (free:∀b o,b∉ch->s.heap.get? b=some o->H b=none->H' b=none)
  (there:∀b o,b∉ch->s.heap.get? b=some o->∃o',h'.get? b=some o')
  (tups:∀b xs,H b=some (.tup xs)->H' b=some (.tup xs)) (jx:∀b o u,H b=some (.uo o u)->H' b=some (.uo o u)) (jR:∀b ps,H b=some (.yR ps)->∃more,H' b=some (.yR (ps++more)))
  (ns:∀m,s.heap.Ns X.env.locals m->h'.Ns X.env.locals m) (hok:gR X.prog X.w H' h') (hg:AllBare g') :
  Inv X ao Z H' {s with heap:=h',gens:=g',drawn:=d',toks:=t'}:=by
 have Yn:∀b o,X.s₀.heap.get? b=some o->b≠X.env.locals:=λb o e=>dX (iB (cg e) I.ok.above);have Mv:∀b o,X.s₀.heap.get? b=some o->b∉X.ex->b∉ch:=λb o e hx hb=>by
  rcases(v7 b hb).1 with z|z
  ·exact hx z
  ·rw[e] at z;cases z
 have cellK:∀x c,X.env.cells.lookup x=some c->∀v,s.heap.IsCell c v->h'.IsCell c v:=λx c e v hx=>wO hx λo ho hd=>by
  have Hr:c∉ch:=λz=>(v7 c z).2.2.1 x c e rfl;by_cases hc:c∈X.fs
  ·obtain⟨sl,q⟩:=slot c o (I.wV x c e) hc Hr ho (I.fC x c e);exact⟨_,q,hd⟩
  ·exact⟨o,keep c o (I.wV x c e) hc Hr ho (I.fC x c e),hd⟩
 refine⟨I.ok,I.os,hg,⟨λb o e n hb hx=>?_,λb o e n hb hx=>?_,λb o e n hx=>?_,λb o e hx=>?_,λb xs e=>tups b xs (I.base.tups b xs e),λb o xs e=>jx b o xs (I.base.jx b o xs e),λb ps e=>?_⟩,?_,λx c e=>?_,?_,λx c e=>?_,λp hp=>?_,hok,I.len⟩
 ·exact keep b o (Yn b o e) hb (Mv b o e hx) (I.base.keep b o e n hb hx) (I.base.free b o e n hx)
 ·obtain⟨sl,e1⟩:=I.base.slot b o e n hb hx;obtain⟨sl',e2⟩:=slot b _ (Yn b o e) hb (Mv b o e hx) e1 (I.base.free b o e n hx);exact⟨sl',e2⟩
 ·obtain⟨o',e1⟩:=I.base.there b o e hx;exact free b o' (Mv b o e hx) e1 (I.base.free b o e n hx)
 ·obtain⟨o',e1⟩:=I.base.there b o e hx;exact there b o' (Mv b o e hx) e1
 ·obtain⟨m1,e1⟩:=I.base.jR b ps e;obtain⟨m2,e2⟩:=jR b _ e1;exact⟨m1++m2,by rw[e2,Array.append_assoc]⟩
 ·obtain⟨m,hn,hl⟩:=I.loc;refine⟨m,ns m hn,λi x v e1 e2 e3=>?_⟩;obtain⟨u,r,l⟩:=hl i x v e1 e2 e3;refine⟨u,r,?_⟩;rcases l with l|⟨k,c,e,z⟩
  ·exact .inl l
  ·exact .inr ⟨k,c,e,cellK x c e _ z⟩
 ·obtain⟨v,z⟩:=I.cell x c e;exact⟨v,cellK x c e v z⟩
 ·obtain⟨m,⟨o,_,_,ho,_⟩,_⟩:=I.loc;exact free _ o (λz=>(v7 _ z).2.1 rfl) ho I.free
 ·obtain⟨v,o,ho,hd⟩:=I.cell x c e;exact free c o (λz=>(v7 c z).2.2.1 x c e rfl) ho (I.fC x c e)
 ·obtain⟨e,n,ne,nf,d⟩:=I.pin p hp;have Hr:p.1∉ch:=λz=>(v7 p.1 z).2.2.2 p hp rfl;exact⟨keep p.1 p.2 ne nf Hr e n,free p.1 p.2 Hr e n,ne,nf,d⟩
theorem Inv.un{t':Nat}(I:Inv X ao Z H s)(u:Un X.fs [] H H' s.heap h')(hok:gR X.prog X.w H' h'):Inv X ao Z H' {s with heap:=h',toks:=t'}:=by
 obtain⟨m,⟨o,es,ep,ho,r⟩,_⟩:=id I.loc;obtain⟨sl,hL⟩:=u.any ho I.free Zaa;exact I.step (g':=s.gens) (d':=s.drawn) (ch:=[]) (λ_ z=>nomatch z) (λb o _ hb _ e n=>u.keep b o e n hb Zaa) (λb o _ hb _ e n=>u.slot b o e n hb Zaa) (λb o _ e n=>u.free b o e n Zaa) (λb o _ e=>u.there b o e Zaa) u.tups u.jx u.jR (λm' hm=>by
  obtain⟨o',es',ep',ur,r'⟩:=hm;rw[ho] at ur;cases ur;exact⟨_,es',ep',hL,r'⟩) hok I.bare
theorem Inv.call{g':Array GenState}{t':Nat}{d':Drawn}{ch:List Addr}(I:Inv X ao Z H s)(u:Un (frs X.stack) ch H H' s.heap h')(hok:gR X.prog X.w H' h')(hg:AllBare g')
  (v7:∀b∈ch,(b∈X.ex\/X.s₀.heap.get? b=none)/\b≠X.env.locals/\(∀x c,X.env.cells.lookup x=some c->c≠b)/\∀p∈X.pn++ao,p.1≠b) :
  Inv X ao Z H' {s with heap:=h',gens:=g',drawn:=d',toks:=t'}:=by
 obtain⟨m,⟨o,es,ep,ho,r⟩,_⟩:=id I.loc;obtain⟨sl,hL⟩:=u.any ho I.free λz=>(v7 _ z).2.1 rfl;exact I.step (ch:=ch) v7 (λb o hL hb hc e n=>u.keep b o e n (λz=>(gF.mp (I.mH b z)).elim hL hb) hc) (λb o _ _ hc e n=>u.any e n hc) (λb o hc e n=>u.free b o e n hc) (λb o hc e=>u.there b o e hc) u.tups u.jx u.jR (λm' hm=>by
  obtain⟨o',es',ep',ur,r'⟩:=hm;rw[ho] at ur;cases ur;exact⟨_,es',ep',hL,r'⟩) hok hg
theorem Inv.turned{t':Nat}{it:Addr}(I:Inv X ao Z H s)(k:∀b o,b≠it->s.heap.get? b=some o->h'.get? b=some o)(hn:H it=none)(hL:it≠X.env.locals)
  (h1:it∈X.ex\/X.s₀.heap.objs.size<=it) (h2:∀x c,X.env.cells.lookup x=some c->c≠it) (h3:∀p∈X.pn++ao,p.1≠it):Inv X ao Z H {s with heap:=h',toks:=t'}:=by
 have yS:∀b u,H b=some u->b≠it:=λb u e z=>by rw[z,hn] at e;cases e
 refine I.step (g':=s.gens) (d':=s.drawn) (ch:=[it]) (λb hb=>?_) (λb o _ _ hc e _=>k b o (λz=>hc (by simp[z])) e) (λb o _ _ hc e _=>⟨o.slots,k b o (λz=>hc (by simp[z])) e⟩) (λ_ _ _ _ n=>n)
  (λb o hc e=>⟨o,k b o (λz=>hc (by simp[z])) e⟩) (λ_ _ e=>e) (λ_ _ _ e=>e) (λb ps e=>⟨#[],by rw[e];simp⟩) (λm hm=>?_) (λb u e=>?_) I.bare
 ·have e:b=it:=by simpa using hb
  subst e;exact⟨h1.imp id λz=>Gw z,hL,h2,h3⟩
 ·obtain⟨o,es,ep,ho,r⟩:=hm;exact⟨o,es,ep,k _ o (Ne.symm hL) ho,r⟩
 ·refine(I.hok b u e).stay (λc v hc q=>k c v ?_ q) (λ_ q=>q) λ_ _ q=>q;rcases hc with z|z
  ·rw[z];exact yS b u e
  ·exact yS c _ z
theorem Inv.tok(I:Inv X ao Z H s)(t:Nat):Inv X ao Z H {s with toks:=t}:=I.un (h':=s.heap) (t':=t) Un.refl I.hok
theorem Inv.kept{t':Nat}(I:Inv X ao Z H s)(k:∀b u,s.heap.get? b=some u->h'.get? b=some u):Inv X ao Z H {s with heap:=h',toks:=t'}:=I.un (Un.kept k) (I.hok.kept k)
theorem Inv.laid{a:Addr}{o:HO}{t':Nat}(I:Inv X ao Z H s)(k:∀b u,s.heap.get? b=some u->h'.get? b=some u)(hp:s.heap.objs.size<=a)(new:aP X.prog X.w (upd H a o) h' a o) :
  Inv X ao Z (upd H a o) {s with heap:=h',toks:=t'}:=I.un (Un.laid k hp (I.hok.fresh hp)) (I.hok.laid k hp new)
theorem Inv.write{x e:Addr}{o:HO}{t':Nat}(I:Inv X ao Z H s)(mu:Ho (H x))(he:e=x\/H e=some (.own x))(k:∀b u,b≠e->s.heap.get? b=some u->h'.get? b=some u)(E_:∃u,h'.get? e=some u)
  (new:aP X.prog X.w (upd H x o) h' x o):Inv X ao Z (upd H x o) {s with heap:=h',toks:=t'}:=I.un (Un.write mu he k E_) (I.hok.write mu he k E_ new)
theorem Inv.mJ{iC:List (Addr×Obj)}(I:Inv X ao Z H s)(h:∀p∈iC,s.heap.get? p.1=some p.2/\H p.1=none/\p.1≠X.env.locals/\p.1∉X.fs/\∀v,p.2.data≠.cell v):Inv X iC Z H s:=
 ⟨I.ok,I.os,I.bare,I.base,I.loc,I.cell,I.free,I.fC,λp hp=>(kO.mp hp).elim (λz=>I.pin p (Gx _ z)) (h p),I.hok,I.len⟩
theorem QW{N:List Str}(hN:N.Nodup){i j:Nat}{x:Str}(a:N[i]?=some x)(b:N[j]?=some x):i=j:=by
 obtain⟨h1,e1⟩:=eY.mp a;obtain⟨h2,e2⟩:=eY.mp b;exact(List.getElem_inj hN).mp (e1.trans e2.symm)
theorem Yo{M:Model}{A:Around}{E:Value->Shared->Prop}{i:Nat}{x:Str}{v:V}{u:Value}{Q:Unit->Shared->Prop}(I:Inv X ao Z H s)(hN:X.N.Nodup)(hi:X.N[i]?=some x)(hx:Loc X.env.scope x)(r:RelV v u)
  (h:∀s',Inv X ao (Z.set i (some v)) H s'->(∃a,Heap.SameBut a s.heap s'.heap/\(a=X.env.locals\/X.env.cells.lookup x=some a))->Q () s') (hf:X.fn x=true\/X.env.scope.names.lookup x=some .local:=by first|exact .inl rfl|exact .inr rfl|assumption):wpAny M A (storeName X.env x u) Q E s:=by
 obtain⟨m,hn,hl⟩:=id I.loc;have Bj:(X.env.scope.kind==.class||(X.env.scope.kind==.module&&X.env.locals != X.env.globals))=false:=by rw[I.ok.kind];rfl
 have Yp:i<Z.length:=by rw[I.len];exact(eY.mp hi).1
 have wV:=I.wV;have tracked:∀{a:Addr} {h':Heap},(∃o,s.heap.get? a=some o/\H a=none)->Heap.SameBut a s.heap h'->gR X.prog X.w H h':=λ{a h'} ha hs b ob e=>by
  obtain⟨_,_,qu⟩:=ha;refine(I.hok b ob e).stay (λc w' hc q=>(hs.2 c ?_).trans q) (λ_ q=>q) λ_ _ q=>q;rintro rfl;rcases hc with rfl|hc
  ·rw[qu] at e;cases e
  ·rw[qu] at hc;cases hc
 rcases hx with hk|hk
 ·refine wpAny_storeName_local hk hn (λh' QX hs=>?_) Bj;obtain⟨oL,_,_,Mw,_⟩:=id hn;refine h _ ⟨I.ok,I.os,I.bare,⟨λb o e n hb hx=>?_,λb o e n hb hx=>?_,I.base.free,λb o e hx=>?_,I.base.tups,I.base.jx,I.base.jR⟩,⟨_,QX,λj y v' e1 e2 e3=>?_⟩,λy c e=>?_,I.free,I.fC,λp hp=>?_,tracked ⟨oL,Mw,I.free⟩ hs,by simpa using I.len⟩ ⟨_,hs,.inl rfl⟩
  ·exact(hs.2 b (dX (iB (cg e) I.ok.above))).trans (I.base.keep b o e n hb hx)
  ·obtain⟨sl,e1⟩:=I.base.slot b o e n hb hx;exact⟨sl,(hs.2 b (dX (iB (cg e) I.ok.above))).trans e1⟩
  ·obtain⟨o',e1⟩:=I.base.there b o e hx;exact⟨o',(hs.2 b (dX (iB (cg e) I.ok.above))).trans e1⟩
  ·by_cases hj:j=i
   ·subst hj;rw[hi] at e1;cases e1;rw[vM Yp] at e2;cases e2;exact⟨u,r,.inl ⟨hk,by simp⟩⟩
   ·rw[o_ (Ne.symm hj)] at e2;obtain⟨u',r',q⟩:=hl j y v' e1 e2 e3;refine⟨u',r',?_⟩;rcases q with ⟨k,e⟩|⟨k,c,e,z⟩
    ·refine .inl ⟨k,?_⟩;have:y≠x:=λe=>hj (QW hN e1 (e▸hi));simp[this,e]
    ·exact .inr ⟨k,c,e,z.sameBut hs (wV y c e)⟩
  ·obtain⟨w',z⟩:=I.cell y c e;exact⟨w',z.sameBut hs (wV y c e)⟩
  ·obtain⟨e,n,ne,nf,d⟩:=I.pin p hp;exact⟨(hs.2 p.1 ne).trans e,n,ne,nf,d⟩
 ·have QZ:X.fn x=true:=by
   rcases hf with z|z
   ·exact z
   ·rw[z] at hk;cases hk
  obtain⟨c,hc⟩:=I.ok.has x (.inl hk);obtain⟨w',z⟩:=I.cell x c hc;refine wpAny_storeName_cell I.ok.kind hk hc z (λh' kZ hs=>?_);obtain⟨oc,Yq,Q0⟩:=id z;refine h {s with heap:=h'} ⟨I.ok,I.os,I.bare,⟨λb o e n hb hx=>?_,λb o e n hb hx=>?_,I.base.free,λb o e hx=>?_,I.base.tups,I.base.jx,I.base.jR⟩,⟨m,hn.sameBut hs (Ne.symm (wV x c hc)),λj y v' e1 e2 e3=>?_⟩,λy c' e=>?_,I.free,I.fC,λp hp=>?_,tracked ⟨oc,Yq,I.fC x c hc⟩ hs,by simpa using I.len⟩ ⟨c,hs,.inr hc⟩
  ·exact(hs.2 b (dX (iB (cg e) (I.ok.cab x c QZ hc)))).trans (I.base.keep b o e n hb hx)
  ·obtain⟨sl,e1⟩:=I.base.slot b o e n hb hx;exact⟨sl,(hs.2 b (dX (iB (cg e) (I.ok.cab x c QZ hc)))).trans e1⟩
  ·obtain⟨o',e1⟩:=I.base.there b o e hx;exact⟨o',(hs.2 b (dX (iB (cg e) (I.ok.cab x c QZ hc)))).trans e1⟩
  ·by_cases hj:j=i
   ·subst hj;rw[hi] at e1;cases e1;rw[vM Yp] at e2;cases e2;exact⟨u,r,.inr ⟨.inl hk,c,hc,kZ⟩⟩
   ·rw[o_ (Ne.symm hj)] at e2;obtain⟨u',r',q⟩:=hl j y v' e1 e2 e3;refine⟨u',r',?_⟩;rcases q with q|⟨k,c',e,z'⟩
    ·exact .inl q
    ·refine .inr ⟨k,c',e,z'.sameBut hs ?_⟩;rintro rfl;exact hj (QW hN e1 (I.ok.inj _ _ _ e hc▸hi))
  ·by_cases Yr:c'=c
   ·subst Yr;exact⟨_,kZ⟩
   ·obtain⟨w2,z2⟩:=I.cell y c' e;exact⟨w2,z2.sameBut hs Yr⟩
  ·obtain⟨e,n,ne,nf,d⟩:=I.pin p hp;refine⟨(hs.2 p.1 ?_).trans e,n,ne,nf,d⟩;intro q;rw[q,Yq] at e;have q':oc=p.2:=dz e;exact d w' (by rw[<-q'];exact Q0)
theorem Q5{M:Model}{A:Around}{E:Value->Shared->Prop}{i:Nat}{x:Str}{v:V}{u:Value}{Q:Unit->Shared->Prop}(I:Inv X ao Z H s)(hN:X.N.Nodup)(hi:X.N[i]?=some x)(hx:Loc X.env.scope x)(r:RelV v u)
  (h:∀s',Inv X ao (Z.set i (some v)) H s'->Q () s') (hf:X.fn x=true\/X.env.scope.names.lookup x=some .local:=by first|exact .inl rfl|exact .inr rfl|assumption):wpAny M A (storeName X.env x u) Q E s:=
 Yo I hN hi hx r (λs' I' _=>h s' I') hf
theorem Inv.call'{s':Shared}{ch:List Addr}(I:Inv X ao Z H s)(ho:s'.os=s.os)(u:Un (frs X.stack) ch H H' s.heap s'.heap)(hok:gR X.prog X.w H' s'.heap)(hg:AllBare s'.gens)
  (v7:∀b∈ch,(b∈X.ex\/X.s₀.heap.get? b=none)/\b≠X.env.locals/\(∀x c,X.env.cells.lookup x=some c->c≠b)/\∀p∈X.pn++ao,p.1≠b):Inv X ao Z H' s':=by
 obtain⟨h',g',d',t',o'⟩:=s';have e:o'=s.os:=ho;subst e;exact I.call (g':=g') (t':=t') (d':=d') u hok hg v7
end
noncomputable abbrev XK:=Value->Option Addr->Hp->Prop
noncomputable abbrev St:=List (Option V)
noncomputable abbrev VK:=V->Hp->Prop
noncomputable abbrev TE:=St->Hp->VK->Prop
noncomputable abbrev TT:=St->Hp->(Bool->Hp->Prop)->Prop
noncomputable abbrev TA:=St->Hp->(List V->Hp->Prop)->Prop
structure Ends where
 nx:St->Hp->Prop
 rt:VK
 bk:St->Hp->Prop:=λ_ _=>False
 ct:St->Hp->Prop:=λ_ _=>False
noncomputable abbrev TS:=Ends->St->Hp->Prop
def EP(X:Cx)(ao:List (Addr×Obj))(Z:St)(Q:VK)(u:Value)(s':Shared):Prop:=∃v H',Inv X ao Z H' s'/\RelV v u/\Q v H'
def TP(X:Cx)(ao:List (Addr×Obj))(Z:St)(Q:Bool->Hp->Prop)(b:Bool)(s':Shared):Prop:=∃H',Inv X ao Z H' s'/\Q b H'
def AP(X:Cx)(ao:List (Addr×Obj))(Z:St)(Q:List V->Hp->Prop)(us:List Value)(s':Shared):Prop:=∃vs H',Inv X ao Z H' s'/\Vals vs us/\Q vs H'
def SP(X:Cx)(ao:List (Addr×Obj))(D:Ends)(f:Flow)(s':Shared):Prop:=
 match f with
 |.next=>∃Z' H',Inv X ao Z' H' s'/\D.nx Z' H'
 |.brk=>∃Z' H',Inv X ao Z' H' s'/\D.bk Z' H'
 |.cont=>∃Z' H',Inv X ao Z' H' s'/\D.ct Z' H'
 |.ret u=>∃v Z' H',Inv X ao Z' H' s'/\RelV v u/\D.rt v H'
def PE(X:Cx)(e:Expr)(t:TE):Prop:=
 ∀(ao:List (Addr×Obj)) (s:Shared) (Z:St) (H:Hp) (Q:VK),Inv X ao Z H s->t Z H Q->wpAny (model X.prog X.w) X.A (eval e X.env) (EP X ao Z Q) X.xe s
def PT(X:Cx)(e:Expr)(t:TT):Prop:=
 ∀(ao:List (Addr×Obj)) (s:Shared) (Z:St) (H:Hp) (Q:Bool->Hp->Prop),Inv X ao Z H s->t Z H Q->wpAny (model X.prog X.w) X.A (isTrue e X.env (eval e X.env)) (TP X ao Z Q) X.xe s
def PW(X:Cx)(e:Expr)(t:TT):Prop:=
 ∀(whole:Sem Value) (ao:List (Addr×Obj)) (s:Shared) (Z:St) (H:Hp) (Q:Bool->Hp->Prop),Inv X ao Z H s->t Z H Q->wpAny (model X.prog X.w) X.A (isTrue e X.env whole) (TP X ao Z Q) X.xe s
theorem Kad{X:Cx}{e:Expr}{t:TT}(h:PW X e t):PT X e t:=h _
def PA(X:Cx)(es:List Expr)(t:TA):Prop:=
 ∀(pos:Pos) (ao:List (Addr×Obj)) (s:Shared) (Z:St) (H:Hp) (Q:List V->Hp->Prop),Inv X ao Z H s->t Z H Q->wpAny (model X.prog X.w) X.A (spliced (backTo pos (starEach es X.env))) (AP X ao Z Q) X.xe s
def PS(X:Cx)(st:Stmt)(t:TS):Prop:=
 ∀(ao:List (Addr×Obj)) (s:Shared) (Z:St) (H:Hp) (D:Ends),Inv X ao Z H s->t D Z H->wpAny (model X.prog X.w) X.A (exec st X.env) (SP X ao D) X.xe s
def oX(X:Cx)(st:List Stmt)(t:TS):Prop:=
 ∀(ao:List (Addr×Obj)) (s:Shared) (Z:St) (H:Hp) (D:Ends),Inv X ao Z H s->t D Z H->wpAny (model X.prog X.w) X.A (execs st X.env) (SP X ao D) X.xe s
theorem bA{α:Type}{t:Sem α}{Q Q':α->Shared->Prop}{M:Model}{A:Around}{E:Value->Shared->Prop}{s:Shared}(h:wpAny M A t Q E s)(hQ:∀a s,Q a s->Q' a s):wpAny M A t Q' E s:=lH h hQ λ_ _ x=>x
section
variable {X:Cx}
noncomputable def Q6(i:Nat):TE:=λZ H Q=>∃v,Z[i]?=some (some v)/\Q v H
noncomputable def tC(v:V):TE:=λ_ H Q=>Q v H
theorem Ys{i:Nat}{x:Str}{pos:Pos}(hN:X.N[i]?=some x)(hv:QS X.env.scope x)(hd:(x==("__debug__" : Str))=false:=by decide)(kW:(x==("__classdict__" : Str))=false:=by decide):PE X (.Name x pos) (Q6 i):=by
 intro ao s Z H Q I h;obtain⟨v,e,h⟩:=h;obtain⟨m,hn,hl⟩:=I.loc;obtain⟨u,r,l⟩:=hl i x v hN e hv;have fin:EP X ao Z Q u s:=⟨v,H,I,r,h⟩;rcases l with ⟨hk,hm⟩|⟨hk,c,hc,yU⟩
 ·exact wpAny_Name (wpAny_loadName_local I.ok.kind hk hn hm fin) hd
 ·rcases hk with hk|hk
  ·exact wpAny_Name (wpAny_loadName_cell I.ok.kind hk hc yU fin) hd
  ·exact wpAny_Name (wpAny_loadName_free I.ok.kind hk hc yU fin kW) hd
theorem Yt{i j pos}:PE X (.Constant (.int i) j pos) (tC (.int i)):=λ_ _ _ H _ I h=>wpAny_Constant_int ⟨.int i,H,I.tok _,⟨_,rfl⟩,h⟩
theorem zpe{b j pos}:PE X (.Constant (.bool b) j pos) (tC (.bl b)):=λ_ _ _ H _ I h=>Constant_bool ⟨.bl b,H,I,rfl,h⟩
theorem zof{j pos}:PE X (.Constant .none j pos) (tC .non):=λ_ _ _ H _ I h=>Constant_none ⟨.non,H,I,rfl,h⟩
theorem Yu{x j pos}:PE X (.Constant (.str x) j pos) (tC (.str x)):=λ_ _ _ H _ I h=>Calls.Constant_str ⟨.str x,H,I.tok _,⟨_,rfl⟩,h⟩
def Gl(X:Cx)(x:Str):Prop:=X.env.kindOf x=some .globalImplicit
theorem Hs{E:Value->Shared->Prop}{ao:List (Addr×Obj)}{s:Shared}{Z:St}{H:Hp}{x:Str}{u:Value}{pos:Pos}{Q:Value->Shared->Prop}(I:Inv X ao Z H s)(hg:Gl X x)(hm:X.mg x=some u)(h:Q u s)
  (hd:(x==("__debug__" : Str))=false:=by decide):wpAny (model X.prog X.w) X.A (eval (.Name x pos) X.env) Q E s:=
 Calls.Name_function_global I.ok.kind hg (Calls.loadGlobal_global (by rw[I.ok.glob];exact I.mod.glob.keeps I.bk) hm h) hd
theorem qZ{E:Value->Shared->Prop}{ao:List (Addr×Obj)}{s:Shared}{Z:St}{H:Hp}{x:Str}{u:Value}{pos:Pos}{Q:Value->Shared->Prop}(I:Inv X ao Z H s)(hg:Gl X x)(hm:X.mg x=none)(hv:bootBuiltins x=some u)(h:Q u s)
  (hn:x≠"__name__":=by decide) (hd:(x==("__debug__" : Str))=false:=by decide):wpAny (model X.prog X.w) X.A (eval (.Name x pos) X.env) Q E s:=by
 obtain⟨mb,h1,h2⟩:=I.mod.blt;exact Calls.Name_function_global I.ok.kind hg (Calls.loadGlobal_builtin (by rw[I.ok.glob];exact I.mod.glob.keeps I.bk) hm (by rw[I.ok.blt];exact h1.keeps I.bk) ((h2 x hn).trans hv) h) hd
theorem Yv{x:Str}{v:V}{u:Value}{pos:Pos}(hg:Gl X x)(hm:X.mg x=some u)(r:RelV v u)(hd:(x==("__debug__" : Str))=false:=by decide):PE X (.Name x pos) (tC v):=
 λ_ _ _ H _ I h=>Hs I hg hm ⟨v,H,I,r,h⟩ hd
variable {a b:Expr}{ta tb:TE}{pos:Pos}
def PC(X:Cx)(op:CmpOp)(a b:Expr)(t:TE):Prop:=
 ∀(ao:List (Addr×Obj)) (s:Shared) (Z:St) (H:Hp) (Q:VK),Inv X ao Z H s->t Z H Q->
  wpAny (model X.prog X.w) X.A (eval a X.env) (λv s₁=>wpAny (model X.prog X.w) X.A (eval b X.env) (λu s₂=>wpAny (model X.prog X.w) X.A (compareOp op v u) (EP X ao Z Q) X.xe s₂) X.xe s₁) X.xe s
theorem n6(b:Expr){op:CmpOp}(h:op≠.In)(h2:op≠.NotIn):behindInMarks op b=false:=by
 have e1:(op==CmpOp.In)=false:=by cases op<;>first|rfl|exact absurd rfl h
 have e2:(op==CmpOp.NotIn)=false:=by cases op<;>first|rfl|exact absurd rfl h2
 cases b<;>simp[behindInMarks,e1,e2]
noncomputable def Q7(ta:TE):TE:=λZ H Q=>ta Z H λx H1=>Q (.bl (decide (x=.non))) H1
noncomputable def Ht(ta:TE):TE:=λZ H Q=>ta Z H λx H1=>Q (.bl (!decide (x=.non))) H1
theorem RelV.n8{x:V}{v:Value}(r:RelV x v):(v==Value.none)=decide (x=.non):=by
 cases x with
 |non=>cases r;rfl
 |bl _=>cases r;rfl
 |int _=>obtain⟨t,rfl⟩:=r;rfl
 |str _=>obtain⟨t,rfl⟩:=r;rfl
 |Bc _=>obtain⟨t,rfl⟩:=r;rfl
 |flt _=>obtain⟨t,rfl⟩:=r;rfl
 |ref _=>cases r;rfl
 |ty _=>cases r;rfl
theorem Yw{j pos'}(ha:PE X a ta):PC X .Is a (.Constant .none j pos') (Q7 ta):=by
 intro ao s Z H Q I h;refine bA (ha ao s Z H _ I h) λv s1 hx=>dY hx λx H1 I1 r1 q1=>?_;exact Constant_none (is_none_gen ⟨.bl _,H1,I1,by rw[r1.n8];rfl,q1⟩)
theorem Yx{j pos'}(ha:PE X a ta):PC X .IsNot a (.Constant .none j pos') (Ht ta):=by
 intro ao s Z H Q I h;refine bA (ha ao s Z H _ I h) λv s1 hx=>dY hx λx H1 I1 r1 q1=>?_;exact Constant_none (isnot_none_gen ⟨.bl _,H1,I1,by rw[r1.n8];rfl,q1⟩)
noncomputable def tB(t:TE):TT:=λZ H Q=>t Z H λx H1=>∃c,x=.bl c/\Q c H1
theorem Yy{op:CmpOp}{t:TE}(h:PC X op a b t)(h1:behindInMarks op b=false:=by first|exact n6 _ Vu Vu|rfl):PE X (.Compare a [op] [b] pos) t:=λao s Z H Q I hw=>wpAny_Compare1 (h ao s Z H Q I hw) h1
theorem Q8{op:CmpOp}{t:TE}(h:PC X op a b t)(h1:behindInMarks op b=false:=by first|exact n6 _ Vu Vu|rfl):PT X (.Compare a [op] [b] pos) (tB t):=by
 intro ao s Z H Q I hw;refine wpAny_isTrue_Compare1 (bA (h ao s Z H _ I hw) λv s1 h1=>bA h1 λu s2 h2=>bA h2 λc s3 hx=>dY hx λx H1 I1 r1 q1=>?_) h1;obtain⟨d,rfl,q⟩:=q1;cases r1;exact vP ⟨H1,I1,q⟩
theorem zlS{e:Expr}{t:TE}(h:PE X e t)(he:∀whole,isTrue e X.env whole=(do let v <-whole;standAt e.pos;holding [v] (truthy v)):=by intro _;rfl):PT X e (tB t):=by
 intro ao s Z H Q I hw;refine isTrue_plain (bA (h ao s Z H _ I hw) λv s1 hx=>dY hx λx H1 I1 r1 q1=>?_) (he _);obtain⟨d,rfl,q⟩:=q1;cases r1;exact vP ⟨H1,I1,q⟩
variable {tA Mx:TT}{rest:List Expr}
noncomputable def Q9(t u:TT):TT:=λZ H Q=>t Z H λc H1=>if c=true then u Z H1 Q else Q false H1
noncomputable def tOr(t u:TT):TT:=λZ H Q=>t Z H λc H1=>if c=true then Q true H1 else u Z H1 Q
noncomputable def Q_(t:TT):TT:=λZ H Q=>t Z H λc H1=>Q (!c) H1
theorem zj3(ha:PT X a tA):PW X (.BoolOp .And [a] pos) tA:=by
 intro wh ao s Z H Q I h;refine isTrue_and (bA (ha ao s Z H Q I h) λc s1 e=>?_);cases c with
 |true=>exact isTrue_and_nil e
 |false=>exact e
theorem zm9(ha:PT X a tA):PW X (.BoolOp .Or [a] pos) tA:=by
 intro wh ao s Z H Q I h;refine isTrue_or (bA (ha ao s Z H Q I h) λc s1 e=>?_);cases c with
 |false=>exact isTrue_or_nil e
 |true=>exact e
theorem zmZ(ha:PT X a tA)(hb:PW X (.BoolOp .And (b::rest) pos) Mx):PW X (.BoolOp .And (a::b::rest) pos) (Q9 tA Mx):=by
 intro wh ao s Z H Q I h;refine isTrue_and (bA (ha ao s Z H _ I h) λc s1 hx=>wO hx λH1 I1 q1=>?_);cases c with
 |true=>exact hb wh ao s1 Z H1 Q I1 q1
 |false=>exact⟨H1,I1,q1⟩
theorem zo7(ha:PT X a tA)(hb:PW X (.BoolOp .Or (b::rest) pos) Mx):PW X (.BoolOp .Or (a::b::rest) pos) (tOr tA Mx):=by
 intro wh ao s Z H Q I h;refine isTrue_or (bA (ha ao s Z H _ I h) λc s1 hx=>wO hx λH1 I1 q1=>?_);cases c with
 |true=>exact⟨H1,I1,q1⟩
 |false=>exact hb wh ao s1 Z H1 Q I1 q1
theorem zn7(ha:PT X a tA):PT X (.UnaryOp .Not a pos) (Q_ tA):=by
 intro ao s Z H Q I h;exact isTrue_not (ha ao s Z H (λc H1=>Q (!c) H1) I h)
noncomputable def Hu(ta tb:TE):TE:=λZ H Q=>ta Z H λx H1=>∃c,x=.bl c/\if c=true then tb Z H1 Q else Q (.bl false) H1
noncomputable def Ra(ta tb:TE):TE:=λZ H Q=>ta Z H λx H1=>∃c,x=.bl c/\if c=true then Q (.bl true) H1 else tb Z H1 Q
noncomputable def Hv(ta:TE):TE:=λZ H Q=>ta Z H λx H1=>∃c,x=.bl c/\Q (.bl (!c)) H1
theorem zmv{op}{t:TE}(h:PE X a t):PE X (.BoolOp op [a] pos) t:=λao s Z H Q I hw=>BoolOp_one (h ao s Z H Q I hw)
theorem znI(ha:PE X a ta)(hb:PE X (.BoolOp .And (b::rest) pos) tb):PE X (.BoolOp .And (a::b::rest) pos) (Hu ta tb):=by
 intro ao s Z H Q I h;refine BoolOp_and (bA (ha ao s Z H _ I h) λv s1 hx=>dY hx λx H1 I1 r1 q1=>?_);obtain⟨c,rfl,q1⟩:=q1;cases r1;refine vP ?_;cases c with
 |true=>exact hb ao s1 Z H1 Q I1 q1
 |false=>exact⟨.bl false,H1,I1,rfl,q1⟩
theorem zpf(ha:PE X a ta)(hb:PE X (.BoolOp .Or (b::rest) pos) tb):PE X (.BoolOp .Or (a::b::rest) pos) (Ra ta tb):=by
 intro ao s Z H Q I h;refine BoolOp_or (bA (ha ao s Z H _ I h) λv s1 hx=>dY hx λx H1 I1 r1 q1=>?_);obtain⟨c,rfl,q1⟩:=q1;cases r1;refine vP ?_;cases c with
 |false=>exact hb ao s1 Z H1 Q I1 q1
 |true=>exact⟨.bl true,H1,I1,rfl,q1⟩
theorem zlK(ha:PE X a ta):PE X (.UnaryOp .Not a pos) (Hv ta):=by
 intro ao s Z H Q I h;refine UnaryOp_ (bA (ha ao s Z H _ I h) λv s1 hx=>dY hx λx H1 I1 r1 q1=>?_);obtain⟨c,rfl,q1⟩:=q1;cases r1;exact not_of (vP ⟨.bl (!c),H1,I1,rfl,q1⟩)
noncomputable def tIf(t:TT)(ta tb:TE):TE:=λZ H Q=>t Z H λc H1=>if c=true then ta Z H1 Q else tb Z H1 Q
theorem ziz{c:Expr}(hc:PT X c tA)(ha:PE X a ta)(hb:PE X b tb):PE X (.IfExp c a b pos) (tIf tA ta tb):=by
 intro ao s Z H Q I h;refine wpAny_IfExp (bA (hc ao s Z H _ I h) λd s1 hx=>wO hx λH1 I1 q1=>?_);cases d with
 |true=>exact ha ao s1 Z H1 Q I1 q1
 |false=>exact hb ao s1 Z H1 Q I1 q1
end
def cQ(K:W.Frag)(H:Hp)(a:Addr)(xs:List V):Prop:=
 Rd H a (.lst xs) \/
  ∃(o:Obj) (its:Array Value) (n:Nat),K.lookup a=some o/\o.cls=.type "list"/\o.dict=none/\o.data=.seq its n/\its.size<=sizeLine/\Vals xs its.toList
def fU(K:W.Frag)(H:Hp)(a:Addr)(xs:List V):Prop:=
 Rd H a (.tup xs) \/
  ∃(o:Obj) (its:Array Value) (n:Nat),K.lookup a=some o/\o.cls=.type "tuple"/\o.dict=none/\o.data=.seq its n/\its.size<=sizeLine/\Vals xs its.toList
noncomputable def Rb:Value->Option V
 |.none=>some .non
 |.bool b=>some (.bl b)
 |.int i _=>some (.int i)
 |.str x _=>some (.str x)
 |.bytes b _=>some (.Bc b)
 |.float b _=>some (.flt b)
 |.ref a=>some (.ref a)
 |.type n=>some (.ty n)
 |_=>none
theorem RelV.abs{x:V}{u:Value}(r:RelV x u):Rb u=some x:=by
 cases x with
 |non=>cases r;rfl
 |bl _=>cases r;rfl
 |int _=>obtain⟨t,rfl⟩:=r;rfl
 |str _=>obtain⟨t,rfl⟩:=r;rfl
 |Bc _=>obtain⟨t,rfl⟩:=r;rfl
 |flt _=>obtain⟨t,rfl⟩:=r;rfl
 |ref _=>cases r;rfl
 |ty _=>cases r;rfl
theorem RelV.inj{x y:V}{u:Value}(r:RelV x u)(q:RelV y u):x=y:=dz (r.abs.symm.trans q.abs)
theorem Vals.inj{xs ys:List V}{us:List Value}(h:Vals xs us)(h':Vals ys us):xs=ys:=by
 induction h generalizing ys with
 |nil=>cases h';rfl
 |cons r _ ih=>
  cases h' with
  |cons r' t'=>rw[r.inj r',ih t']
section
variable {X:Cx}{ao:List (Addr×Obj)}{Z:St}{H:Hp}{s:Shared}{a:Addr}{xs ys:List V}
theorem cQ.of{K:W.Frag}(h:H a=some (.lst xs)):cQ K H a xs:=.inl (.inl h)
theorem Inv.list(I:Inv X ao Z H s)(h:cQ X.K H a xs):∃its:List Value,Vals xs its/\PlainL s.heap a its.toArray/\xs.length<=sizeLine:=by
 rcases h with h|⟨o,its,n,hk,hc,hd,hs,hz,r⟩
 ·obtain⟨z,its,n,r,e⟩:=h.ok I.hok;exact⟨its,r,⟨_,n,e,rfl,rfl,rfl⟩,z⟩
 ·refine⟨its.toList,r,⟨o,n,I.nZ a o hk,hc,hd,by simpa using hs⟩,?_⟩;have e:=r.length;simp only[vO] at e
  lia
theorem Inv.tuple(I:Inv X ao Z H s)(h:fU X.K H a xs):∃its:List Value,Vals xs its/\IsTup s.heap a its.toArray/\xs.length<=sizeLine:=by
 rcases h with h|⟨o,its,n,hk,hc,_,hs,hz,r⟩
 ·obtain⟨z,its,r,p⟩:=h.ok I.hok;exact⟨its,r,p.tup,z⟩
 ·refine⟨its.toList,r,⟨o,I.nZ a o hk,hc,n,by simpa using hs⟩,?_⟩;have e:=r.length;simp only[vO] at e
  lia
theorem Inv.Rf(I:Inv X ao Z H s)(h:fU X.K H a xs):∃o,s.heap.get? a=some o/\o.cls=.type "tuple"/\o.dict=none:=by
 rcases h with h|⟨o,its,n,hk,hc,hd,_⟩
 ·obtain⟨_,_,_,o,h1,h2,_,_,h3⟩:=h.ok I.hok;exact⟨o,h1,h2,h3⟩
 ·exact⟨o,I.nZ a o hk,hc,hd⟩
theorem Inv.n_(I:Inv X ao Z H s)(h:cQ X.K H a xs)(h':cQ X.K H a ys):xs=ys:=by
 obtain⟨its,r,⟨o,n,e,_,_,d⟩,_⟩:=I.list h;obtain⟨its',r',⟨o',n',e',_,_,d'⟩,_⟩:=I.list h';rw[e] at e';cases e';rw[d] at d';injection d' with d1 _;have:its=its':=by simpa using mj Array.toList d1
 subst this;exact r.inj r'
theorem Inv.lM(I:Inv X ao Z H s)(h:fU X.K H a xs)(h':fU X.K H a ys):xs=ys:=by
 obtain⟨its,r,⟨o,e,_,n,d⟩,_⟩:=I.tuple h;obtain⟨its',r',⟨o',e',_,n',d'⟩,_⟩:=I.tuple h';rw[e] at e';cases e';rw[d] at d';injection d' with d1 _;have:its=its':=by simpa using mj Array.toList d1
 subst this;exact r.inj r'
end
section
variable {X:Cx}{st:Stmt}{rest:List Stmt}{t u:TS}{e:Expr}{te:TE}{pos:Pos}
noncomputable def Hw:TS:=λD Z H=>D.nx Z H
noncomputable def Rg(t u:TS):TS:=λD Z H=>t {D with nx:=u D} Z H
theorem Yz:oX X [] Hw:=λ_ _ Z H _ I h=>wpAny_execs_nil ⟨Z,H,I,h⟩
theorem YB(h1:PS X st t)(h2:oX X rest u):oX X (st::rest) (Rg t u):=by
 intro ao s Z H D I h;refine wpAny_execs_cons (bA (h1 ao s Z H {D with nx:=u D} I h) λf s1 q=>?_);cases f with
 |next=>
  obtain⟨Z',H',I',q⟩:=q;exact h2 ao s1 Z' H' D I' q
 |ret v=>exact q
 |brk=>exact q
 |cont=>exact q
theorem Inv.quiet{ao:List (Addr×Obj)}{Z:St}{H:Hp}{s:Shared}(I:Inv X ao Z H s):interactive X.env=false:=by simp[interactive,I.ok.kind]
noncomputable def Hx(te:TE):TS:=λD Z H=>te Z H λ_ H1=>D.nx Z H1
theorem zkf(he:PE X e te)(hs:swapsWith e none pos.line X.env=pure false:=by rfl):PS X (.Expr e pos) (Hx te):=by
 intro ao s Z H D I h;exact wpAny_Expr_any (bA (he ao s Z H _ I h) λv s1 hx=>dY hx λx H1 I1 r1 q1=>⟨Z,H1,I1,q1⟩) I.quiet hs
noncomputable def Rh(te:TE):TS:=λD Z H=>te Z H D.rt
theorem zn6(he:PE X e te):PS X (.Return (some e) pos) (Rh te):=by
 intro ao s Z H D I h;exact wpAny_Return_some (bA (he ao s Z H _ I h) λv s1 hx=>dY hx λx H1 I1 r1 q1=>⟨x,Z,H1,I1,r1,q1⟩)
noncomputable def Ri(c:TT)(t u:TS):TS:=λD Z H=>c Z H λb H1=>if b=true then t D Z H1 else u D Z H1
theorem zpl{c:Expr}{a b:List Stmt}{tc:TT}(hc:PT X c tc)(ha:oX X a t)(hb:oX X b u):PS X (.If c a b pos) (Ri tc t u):=by
 intro ao s Z H D I h;refine wpAny_If (bA (hc ao s Z H _ I h) λd s1 hx=>wO hx λH1 I1 q1=>?_);cases d with
 |true=>exact ha ao s1 Z H1 D I1 q1
 |false=>exact hb ao s1 Z H1 D I1 q1
end
noncomputable abbrev TG:=V->St->Hp->(St->Hp->Prop)->Prop
noncomputable abbrev Bk:=List V->St->Hp->(St->Hp->Prop)->Prop
def PG(X:Cx)(target:Expr)(t:TG):Prop:=
 ∀(ao:List (Addr×Obj)) (s:Shared) (Z:St) (H:Hp) (v:V) (u:Value) (Q:St->Hp->Prop),Inv X ao Z H s->RelV v u->t v Z H Q->
  wpAny (model X.prog X.w) X.A (assign target X.env u) (λ_ s'=>∃Z' H',Inv X ao Z' H' s'/\Q Z' H') X.xe s
def Mz(X:Cx)(ts:List Expr)(t:Bk):Prop:=
 ∀(ao:List (Addr×Obj)) (s:Shared) (Z:St) (H:Hp) (vs:List V) (us:List Value) (Q:St->Hp->Prop),Inv X ao Z H s->Vals vs us->t vs Z H Q->
  wpAny (model X.prog X.w) X.A (assignInOrder ((assignEach ts X.env).map (·.2)) us) (λ_ s'=>∃Z' H',Inv X ao Z' H' s'/\Q Z' H') X.xe s
noncomputable abbrev Bl:=V->V->V->Hp->(Hp->Prop)->Prop
def Hy(X:Cx)(t:Bl):Prop:=
 ∀(ao:List (Addr×Obj)) (s:Shared) (Z:St) (H:Hp) (o i v:V) (ov iv u:Value) (Q:Hp->Prop),Inv X ao Z H s->RelV o ov->RelV i iv->RelV v u->t o i v H Q->
  wpAny (model X.prog X.w) X.A (setItem ov iv u) (λ_ s'=>∃H',Inv X ao Z H' s'/\Q H') X.xe s
section
variable {X:Cx}{pos:Pos}
noncomputable def eN(i:Nat):TG:=λv Z H Q=>Q (Z.set i (some v)) H
theorem MF{i:Nat}{x:Str}(hN:X.N.Nodup)(hi:X.N[i]?=some x)(hx:Loc X.env.scope x)(hf:X.fn x=true\/X.env.scope.names.lookup x=some .local:=by first|exact .inl rfl|exact .inr rfl|assumption):PG X (.Name x pos) (eN i):=by
 intro ao s Z H v u Q I r h;exact wpAny_assign_Name (Q5 I hN hi hx r (λs' I'=>⟨_,H,I',h⟩) hf)
noncomputable def uw:Bk:=λvs Z H Q=>vs=[]/\Q Z H
noncomputable def iD(t:TG)(u:Bk):Bk:=λvs Z H Q=>∃v r,vs=v::r/\t v Z H λZ' H'=>u r Z' H' Q
theorem zlq:Mz X [] uw:=by
 intro ao s Z H vs us Q I r h;obtain⟨e,h⟩:=h;subst e;cases r;exact assignInOrder_nil ⟨Z,H,I,h⟩
theorem YC{e:Expr}{es:List Expr}{t:TG}{u:Bk}(h1:PG X e t)(h2:Mz X es u)
  (hs:(assignEach (e::es) X.env).map (·.2)=assign e X.env::(assignEach es X.env).map (·.2):=by rfl):Mz X (e::es) (iD t u):=by
 intro ao s Z H vs us Q I r h;obtain⟨v,vr,e1,h⟩:=h;subst e1;cases r with
 |cons r rr=>
  rw[hs];refine assignInOrder_cons (bA (h1 ao s Z H _ _ _ I r h) λ_ s1 hz=>?_);obtain⟨Z1,H1,I1,q1⟩:=hz;exact h2 ao s1 Z1 H1 _ _ Q I1 rr q1
noncomputable def ux(K:W.Frag)(n:Nat)(t:Bk):TG:=λv Z H Q=>∃a xs,v=.ref a/\fU K H a xs/\xs.length=n/\t xs Z H Q
theorem zl5{es:List Expr}{k:Nat}{t:Bk}{n:Nat}(hc:X.aj=true)(h:Mz X es t)
  (hn:(assignEach es X.env).length=n:=by rfl) (oY:(assignEach es X.env).findIdx? (·.1)=none:=by rfl):PG X (.Tuple es k pos) (ux X.K n t):=by
 intro ao s Z H v u Q I r hw;obtain⟨a,xs,e1,hq,hl,hw⟩:=hw;subst e1;cases r;obtain⟨its,rv,ht,hz⟩:=I.tuple hq;refine assign_Tuple_tuple (I.ok.hd hc) ht (by simp[hn,<-hl,rv.length]) oY λh' hx=>?_;have I1:Inv X ao Z H {s with heap:=h'}:=I.kept (t':=s.toks) λb o e=>hx b o (dX (cg e)) e;exact h ao _ Z H xs _ Q I1 (by simpa using rv) hw
noncomputable def Rj(to ti:TE)(t:Bl):TG:=λv Z H Q=>to Z H λo H1=>ti Z H1 λi H2=>t o i v H2 λH3=>Q Z H3
theorem zmQ{o i:Expr}{to ti:TE}{t:Bl}(ho:PE X o to)(hi:PE X i ti)(hs:Hy X t)
  (ha:∀v,assign (.Subscript o i pos) X.env v=(do
   let ov <-holding [v] (eval o X.env)
   let iv <-holding [v,ov] (eval i X.env)
   standAt pos
   holding [v,ov,iv] (setItem ov iv v)
   release [v,ov,iv] []):=by intro _;rfl):PG X (.Subscript o i pos) (Rj to ti t):=by
 intro ao s Z H v u Q I r h;rw[ha];refine aB (sX (bA (ho ao s Z H _ I h) λov s1 hx=>dY hx λx H1 I1 r1 q1=>?_));refine aB (sX (bA (hi ao s1 Z H1 _ I1 q1) λiv s2 hx=>dY hx λy H2 I2 r2 q2=>?_));refine aB (wpAny_standAt (aB (sX (bA (hs ao s2 Z H2 x y v ov iv u _ I2 r1 r2 r q2) λ_ s3 hx=>wO hx λH3 I3 q3=>?_))));exact wpAny_release ⟨Z,H3,I3,q3⟩
noncomputable def Bm(te:TE)(g:TG):TS:=λD Z H=>te Z H λx H1=>g x Z H1 D.nx
theorem YD{tg e:Expr}{te:TE}{g:TG}(he:PE X e te)(hg:PG X tg g)(hs:swapsWithSole [tg] e pos.line X.env=pure false:=by rfl)(hw:swappedStores [tg] e X.env=pure none:=by rfl)
  (h1:(assignEach [tg] X.env).map (·.2)=[assign tg X.env]:=by rfl):PS X (.Assign [tg] e pos) (Bm te g):=by
 intro ao s Z H D I h;refine wpAny_Assign_stores (bA (he ao s Z H _ I h) λv s1 hx=>dY hx λx H1 I1 r1 q1=>?_) hs hw;rw[h1];exact bA (hg ao s1 Z H1 x v _ I1 r1 q1) λ_ s2 q=>q
theorem zn2{i:Nat}{x:Str}{e:Expr}{te:TE}{pos':Pos}(hN:X.N.Nodup)(hi:X.N[i]?=some x)(hx:Loc X.env.scope x)(he:PE X e te)(hs:swapsWith e (some (.Name x pos')) pos.line X.env=pure false:=by rfl)(hf:X.fn x=true\/X.env.scope.names.lookup x=some .local:=by first|exact .inl rfl|exact .inr rfl|assumption) :
  PS X (.Assign [.Name x pos'] e pos) (Bm te (eN i)):=by
 intro ao s Z H D I h;refine wpAny_Assign_Name (bA (he ao s Z H _ I h) λv s1 hz=>?_) hs;obtain⟨y,H1,I1,r1,q1⟩:=hz;exact Q5 I1 hN hi hx r1 (λs2 I2=>⟨_,H1,I2,q1⟩) hf
end
structure It where
 go:Nat->Hp->Prop
 Bp:Nat->Hp->V->Hp->Prop
 stop:Nat->Hp->Prop
def iZ(X:Cx)(ao:List (Addr×Obj))(H:Hp)(b:Addr):Prop:=
 H b=none/\b≠X.env.locals/\b∉X.fs/\(b∈X.ex\/X.s₀.heap.objs.size<=b)/\(∀x c,X.env.cells.lookup x=some c->c≠b)/\∀p∈X.pn++ao,p.1≠b
theorem Inv.q_{X:Cx}{ao:List (Addr×Obj)}{Z:St}{H H':Hp}{s:Shared}{b:Addr}(I:Inv X ao Z H s)(hb:s.heap.objs.size<=b)(hn:H' b=none):iZ X ao H' b:=by
 refine⟨hn,wL (iB I.lt hb),I.QV hb,.inr (jo I.sz hb),λx c e z=>?_,λp hp z=>?_⟩
 ·obtain⟨v,q⟩:=I.cell x c e;exact absurd (iB q.lt (by rw[z];exact hb)) (qj _)
 ·exact absurd (iB (cg (I.pin p hp).1) (by rw[z];exact hb)) (qj _)
structure Turn(P:Program)(w:World)(K:W.Frag)(tg:Expr)(bO:It)(fp:List Addr)(it:Addr)(tn:Nat->Heap->Prop):Prop where
 mem:it∈fp
 obj:∀i h,tn i h->∀b∈fp,∃o,h.get? b=some o/\∀v,o.data≠.cell v
 keep:∀i h h',tn i h->(∀b∈fp,∀o,h.get? b=some o->h'.get? b=some o)->tn i h'
 item:∀(X:Cx),X.prog=P->X.w=w->X.K=K->X.aj=true->∀(i:Nat) (ao:List (Addr×Obj)) (s:Shared) (Z:St) (H:Hp) (E:Value->Shared->Prop),Inv X ao Z H s->(∀b∈fp,iZ X ao H b)->tn i s.heap->bO.go i H->
  wpAny (model P w) X.A (pyNext (.ref it)) (λr s1=>∃u,r=some u /\
   wpAny (model P w) X.A (letOwnedTupleGo tg (.ref it) u) (λ_ s2=>∃x H',Inv X ao Z H' s2/\RelV x u/\bO.Bp i H x H'/\tn (i+1) s2.heap/\∀b∈fp,H' b=none) E s1) E s
 done:∀(X:Cx),X.prog=P->X.w=w->X.K=K->X.aj=true->∀(i:Nat) (ao:List (Addr×Obj)) (s:Shared) (Z:St) (H:Hp) (E:Value->Shared->Prop),Inv X ao Z H s->(∀b∈fp,iZ X ao H b)->tn i s.heap->bO.stop i H->
  wpAny (model P w) X.A (pyNext (.ref it)) (λr s1=>r=none/\Inv X ao Z H s1) E s
 self:∀(A:Around) (i:Nat) (s:Shared) (Q:Value->Shared->Prop) (E:Value->Shared->Prop),tn i s.heap->Q (.ref it) s->wpAny (model P w) A (pyIter (.ref it)) Q E s
noncomputable abbrev TI:=St->Hp->(It->Hp->Prop)->Prop
def PIE(X:Cx)(ao:List (Addr×Obj))(Z:St)(tg:Expr)(R:It->Hp->Prop)(itv:Value)(s2:Shared):Prop:=
 ∃(it:Addr) (fp:List Addr) (tn:Nat->Heap->Prop) (bO:It) (H':Hp),itv=.ref it/\Inv X ao Z H' s2/\Turn X.prog X.w X.K tg bO fp it tn/\tn 0 s2.heap/\(∀b∈fp,iZ X ao H' b)/\R bO H'
def PI(X:Cx)(tg iter:Expr)(wi:TI):Prop:=
 ∀(ao:List (Addr×Obj)) (s:Shared) (Z:St) (H:Hp) (R:It->Hp->Prop),Inv X ao Z H s->wi Z H R->
  wpAny (model X.prog X.w) X.A (eval iter X.env) (λv s1=>wpAny (model X.prog X.w) X.A (pyIter v) (PIE X ao Z tg R) X.xe s1) X.xe s
theorem MJ{M:Model}{A:Around}{E:Value->Shared->Prop}{s:Shared}{tg:Expr}{it:Addr}{u:Value}{o:Obj}{n:String}{vs:Array Value}{Q:Unit->Shared->Prop}(ho:s.heap.get? it=some o)(hc:o.cls=.type n)(hd:o.data=.fields vs)
  (hn:["enumerate","zip","dict_itemiterator","dict_reverseitemiterator","odict_iterator","itertools.zip_longest","itertools.pairwise"].contains n=false) (hQ:Q () s):wpAny M A (letOwnedTupleGo tg (.ref it) u) Q E s:=by
 unfold letOwnedTupleGo;cases tg<;>first
  |exact aZ hQ
  | (cases u<;>first
    |exact aZ hQ
    | (refine aB (wpAny_load ho ?_)
       rw[hc,hd];show wpAny M A (if (["enumerate","zip","dict_itemiterator","dict_reverseitemiterator","odict_iterator","itertools.zip_longest","itertools.pairwise"].contains n&&vs[0]?==some (rawInt _))=true then _ else _) Q E s;rw[if_neg (by intro h;rw[hn,Bool.false_and] at h;cases h)];exact aZ hQ))
noncomputable def MK(K:W.Frag)(a:Addr):It:=
 ⟨λi H=>∃xs x,cQ K H a xs/\xs[i]?=some x,λi H x H'=>H'=H/\∀xs,cQ K H a xs->xs[i]?=some x,λi H=>∃xs,cQ K H a xs/\xs.length<=i⟩
noncomputable def Rm(K:W.Frag)(a:Addr):It:=
 ⟨λi H=>∃xs x,fU K H a xs/\xs[i]?=some x,λi H x H'=>H'=H/\∀xs,fU K H a xs->xs[i]?=some x,λi H=>∃xs,fU K H a xs/\xs.length<=i⟩
noncomputable def Hz(lo:Int)(n:Nat):It:=⟨λi _=>i<n,λi H x H'=>H'=H/\x=.int (lo+i),λi _=>n<=i⟩
theorem zgs{P:Program}{w:World}{K:W.Frag}{tg:Expr}(a it:Addr):Turn P w K tg (MK K a) [it] it (λi h=>h.IsListIter it a i) where
 mem:=by simp
 obj:=λi h st b hb=>by
  have e:b=it:=by simpa using hb
  subst e;obtain⟨o,e,c,d⟩:=st;exact⟨o,e,λv z=>by rw[d] at z;cases z⟩
 keep:=λi h h' st k=>st.at λo e=>k it Zaa o e
 item:=by
  intro X hP hw hK hc i ao s Z H E I hf st hg;subst hP hw hK;obtain⟨xs,x,hq,hx⟩:=hg;obtain⟨its,rv,p,hz⟩:=I.list hq;obtain⟨u,hu,ru⟩:=rv.get hx;obtain⟨f0,f1,f2,f3,f4,f5⟩:=hf it Zaa;refine wpAny_pyNext_list_item st p.isList (x:=u) (by simpa using hu) λh' st' sb=>?_;have I1:Inv X ao Z H {s with heap:=h'}:=I.turned (t':=s.toks) (λb o hb e=>(sb.2 b hb).trans e) f0 f1 f3 f4 f5;obtain⟨o,e,c,d⟩:=id st';exact⟨u,rfl,MJ (s:={s with heap:=h'}) e c d Vu ⟨x,H,I1,ru,⟨rfl,λys hy=>by rw[I.n_ hy hq];exact hx⟩,st',λb hb=>(hf b hb).1⟩⟩
 done:=by
  intro X hP hw hK hc i ao s Z H E I hf st hg;subst hP hw hK;obtain⟨xs,hq,hx⟩:=hg;obtain⟨its,rv,p,hz⟩:=I.list hq;obtain⟨f0,f1,f2,f3,f4,f5⟩:=hf it Zaa;have hl:=rv.length;exact wpAny_pyNext_list_end (I.ok.hd hc) st p.isList (by simp;lia) λh' eb=>⟨rfl,I.turned (t':=s.toks) (λb o hb e=>eb b o hb e) f0 f1 f3 f4 f5⟩
 self:=λ_ _ _ _ _ st h=>wpAny_pyIter_listiter st h
theorem zfd{P:Program}{w:World}{K:W.Frag}{tg:Expr}(a it:Addr):Turn P w K tg (Rm K a) [it] it (λi h=>h.IsTupleIter it a i) where
 mem:=by simp
 obj:=λi h st b hb=>by
  have e:b=it:=by simpa using hb
  subst e;obtain⟨o,e,c,d⟩:=st;exact⟨o,e,λv z=>by rw[d] at z;cases z⟩
 keep:=λi h h' st k=>st.at λo e=>k it Zaa o e
 item:=by
  intro X hP hw hK hc i ao s Z H E I hf st hg;subst hP hw hK;obtain⟨xs,x,hq,hx⟩:=hg;obtain⟨its,rv,p,hz⟩:=I.tuple hq;obtain⟨u,hu,ru⟩:=rv.get hx;obtain⟨f0,f1,f2,f3,f4,f5⟩:=hf it Zaa;refine wpAny_pyNext_tuple_item st (show s.heap.IsTuple a its.toArray from p) (x:=u) (by simpa using hu) λh' st' sb=>?_;have I1:Inv X ao Z H {s with heap:=h'}:=I.turned (t':=s.toks) (λb o hb e=>(sb.2 b hb).trans e) f0 f1 f3 f4 f5;obtain⟨o,e,c,d⟩:=id st';exact⟨u,rfl,MJ (s:={s with heap:=h'}) e c d Vu ⟨x,H,I1,ru,⟨rfl,λys hy=>by rw[I.lM hy hq];exact hx⟩,st',λb hb=>(hf b hb).1⟩⟩
 done:=by
  intro X hP hw hK hc i ao s Z H E I hf st hg;subst hP hw hK;obtain⟨xs,hq,hx⟩:=hg;obtain⟨its,rv,p,hz⟩:=I.tuple hq;obtain⟨f0,f1,f2,f3,f4,f5⟩:=hf it Zaa;have hl:=rv.length;exact wpAny_pyNext_tuple_end (I.ok.hd hc) st (show s.heap.IsTuple a its.toArray from p) (by simp;lia) λh' eb=>⟨rfl,I.turned (t':=s.toks) (λb o hb e=>eb b o hb e) f0 f1 f3 f4 f5⟩
 self:=λ_ _ _ _ _ st h=>wpAny_pyIter_tupleiter st h
theorem zff{P:Program}{w:World}{K:W.Frag}{tg:Expr}(it:Addr)(lo:Int)(n:Nat):Turn P w K tg (Hz lo n) [it] it (λi h=>IsRangeIter h it (lo+(i:Nat)*1) ((n:Int)-(i:Nat)) 1) where
 mem:=by simp
 obj:=λi h st b hb=>by
  have e:b=it:=by simpa using hb
  subst e;exact⟨_,st,λv z=>by
   have z':Data.fields _=Data.cell v:=z;cases z'⟩
 keep:=λi h h' st k=>k it Zaa _ st
 item:=by
  intro X hP hw hK hc i ao s Z H E I hf st hg;subst hP hw hK;obtain⟨f0,f1,f2,f3,f4,f5⟩:=hf it Zaa;have W:=Walks.range (prog:=X.prog) (w:=X.w) (I.ok.hd hc) it lo 1 n;refine W.item i s _ _ hg st λv h' tk hv st' kk=>?_;obtain⟨t,rfl⟩:=hv;have I1:Inv X ao Z H {s with heap:=h',toks:=tk}:=I.turned (λb o hb e=>kk b o (by simpa using hb) e) f0 f1 f3 f4 f5;refine⟨_,rfl,MJ (s:={s with heap:=h',toks:=tk}) (n:="range_iterator") st' rfl rfl Vu ⟨.int (lo+i),H,I1,⟨t,?_⟩,⟨rfl,rfl⟩,st',λb hb=>(hf b hb).1⟩⟩;rw[Int.mul_one]
 done:=by
  intro X hP hw hK hc i ao s Z H E I hf st hg;subst hP hw hK;obtain⟨f0,f1,f2,f3,f4,f5⟩:=hf it Zaa;exact wpAny_pyNext_range_end (I.ok.hd hc) st (by have:n<=i:=hg;lia) λh' eb=>⟨rfl,I.turned (t':=s.toks) (λb o hb e=>eb b o hb e) f0 f1 f3 f4 f5⟩
 self:=λ_ _ _ _ _ st h=>Qj st h
section
variable {X:Cx}{tg:Expr}
theorem YF{ao:List (Addr×Obj)}{Z:St}{H:Hp}{s:Shared}{R:It->Hp->Prop}{E:Value->Shared->Prop}{lo hi:Int}{t u v:Tok}{tk:Nat}(I:Inv X ao Z H s)(h1 : -(2^62)<=lo)(h2:lo<2^62)(h3 : -(2^62)<=hi)(h4:hi<2^62)
  (q:R (Hz lo (hi-lo).toNat) H):wpAny (model X.prog X.w) X.A (pyIter (.ref s.heap.objs.size)) (PIE X ao Z tg R) E {s with heap:=s.heap.push {cls:=.type "range",data:=.fields #[.int lo t,.int hi u,.int 1 v]},toks:=tk}:=by
 refine wpAny_pyIter_range (IsRange.new ..) (small_one h1 h2 h3 h4) ?_;have I1:Inv X ao Z H {s with heap:=s.heap.push {cls:=.type "range",data:=.fields #[.int lo t,.int hi u,.int 1 v]},toks:=tk}:=I.kept λb o e=>cN _ e;refine⟨(s.heap.push {cls:=.type "range",data:=.fields #[.int lo t,.int hi u,.int 1 v]}).objs.size,[(s.heap.push {cls:=.type "range",data:=.fields #[.int lo t,.int hi u,.int 1 v]}).objs.size],_,_,H,rfl,
  I1.kept (t':=tk) λb o e=>cN _ e,zff _ lo (hi-lo).toNat,?_,λb hb=>?_,q⟩
 ·have e1:lo+((0:Nat):Int)*1=lo:=by simp
  have e2:(((hi-lo).toNat:Nat):Int)-((0:Nat):Int)=Builtin.Range.rangeSize lo hi 1:=by rw[zs1];split<;>lia
  show IsRangeIter _ _ (lo+((0:Nat):Int)*1) ((((hi-lo).toNat:Nat):Int)-((0:Nat):Int)) 1;rw[e1,e2];exact fL _ rfl
 ·have e:b=(s.heap.push {cls:=.type "range",data:=.fields #[.int lo t,.int hi u,.int 1 v]}).objs.size:=by simpa using hb
  subst e;exact I1.q_ (bK _) (I1.hok.fresh (bK _))
noncomputable def HB(ta:TA):TI:=λZ H R=>ta Z H λvs H1=>∃j:Int,vs=[.int j]/\-(2^62)<=j/\j<2^62/\R (Hz 0 j.toNat) H1
noncomputable def HD(ta:TA):TI:=λZ H R=>ta Z H λvs H1=>∃i j:Int,vs=[.int i,.int j]/\(-(2^62)<=i/\i<2^62/\-(2^62)<=j/\j<2^62)/\R (Hz i (j-i).toNat) H1
theorem zg0{a:Expr}{ta:TA}{p pos:Pos}(hg:Gl X "range")(hm:X.mg "range"=none)(ha:PA X [a] ta)(hs:starEach [a] X.env=[(false,eval a X.env)]:=by rfl):PI X tg (.Call (.Name "range" p) [a] [] pos) (HB ta):=by
 intro ao s Z H R I h;refine Call_ (qZ I hg hm boot_range (tV (bA (ha pos ao s Z H _ I h) λus s1 hx=>dY hx λvs H1 I1 r1 q1=>?_) hs rfl));obtain⟨j,e,q1,q2,q⟩:=q1;subst e;cases r1 with
 |cons r rr=>
  cases rr;obtain⟨t,rfl⟩:=r;exact call_range_1 (YF I1 gV gV q1 q2 (by simpa using q))
theorem zhb{a b:Expr}{ta:TA}{p pos:Pos}(hg:Gl X "range")(hm:X.mg "range"=none)(ha:PA X [a,b] ta)(hs:starEach [a,b] X.env=[(false,eval a X.env),(false,eval b X.env)]:=by rfl)(wW:starEach [b] X.env=[(false,eval b X.env)]:=by rfl) :
  PI X tg (.Call (.Name "range" p) [a,b] [] pos) (HD ta):=by
 intro ao s Z H R I h;refine Call_ (qZ I hg hm boot_range (tV (bA (ha pos ao s Z H _ I h) λus s1 hx=>dY hx λvs H1 I1 r1 q1=>?_) (by rw[hs,wW]) (by rw[wW];rfl)));obtain⟨i,j,e,⟨q1,q2,q3,q4⟩,q⟩:=q1;subst e;cases r1 with
 |cons r rr=>
  cases rr with
  |cons r' rr=>
   cases rr;obtain⟨t,rfl⟩:=r;obtain⟨t',rfl⟩:=r';exact call_range_2 (YF I1 q1 q2 q3 q4 q)
noncomputable def Rn(wi:TI)(g:TG)(tb:TS):TS:=λD Z H=>wi Z H λbO H1=>∃W:Nat->Nat->St->Hp->Prop,(∃m,W 0 m Z H1)/\∀i m Z H,W i m Z H->
 (bO.stop i H/\D.nx Z H)\/(bO.go i H/\∃N:St->Hp->Prop,(∀Z' H',N Z' H'->∃m',m'<m/\W (i+1) m' Z' H')/\∀x H',bO.Bp i H x H'->g x Z H' λZ2 H2=>tb {D with nx:=N,ct:=N,bk:=D.nx} Z2 H2)
noncomputable def jT(fp:List Addr)(h:Heap):List (Addr×Obj):=fp.filterMap λb=>(h.get? b).map λo=>(b,o)
theorem MN{fp:List Addr}{h:Heap}{b:Addr}{o:Obj}(hb:b∈fp)(e:h.get? b=some o):(b,o)∈jT fp h:=DR.mpr ⟨b,hb,by rw[e];rfl⟩
theorem zfT{fp:List Addr}{h:Heap}{p:Addr×Obj}(hp:p∈jT fp h):p.1∈fp/\h.get? p.1=some p.2:=by
 obtain⟨b,hb,e⟩:=DR.mp hp;cases q:h.get? b with
 |none=>rw[q] at e;cases e
 |some o=>
  rw[q] at e;have e':(b,o)=p:=dz e;subst e';exact⟨hb,q⟩
theorem Inv.pinned{ao:List (Addr×Obj)}{Z:St}{H:Hp}{s:Shared}{fp:List Addr}(I:Inv X ao Z H s)(hf:∀b∈fp,iZ X ao H b)(ho:∀b∈fp,∃o,s.heap.get? b=some o/\∀v,o.data≠.cell v):Inv X (ao++jT fp s.heap) Z H s:=
 I.mJ λp hp=>(kO.mp hp).elim (λz=>I.pin p (vN _ z)) λz=>by
  obtain⟨hb,e⟩:=zfT z;obtain⟨f0,f1,f2,_⟩:=hf p.1 hb;obtain⟨o,e',d⟩:=ho p.1 hb;rw[e] at e';cases e';exact⟨e,f0,f1,f2,d⟩
theorem Inv.iG{ao pl:List (Addr×Obj)}{Z:St}{H:Hp}{s:Shared}(I:Inv X (ao++pl) Z H s):Inv X ao Z H s:=I.mJ λp hp=>I.pin p (vN _ (Gx _ hp))
theorem znJ{iter:Expr}{body:List Stmt}{wi:TI}{g:TG}{tb:TS}{pos:Pos}(hp:PassesOwn (model X.prog X.w) X.A X.env X.xe)(hc:X.aj=true)(hi:PI X tg iter wi)(hg:PG X tg g)(hb:oX X body tb)
  (hs:∀x,foldedSetIterable iter X.env x=pure x:=by intro _;rfl):PS X (.For tg iter body [] pos) (Rn wi g tb):=by
 intro ao s Z H D I h;refine wpAny_For (bA (hi ao s Z H _ I h) λv s1 h1=>bA h1 λitv s2 h2=>?_) hs;obtain⟨it,fp,tn,bO,H2,e,I2,T,st2,f2,W,⟨m0,w0⟩,turn⟩:=h2;subst e;have stat:∀{H':Hp},(∀b∈fp,H' b=none)->∀b∈fp,iZ X ao H' b:=λhn b hb=>⟨hn b hb,(f2 b hb).2⟩;refine codeAny_forLoop_any (λn s'=>∃i Z' H',Inv X ao Z' H' s'/\tn i s'.heap/\(∀b∈fp,H' b=none)/\W i n Z' H') ?_ m0 ⟨0,Z,H2,I2,st2,λb hb=>(f2 b hb).1,w0⟩;rintro n s3 ⟨i,Z3,H3,I3,st3,YG,w3⟩;rcases turn i n Z3 H3 w3 with ⟨stop,qn⟩|⟨go,N,hN,step⟩
 ·refine GR hp (bA (T.done X rfl rfl rfl hc i ao s3 Z3 H3 X.xe I3 (stat YG) st3 stop) λr s4 ⟨hr,I4⟩=>?_);subst hr;exact wpAny_execs_nil ⟨Z3,H3,I4,qn⟩
 ·refine GR hp (bA (T.item X rfl rfl rfl hc i ao s3 Z3 H3 X.xe I3 (stat YG) st3 go) λr s4 hx=>wO hx λu hr h4=>?_);subst hr;refine GR hp (bA h4 λ_ s5 hz=>?_);obtain⟨x,H5,I5,r5,y5,Fb,MP⟩:=hz;have I5':=I5.pinned (stat MP) (T.obj _ _ Fb);refine GR hp (bA (hg _ s5 Z3 H5 x u _ I5' r5 (step x H5 y5)) λ_ s6 hz=>?_);obtain⟨Z6,H6,I6,q6⟩:=hz;refine GR hp (bA (hb _ s6 Z6 H6 _ I6 q6) λf s7 q7=>?_);have again:∀{Z7:St} {H7:Hp},Inv X (ao++jT fp s5.heap) Z7 H7 s7->N Z7 H7->∃m,m<n/\∃i Z' H',Inv X ao Z' H' s7/\tn i s7.heap/\(∀b∈fp,H' b=none)/\W i m Z' H':=λ{Z7 H7} I7 n7=>by
   obtain⟨m',hm,w7⟩:=hN Z7 H7 n7;refine⟨m',hm,i+1,Z7,H7,I7.iG,T.keep _ _ _ Fb λb hb o e=>(I7.pin (b,o) (vN _ (vN _ (MN hb e)))).1,λb hb=>?_,w7⟩;obtain⟨o,e,d⟩:=T.obj _ _ Fb b hb;exact(I7.pin (b,o) (vN _ (vN _ (MN hb e)))).2.1
  cases f with
  |next=>obtain⟨Z7,H7,I7,n7⟩:=q7;exact again I7 n7
  |cont=>obtain⟨Z7,H7,I7,n7⟩:=q7;exact again I7 n7
  |brk=>obtain⟨Z7,H7,I7,q7⟩:=q7;exact⟨Z7,H7,I7.iG,q7⟩
  |ret v=>obtain⟨x7,Z7,H7,I7,r7,q7⟩:=q7;exact⟨x7,Z7,H7,I7.iG,r7,q7⟩
end
noncomputable abbrev R2:=V->V->Hp->VK->Prop
def fD(X:Cx)(f:Value->Value->Sem Value)(r:R2):Prop:=
 ∀(ao:List (Addr×Obj)) (s:Shared) (Z:St) (H:Hp) (x y:V) (v u:Value) (Q:VK),Inv X ao Z H s->RelV x v->RelV y u->r x y H Q->
  wpAny (model X.prog X.w) X.A (f v u) (EP X ao Z Q) X.xe s
def M4(X:Cx)(f:Value->Sem Value)(r:V->Hp->VK->Prop):Prop:=
 ∀(ao:List (Addr×Obj)) (s:Shared) (Z:St) (H:Hp) (x:V) (v:Value) (Q:VK),Inv X ao Z H s->RelV x v->r x H Q->
  wpAny (model X.prog X.w) X.A (f v) (EP X ao Z Q) X.xe s
def cU(X:Cx)(f:Value)(r:List V->Hp->VK->Prop):Prop:=
 ∀(ao:List (Addr×Obj)) (s:Shared) (Z:St) (H:Hp) (xs:List V) (us:List Value) (Q:VK),Inv X ao Z H s->Vals xs us->r xs H Q->
  wpAny (model X.prog X.w) X.A (call f us) (EP X ao Z Q) X.xe s
def Ro(X:Cx)(r:V->Hp->(Bool->Hp->Prop)->Prop):Prop:=
 ∀(ao:List (Addr×Obj)) (s:Shared) (Z:St) (H:Hp) (x:V) (v:Value) (Q:Bool->Hp->Prop),Inv X ao Z H s->RelV x v->r x H Q->
  wpAny (model X.prog X.w) X.A (truthy v) (TP X ao Z Q) X.xe s
noncomputable def M5(r:R2)(ta tb:TE):TE:=λZ H Q=>ta Z H λx H1=>tb Z H1 λy H2=>r x y H2 Q
noncomputable def tUn(r:V->Hp->VK->Prop)(ta:TE):TE:=λZ H Q=>ta Z H λx H1=>r x H1 Q
noncomputable def rI(C:Int->Int->Prop)(g:Int->Int->V):R2:=λx y H Q=>∃i j,x=.int i/\y=.int j/\C i j/\Q (g i j) H
noncomputable def pB(g:Int->Int->V):R2:=λx y H Q=>∃i j,x=.int i/\y=.int j/\Q (g i j) H
noncomputable def rU(g:Int->V):V->Hp->VK->Prop:=λx H Q=>∃i,x=.int i/\Q (g i) H
section
variable {X:Cx}{a b c:Expr}{ta tb tc:TE}{pos:Pos}
theorem Bq(ha:PE X a ta)(hb:PE X b tb){ao:List (Addr×Obj)}{s:Shared}{Z:St}{H:Hp}{R:V->V->Hp->Prop}(I:Inv X ao Z H s)
  (h:ta Z H λx H1=>tb Z H1 λy H2=>R x y H2) {Q:Value->Shared->Prop} {f:Value->Value->Sem Value}
  (hf:∀v u s2 x y H2,Inv X ao Z H2 s2->RelV x v->RelV y u->R x y H2->wpAny (model X.prog X.w) X.A (f v u) Q X.xe s2) :
  wpAny (model X.prog X.w) X.A (eval a X.env) (λv s₁=>wpAny (model X.prog X.w) X.A (eval b X.env) (λu s₂=>wpAny (model X.prog X.w) X.A (f v u) Q X.xe s₂) X.xe s₁) X.xe s:=by
 refine bA (ha ao s Z H _ I h) λv s1 hx=>dY hx λx H1 I1 r1 q1=>?_;refine bA (hb ao s1 Z H1 _ I1 q1) λu s2 hx=>dY hx λy H2 I2 r2 q2=>?_;exact hf v u s2 x y H2 I2 r1 r2 q2
theorem zpk{op:Operator}{r:R2}(ho:fD X (binaryOp op) r)(ha:PE X a ta)(hb:PE X b tb):PE X (.BinOp a op b pos) (M5 r ta tb):=by
 intro ao s Z H Q I h;exact wpAny_BinOp (Bq ha hb I h λv u s2 x y H2 I2 rx ry q=>ho ao s2 Z H2 x y v u Q I2 rx ry q)
theorem zoy{op:UnaryOp}{r:V->Hp->VK->Prop}(ho:M4 X (unaryOp op) r)(ha:PE X a ta):PE X (.UnaryOp op a pos) (tUn r ta):=by
 intro ao s Z H Q I h;exact UnaryOp_ (bA (ha ao s Z H _ I h) λv s1 hx=>dY hx λx H1 I1 r1 q1=>ho ao s1 Z H1 x v Q I1 r1 q1)
theorem M6{f:Value->Value->Sem Value}{C:Int->Int->Prop}{g:Int->Int->Int}
  (rule:∀(i j:Int) (t u:Tok) (s:Shared) (Q:Value->Shared->Prop) (E:Value->Shared->Prop),C i j->Q (.int (g i j) s.toks) {s with toks:=s.toks+1}->wpAny (model X.prog X.w) X.A (f (.int i t) (.int j u)) Q E s) :
  fD X f (rI C λi j=>.int (g i j)):=by
 intro ao s Z H x y v u Q I rx ry h;obtain⟨i,j,rfl,rfl,hc,q⟩:=h;obtain⟨t,rfl⟩:=rx;obtain⟨t',rfl⟩:=ry;exact rule i j t t' s _ _ hc ⟨.int (g i j),H,I.tok _,⟨_,rfl⟩,q⟩
theorem HF{f:Value->Value->Sem Value}{g:Int->Int->Int}
  (rule:∀(i j:Int) (t u:Tok) (s:Shared) (Q:Value->Shared->Prop) (E:Value->Shared->Prop),Q (.int (g i j) s.toks) {s with toks:=s.toks+1}->wpAny (model X.prog X.w) X.A (f (.int i t) (.int j u)) Q E s) :
  fD X f (pB λi j=>.int (g i j)):=by
 intro ao s Z H x y v u Q I rx ry h;obtain⟨i,j,rfl,rfl,q⟩:=h;obtain⟨t,rfl⟩:=rx;obtain⟨t',rfl⟩:=ry;exact rule i j t t' s _ _ ⟨.int (g i j),H,I.tok _,⟨_,rfl⟩,q⟩
theorem wX{f:Value->Value->Sem Value}{g:Int->Int->Bool}
  (rule:∀(i j:Int) (t u:Tok) (s:Shared) (Q:Value->Shared->Prop) (E:Value->Shared->Prop),Q (.bool (g i j)) s->wpAny (model X.prog X.w) X.A (f (.int i t) (.int j u)) Q E s) :
  fD X f (pB λi j=>.bl (g i j)):=by
 intro ao s Z H x y v u Q I rx ry h;obtain⟨i,j,rfl,rfl,q⟩:=h;obtain⟨t,rfl⟩:=rx;obtain⟨t',rfl⟩:=ry;exact rule i j t t' s _ _ ⟨.bl (g i j),H,I,rfl,q⟩
def wY(i j:Int):Prop:=0<j/\j<1073741824
def HJ(i j:Int):Prop:=0<=j/\j<=1000000/\i.natAbs<2^64
def wZ(i j:Int):Prop:=(-(2^64)<i/\i<2^64)\/(-(2^64)<j/\j<2^64)
theorem wZ.ok{i j:Int}(h:wZ i j):IntMulOk i j:=by
 rcases h with ⟨h1,h2⟩|⟨h1,h2⟩
 ·exact .of_left (intBits_le_64 h1 h2)
 ·exact .of_right (intBits_le_64 h1 h2)
theorem Br:fD X (binaryOp .Add) (pB λi j=>.int (i+j)):=HF λ_ _ _ _ _ _ _ q=>add_int q
theorem zms:fD X (binaryOp .Sub) (pB λi j=>.int (i-j)):=HF λ_ _ _ _ _ _ _ q=>sub_int q
theorem zns:fD X (binaryOp .Mult) (rI wZ λi j=>.int (i*j)):=M6 λ_ _ _ _ _ _ _ hc q=>mul_int q hc.ok
theorem zko:fD X (binaryOp .FloorDiv) (rI wY λi j=>.int (i/j)):=M6 λi j _ _ _ _ _ hc q=>by
 have h1:(0:Int)<j:=hc.1;have h2:j<1073741824:=hc.2;exact floordiv_int gV (by rw[Int.fdiv_eq_ediv_of_nonneg i gV];exact q) (.inl (PyProof.noPylong_small gV))
theorem zmV:fD X (binaryOp .Mod) (rI (λ_ j=>0<j) λi j=>.int (i%j)):=M6 λi j _ _ _ _ _ hc q=>by
 have h1:(0:Int)<j:=hc;exact mod_int' gV (by rw[Int.fmod_eq_emod_of_nonneg i gV];exact q)
theorem zmd:fD X (binaryOp .Pow) (rI HJ λi j=>.int (i^j.toNat)):=M6 λ_ _ _ _ _ _ _ hc q=>pow_int_small hc.1 hc.2.1 hc.2.2 q
theorem unI{f:Value->Sem Value}{g:Int->Int}
  (rule:∀(i:Int) (t:Tok) (s:Shared) (Q:Value->Shared->Prop) (E:Value->Shared->Prop),Q (.int (g i) s.toks) {s with toks:=s.toks+1}->wpAny (model X.prog X.w) X.A (f (.int i t)) Q E s) :
  M4 X f (rU λi=>.int (g i)):=by
 intro ao s Z H x v Q I rx h;obtain⟨i,rfl,q⟩:=h;obtain⟨t,rfl⟩:=rx;exact rule i t s _ _ ⟨.int (g i),H,I.tok _,⟨_,rfl⟩,q⟩
theorem zn5:M4 X (unaryOp .USub) (rU λi=>.int (-i)):=unI λ_ _ _ _ _ q=>neg_int q
end
section
variable {X:Cx}{a b c:Expr}{ta tb tc:TE}{pos:Pos}
theorem HN:fD X (compareOp .Lt) (pB λi j=>.bl (decide (i<j))):=wX λ_ _ _ _ _ _ _ q=>lt_int q
theorem zoX:fD X (compareOp .LtE) (pB λi j=>.bl (decide (i<=j))):=wX λ_ _ _ _ _ _ _ q=>le_int q
theorem zoF:fD X (compareOp .Gt) (pB λi j=>.bl (decide (j<i))):=wX λ_ _ _ _ _ _ _ q=>gt_int q
theorem zo4:fD X (compareOp .GtE) (pB λi j=>.bl (decide (j<=i))):=wX λ_ _ _ _ _ _ _ q=>ge_int q
theorem fD.or{f:Value->Value->Sem Value}{r r':R2}(h:fD X f r)(h':fD X f r'):fD X f (λx y H Q=>r x y H Q\/r' x y H Q):=by
 intro ao s Z H x y v u Q I rx ry q;rcases q with q|q
 ·exact h ao s Z H x y v u Q I rx ry q
 ·exact h' ao s Z H x y v u Q I rx ry q
theorem zjW{op:CmpOp}{r:R2}(ho:fD X (compareOp op) r)(ha:PE X a ta)(hb:PE X b tb)(hm:behindInMarks op b=false):PE X (.Compare a [op] [b] pos) (M5 r ta tb):=by
 intro ao s Z H Q I h;exact wpAny_Compare1 (Bq ha hb I h λv u s2 x y H2 I2 rx ry q=>ho ao s2 Z H2 x y v u Q I2 rx ry q) hm
noncomputable def HS(t:TE):TT:=λZ H Q=>t Z H λx H'=>∃k,x=.bl k/\Q k H'
theorem zkQ{op:CmpOp}{r:R2}(ho:fD X (compareOp op) r)(ha:PE X a ta)(hb:PE X b tb)(hm:behindInMarks op b=false):PT X (.Compare a [op] [b] pos) (HS (M5 r ta tb)):=by
 intro ao s Z H Q I h;refine wpAny_isTrue_Compare1 (bA (ha ao s Z H _ I h) λv s1 hx=>dY hx λx H1 I1 r1 q1=>bA (hb ao s1 Z H1 _ I1 q1) λu s2 hx=>dY hx λy H2 I2 r2 q2=>
  bA (ho ao s2 Z H2 x y v u _ I2 r1 r2 q2) λc s3 hx=>QK hx λz H3 I3 r3 k e q3=>?_) hm
 subst e;cases r3;exact vP ⟨H3,I3,q3⟩
noncomputable def Bs(r r':R2)(ta tb tc:TE):TE:=λZ H Q=>ta Z H λx H1=>tb Z H1 λy H2=>r x y H2 λz H3=>∃k,z=.bl k /\
 (if k=true then tc Z H3 λw' H4=>r' y w' H4 Q else Q (.bl false) H3)
theorem zib{op op':CmpOp}{r r':R2}(ho:fD X (compareOp op) r)(ur:fD X (compareOp op') r')(ha:PE X a ta)(hb:PE X b tb)(hc:PE X c tc)
  (hm:lastMarks [op,op'] [b,c]=false:=by with_unfolding_all rfl):PE X (.Compare a [op,op'] [b,c] pos) (Bs r r' ta tb tc):=by
 intro ao s Z H Q I h;refine Compare_chain (bA (ha ao s Z H _ I h) λv s1 hx=>dY hx λx H1 I1 r1 q1=>chain_link (bA (hb ao s1 Z H1 _ I1 q1) λu s2 hx=>dY hx λy H2 I2 r2 q2=>
  bA (ho ao s2 Z H2 x y v u _ I2 r1 r2 q2) λd s3 hx=>QK hx λz H3 I3 r3 k e q3=>?_)) hm
 subst e;cases r3;refine vP ?_;cases k with
 |false=>exact ite_ff ⟨.bl false,H3,I3,rfl,q3⟩
 |true=>exact ite_tt (chain_last (bA (hc ao s3 Z H3 _ I3 q3) λw' s4 hx=>dY hx λz' H4 I4 r4 q4=>ur ao s4 Z H4 y z' u w' Q I4 r2 r4 q4))
def Bt(K:W.Frag)(x:V)(H:Hp)(k:Bool):Prop:=
 match x with
 |.non=>k=false
 |.bl b=>k=b
 |.int i=>k=(i != 0)
 |.str y=>y.length<=sizeLine/\k=((y.length:Int) != 0)
 |.Bc y=>y.size<=sizeLine/\k=((y.size:Int) != 0)
 |.ref p=>(∃xs,cQ K H p xs/\k = !xs.isEmpty)\/(∃xs,fU K H p xs/\k = !xs.isEmpty)\/∃kvs,H p=some (.dK kvs)/\k = !kvs.isEmpty
 |_=>False
theorem zfa{κ:Type}{kvs:List (κ×V)}{vs:List (κ×Value)}(r:KV kvs vs):(!vs.isEmpty) = !kvs.isEmpty:=by
 cases r<;>rfl
theorem YH{xs:List V}{its:List Value}(r:Vals xs its):(!its.toArray.isEmpty) = !xs.isEmpty:=by
 cases r<;>simp
theorem i_:(sizeLine:Nat)<2^63:=by rw[sY];decide
theorem znd:Ro X (λx H Q=>∃k,Bt X.K x H k/\Q k H):=by
 intro ao s Z H x v Q I rx h;obtain⟨k,e,q⟩:=h;have hl:=i_;have hs:sizeLine=16777216:=sY;cases x with
 |non=>
  cases rx;have e':k=false:=e;subst e';exact truthy_none ⟨H,I,q⟩
 |bl b=>
  cases rx;have e':k=b:=e;subst e';exact vP ⟨H,I,q⟩
 |int i=>
  obtain⟨t,rfl⟩:=rx;have e':k=(i != 0):=e;subst e';exact PySem.P.truthy_int ⟨H,I,q⟩
 |str y=>
  obtain⟨t,rfl⟩:=rx;obtain⟨hy,e'⟩ : y.length<=sizeLine/\k=((y.length:Int) != 0):=e;subst e';exact PySem.P.truthy_str gV ⟨H,I.tok _,q⟩
 |Bc y=>
  obtain⟨t,rfl⟩:=rx;obtain⟨hy,e'⟩ : y.size<=sizeLine/\k=((y.size:Int) != 0):=e;subst e';exact PySem.W.truthy_bytes gV ⟨H,I.tok _,q⟩
 |ref p=>
  cases rx;have e':(∃xs,cQ X.K H p xs/\k = !xs.isEmpty)\/(∃xs,fU X.K H p xs/\k = !xs.isEmpty)\/∃kvs,H p=some (.dK kvs)/\k = !kvs.isEmpty:=e;rcases e' with ⟨xs,hx,e'⟩|⟨xs,hx,e'⟩|⟨kvs,hx,e'⟩
  ·subst e';obtain⟨its,r,pl,hz⟩:=I.list hx;have hlen:=r.length;exact wpAny_truthy_list pl.isList (by simp only[fQ];lia) ⟨H,I.tok _,by rw[YH r];exact q⟩
  ·subst e';obtain⟨its,r,pl,hz⟩:=I.tuple hx;have hlen:=r.length;exact truthy_tuple pl (by simp only[fQ];lia) ⟨H,I.tok _,by rw[YH r];exact q⟩
  ·subst e';obtain⟨hz,hS,vs,r,m⟩ : kvs.length<=sizeLine/\(p==sysModules)=false/\∃vs,KV kvs vs/\s.heap.DictOf (cB X.prog X.w) p vs:=I.hok p _ hx;have hlen:kvs.length=vs.length:=Paired.length r;exact wpAny_truthy_dict hS m gV ⟨H,I.tok _,by rw[zfa r];exact q⟩
 |_=>exact(show False from e).elim
theorem zfl:fD X (binaryOp .Add) (λx y H Q=>∃i j,x=.str i/\y=.str j/\i.length+j.length<=sizeLine/\Q (.str (i++j)) H):=by
 intro ao s Z H x y v u Q I rx ry h;obtain⟨i,j,rfl,rfl,hz,q⟩:=h;obtain⟨t,rfl⟩:=rx;obtain⟨t',rfl⟩:=ry;exact add_str (λt' tk=>⟨.str (i++j),H,I.tok _,⟨_,rfl⟩,q⟩) hz
theorem vals1{x:V}{us:List Value}(r:Vals [x] us):∃u,us=[u]/\RelV x u:=by
 cases r with
 |cons r1 r2=>cases r2;exact⟨_,rfl,r1⟩
theorem vals2{x y:V}{us:List Value}(r:Vals [x,y] us):∃u w',us=[u,w']/\RelV x u/\RelV y w':=by
 cases r with
 |cons r1 r2=>
  cases r2 with
  |cons r3 r4=>cases r4;exact⟨_,_,rfl,r1,r3⟩
theorem zif:cU X (.builtin "abs") (λxs H Q=>∃i,xs=[.int i]/\Q (.int (if i<0 then -i else i)) H):=by
 intro ao s Z H xs us Q I r h;obtain⟨i,rfl,q⟩:=h;obtain⟨u,rfl,t,rfl⟩:=vals1 r;exact call_abs_int λu tk=>⟨.int (if i<0 then -i else i),H,I.tok _,⟨_,rfl⟩,q⟩
theorem zgb(hc:X.aj=true):cU X (.builtin "max") (λxs H Q=>∃i j,xs=[.int i,.int j]/\Q (.int (if j>i then j else i)) H):=by
 intro ao s Z H xs us Q I r h;obtain⟨i,j,rfl,q⟩:=h;obtain⟨u,w',rfl,⟨t,rfl⟩,⟨t',rfl⟩⟩:=vals2 r;refine max_two_ints (I.ok.hd hc) λh' tk k=>⟨_,H,I.kept k,?_,q⟩;by_cases hj:j>i
 ·rw[if_pos hj,if_pos hj];exact⟨_,rfl⟩
 ·rw[if_neg hj,if_neg hj];exact⟨_,rfl⟩
theorem zfE(hc:X.aj=true):cU X (.builtin "min") (λxs H Q=>∃i j,xs=[.int i,.int j]/\Q (.int (if j<i then j else i)) H):=by
 intro ao s Z H xs us Q I r h;obtain⟨i,j,rfl,q⟩:=h;obtain⟨u,w',rfl,⟨t,rfl⟩,⟨t',rfl⟩⟩:=vals2 r;refine min_two_ints (I.ok.hd hc) λh' tk k=>⟨_,H,I.kept k,?_,q⟩;by_cases hj:j<i
 ·rw[if_pos hj,if_pos hj];exact⟨_,rfl⟩
 ·rw[if_neg hj,if_neg hj];exact⟨_,rfl⟩
theorem zgY:cU X (.type "int") (λxs H Q=>(∃i,xs=[.int i]/\Q (.int i) H)\/∃k,xs=[.bl k]/\Q (.int (if k then 1 else 0)) H):=by
 intro ao s Z H xs us Q I r h;rcases h with ⟨i,rfl,q⟩|⟨k,rfl,q⟩
 ·obtain⟨u,rfl,t,rfl⟩:=vals1 r;exact call_int_int ⟨.int i,H,I,⟨_,rfl⟩,q⟩
 ·obtain⟨u,rfl,r1⟩:=vals1 r;cases r1;exact call_int_bool ⟨.int (if k then 1 else 0),H,I.tok _,⟨_,rfl⟩,q⟩
theorem zd1:cU X (.builtin "divmod") (λxs H Q=>∃i j,xs=[.int i,.int j]/\wY i j/\∀p,H p=none->Q (.ref p) (upd H p (.tup [.int (i/j),.int (i%j)]))):=by
 intro ao s Z H xs us Q I r h;obtain⟨i,j,rfl,⟨h1,h2⟩,q⟩:=h;obtain⟨u,w',rfl,⟨t,rfl⟩,⟨t',rfl⟩⟩:=vals2 r;refine divmod_int gV ?_ (.inl (PyProof.noPylong_small gV));rw[Int.fdiv_eq_ediv_of_nonneg i gV,Int.fmod_eq_emod_of_nonneg i gV];have hn:H s.heap.objs.size=none:=I.hok.fresh (bK _);refine⟨.ref s.heap.objs.size,_,?_,rfl,q _ hn⟩;refine I.laid (λb o e=>cN _ e) (bK _) ⟨by simp only[gD,Ao];rw[sY];decide,[.int (i/j) s.toks,.int (i%j) (s.toks+1)],.cons ⟨_,rfl⟩ (.cons ⟨_,rfl⟩ .nil),?_⟩;exact⟨_,fL s.heap rfl,rfl,0,rfl,rfl⟩
end
structure pC(h:Heap)(x dx C:Addr)(mA:Str->Option Value):Prop where
 obj:h.get? x=some (PySem.W.instObj C dx)
 ns:h.Ns1 dx mA
 ne:dx≠x
theorem zg3{h:Heap}{dx:Addr}{mA:Str->Option Value}(n:h.Ns1 dx mA):∃od,h.get? dx=some od/\∀name,PySem.W.lookIn name od=some (mA name):=by
 obtain⟨o,es,ep,ho,hd,hk,_,hm⟩:=n;refine⟨o,ho,λname=>?_⟩;have e:=hm name;unfold nsFind findBy at e;rw[<-Array.find?_toList] at e;unfold PySem.W.lookIn;rw[hd];dsimp only
 split
 ·rename_i y q;rw[q] at e;exact mj some e
 ·rename_i q;rw[q] at e;have a:es.toList.any (·.refKey)=false:=by
   rw[List.any_eq_false];intro y hy;obtain⟨z,t,Rp⟩:=hk y (Array.mem_toList_iff.mp hy);simp[DictEntry.refKey,Rp]
  have a':¬es.toList.any (·.refKey)=true:=by rw[a];exact Lw
  rw[if_neg a'];exact mj some e
theorem pC.look{h:Heap}{x dx C:Addr}{mA:Str->Option Value}(I:pC h x dx C mA):∃od,PySem.W.InstAt h x (PySem.W.instObj C dx) C (some od)/\∀name,PySem.W.lookIn name od=some (mA name):=
 let ⟨od,ho,hl⟩:=zg3 I.ns
 ⟨od,⟨I.obj,rfl,rfl,ho⟩,hl⟩
section
variable {prog:Program}{w:World}{A:Around}{E:Value->Shared->Prop}{s:Shared}{K:W.Frag}{x dx C f:Addr}{mA:Str->Option Value}{name:Str}{v:Value}
theorem zkY{expr:Bool}{Q:Value->Shared->Prop}(X:K.In s.heap)(I:pC s.heap x dx C mA)(hg:PySem.W.plainGet K C name=true)(hh:PySem.W.hasDictIn K C=true)
  (ha:PySem.W.findIn K (.ref C) name=some none) (hv:mA name=some v) (Rq:PySem.W.handedIn v=true) (h:Q v {s with toks:=s.toks+1}) :
  wpAny (model prog w) A (getAttr (.ref x) name expr) Q E s:=by
 obtain⟨od,bO,hl⟩:=I.look;exact PySem.W.get_value X bO (Qv hg).1 (PySem.W.findObj_own hh ha rfl (by rw[hl,hv])) Rq h
theorem zhE{pl:Sem Bool}{Q:Value×List Value->Shared->Prop}(X:K.In s.heap)(I:pC s.heap x dx C mA)(hg:PySem.W.plainGet K C name=true)
  (hf:PySem.W.findIn K (.ref C) name=some (some (.ref f))) (ht:PySem.W.isFn K (.ref f)=true) (hv:mA name=none) (h:Q (.ref f,[.ref x]) s) :
  wpAny (model prog w) A (getMethod (.ref x) name pl) Q E s:=by
 obtain⟨od,bO,hl⟩:=I.look;exact PySem.W.method_fn X bO (Qv hg).1 (Qv hg).2 hf (nR.mp ht) (by show (PySem.W.lookIn name od).map (·.isSome)=some false;rw[hl,hv];rfl) h
theorem zlo{ns:List Str}{Q:Unit->Shared->Prop}(X:K.In s.heap)(I:pC s.heap x dx C mA)
  (hs:PySem.W.findIn K (.ref C) "__setattr__"=some (some (.builtin "object.__setattr__"))) (hp:PySem.W.plainOver K C=true) (ht:PySem.W.takerIn K C name=some none) (hh:PySem.W.hasDictIn K C=true)
  (hw:PySem.Within mA ns) (hsz:ns.length<=sizeLine)
  (h:∀h',pC h' x dx C (λy=>if y=name then some v else mA y)->Heap.SameBut dx s.heap h'->Q () {s with heap:=h',toks:=s.toks+2}) :
  wpAny (model prog w) A (setAttr (.ref x) name v) Q E s:=by
 obtain⟨od,bO,hl⟩:=I.look;refine PySem.W.set_plain X bO hs (PySem.W.osa_open (s:={s with toks:=s.toks+1}) (r:=none) X bO hp ht λb=>?_);obtain⟨cd,hc,Bh⟩:=PySem.W.any_some hh;have hx:s.heap.get? x=some ⟨.ref C,some dx,.plain,#[]⟩:=I.obj;refine aB (aZ (aB (aB (wpAny_loadPart hx (aB (PySem.W.Looks.here (s:={s with toks:=s.toks+1}) (PySem.W.looks_clsIn X hc) ?_))))));rw[Bh];refine aZ (a:=some dx) (aB (aZ (aB ?_)));refine wpAny_nsSet1 (s:={s with toks:=s.toks+1}) I.ns λh' YJ wW=>?_;obtain⟨oD,esD,epD,hoD,hdD,hcD⟩:=YJ.count (PySem.Within.cons name v hw);refine aB (wpAny_lookBehind hoD (by rw[hdD];exact pastItsLine_dict (jo hcD (by rw[gD];lia))) ?_);exact aZ (h _ ⟨(wW.2 _ (Ne.symm I.ne)).trans I.obj,YJ,I.ne⟩ wW)
theorem zhW{R:Result->Shared->Prop}{vs:List Value}{kw:List (Str×Value)}(X:K.In s.heap)(hm:PySem.W.makesIn K C=true)
  (hi:PySem.W.findIn K (.ref C) "__init__"=some (some (.ref f))) (hf:PySem.W.typeIn K (.ref f)=some (.type "function"))
  (h:codeAny (model prog w) (A.under (.builtin "type.__call__" ⟨.ref C::vs,kw⟩)) (.call (.ref f) ⟨.ref (s.heap.objs.size+1)::vs,kw⟩) (PySem.W.InitBack (s.heap.objs.size+1) R)
   {s with heap:=(s.heap.push PySem.W.emptyDict).push (PySem.W.instObj C s.heap.objs.size)}) :
  codeAny (model prog w) A (.call (.ref C) ⟨vs,kw⟩) R s:=by
 obtain⟨hh,g,d,t,os⟩:=s;exact PySem.W.make_core (PySem.W.makes_of X hm) (PySem.W.looks_findIn X hi) (λself=>PySem.W.bind_fn X self hf) (.inl rfl) h
end
noncomputable def fP(f:Str)(v:V):List (Str×V)->List (Str×V)
 |[]=>[(f,v)]
 |(g,x)::r=>if g=f then (g,v)::r else (g,x)::fP f v r
theorem YK(f g:Str)(v:V):∀fs:List (Str×V),(fP f v fs).lookup g=if g=f then some v else fs.lookup g
 |[]=>by
  show List.lookup g [(f,v)]=_;by_cases h:g=f
  ·have hb:(g==f)=true:=nR.mpr h;simp only[List.lookup,hb,if_pos h]
  ·have hb:(g==f)=false:=Ag.mpr h;simp only[List.lookup,hb,if_neg h]
 |(k,x)::r=>by
  have ih:=YK f g v r;rw[show fP f v ((k,x)::r)=(if k=f then (k,v)::r else (k,x)::fP f v r) from rfl];by_cases hk:k=f
  ·rw[if_pos hk];by_cases h:g=k
   ·have hb:(g==k)=true:=nR.mpr h;simp only[List.lookup,hb,if_pos (h.trans hk)]
   ·have hb:(g==k)=false:=Ag.mpr h;simp only[List.lookup,hb,if_neg (λe:g=f=>h (e.trans hk.symm))]
  ·rw[if_neg hk];by_cases h:g=k
   ·have hb:(g==k)=true:=nR.mpr h;simp only[List.lookup,hb,if_neg (λe:g=f=>hk (h.symm.trans e))]
   ·have hb:(g==k)=false:=Ag.mpr h;simp only[List.lookup,hb];exact ih
theorem Rr(f:Str)(v:V):∀fs:List (Str×V),f∈(fP f v fs).map (·.1)/\∀g,g∈fs.map (·.1)->g∈(fP f v fs).map (·.1)
 |[]=>⟨by simp[fP],λg h=>by simp at h⟩
 |(k,x)::r=>by
  obtain⟨i1,i2⟩:=Rr f v r;rw[show fP f v ((k,x)::r)=(if k=f then (k,v)::r else (k,x)::fP f v r) from rfl];by_cases hk:k=f
  ·rw[if_pos hk];subst hk;exact⟨by simp,λg h=>by simpa using h⟩
  ·rw[if_neg hk];refine⟨?_,λg h=>?_⟩
   ·rw[iR];exact g_ _ i1
   ·rw[iR] at h ⊢;rcases gF.mp h with e|e
    ·exact gF.mpr (.inl e)
    ·exact g_ _ (i2 g e)
theorem YL(f:Str)(v:V):∀fs:List (Str×V),(fP f v fs).length<=fs.length+1
 |[]=>by simp[fP]
 |(k,x)::r=>by
  have ih:=YL f v r;rw[show fP f v ((k,x)::r)=(if k=f then (k,v)::r else (k,x)::fP f v r) from rfl];by_cases hk:k=f
  ·rw[if_pos hk,gD,gD];lia
  ·rw[if_neg hk,gD,gD];lia
theorem Kag{v:V}{o:Option Value}(r:qY (some v) o):∃u,o=some u/\RelV v u:=by
 cases o with
 |none=>exact(show False from r).elim
 |some u=>exact⟨u,rfl,r⟩
theorem Kaf{o:Option Value}(r:qY none o):o=none:=by
 cases o with
 |none=>rfl
 |some u=>exact(show False from r).elim
theorem zhh{v:V}{u:Value}(r:RelV v u):PySem.W.handedIn u=true:=by
 cases v with
 |non=>cases (show u=Value.none from r);rfl
 |bl b=>cases (show u=Value.bool b from r);rfl
 |int i=>obtain⟨t,e⟩:=(show ∃t,u=Value.int i t from r);cases e;rfl
 |str x=>obtain⟨t,e⟩:=(show ∃t,u=Value.str x t from r);cases e;rfl
 |Bc b=>obtain⟨t,e⟩:=(show ∃t,u=Value.bytes b t from r);cases e;rfl
 |flt b=>obtain⟨t,e⟩:=(show ∃t,u=Value.float b t from r);cases e;rfl
 |ref a=>cases (show u=Value.ref a from r);rfl
 |ty n=>cases (show u=Value.type n from r);rfl
section
variable {P:Program}{w:World}{H H':Hp}{h h':Heap}{a C dx:Addr}{fs fs':List (Str×V)}
theorem Rt(hok:gR P w H h)(e:H a=some (.ins C dx fs)):∃mA,pC h a dx C mA/\(∀f,qY (fs.lookup f) (mA f))/\PySem.Within mA (fs.map (·.1))/\fs.length<=1000/\H dx=some (.own a):=by
 obtain⟨d,z,ne,ob,mA,n,r,q⟩:=(show aP P w H h a (.ins C dx fs) from hok a _ e);exact⟨mA,⟨ob,n,ne⟩,r,q,z,d⟩
end
structure Cls(K:W.Frag)(C:Addr):Prop where
 pg:PySem.W.plainGet K C Str.empty=true
 hd:PySem.W.hasDictIn K C=true
 po:PySem.W.plainOver K C=true
 sa:PySem.W.findIn K (.ref C) "__setattr__"=some (some (.builtin "object.__setattr__"))
theorem Cls.get{K:W.Frag}{C:Addr}(c:Cls K C)(f:Str):PySem.W.plainGet K C f=true:=c.pg
def gU(K:W.Frag)(C:Addr)(f:Str):Prop:=PySem.W.findIn K (.ref C) f=some none
theorem gU.taker{K:W.Frag}{C:Addr}{f:Str}(n:gU K C f):PySem.W.takerIn K C f=some none:=by
 unfold PySem.W.takerIn;rw[show PySem.W.findIn K (.ref C) f=some none from n];rfl
structure Meth(K:W.Frag)(C:Addr)(m:Str)(f:Addr):Prop where
 at_:PySem.W.findIn K (.ref C) m=some (some (.ref f))
 fn:PySem.W.isFn K (.ref f)=true
 kp:PySem.W.keepIn K (.ref f)=true
section
variable {X:Cx}{ao:List (Addr×Obj)}{Z:St}{H:Hp}{s:Shared}{a C dx:Addr}{fs:List (Str×V)}{f:Str}{v:V}{A:Around}{E:Value->Shared->Prop}
theorem zfg{b:Bool}{Q:Value->Shared->Prop}(I:Inv X ao Z H s)(e:H a=some (.ins C dx fs))(c:Cls X.K C)(n:gU X.K C f)(l:fs.lookup f=some v)
  (h:∀u s',Inv X ao Z H s'->RelV v u->Q u s'):wpAny (model X.prog X.w) A (getAttr (.ref a) f b) Q E s:=by
 obtain⟨mA,O,r,_,_,_⟩:=Rt I.hok e;obtain⟨u,hu,ru⟩:=Kag (v:=v) (o:=mA f) (by rw[<-l];exact r f);exact zkY I.nZ O (c.get f) c.hd n hu (zhh ru) (h u _ (I.tok _) ru)
theorem zfy{m:Str}{g:Addr}{pl:Sem Bool}{Q:Value×List Value->Shared->Prop}(I:Inv X ao Z H s)(e:H a=some (.ins C dx fs))(c:Cls X.K C)(k:Meth X.K C m g)(l:fs.lookup m=none)
  (h:Q (.ref g,[.ref a]) s):wpAny (model X.prog X.w) A (getMethod (.ref a) m pl) Q E s:=by
 obtain⟨mA,O,r,_,_,_⟩:=Rt I.hok e;have hn:mA m=none:=Kaf (by rw[<-l];exact r m);exact zhE I.nZ O (c.get m) k.at_ k.fn hn h
theorem zfw{y:V}{u:Value}{Q:Unit->Shared->Prop}(I:Inv X ao Z H s)(e:H a=some (.ins C dx fs))(c:Cls X.K C)(n:gU X.K C f)(hl:fs.length<1000)(ry:RelV y u)
  (h:∀s',Inv X ao Z (upd H a (.ins C dx (fP f y fs))) s'->Q () s'):wpAny (model X.prog X.w) A (setAttr (.ref a) f u) Q E s:=by
 obtain⟨mA,O,r,wi,_,ho⟩:=Rt I.hok e;have hz:(fs.map (·.1)).length<=sizeLine:=by rw[bI,sY];lia
 refine zlo I.nZ O c.sa c.po n.taker c.hd wi hz λh' O' sb=>h _ ?_;have hd:∃o,h'.get? dx=some o:=let ⟨o,_,_,e',_⟩:=O'.ns;⟨o,e'⟩;refine I.write (x:=a) (e:=dx) (by rw[e];exact True.intro) (.inr ho) (λb q hb z=>(sb.2 b hb).trans z) hd ?_;refine⟨by rw[cY O.ne];exact ho,?_,O.ne,O'.obj,_,O'.ns,λg=>?_,λg hg=>?_⟩
 ·have:=YL f y fs;lia
 ·show qY ((fP f y fs).lookup g) (if g=f then some u else mA g);rw[YK];by_cases q:g=f
  ·rw[if_pos q,if_pos q];exact ry
  ·rw[if_neg q,if_neg q];exact r g
 ·by_cases q:g=f
  ·rw[q];exact(Rr f y fs).1
  ·refine(Rr f y fs).2 g (wi g λz=>hg ?_);show (if g=f then some u else mA g)=none;rw[if_neg q];exact z
theorem Inv.made(I:Inv X ao Z H s):Inv X ao Z (upd (upd H s.heap.objs.size (.own (s.heap.objs.size+1))) (s.heap.objs.size+1) (.ins C s.heap.objs.size []))
  {s with heap:=(s.heap.push PySem.W.emptyDict).push (PySem.W.instObj C s.heap.objs.size)}:=by
 have e1:(s.heap.push PySem.W.emptyDict).get? s.heap.objs.size=some PySem.W.emptyDict:=fL s.heap rfl;have e2:((s.heap.push PySem.W.emptyDict).push (PySem.W.instObj C s.heap.objs.size)).get? (s.heap.objs.size+1)=some (PySem.W.instObj C s.heap.objs.size):=by
  have:=fL (s.heap.push PySem.W.emptyDict) (o:=PySem.W.instObj C s.heap.objs.size) rfl
  rwa [tZ] at this
 have e3:(s.heap.push PySem.W.emptyDict).Ns s.heap.objs.size (λ_=>none):=⟨PySem.W.emptyDict,#[],_,e1,rfl,(λe he=>absurd he Zaa),λ_=>rfl⟩;have I1:=I.laid (a:=s.heap.objs.size) (o:=.own (s.heap.objs.size+1)) (h':=s.heap.push PySem.W.emptyDict) (t':=s.toks) (λb u q=>cN _ q) (bK _) ⟨_,e1⟩;refine I1.laid (a:=s.heap.objs.size+1) (o:=.ins C s.heap.objs.size []) (t':=s.toks) (λb u q=>cN _ q) (Nat.le_of_eq (tZ _ _)) ?_;have ne:s.heap.objs.size≠s.heap.objs.size+1:=dX (LR _);refine⟨by rw[cY ne,iY],vX _,ne,e2,λ_=>none,(Heap.Ns1.of_empty e3).at λo q=>cN _ q,λ_=>True.intro,λy hy=>absurd rfl hy⟩
theorem zlp{prog:Program}{w:World}{env:Env}{e:Expr}{f:Str}{pos:Pos}{s:Shared}{Q:Value->Shared->Prop}(hb:attributeBase e f env (eval e env)=eval e env)
  (h:wpAny (model prog w) A (eval e env) (λo s₁=>wpAny (model prog w) A (getAttr o f true) Q E s₁) E s):wpAny (model prog w) A (eval (.Attribute e f pos) env) Q E s:=
 Attribute_any_ h (by rw[arm_eval_Attribute,hb])
end
noncomputable def Ru(K:W.Frag)(ta:TE)(f:Str):TE:=λZ H Q=>ta Z H λx H1=>∃a C dx fs v,x=.ref a/\H1 a=some (.ins C dx fs)/\Cls K C/\gU K C f/\fs.lookup f=some v/\Q v H1
noncomputable def Rw(K:W.Frag)(ta tv:TE)(f:Str):TS:=λD Z H=>tv Z H λy H1=>ta Z H1 λx H2=>∃a C dx fs,x=.ref a/\H2 a=some (.ins C dx fs)/\Cls K C/\gU K C f/\fs.length<1000 /\
 D.nx Z (upd H2 a (.ins C dx (fP f y fs)))
section
variable {X:Cx}{o e value:Expr}{f:Str}{pos pos' tpos:Pos}{ta tv:TE}
theorem zn9(he:PE X e ta)(hb:attributeBase e f X.env (eval e X.env)=eval e X.env):PE X (.Attribute e f pos) (Ru X.K ta f):=by
 intro ao s Z H Q I h;refine zlp hb (bA (he ao s Z H _ I h) λu s1 hz=>?_);obtain⟨x,H1,I1,rx,a,C,dx,fs,v,ex,ea,c,n,l,q⟩:=hz;subst ex;obtain rfl:u=Value.ref a:=rx;exact zfg I1 ea c n l λu' s2 I2 ru=>⟨v,H1,I2,ru,q⟩
theorem zmp(ha:PE X o ta)(hv:PE X value tv)(hs:swapsWith value (some (.Attribute o f pos')) pos.line X.env=pure false):PS X (.Assign [.Attribute o f pos'] value pos) (Rw X.K ta tv f):=by
 intro ao s Z H D I h;refine plainObj_wpAny_Assign_Attribute (bA (hv ao s Z H _ I h) λu s1 hx=>dY hx λy H1 I1 ry q=>bA (ha ao s1 Z H1 _ I1 q) λov s2 hz=>?_) hs;obtain⟨x,H2,I2,rx,a,C,dx,fs,ex,ea,c,n,l,q2⟩:=hz;subst ex;obtain rfl:ov=Value.ref a:=rx;exact zfw I2 ea c n l ry λs3 I3=>⟨Z,_,I3,q2⟩
end
structure bF(k:Nat)(A:Around):Prop where
 dp:A.depth+3*k+5<recursionLimit
 un:A.units+16*k+200<cLine
 gd:A.guards=some []
theorem bF.deeper{k:Nat}{A:Around}(r:bF (k+1) A)(env:Env):bF k (A.deeper env):=
 ⟨by have:=r.dp;show A.depth+1+3*k+5<_;lia,by have:=r.un;show A.units+3+16*k+200<_;lia,r.gd⟩
theorem zfx{A:Around}{C:Addr}{us:List Value}{kw:List (Str×Value)}:(A.under (.builtin "type.__call__" ⟨.ref C::us,kw⟩)).depth=A.depth+1:=by
 first|rfl|simp[Around.under,Code.weight,Code.isCreation,Code.isGuard,Code.isCaller,Code.frames,Code.isFrame,guardIds]
theorem zfr{A:Around}{C:Addr}{us:List Value}{kw:List (Str×Value)}:(A.under (.builtin "type.__call__" ⟨.ref C::us,kw⟩)).units=A.units+1:=by
 first|rfl|simp[Around.under,Code.cUnits,Code.frames,Code.isFrame]
theorem bF.depth{k:Nat}{A:Around}(r:bF k A):A.depth<recursionLimit:=by have:=r.dp;lia
noncomputable def Rx:TA:=λ_ H Q=>Q [] H
noncomputable def HW(ta:TE)(tr:TA):TA:=λZ H Q=>ta Z H λx H1=>tr Z H1 λxs H2=>Q (x::xs) H2
section
variable {X:Cx}{e:Expr}{es:List Expr}{te:TE}{t:TA}{pos:Pos}
theorem yV:PA X [] Rx:=λ_ _ _ _ H Q I h=>GJ ⟨[],H,I,.nil,h⟩
theorem uy(ha:PE X e te)(hr:PA X es t)(hs:starEach (e::es) X.env=(false,eval e X.env)::starEach es X.env:=by rfl):PA X (e::es) (HW te t):=by
 intro pos ao s Z H Q I h;rw[hs];show wpAny _ _ (spliced ((false,eval e X.env)::backTo pos (starEach es X.env))) _ _ s;refine Lx (bA (ha ao s Z H _ I h) λu s1 hx=>dY hx λx H1 I1 r1 q1=>?_);exact bA (hr pos ao s1 Z H1 _ I1 q1) λus s2 hx=>dY hx λxs H2 I2 r2 q2=>⟨x::xs,H2,I2,.cons r1 r2,q2⟩
noncomputable def Ry(t:TA):TE:=λZ H Q=>t Z H λxs H1=>xs.length<=sizeLine/\∀p,H1 p=none->Q (.ref p) (upd H1 p (.tup xs))
noncomputable def RB(t:TA):TE:=λZ H Q=>t Z H λxs H1=>xs.length<=sizeLine/\∀p,H1 p=none->Q (.ref p) (upd H1 p (.lst xs))
theorem zl2{x1}(h:PA X es t):PE X (.Tuple es x1 pos) (Ry t):=by
 intro ao s Z H Q I hq;refine wpAny_Tuple_spliced (bA (h pos ao s Z H _ I hq) λus s1 ⟨xs,H1,I1,r,z,q⟩=>⟨by rw[<-r.length];exact z,?_⟩);have hf:H1 s1.heap.objs.size=none:=I1.hok.fresh (bK _);refine⟨.ref s1.heap.objs.size,upd H1 s1.heap.objs.size (.tup xs),I1.laid (t':=s1.toks) (λb u e=>cN _ e) (bK _) ?_,rfl,q _ hf⟩;exact⟨z,us,r,⟨_,fL _ rfl,rfl,_,rfl,rfl⟩⟩
theorem zne(h:PA X es t):PE X (.List es pos) (RB t):=by
 intro ao s Z H Q I hq;refine wpAny_List_spliced (bA (h pos ao s Z H _ I hq) λus s1 ⟨xs,H1,I1,r,z,q⟩=>⟨by rw[<-r.length];exact z,?_⟩);have hf:H1 s1.heap.objs.size=none:=I1.hok.fresh (bK _);refine⟨.ref s1.heap.objs.size,upd H1 s1.heap.objs.size (.lst xs),I1.laid (t':=s1.toks) (λb u e=>cN _ e) (bK _) ?_,rfl,q _ hf⟩;exact⟨z,us,0,r,fL _ rfl⟩
end
noncomputable abbrev Sp:=List V->Hp->VK->XK->Prop
noncomputable abbrev rm:=List Env->Hp->Shared->XK->Value->Shared->Prop
structure pD(P:Program)(w:World)(K:W.Frag)(mg:Str->Option Value)(base:Heap)(A:Around)(outer:List Env)(s:Shared)(H:Hp):Prop where
 frames:A.frames=some outer
 mod:Mod K mg base
 bs:∀b o,base.get? b=some o->s.heap.get? b=some o/\H b=none
 wR:base.objs.size<=s.heap.objs.size
 jy:s.heap.FunFrames base outer
 Bg:∀b∈frs outer,H b=none
 hok:gR P w H s.heap
 bare:AllBare s.gens
def CE(outer:List Env)(P:Program)(w:World)(H:Hp)(s:Shared)(Q:VK)(u:Value)(s':Shared):Prop:=
 ∃v H',s'.os=s.os/\AllBare s'.gens/\Un (frs outer) [] H H' s.heap s'.heap/\gR P w H' s'.heap/\RelV v u/\Q v H'
def CR(CX:rm)(outer:List Env)(P:Program)(w:World)(H:Hp)(s:Shared)(Q:VK)(E:XK)(r:Result)(s':Shared):Prop:=
 match r with
 |.ok (.ret u)=>CE outer P w H s Q u s'
 |.ok _=>False
 |.error e=>CX outer H s E e s'
structure cC(P:Program)(w:World)(K:W.Frag)(mg:Str->Option Value)(base:Heap)(CX:rm)(cm:Bool)(k:Nat)(f:Addr)(fd:FuncData)(ps:List Str)(sp:Sp):Prop where
 len:∀vs H Q E,sp vs H Q E->vs.length=ps.length
 run:∀(A:Around) (outer:List Env) (s:Shared) (H:Hp) (args:Args) (us:List Value) (vs:List V) (Q:VK) (E:XK),(cm=true->A.handled=none)->bF k A->pD P w K mg base A outer s H->BindsTo s fd args (ps.zip us)->Vals vs us->sp vs H Q E->
  codeAny (model P w) A (.call (.ref f) args) (CR CX outer P w H s Q E) s
theorem cC.imp{P:Program}{w:World}{K:W.Frag}{mg:Str->Option Value}{base:Heap}{CX:rm}{cm:Bool}{k:Nat}{f:Addr}{fd:FuncData}{ps:List Str}{sp YM:Sp}(F:cC P w K mg base CX cm k f fd ps sp)
  (h:∀vs H Q E,YM vs H Q E->sp vs H Q E):cC P w K mg base CX cm k f fd ps YM:=
 ⟨λvs H Q E q=>F.len vs H Q E (h _ _ _ _ q),λA outer s H args us vs Q E jz hr he hb hv hs=>F.run A outer s H args us vs Q E jz hr he hb hv (h _ _ _ _ hs)⟩
theorem pD.make{P:Program}{w:World}{K:W.Frag}{mg:Str->Option Value}{base:Heap}{A:Around}{outer:List Env}{s:Shared}{H:Hp}(e:pD P w K mg base A outer s H)(C:Addr)(us:List Value)(kw:List (Str×Value)) :
  pD P w K mg base (A.under (.builtin "type.__call__" ⟨.ref C::us,kw⟩)) outer s H:=⟨by first|exact e.frames|(simpa [Around.under,Code.envs,Code.isFrame,pushEnvs] using e.frames),e.mod,e.bs,e.wR,e.jy,e.Bg,e.hok,e.bare⟩
section
variable {X:Cx}{ao:List (Addr×Obj)}{Z:St}{H:Hp}{s s':Shared}
theorem Inv.env0(I:Inv X ao Z H s):pD X.prog X.w X.K X.mg X.base X.A X.stack s H:=
 ⟨I.ok.frames,I.ok.mod,I.bs,jo I.ok.wR I.sz,I.stack,I.jF,I.hok,I.bare⟩
theorem Inv.after{Q:VK}{u:Value}(I:Inv X ao Z H s)(h:CE X.stack X.prog X.w H s Q u s'):EP X ao Z Q u s':=by
 obtain⟨v,H',os,bare,un,hok,r,q⟩:=h;obtain⟨hh,g,d,t,os'⟩:=s';obtain rfl:os'=s.os:=os;exact⟨v,H',I.call (h':=hh) (g':=g) (d':=d) (t':=t) (ch:=[]) un hok bare (λb z=>absurd z Zaa),r,q⟩
end
noncomputable def HX(C:Addr)(m:Str)(sp:Sp)(oh:List V)(E:XK)(ta:TE)(t:TA):TE:=λZ H Q=>ta Z H λx H1=>∃a dx fs,x=.ref a/\H1 a=some (.ins C dx fs)/\fs.lookup m=none /\
 t Z H1 λvs H2=>sp (x::(vs++oh)) H2 Q E
noncomputable def HY(C:Addr)(sp:Sp)(oh:List V)(E:XK)(t:TA):TE:=λZ H Q=>t Z H λvs H1=>∀x dx,H1 x=none->H1 dx=none->dx≠x->
 sp (.ref x::(vs++oh)) (upd (upd H1 dx (.own x)) x (.ins C dx [])) (λv H2=>v=.non/\Q (.ref x) H2) E
def Binds(K:W.Frag)(fd:FuncData)(ps:List Str)(ds:List Value):Prop:=
 ∀(s:Shared) (us:List Value),K.In s.heap->(us++ds).length=ps.length->BindsTo s fd ⟨us,[]⟩ (ps.zip (us++ds))
theorem Binds.all{K:W.Frag}{fd:FuncData}{ps:List Str}(h:∀us:List Value,us.length=ps.length->bindArgs fd ⟨us,[]⟩=pure (ps.zip us)):Binds K fd ps []:=λs us _ hl=>by
 rw[wK] at hl ⊢;exact .of_eq (h us hl)
def Passes(CX:rm)(X:Cx)(E:XK):Prop:=∀(ao:List (Addr×Obj)) (Z:St) (H:Hp) (s:Shared) (e:Value) (s':Shared),Inv X ao Z H s->CX X.stack H s E e s'->X.xe e s'
section
variable {X:Cx}{CX:rm}{cm:Bool}{k:Nat}{f C:Addr}{fd:FuncData}{ps:List Str}{sp:Sp}{oh:List V}{ds:List Value}{E:XK}{x m:Str}{p pos apos:Pos}{e o:Expr}{es:List Expr}{ta:TE}{t:TA}
theorem znv{ao:List (Addr×Obj)}{Z:St}{H:Hp}{s:Shared}{Q:VK}{us:List Value}{vs:List V}(F:cC X.prog X.w X.K X.mg X.base CX cm k f fd ps sp)(jz:cm=true->X.aj=true)(hr:bF k X.A)(hb:Binds X.K fd ps ds)(hd:Vals oh ds)(hx:Passes CX X E)
  (I:Inv X ao Z H s) (r:Vals vs us) (h:sp (vs++oh) H Q E):wpAny (model X.prog X.w) X.A (call (.ref f) us) (EP X ao Z Q) X.xe s:=by
 have r2:Vals (vs++oh) (us++ds):=r.append hd;have hl:(us++ds).length=ps.length:=by rw[<-r2.length];exact F.len _ _ _ _ h
 refine wpAny_call (El (F.run X.A X.stack s H ⟨us,[]⟩ (us++ds) (vs++oh) Q E (λz=>I.ok.hd (jz z)) hr I.env0 (hb s us I.nZ hl) r2 h) λr s' hq=>?_);cases r with
 |error e=>exact hx ao Z H s e s' I hq
 |ok fl=>
  cases fl with
  |ret u=>exact I.after hq
  |next=>exact False.elim hq
  |brk=>exact False.elim hq
  |cont=>exact False.elim hq
theorem zk3{pl:Sem Bool}(he:PE X o ta)(c:Cls X.K C)(hm:Meth X.K C m f)(F:cC X.prog X.w X.K X.mg X.base CX cm k f fd ps sp)(jz:cm=true->X.aj=true)(hr:bF k X.A)(hb:Binds X.K fd ps ds)(hd:Vals oh ds)(hx:Passes CX X E)(ha:PA X (e::es) t)
  (oY:starEach (e::es) X.env=(false,eval e X.env)::starEach es X.env:=by rfl) (hpl:(backTo pos (starEach es X.env)).any (·.1)=false:=by rfl)
  (ht:eval (.Call (.Attribute o m apos) (e::es) [] pos) X.env=(do
   let ov <-eval o X.env
   standAt apos.atName
   let (f,first) <-holding [ov] (getMethod ov m pl)
   callWith pos f first (backTo pos (starEach (e::es) X.env)) (backToKw pos (keywordEach [] X.env))):=by rfl) :
  PE X (.Call (.Attribute o m apos) (e::es) [] pos) (HX C m sp oh E ta t):=by
 intro ao s Z H Q I h;refine PySem.W.methodCall_KW (pl:=pl) (bA (he ao s Z H _ I h) λu s1 hz=>?_) ht;obtain⟨x,H1,I1,rx,a,dx,fs,ex,ea,l,q⟩:=hz;subst ex;obtain rfl:u=Value.ref a:=rx;refine zfy I1 ea c hm l ?_;refine Qx (first:=[.ref a]) (h₀:=X.base) I.ok.mod.wN hm.kp (bA (ha pos ao s1 Z H1 _ I1 q) λus s2 ⟨vs,H2,I2,r,q2⟩=>⟨I2.nZ,?_⟩) oY hpl;exact znv (us:=.ref a::us) (vs:=.ref a::vs) F jz hr hb hd hx I2 (.cons rfl r) q2
structure Mk(K:W.Frag)(C f:Addr):Prop where
 makes:PySem.W.makesIn K C=true
 init:PySem.W.findIn K (.ref C) "__init__"=some (some (.ref f))
 fn:PySem.W.isFn K (.ref f)=true
 kp:PySem.W.keepIn K (.ref C)=true
theorem ziq{ao:List (Addr×Obj)}{Z:St}{H:Hp}{s:Shared}{Q:VK}{us:List Value}{vs:List V}(M:Mk X.K C f)(F:cC X.prog X.w X.K X.mg X.base CX cm k f fd ps sp)(jz:cm=true->X.aj=true)(hr:∀us,bF k (X.A.under (.builtin "type.__call__" ⟨.ref C::us,[]⟩)))(hb:Binds X.K fd ps ds)(hd:Vals oh ds)
  (hx:Passes CX X E) (I:Inv X ao Z H s) (r:Vals vs us)
  (h:∀x dx,H x=none->H dx=none->dx≠x->sp (.ref x::(vs++oh)) (upd (upd H dx (.own x)) x (.ins C dx [])) (λv H2=>v=.non/\Q (.ref x) H2) E) :
  wpAny (model X.prog X.w) X.A (call (.ref C) us) (EP X ao Z Q) X.xe s:=by
 have hq:=h (s.heap.objs.size+1) s.heap.objs.size (I.hok.fresh (Ep _)) (I.hok.fresh (bK _)) (dX (LR _));have I2:=Inv.made (C:=C) I;have r2:Vals (V.ref (s.heap.objs.size+1)::(vs++oh)) (Value.ref (s.heap.objs.size+1)::(us++ds)):=.cons rfl (r.append hd);have hl:(Value.ref (s.heap.objs.size+1)::us++ds).length=ps.length:=by
  have e:=r2.length;rw[F.len _ _ _ _ hq] at e;exact e.symm
 refine wpAny_call (zhW (f:=f) I.nZ M.makes M.init (nR.mp M.fn) (El (F.run _ X.stack _ _ ⟨Value.ref (s.heap.objs.size+1)::us,[]⟩ (Value.ref (s.heap.objs.size+1)::(us++ds)) _ _ E (λz=>I.ok.hd (jz z)) (hr us)
  (I2.env0.make C us []) (hb _ (Value.ref (s.heap.objs.size+1)::us) I2.nZ hl) r2 hq) λr s' H_=>?_))
 cases r with
 |error e=>exact hx ao Z _ _ e s' I2 H_
 |ok fl=>
  cases fl with
  |ret u=>
   obtain⟨v,H',I3,rv,ev,q3⟩:=I2.after H_;subst ev;exact⟨rv,⟨V.ref (s.heap.objs.size+1),H',I3,rfl,q3⟩⟩
  |next=>exact False.elim H_
  |brk=>exact False.elim H_
  |cont=>exact False.elim H_
theorem zkj(M:Mk X.K C f)(F:cC X.prog X.w X.K X.mg X.base CX cm k f fd ps sp)(jz:cm=true->X.aj=true)(hr:∀us,bF k (X.A.under (.builtin "type.__call__" ⟨.ref C::us,[]⟩)))(hg:Gl X x)(hm:X.mg x=some (.ref C))(hb:Binds X.K fd ps ds)(hd:Vals oh ds)(hx:Passes CX X E)
  (ha:PA X (e::es) t) (k_:(x==("__debug__" : Str))=false:=by decide) (he:starEach (e::es) X.env=(false,eval e X.env)::starEach es X.env:=by rfl) (hpl:(backTo pos (starEach es X.env)).any (·.1)=false:=by rfl) :
  PE X (.Call (.Name x p) (e::es) [] pos) (HY C sp oh E t):=by
 intro ao s Z H Q I h;refine yI (Hs I hg hm ?_ k_);refine Qx (h₀:=X.base) I.ok.mod.wN M.kp (bA (ha pos ao s Z H _ I h) λus s1 ⟨vs,H1,I1,r,q⟩=>⟨I1.nZ,?_⟩) he hpl;exact ziq M F jz hr hb hd hx I1 r q
end
structure cZ(N P:List Str)(sc:Scope):Prop where
 kind:sc.kind=.function
 co:sc.isCoroutine=false
 gen:sc.isGenerator=false
 nd:N.Nodup
 pre:N.take P.length=P
 par:∀x∈P,sc.names.lookup x=some .local\/sc.names.lookup x=some .cell
 Bu:∀y∈sc.names,y.2≠.free
theorem YQ{kindOf:Str->Option NameKind}{x:Str}:∀{binds:List (Str×Value)} {m:Str->Option Value},(∀v,(x,v)∉binds)->bindL kindOf binds m x=m x
 |[],_,_=>rfl
 |(n,v)::r,m,h=>by
  unfold bindL;rw[YQ λw hw=>h w (g_ _ hw)]
  split
  ·have:x≠n:=by rintro rfl;exact h v kJ
   simp[this]
  ·rfl
theorem YS{kindOf:Str->Option NameKind}{x:Str}:∀{binds:List (Str×Value)} {m:Str->Option Value},(∀v,(x,v)∉binds)->bindC kindOf binds m x=m x
 |[],_,_=>rfl
 |(n,v)::r,m,h=>by
  unfold bindC;rw[YS λw hw=>h w (g_ _ hw)]
  split
  ·rfl
  ·have:x≠n:=by rintro rfl;exact h v kJ
   simp[this]
theorem YT{kindOf:Str->Option NameKind}{x:Str}{v:Value}:∀{P:List Str} {vs:List Value} {i:Nat} {m:Str->Option Value},P.Nodup->P[i]?=some x->vs[i]?=some v->kindOf x=some .local->
  bindL kindOf (P.zip vs) m x=some v
 |[],_,_,_,_,h,_,_=>by simp at h
 |_::_,[],_,_,_,_,h,_=>by simp at h
 |p::P,w::vs,0,m,nd,h1,h2,hk=>by
  simp at h1 h2;subst h1;subst h2;show bindL kindOf ((p,w)::P.zip vs) m p=_;unfold bindL;rw[YQ λv hv=>(yN.mp nd).1 (List.of_mem_zip hv).1,if_pos hk];simp
 |p::P,w::vs,i+1,m,nd,h1,h2,hk=>by
  show bindL kindOf ((p,w)::P.zip vs) m x=_;unfold bindL;exact YT (i:=i) (yN.mp nd).2 (by simpa using h1) (by simpa using h2) hk
theorem YW{kindOf:Str->Option NameKind}{x:Str}{v:Value}:∀{P:List Str} {vs:List Value} {i:Nat} {m:Str->Option Value},P.Nodup->P[i]?=some x->vs[i]?=some v->kindOf x≠some .local->
  bindC kindOf (P.zip vs) m x=some v
 |[],_,_,_,_,h,_,_=>by simp at h
 |_::_,[],_,_,_,_,h,_=>by simp at h
 |p::P,w::vs,0,m,nd,h1,h2,hk=>by
  simp at h1 h2;subst h1;subst h2;show bindC kindOf ((p,w)::P.zip vs) m p=_;unfold bindC;rw[YS λv hv=>(yN.mp nd).1 (List.of_mem_zip hv).1,if_neg hk];simp
 |p::P,w::vs,i+1,m,nd,h1,h2,hk=>by
  show bindC kindOf ((p,w)::P.zip vs) m x=_;unfold bindC;exact YW (i:=i) (yN.mp nd).2 (by simpa using h1) (by simpa using h2) hk
noncomputable def start(N:List Str)(vs:List V):St:=vs.map some++List.replicate (N.length-vs.length) none
noncomputable def gG(CX:rm)(P:Program)(w:World)(K:W.Frag)(mg:Str->Option Value)(base:Heap)(N:List Str)(qual:Str)(scope:Scope)(f:Addr)(cd:Value)(A:Around)(outer:List Env)(s:Shared)(H:Hp)(E:XK)(cm:Bool):Cx where
 prog:=P
 w:=w
 K:=K
 mg:=mg
 base:=base
 A:=A.deeper (envOfC qual scope s.heap.objs.size f cd)
 N:=N
 s₀:=s
 H₀:=H
 env:=envOfC qual scope s.heap.objs.size f cd
 outer:=outer
 stack:=envOfC qual scope s.heap.objs.size f cd::outer
 ex:=[]
 aj:=cm
 fn:=λ_=>true
 pn:=[]
 xe:=λe s'=>wpAny (model P w) (A.deeper (envOfC qual scope s.heap.objs.size f cd)) (leaving (envOfC qual scope s.heap.objs.size f cd) e) (λ_ s''=>CX outer H s E e s'') (λe' s''=>CX outer H s E e' s'') s'
theorem YX{sc:Scope}{n:Nat}{x:Str}(h:sc.names.lookup x=some .cell):∃c,(cellsFrom n sc.names []).lookup x=some c:=by
 have q:=Qk sc.names n [] (.inl h);exact Qe.mp q
theorem zgf{CX:rm}{P:Program}{w:World}{K:W.Frag}{mg:Str->Option Value}{base:Heap}{N ps:List Str}{qual:Str}{scope:Scope}{f:Addr}{cd:Value}{A:Around}{outer:List Env}{s s1:Shared}{H:Hp}{E:XK}{us:List Value}{vs:List V}
  {cm:Bool} (S:cZ N ps scope) (hd:cm=true->A.handled=none) (e0:pD P w K mg base A outer s H) (hl:vs.length=ps.length) (r:Vals vs us)
  (x:InCallC s s.heap.objs.size (bindL (envOfC qual scope s.heap.objs.size f cd).kindOf (ps.zip us) λ_=>none) (cellsFrom (s.heap.objs.size+1) scope.names []) (bindC (envOfC qual scope s.heap.objs.size f cd).kindOf (ps.zip us) λ_=>none) s1) :
  Inv (gG CX P w K mg base N qual scope f cd A outer s H E cm) [] (start N vs) H s1:=by
 have hpl:ps.length<=N.length:=by have:=mj List.length S.pre;rw[vU] at this;lia
 obtain⟨h1,tk,rfl,hk⟩:=x.done;have Ia:∀b:Addr,b∉(gG CX P w K mg base N qual scope f cd A outer s H E cm).ex:=λb z=>absurd (show b∈([]:List Addr) from z) Zaa;refine⟨⟨e0.mod,S.kind,rfl,rfl,bK _,λy z c h1 h2=>?_,λy hy=>?_,λy c _ h=>?_,hd,Around.frames_deeper e0.frames,.inr ⟨rfl,rfl⟩,λb z=>absurd z (Ia b),e0.bs,e0.wR,λb _ _=>Ia b,λb z=>absurd z (Ia b),e0.jy,e0.Bg⟩,
  rfl,e0.bare,Un.kept hk,⟨_,x.toInCall.ns,λi y v h1 h2 h3=>?_⟩,λy c h=>⟨_,x.cell y c h⟩,e0.hok.fresh (bK _),λy c h=>?_,λp hp=>absurd (show p∈([]:List (Addr×Obj)) from hp) Zaa,e0.hok.kept hk,?_⟩
 ·exact name_of_addr x.apart (DP h1) (DP h2)
 ·have hy:scope.names.lookup y=some .cell\/scope.names.lookup y=some .free:=hy;rcases hy with hy|hy
  ·exact YX hy
  ·exact absurd rfl (S.Bu _ (DP hy))
 ·exact yO (x.above y c (DP h))
 ·have hi:i<vs.length:=by
   unfold start at h2;by_cases hi:i<vs.length
   ·exact hi
   ·rw[nF (by simpa using hi)] at h2;rw[Ad] at h2;split at h2<;>cases h2
  have ha:vs[i]?=some v:=by
   unfold start at h2;rw[lD (by simpa using hi),gC] at h2;cases e:vs[i]? with
   |none=>rw[e] at h2;cases h2
   |some a=>rw[e] at h2;cases h2;rfl
  obtain⟨u,hu,rv⟩:=r.get ha;have hp:ps[i]?=some y:=by
   rw[<-S.pre,List.getElem?_take_of_lt gV];exact h1
  have YZ:ps.Nodup:=by rw[<-S.pre];exact S.nd.sublist (List.take_sublist _ _)
  refine⟨u,rv,?_⟩;rcases S.par y (fK hp) with k|k
  ·exact .inl ⟨k,YT YZ hp hu k⟩
  ·obtain⟨c,e⟩:=YX (n:=s.heap.objs.size+1) k;refine .inr ⟨.inl k,c,e,?_⟩;have q:=x.cell y c e;rw[YW YZ hp hu (by show scope.names.lookup y≠_;rw[k];decide)] at q;exact q
 ·exact e0.hok.fresh (yO (x.above y c (DP h)))
 ·unfold start;show _=N.length;rw[h_,bI,DG]
  lia
theorem Y0{CX:rm}{cm:Bool}{P:Program}{w:World}{K:W.Frag}{mg:Str->Option Value}{base:Heap}{k:Nat}{f:Addr}{name qual:Str}{params:Arguments}{body:List Stmt}{scope:Scope}{dV kV doc pm cdv ct oc:Value}{an od:Option Addr}
  {osl:Array (Option Value)} {N ps:List Str} {sp:Sp} (lk:K.lookup f=some ⟨oc,od,.func (PySem.W.fnOf name qual params body scope dV kV doc pm an cdv ct),osl⟩) (kW:PySem.W.codeIn K cdv qual=true) (S:cZ N ps scope)
  (len:∀vs H Q E,sp vs H Q E->vs.length=ps.length)
  (Ib:∀(A:Around) (outer:List Env) (s:Shared) (H:Hp) (vs:List V) (Q:VK) (E:XK),bF (k+1) A->sp vs H Q E->
   ∃t,oX (gG CX P w K mg base N qual scope f cdv A outer s H E cm) body t/\t {nx:=λ_ H'=>Q .non H',rt:=Q} (start N vs) H) :
  cC P w K mg base CX cm (k+1) f (PySem.W.fnOf name qual params body scope dV kV doc pm an cdv ct) ps sp:=by
 refine⟨len,λA outer s H args us vs Q E jz hr e0 hb r pF=>?_⟩;have hl:=len _ _ _ _ pF;have KX:K.In s.heap:=e0.mod.wN.keeps λb o e=>(e0.bs b o e).1;have lim:s.heap.NoLimit:=e0.mod.nolimit.keeps λb o e=>(e0.bs b o e).1;have Ie:∀y∈ps.zip us,scope.names.lookup y.1=some .local\/(scope.names.lookup y.1=some .cell/\((cellsFrom (s.heap.objs.size+1) scope.names []).lookup y.1).isSome=true):=λ⟨n,v⟩ hy=>by
  rcases S.par n (List.of_mem_zip hy).1 with q|q
  ·exact .inl q
  ·exact .inr ⟨q,Qk _ _ _ (.inl q)⟩
 refine codeAny_call_function hr.depth (KX _ _ lk) rfl S.co S.gen rfl (PySem.W.codeRec_of KX kW) (hb _ _ _ _ ?_);refine wpAny_newFunctionEnv_cells S.kind Ie λenv he s1 x=>?_;subst he;refine⟨lim.keeps x.toInCall.keep,codeAny_func ?_⟩;obtain⟨t,ht,hq⟩:=Ib A outer s H vs Q E hr pF;have I:Inv (gG CX P w K mg base N qual scope f cdv A outer s H E cm) [] (start N vs) H s1:=zgf S jz e0 hl r x;refine lH (ht [] s1 (start N vs) H _ I hq) (λfl s' hs=>?_) λe s' hs=>hs;have fin:∀{Z':St} {H':Hp} {v:V} {u:Value},Inv (gG CX P w K mg base N qual scope f cdv A outer s H E cm) [] Z' H' s'->RelV v u->Q v H'->CE outer P w H s Q u s':=
  λ{Z' H' v u} bO rv q=>⟨v,H',bO.os,bO.bare,bO.base,bO.hok,rv,q⟩
 cases fl with
 |ret u=>
  obtain⟨v,Z',H',bO,rv,q⟩:=hs;exact fin bO rv q
 |next=>
  obtain⟨Z',H',bO,q⟩:=hs;exact fin (v:=V.non) (u:=Value.none) bO rfl q
 |brk=>
  obtain⟨_,_,_,q⟩:=hs;exact False.elim q
 |cont=>
  obtain⟨_,_,_,q⟩:=hs;exact False.elim q
section
variable {X:Cx}{x:Str}{p pos:Pos}{e:Expr}{es:List Expr}{t:TA}{id T:String}{r:List V->Hp->VK->Prop}
noncomputable def M7(r:List V->Hp->VK->Prop)(t:TA):TE:=λZ H Q=>t Z H λvs H1=>r vs H1 Q
theorem Y4(hc:cU X (.builtin id) r)(hg:Gl X x)(hm:X.mg x=none)(hv:bootBuiltins x=some (.builtin id))(ha:PA X (e::es) t)(hn:x≠"__name__":=by decide)(k_:(x==("__debug__" : Str))=false:=by decide)
  (he:starEach (e::es) X.env=(false,eval e X.env)::starEach es X.env:=by rfl) (hpl:(backTo pos (starEach es X.env)).any (·.1)=false:=by rfl):PE X (.Call (.Name x p) (e::es) [] pos) (M7 r t):=by
 intro ao s Z H Q I h;refine yI (qZ I hg hm hv ?_ hn k_);exact PyProof.Rows.callWith_builtin1 (bA (ha pos ao s Z H _ I h) λus s1 hx=>dY hx λvs H1 I1 r1 q1=>hc ao s1 Z H1 vs us Q I1 r1 q1) he hpl
theorem zf1(hc:cU X (.type T) r)(hg:Gl X x)(hm:X.mg x=none)(hv:bootBuiltins x=some (.type T))(ha:PA X (e::es) t)(hn:x≠"__name__":=by decide)(k_:(x==("__debug__" : Str))=false:=by decide)
  (he:starEach (e::es) X.env=(false,eval e X.env)::starEach es X.env:=by rfl) (hpl:(backTo pos (starEach es X.env)).any (·.1)=false:=by rfl):PE X (.Call (.Name x p) (e::es) [] pos) (M7 r t):=by
 intro ao s Z H Q I h;refine yI (qZ I hg hm hv ?_ hn k_);exact tV (bA (ha pos ao s Z H _ I h) λus s1 hx=>dY hx λvs H1 I1 r1 q1=>hc ao s1 Z H1 vs us Q I1 r1 q1) he hpl
end
end L2
namespace HT
open PySem PyProof.Rows
noncomputable def lexLt:List Int->List Int->Bool
 |[],[]=>false
 |[],_::_=>true
 |_::_,[]=>false
 |x::xs,y::ys=>if x=y then lexLt xs ys else decide (x<y)
theorem jU(x y:Int)(xs ys:List Int):lexLt (x::xs) (y::ys)=if x=y then lexLt xs ys else decide (x<y):=rfl
theorem zcM:lexLt [] []=false:=rfl
theorem zck(y:Int)(ys:List Int):lexLt [] (y::ys)=true:=rfl
theorem zcj(x:Int)(xs:List Int):lexLt (x::xs) []=false:=rfl
theorem ziH(A:Around)(s:Shared)(a:Int)(t:Tok)(c:Int)(u:Tok):∃e,SeqAt.EqAt A s (.int a t) (.int c u) e/\(e=true↔a=c):=
 ⟨(a==c),SeqAt.EqAt.int_int a t c u,by simp⟩
theorem ziI(A:Around)(s:Shared)(a:Int)(t:Tok)(c:Int)(u:Tok)(prog:Program)(w:World)(E:Value->Shared->Prop)(Q:Value->Shared->Prop)(h:Q (.bool (decide (a<c))) s) :
  wpAny (model prog w) A (richCompare .Lt (.int a t) (.int c u)) Q E s:=
 (PyProof.Rows.lt_int h:wpAny (model prog w) A (compareOp .Lt (.int a t) (.int c u)) Q E s)
section
open PySem.SeqAt
open PySem.AutoSeq1 (wpAny_loadPart')
open PySem.MeetsSeq PySem.MeetsSeq2 PySem.MeetsSeq3
theorem zcJ(l b:Addr)(items items2:Array Value)(n n2:Nat)(dd dd2:Option Addr)(sl sl2:Array (Option Value))(ns ms:List Int)(hi:IntsAre items.toList ns)(hj:IntsAre items2.toList ms) :
  Meets (Builtin.«tuple.__lt__» ⟨[.ref l,.ref b],[]⟩)
   (λ_ R s=>s.heap.get? l=some {cls:=.type "tuple",dict:=dd,data:=.seq items n,slots:=sl}/\s.heap.get? b=some {cls:=.type "tuple",dict:=dd2,data:=.seq items2 n2,slots:=sl2} /\
    R (.ok (.ret (.bool (lexLt ns ms)))) s):=
 .of_wp λprog w A R s h=>by
  obtain⟨hp,g,d,tk,os⟩:=s;obtain⟨hl,hb,h⟩:=h;have f2:=AutoSeq1.sub_tuple_tuple;have z1:items.size=ns.length:=by rw[<-hi.length];simp
  have z2:items2.size=ms.length:=by rw[<-hj.length];simp
  wp_walk using wpAny_loadPart' hl,wpAny_loadPart' hb,wpAny_forIn_list _ (λrest b s'=>b.1=none/\s'=⟨hp,g,d,tk,os⟩/\∃(vs ws:List Value) (ns' Fd:List Int),rest=vs.zip ws /\
   IntsAre vs ns'/\IntsAre ws Fd/\ns'.length+items2.size=Fd.length+items.size/\R (.ok (.ret (.bool (lexLt ns' Fd)))) ⟨hp,g,d,tk,os⟩) _
  case turn=>
   rintro⟨y,x⟩ rest b s' ⟨hb',rfl,vs,ws,ns',Fd,hz,RD,M8,hlen,hR⟩;cases RD with
   |nil=>rw[List.zip_nil_left] at hz;cases hz
   |cons a t RG=>
    cases M8 with
    |nil=>rw[List.zip_nil_right] at hz;cases hz
    |cons c u RJ=>
     rw[GC] at hz;injection hz with hyx Ig;injection hyx with hy hx;subst hy hx;rw[jU] at hR;simp only[gD] at hlen;obtain⟨e,he,Ih⟩:=ziH A.in1 ⟨hp,g,d,tk,os⟩ a t c u;refine aB (he prog w _ _ ?_);cases e with
     |true=>
      rw[if_pos (Ih.mp rfl)] at hR
      wp_walk
      exact⟨rfl,rfl,_,_,_,_,Ig,RG,RJ,by lia,hR⟩
     |false=>
      rw[if_neg (λq=>absurd (Ih.mpr q) Lw)] at hR;have hri:=ziI A.in1 ⟨hp,g,d,tk,os⟩ a t c u prog w
      wp_walk using hri
      exact⟨_,rfl,by simpa using hR⟩
  case fin=>
   rintro⟨b1,b2⟩ s' ⟨hb',rfl,vs,ws,ns',Fd,hz,RD,M8,hlen,hR⟩;simp only at hb';subst hb';have hv:lexLt ns' Fd=decide (items.size<items2.size):=by
    cases RD with
    |nil=>
     cases M8 with
     |nil=>
      simp only[Ao] at hlen;rw[zcM];exact(gQ gV).symm
     |cons c u hw=>
      simp only[Ao,gD] at hlen;rw[zck];exact(dB gV).symm
    |cons a t hv=>
     cases M8 with
     |nil=>
      simp only[Ao,gD] at hlen;rw[zcj];exact(gQ gV).symm
     |cons c u hw=>
      rw[GC] at hz;cases hz
   rw[hv] at hR
   wp_walk
   exact⟨_,rfl,by simpa [Builtin.Tuple.tupleCompareSizes] using hR⟩
  case h=>
   exact⟨rfl,rfl,items.toList,items2.toList,ns,ms,rfl,hi,hj,by lia,h⟩
end
section
variable {prog:Program}{w:World}{A:Around}{E:Value->Shared->Prop}{s:Shared}
theorem jV{l b:Addr}{items items2:Array Value}{ns ms:List Int}{Q:Value->Shared->Prop}(hl:IsTup s.heap l items)(hb:IsTup s.heap b items2)(hi:IntsAre items.toList ns)(hj:IntsAre items2.toList ms)
  (hu:A.units<cLine) (h:Q (.bool (lexLt ns ms)) s):wpAny (model prog w) A (compareOp .Lt (.ref l) (.ref b)) Q E s:=by
 obtain⟨⟨cls,dd,data,sl⟩,ho,hc,n,hd⟩:=id hl;obtain⟨⟨cls2,dd2,data2,sl2⟩,pG,qw,n2,hd2⟩:=id hb;simp only at hc hd qw hd2;subst hc hd qw hd2;exact richCompare_meets_room (op:=.Lt) ⟨_,ho,rfl⟩ ⟨_,pG,rfl⟩ PySem.F.slot_tuple_lt PySem.F.entry_tuple_lt (PySem.F.args_tuple_lt_2 _ _) (zcJ l b items items2 n n2 dd dd2 sl sl2 ns ms hi hj)
  ⟨ho,pG,show Value.bool (lexLt ns ms)≠Value.notImplemented/\Q (.bool (lexLt ns ms)) s from ⟨(λx=>nomatch x),h⟩⟩ hu
theorem w6{t b:Addr}{vs ws:List Value}{Q:Value->Shared->Prop}(ht:IsTup s.heap t vs.toArray)(hb:IsTup s.heap b ws.toArray)(hv:vs≠[])
  (h1:ws=[]->Q (.ref t) s) (h2:ws≠[]->Q (.ref s.heap.objs.size) {s with heap:=s.heap.push {cls:=.type "tuple",data:=.seq (vs++ws).toArray}})
  (hsz:vs.length+ws.length<=sizeLine):wpAny (model prog w) A (binaryOp .Add (.ref t) (.ref b)) Q E s:=by
 obtain⟨⟨cls,dd,data,sl⟩,ho,hc,n,hd⟩:=id ht;obtain⟨⟨cls2,dd2,data2,sl2⟩,pG,qw,n2,hd2⟩:=id hb;simp only at hc hd qw hd2;subst hc hd qw hd2;have e:vs.toArray++ws.toArray=(vs++ws).toArray:=by simp
 by_cases hw:ws=[]
 ·exact concat_meets ⟨_,ho,rfl⟩ ⟨_,pG,rfl⟩ noFill_tuple_add seq_tuple_add Ql Qh (Qf _ _)
   (tuple_addW1 t b vs.toArray ws.toArray n n2 dd dd2 sl sl2 (by simpa using hv) (by simp[hw])) ⟨ho,pG,h1 hw⟩
 ·refine concat_meets ⟨_,ho,rfl⟩ ⟨_,pG,rfl⟩ noFill_tuple_add seq_tuple_add Ql Qh (Qf _ _)
   (tuple_addW2 t b vs.toArray ws.toArray n n2 dd dd2 sl sl2 (by simpa using hv) (by simpa using hw) (by rw[fQ,fQ];exact hsz)) ⟨ho,pG,?_⟩
  rw[e];exact h2 hw
noncomputable def bQ(n d:Nat):Option Int->Nat
 |none=>d
 |some v=>if v<0 then (v+(n:Int)).toNat else min v.toNat n
theorem jW(n d:Nat):bQ n d none=d:=rfl
theorem mK(n d k:Nat):bQ n d (some (k:Int))=min k n:=by
 show (if (k:Int)<0 then ((k:Int)+(n:Int)).toNat else min (k:Int).toNat n)=min k n;rw[if_neg gV,oV]
theorem zly(n d:Nat)(hd:d<=n)(o:Option Int):bQ n d o<=n:=by
 cases o with
 |none=>exact hd
 |some v=>
  show (if v<0 then (v+(n:Int)).toNat else min v.toNat n)<=n;by_cases hv:v<0
  ·rw[if_pos hv];lia
  ·rw[if_neg hv];exact Nat.min_le_right _ _
theorem Y5(v:Int)(n d:Nat):(if v<0 then max (v+(n:Int)) 0 else min v (n:Int))=((bQ n d (some v):Nat):Int):=by
 show (if v<0 then max (v+(n:Int)) 0 else min v (n:Int))=(((if v<0 then (v+(n:Int)).toNat else min v.toNat n):Nat):Int);by_cases hv:v<0
 ·simp only[if_pos hv];lia
 ·simp only[if_neg hv];lia
theorem zfj(lo hi:Option Int)(n:Nat):Builtin.Slice.sliceAdjust lo hi 1 (n:Int)=(((bQ n 0 lo:Nat):Int),((bQ n n hi:Nat):Int)):=by
 have h1:¬((1:Int)<0):=by lia
 unfold Builtin.Slice.sliceAdjust;simp only[h1,sZ];refine Prod.ext ?_ ?_
 ·cases lo with
  |none=>rfl
  |some v=>exact Y5 v n 0
 ·cases hi with
  |none=>rfl
  |some v=>exact Y5 v n n
theorem zfB(i j:Nat):Builtin.Slice.slicePlaces (i:Int) (j:Int) 1=j-i:=by
 unfold Builtin.Slice.slicePlaces;have h1:(1:Int)>0:=by lia
 simp only[h1,if_true,Int.ediv_one]
 split<;>lia
theorem Y6{v:Value}{o:Option Int}{Q:Option Int->Shared->Prop}(p:IsPart v o)(h:Q o s):wpAny (model prog w) A (Builtin.Slice.slicePartIndex v) Q E s:=by
 cases p with
 |none=>exact slicePart_none h
 |int i t=>exact slicePart_int h
theorem Y7{sl:Addr}{vl vu:Value}{lo hi:Option Int}{n:Nat}{Q:Int×Int×Nat->Shared->Prop}(hs:s.heap.IsSliceOf sl vl vu .none)(pl:IsPart vl lo)(pu:IsPart vu hi)
  (h:Q (((bQ n 0 lo:Nat):Int),1,bQ n n hi-bQ n 0 lo) s):wpAny (model prog w) A (Builtin.Slice.sliceApplied (.ref sl) (pure (n:Int))) Q E s:=by
 obtain⟨os,Bv,M9,Ii⟩:=id hs;unfold Builtin.Slice.sliceApplied Builtin.Slice.sliceFields;refine aB (aB (lG Bv Ii (x:=vl) rfl (aB (lG Bv Ii (x:=vu) rfl (aB (lG Bv Ii (x:=.none) rfl (aZ ?_)))))));refine aB (slicePart_none ?_);show wpAny _ _ (if ((1:Int)==0)=true then _ else _) _ _ s;rw[if_neg Vu];refine aB (Y6 pl (aB (Y6 pu (aB (aZ ?_)))));show wpAny _ _ (match Builtin.Slice.sliceAdjust lo hi 1 (n:Int) with|(lo,hi)=>pure (lo,(1:Int),Builtin.Slice.slicePlaces lo hi 1)) _ _ s;rw[zfj lo hi n];show wpAny _ _ (pure (((bQ n 0 lo:Nat):Int),(1:Int),Builtin.Slice.slicePlaces ((bQ n 0 lo:Nat):Int) ((bQ n n hi:Nat):Int) 1)) _ _ s;rw[zfB];exact aZ h
theorem zhz(xs:Array Value)(i k:Nat):((List.range k).filterMap λ(m:Nat)=>xs[((i:Int)+(m:Int)*1).toNat]?).toArray=((xs.toList.drop i).take k).toArray:=by
 have e:(λ(m:Nat)=>xs[((i:Int)+(m:Int)*1).toNat]?)=λm=>xs[i+m]?:=by
  funext m
  have:((i:Int)+(m:Int)*1).toNat=i+m:=by lia
  rw[this]
 rw[e];have:=pick_run xs i k;rw[List.filterMap_map] at this;have e2:((λx=>xs[x]?)∘λx=>i+x)=λm=>xs[i+m]?:=rfl;rw[e2] at this;rw[this]
theorem iH{t sl:Addr}{items:Array Value}{vl vu:Value}{lo hi:Option Int}{Q:Value->Shared->Prop}(ht:IsTup s.heap t items)(hs:s.heap.IsSliceOf sl vl vu .none)(pl:IsPart vl lo)(pu:IsPart vu hi)
  (hw:¬(bQ items.size 0 lo=0/\bQ items.size items.size hi=items.size))
  (h:Q (.ref s.heap.objs.size) {s with heap:=s.heap.push {cls:=.type "tuple",data:=.seq ((items.toList.drop (bQ items.size 0 lo)).take (bQ items.size items.size hi-bQ items.size 0 lo)).toArray}})
  (hsz:items.size<=sizeLine):wpAny (model prog w) A (getItem (.ref t) (.ref sl)) Q E s:=by
 have qx:sizeOk (.seq ((items.toList.drop (bQ items.size 0 lo)).take (bQ items.size items.size hi-bQ items.size 0 lo)).toArray):=by
  show ((items.toList.drop (bQ items.size 0 lo)).take (bQ items.size items.size hi-bQ items.size 0 lo)).toArray.size<=sizeLine;rw[fQ,vU,Aj,vO]
  lia
 have hj:bQ items.size items.size hi<=items.size:=zly _ _ (bK _) hi;obtain⟨os,Bv,M9,Ii⟩:=id hs;have RK:s.TypeIs (.ref sl) "slice":=⟨os,Bv,M9⟩;unfold getItem
 try with_reducible refine sX ?_
 first|refine aB (aZ ?_)|skip
 refine aB (wpAny_sequenceKey ht.typeIs Vu ?_);refine aB (Ae (name:=Str.ofString "__getitem__") ht.typeIs Dy
  (yL Dy ht.typeIs entry_tuple_getitem ?_ (args_tuple_getitem _ _)))
 show wpAny _ _ (Builtin.Tuple.tupleItemsOf (.ref t) >>= _) _ _ s;refine aB (tupleItemsOf_ ht ?_);refine aB (wpAny_typeOf RK ?_);rw[if_pos Vu];refine aB (Y7 hs pl pu ?_);have uz:¬((((bQ items.size 0 lo:Nat):Int)==0&&(1:Int)==1&&(bQ items.size items.size hi-bQ items.size 0 lo)==items.size)=true):=by
  intro q;rw[dJ,dJ] at q;have q1:((bQ items.size 0 lo:Nat):Int)=0:=eq_of_beq q.1.1;have q2:bQ items.size items.size hi-bQ items.size 0 lo=items.size:=eq_of_beq q.2;exact hw ⟨by lia,by lia⟩
 show wpAny _ _ (if (((bQ items.size 0 lo:Nat):Int)==0&&(1:Int)==1&&(bQ items.size items.size hi-bQ items.size 0 lo)==items.size)=true then _ else _) _ _ s;rw[if_neg uz,zhz]
 first
  |exact aB (m:=Builtin.Tuple.tupleExact _) (vQ (aZ ⟨_,rfl,aZ h⟩) qx)
  |exact aB (m:=Builtin.Tuple.tupleExact _) (vQ (aB (aZ (aZ ⟨_,rfl,aZ h⟩))) qx)
  |exact aB (aB (m:=Builtin.Tuple.tupleExact _) (vQ (aZ (aZ ⟨_,rfl,aZ h⟩)) qx))
  |exact aB (aB (m:=Builtin.Tuple.tupleExact _) (vQ (aZ ⟨_,rfl,aZ h⟩) qx))
end
end HT
namespace L2
open PySem PySem.Spec PyProof.Rows
noncomputable abbrev TO:=St->Hp->(Option Int->Hp->Prop)->Prop
def PO(X:Cx)(e:Option Expr)(t:TO):Prop:=
 ∀(ao:List (Addr×Obj)) (s:Shared) (Z:St) (H:Hp) (Q:Option Int->Hp->Prop),Inv X ao Z H s->t Z H Q->
  wpAny (model X.prog X.w) X.A (evalPart e X.env) (λu s'=>∃o H',Inv X ao Z H' s'/\IsPart u o/\Q o H') X.xe s
noncomputable def xg:TO:=λ_ H Q=>Q none H
noncomputable def Ij(t:TE):TO:=λZ H Q=>t Z H λx H1=>∃i,x=.int i/\Q (some i) H1
theorem Y8{ns:List Int}:∀{us:List Value},Vals (ns.map V.int) us->IntsAre us ns:=by
 induction ns with
 |nil=>intro us r;rw[List.map_nil] at r;cases r;exact .nil
 |cons n ns ih=>
  intro us r;rw[iR] at r;cases r with
  |cons r1 r2=>
   obtain⟨t,e⟩:=r1;subst e;exact .cons n t (ih r2)
section
variable {X:Cx}{e:Expr}{te:TE}{lo hi:Option Expr}{tl th:TO}{pos p2:Pos}
theorem zlm:PO X none xg:=by
 intro ao s Z H Q I h;rw[evalPart_none];exact aZ ⟨none,H,I,.none,h⟩
theorem zkB(h:PE X e te):PO X (some e) (Ij te):=by
 intro ao s Z H Q I hw;rw[evalPart_some];refine bA (h ao s Z H _ I hw) λu s1 hx=>dY hx λx H1 I1 r1 q1=>?_;obtain⟨i,rfl,q⟩:=q1;obtain⟨t,rfl⟩:=r1;exact⟨some i,H1,I1,.int i t,q⟩
def xq(X:Cx)(r:V->Option Int->Option Int->Hp->VK->Prop):Prop:=
 ∀(ao:List (Addr×Obj)) (s:Shared) (Z:St) (H:Hp) (x:V) (v vl vu:Value) (lo hi:Option Int) (sl:Addr) (Q:VK),Inv X ao Z H s->RelV x v->s.heap.IsSliceOf sl vl vu .none->IsPart vl lo->IsPart vu hi->r x lo hi H Q->
  ∃T id,typeLookup (.type T) "__getitem__"=pure (some (.builtin id))/\s.TypeIs v T/\wpAny (model X.prog X.w) X.A (getItem v (.ref sl)) (EP X ao Z Q) X.xe s
theorem xq.or{r r':V->Option Int->Option Int->Hp->VK->Prop}(h:xq X r)(h':xq X r'):xq X (λx lo hi H Q=>r x lo hi H Q\/r' x lo hi H Q):=by
 intro ao s Z H x v vl vu lo hi sl Q I rx hs pl pu q;rcases q with q|q
 ·exact h ao s Z H x v vl vu lo hi sl Q I rx hs pl pu q
 ·exact h' ao s Z H x v vl vu lo hi sl Q I rx hs pl pu q
noncomputable def tSl(r:V->Option Int->Option Int->Hp->VK->Prop)(te:TE)(tl th:TO):TE:=λZ H Q=>te Z H λx H1=>tl Z H1 λl H2=>th Z H2 λu H3=>r x l u H3 Q
theorem zhS{r:V->Option Int->Option Int->Hp->VK->Prop}(hr:xq X r)(he:PE X e te)(hl:PO X lo tl)(hu:PO X hi th):PE X (.Subscript e (.Slice lo hi none p2) pos) (tSl r te tl th):=by
 intro ao s Z H Q I h;refine Subscript_ (bA (he ao s Z H _ I h) λv s1 hx=>dY hx λx H1 I1 r1 q1=>?_);refine wpAny_Slice (bA (hl ao s1 Z H1 _ I1 q1) λvl s2 hx=>dY hx λl H2 I2 pl q2=>bA (hu ao s2 Z H2 _ I2 q2) λvu s3 hx=>dY hx λu H3 I3 pu q3=>?_);rw[evalPart_none];refine aZ ?_;have I4:Inv X ao Z H3 {s3 with heap:=s3.heap.push {cls:=.type "slice",data:=.fields #[vl,vu,.none]}}:=I3.kept (t':=s3.toks) λb ob q=>cN _ q;obtain⟨T,id,hT,ht,hg⟩:=hr ao {s3 with heap:=s3.heap.push {cls:=.type "slice",data:=.fields #[vl,vu,.none]}} Z H3 x v vl vu l u s3.heap.objs.size Q I4 r1 (Heap.IsSliceOf.new ..) pl pu q3;show wpAny (model X.prog X.w) X.A (subscriptTail e (.Slice lo hi none p2) v (.ref s3.heap.objs.size)) (EP X ao Z Q) X.xe {s3 with heap:=s3.heap.push {cls:=.type "slice",data:=.fields #[vl,vu,.none]}};exact tail_any (ops:=[.ref s3.heap.objs.size,v]) ht hT hg (by with_unfolding_all rfl)
noncomputable def mL(xs:List V)(lo hi:Option Int):List V:=(xs.drop (HT.bQ xs.length 0 lo)).take (HT.bQ xs.length xs.length hi-HT.bQ xs.length 0 lo)
theorem Y9(xs:List V)(lo hi:Option Int):(mL xs lo hi).length<=xs.length:=by
 unfold mL;rw[vU,Aj]
 lia
noncomputable def RL(K:W.Frag):V->Option Int->Option Int->Hp->VK->Prop:=λx lo hi H Q=>∃a xs,x=.ref a/\fU K H a xs /\
 ¬(HT.bQ xs.length 0 lo=0/\HT.bQ xs.length xs.length hi=xs.length)/\∀p,H p=none->Q (.ref p) (upd H p (.tup (mL xs lo hi)))
theorem zmm:xq X (RL X.K):=by
 intro ao s Z H x v vl vu lo hi sl Q I rx hs pl pu h;obtain⟨a,xs,rfl,hx,hw,q⟩:=h;cases rx;obtain⟨its,r,ht,hz⟩:=I.tuple hx;have hlen:its.toArray.size=xs.length:=by rw[fQ];exact r.length.symm
 refine⟨"tuple",_,Dy.lookup,ht.typeIs,?_⟩;refine HT.iH ht hs pl pu (by rw[hlen];exact hw) ?_ (by rw[hlen];exact hz);rw[hlen];refine⟨.ref s.heap.objs.size,_,I.laid (t':=s.toks) (o:=.tup (mL xs lo hi)) (λb ob q=>cN _ q) (bK _) ?_,rfl,q _ (I.hok.fresh (bK _))⟩;exact⟨jo (Y9 xs lo hi) hz,_,(r.drop (HT.bQ xs.length 0 lo)).take (HT.bQ xs.length xs.length hi-HT.bQ xs.length 0 lo),jQ.new _ _⟩
noncomputable def Ik(K:W.Frag):R2:=λx y H Q=>∃a b ns ms,x=.ref a/\y=.ref b/\fU K H a (ns.map V.int)/\fU K H b (ms.map V.int)/\Q (.bl (HT.lexLt ns ms)) H
theorem zmF(hu:X.A.units<cLine):fD X (compareOp .Lt) (Ik X.K):=by
 intro ao s Z H x y v u Q I rx ry h;obtain⟨a,b,ns,ms,rfl,rfl,ha,hb,q⟩:=h;cases rx;cases ry;obtain⟨its,r1,p1,_⟩:=I.tuple ha;obtain⟨its2,r2,p2,_⟩:=I.tuple hb;have i1:IntsAre its.toArray.toList ns:=Y8 r1;have i2:IntsAre its2.toArray.toList ms:=Y8 r2;exact HT.jV p1 p2 i1 i2 hu ⟨.bl (HT.lexLt ns ms),H,I,rfl,q⟩
theorem Vals.mO{xs:List V}{us:List Value}(r:Vals xs us):us=[]↔xs=[]:=by
 cases r with
 |nil=>simp
 |cons _ _=>simp
end
noncomputable def rz(n:Nat)(i:Int):Option Nat:=if 0<=i then (if i<n then some i.toNat else none) else if -(n:Int)<=i then some (i+n).toNat else none
noncomputable def qy{α:Type}(xs:List α)(i:Int):Option α:=(rz xs.length i).bind λj=>xs[j]?
theorem Y_{n:Nat}{i:Int}{j:Nat}(h:rz n i=some j):seqIndex? i n=some j/\j<n/\-(n:Int)<=i/\i<n:=by
 unfold rz at h;by_cases h0:0<=i
 ·rw[if_pos h0] at h;by_cases h1:i<n
  ·rw[if_pos h1] at h;have e:i.toNat=j:=dz h;exact⟨by rw[seqIndex_of h0 h1,e],by lia,by lia,h1⟩
  ·rw[if_neg h1] at h;cases h
 ·rw[if_neg h0] at h;by_cases h1 : -(n:Int)<=i
  ·rw[if_pos h1] at h;have e:(i+n).toNat=j:=dz h;exact⟨by rw[seqIndex_neg gV h1,e],by lia,h1,by lia⟩
  ·rw[if_neg h1] at h;cases h
theorem RM{α:Type}{xs:List α}{i:Int}{v:α}(h:qy xs i=some v):∃j,seqIndex? i xs.length=some j/\xs[j]?=some v/\j<xs.length/\-(xs.length:Int)<=i/\i<xs.length:=by
 unfold qy at h;cases e:rz xs.length i with
 |none=>rw[e] at h;cases h
 |some j=>
  rw[e] at h;obtain⟨h1,h2,h3,h4⟩:=Y_ e;exact⟨j,h1,h,h2,h3,h4⟩
def qz(b:Expr):Prop:=∀o i,subscripted b false o i=operate [o,i] (getItem o i)
def xr(X:Cx)(r:R2):Prop:=
 ∀(value slice:Expr) (ao:List (Addr×Obj)) (s:Shared) (Z:St) (H:Hp) (x y:V) (v u:Value) (Q:VK),Inv X ao Z H s->RelV x v->RelV y u->r x y H Q->
  subscripted slice false v u=operate [v,u] (getItem v u)->wpAny (model X.prog X.w) X.A (subscriptTail value slice v u) (EP X ao Z Q) X.xe s
def M_(X:Cx)(id:String)(r:V->List V->Hp->VK->Prop):Prop:=
 ∀(ao:List (Addr×Obj)) (s:Shared) (Z:St) (H:Hp) (x:V) (xs:List V) (v:Value) (us:List Value) (Q:VK),Inv X ao Z H s->RelV x v->Vals xs us->r x xs H Q->
  wpAny (model X.prog X.w) X.A (call (.builtin id) (v::us)) (EP X ao Z Q) X.xe s
section
variable {X:Cx}{a b:Expr}{ta tb:TE}{pos:Pos}
theorem xr.or{r r':R2}(h:xr X r)(h':xr X r'):xr X (λx y H Q=>r x y H Q\/r' x y H Q):=by
 intro value slice ao s Z H x y v u Q I rx ry q hs;rcases q with q|q
 ·exact h value slice ao s Z H x y v u Q I rx ry q hs
 ·exact h' value slice ao s Z H x y v u Q I rx ry q hs
theorem zoO{r:R2}(hr:xr X r)(ha:PE X a ta)(hb:PE X b tb)(hs:qz b):PE X (.Subscript a b pos) (M5 r ta tb):=by
 intro ao s Z H Q I h;exact Subscript_ (Bq ha hb I h λv u s2 x y H2 I2 rx ry q=>hr a b ao s2 Z H2 x y v u Q I2 rx ry q (hs _ _))
noncomputable def Il(K:W.Frag):R2:=λx y H Q=>∃p xs i v,x=.ref p/\y=.int i/\cQ K H p xs/\qy xs i=some v/\Q v H
noncomputable def Im(K:W.Frag):R2:=λx y H Q=>∃p xs i v,x=.ref p/\y=.int i/\fU K H p xs/\qy xs i=some v/\Q v H
noncomputable def Io:R2:=λx y H Q=>∃z i c,x=.str z/\y=.int i/\z.length<=sizeLine/\qy z.cps.toList i=some c/\Q (.str ⟨#[c]⟩) H
theorem xu:xr X (Il X.K):=by
 intro value slice ao s Z H x y v u Q I rx ry h hs;obtain⟨p,xs,i,z,rfl,rfl,hq,he,q⟩:=h;cases rx;obtain⟨t,rfl⟩:=ry;obtain⟨its,r,pl,hz⟩:=I.list hq;obtain⟨j,h1,h2,h3,h4,h5⟩:=RM he;obtain⟨w,ew,mQ⟩:=r.get h2;have hl:=r.length;have hn:=i_;have fin:EP X ao Z Q w s:=⟨z,H,I,mQ,q⟩;by_cases h0:0<=i
 ·have hj:i.toNat=j:=by
   rw[seqIndex_of h0 h5] at h1;exact dz h1
  exact item_listR pl.isList h0 gV (by rw[hj];simpa using ew) fin hs
 ·have hj:(i+(its.toArray.size:Int)).toNat=j:=by
   rw[seqIndex_neg gV h4] at h1;rw[fQ,<-hl];exact dz h1
  exact subscriptTail_builtinR (x:=w) pl.isList.typeIs slot_list_getitem.lookup
   (wpAny_getItem_list_neg (Q:=λr s'=>r=w/\EP X ao Z Q r s') pl.isList gV (by rw[fQ]<;>lia) gV (by rw[hj];simpa using ew) ⟨rfl,fin⟩) hs
theorem Bw:xr X (Im X.K):=by
 intro value slice ao s Z H x y v u Q I rx ry h hs;obtain⟨p,xs,i,z,rfl,rfl,hq,he,q⟩:=h;cases rx;obtain⟨t,rfl⟩:=ry;obtain⟨its,r,pl,hz⟩:=I.tuple hq;obtain⟨j,h1,h2,h3,h4,h5⟩:=RM he;obtain⟨w,ew,mQ⟩:=r.get h2;have hl:=r.length;have hn:=i_;have fin:EP X ao Z Q w s:=⟨z,H,I,mQ,q⟩;exact subscriptTail_builtinR (x:=w) pl.typeIs slot_tuple_getitem.lookup
  (getItem_tuple (j:=j) (Q:=λr s'=>r=w/\EP X ao Z Q r s') pl gV gV (by rw[fQ,<-hl];exact h1) (by simpa using ew) ⟨rfl,fin⟩) hs
theorem zmO:xr X Io:=by
 intro value slice ao s Z H x y v u Q I rx ry h hs;obtain⟨z,i,c,rfl,rfl,hz,he,q⟩:=h;obtain⟨t,rfl⟩:=rx;obtain⟨t',rfl⟩:=ry;obtain⟨j,h1,h2,h3,h4,h5⟩:=RM he;have hl:z.cps.toList.length=z.length:=by simp[Str.length]
 rw[hl] at h1 h4 h5;have hn:=i_;exact tail_any (typeIs_str s z t) slot_str_getitem.lookup (getItem_str (c:=c) (by
  have e1:decide (i < -(2^63:Int))=false:=gQ gV;have e2:decide (i>=2^63)=false:=gQ gV;rw[e1,e2,Bool.or_false]) (by rw[h1];simpa using h2) ⟨.str ⟨#[c]⟩,H,I.tok _,⟨_,rfl⟩,q⟩) hs
noncomputable def RN(K:W.Frag):R2:=λx y H Q=>Il K x y H Q\/Im K x y H Q\/Io x y H Q
theorem znE:xr X (RN X.K):=xu.or (Bw.or zmO)
theorem zft(its:List Value)(n j:Nat)(u:Value):Obj.mapSeq (·.setIfInBounds j u) {cls:=.type "list",data:=.seq its.toArray n}={cls:=.type "list",data:=.seq (its.set j u).toArray n}:=by
 simp[Obj.mapSeq]
theorem Inv.lst{ao:List (Addr×Obj)}{Z:St}{H:Hp}{s:Shared}{p:Addr}{xs:List V}(I:Inv X ao Z H s)(h:H p=some (.lst xs)) :
  ∃(its:List Value) (n:Nat),Vals xs its/\s.heap.get? p=some {cls:=.type "list",data:=.seq its.toArray n}/\xs.length<=sizeLine:=by
 obtain⟨z,its,n,r,e⟩:=I.hok p _ h;exact⟨its,n,r,e,z⟩
theorem Inv.BJ{ao:List (Addr×Obj)}{Z:St}{H:Hp}{s:Shared}{p:Addr}{xs ys:List V}{its its':List Value}{n n':Nat}{f:Obj->Obj}(I:Inv X ao Z H s)(h:H p=some (.lst xs))
  (ho:s.heap.get? p=some {cls:=.type "list",data:=.seq its.toArray n}) (hf:f {cls:=.type "list",data:=.seq its.toArray n}={cls:=.type "list",data:=.seq its'.toArray n'}) (r:Vals ys its') (hz:ys.length<=sizeLine) (t:Nat) :
  Inv X ao Z (upd H p (.lst ys)) {s with heap:=s.heap.update p f,toks:=t}:=by
 have e:(s.heap.update p f).get? p=some {cls:=.type "list",data:=.seq its'.toArray n'}:=by
  rw[Af f ho (by rw[hf]<;>rfl),hf]
 refine I.write (x:=p) (e:=p) (by rw[h];trivial) (.inl rfl) (λb u hb q=>(wI _ _ (Ne.symm hb)).trans q) ⟨_,e⟩ ?_;exact⟨hz,its',n',r,e⟩
noncomputable def Ip:V->V->V->Hp->(Hp->Prop)->Prop:=λo i v H Q=>∃p xs k j,o=.ref p/\i=.int k/\H p=some (.lst xs)/\rz xs.length k=some j/\Q (upd H p (.lst (xs.set j v)))
theorem zhC:Hy X Ip:=by
 intro ao s Z H o i v ov iv u Q I ro ri rv h;obtain⟨p,xs,k,j,rfl,rfl,hp,hj,q⟩:=h;cases ro;obtain⟨t,rfl⟩:=ri;obtain⟨its,n,r,ho,hz⟩:=I.lst hp;obtain⟨h1,h2,h3,h4⟩:=Y_ hj;have hl:=r.length;have hn:=i_;have I':Inv X ao Z (upd H p (.lst (xs.set j v))) {s with heap:=s.heap.update p (Obj.mapSeq (·.setIfInBounds j u))}:=
  I.BJ hp ho (zft its n j u) (r.set rv j) (by rw[lF];exact hz) s.toks
 by_cases h0:0<=k
 ·have hk:k.toNat=j:=by
   rw[seqIndex_of h0 h4] at h1;exact dz h1
  exact PySem.W.ki_setAt ho h0 gV (by rw[fQ,<-hl];exact h4) (by rw[hk];exact⟨_,I',q⟩)
 ·have hk:(k+(its.toArray.size:Int)).toNat=j:=by
   rw[seqIndex_neg gV h3] at h1;rw[fQ,<-hl];exact dz h1
  exact PySem.W.ki_setBack ho gV (by rw[fQ,<-hl];exact h3) gV (by rw[hk];exact⟨_,I',q⟩)
theorem zdm(lo hi:Option Int)(n:Nat):(sliceBounds lo hi none n).1=((HT.bQ n 0 lo:Nat):Int)/\(sliceBounds lo hi none n).2.1=((HT.bQ n n hi:Nat):Int)/\(sliceBounds lo hi none n).2.2=1:=by
 refine⟨?_,?_,rfl⟩
 ·cases lo with
  |none=>simp[sliceBounds,HT.bQ]
  |some i=>
   simp only[sliceBounds,HT.bQ,Option.getD_none,show (1:Int)>0 by decide,if_true];by_cases h:i<0
   ·simp only[h,if_true]<;>lia
   ·simp only[h,sZ]<;>lia
 ·cases hi with
  |none=>simp[sliceBounds,HT.bQ]
  |some i=>
   simp only[sliceBounds,HT.bQ,Option.getD_none,show (1:Int)>0 by decide,if_true];by_cases h:i<0
   ·simp only[h,if_true]<;>lia
   ·simp only[h,sZ]<;>lia
theorem zcI(its:List Value)(lo hi:Option Int):slicePick its.toArray lo hi none=((its.drop (HT.bQ its.length 0 lo)).take (HT.bQ its.length its.length hi-HT.bQ its.length 0 lo)).toArray:=by
 obtain⟨h1,h2,h3⟩:=zdm lo hi its.toArray.size;unfold slicePick;rw[h1,h2,h3];simp only[sliceRange_one,pick_run,fQ]<;>rfl
noncomputable def Ir(K:W.Frag):V->Option Int->Option Int->Hp->VK->Prop:=λx lo hi H Q=>∃a xs,x=.ref a/\cQ K H a xs/\∀p,H p=none->Q (.ref p) (upd H p (.lst (mL xs lo hi)))
theorem xG:xq X (Ir X.K):=by
 intro ao s Z H x v vl vu lo hi sl Q I rx hs pl pu h;obtain⟨a,xs,rfl,hx,q⟩:=h;cases rx;obtain⟨its,r,ht,hz⟩:=I.list hx;have hlen:=r.length;refine⟨"list",_,slot_list_getitem.lookup,ht.isList.typeIs,?_⟩;refine wpAny_getItem_list_slice ht.isList hs pl pu .none Zaa ?_ (by rw[fQ]<;>lia);rw[zcI,<-hlen];refine⟨.ref s.heap.objs.size,_,I.laid (t':=s.toks) (o:=.lst (mL xs lo hi)) (λb ob q=>cN _ q) (bK _) ?_,rfl,q _ (I.hok.fresh (bK _))⟩;exact⟨jo (Y9 xs lo hi) hz,_,0,(r.drop (HT.bQ xs.length 0 lo)).take (HT.bQ xs.length xs.length hi-HT.bQ xs.length 0 lo),fL _ rfl⟩
theorem zdD:cU X (.builtin "len") (λxs H Q=>∃p ys,xs=[.ref p]/\(cQ X.K H p ys\/fU X.K H p ys)/\Q (.int ys.length) H):=by
 intro ao s Z H xs us Q I r h;obtain⟨p,ys,rfl,hq,q⟩:=h;obtain⟨u,rfl,rx⟩:=vals1 r;cases rx;have hn:=i_;rcases hq with hq|hq
 ·obtain⟨its,r',pl,hz⟩:=I.list hq;have hlen:=r'.length;exact Calls.call_len_list pl.isList (by simp only[fQ]<;>lia) ⟨.int ys.length,H,I.tok _,⟨s.toks+1,by rw[fQ,hlen]⟩,q⟩
 ·obtain⟨its,r',pl,hz⟩:=I.tuple hq;have hlen:=r'.length;exact len_tuple pl (by simp only[fQ]<;>lia) ⟨.int ys.length,H,I.tok _,⟨s.toks+1,by rw[fQ,hlen]⟩,q⟩
theorem zc6:cU X (.type "list") (λxs H Q=>∃p ys,xs=[.ref p]/\(cQ X.K H p ys\/fU X.K H p ys)/\∀l,H l=none->Q (.ref l) (upd H l (.lst ys))):=by
 intro ao s Z H xs us Q I r h;obtain⟨p,ys,rfl,hq,q⟩:=h;obtain⟨u,rfl,rx⟩:=vals1 r;cases rx;have fin:∀(its:List Value),Vals ys its->ys.length<=sizeLine->∀(h':Heap) (c':Nat),(∀b o',s.heap.get? b=some o'->h'.get? b=some o')->
   h'.get? s.heap.objs.size=some {cls:=.type "list",dict:=none,data:=.seq its.toArray c',slots:=#[]}->EP X ao Z Q (.ref s.heap.objs.size) {s with heap:=h'}:=λits r' hz h' c' kp e=>
  ⟨.ref s.heap.objs.size,_,I.laid (t':=s.toks) kp (bK _) (show aP X.prog X.w _ h' _ (.lst ys) from ⟨hz,its,c',r',e⟩),rfl,q _ (I.hok.fresh (bK _))⟩
 rcases hq with hq|hq
 ·obtain⟨its,r',pl,hz⟩:=I.list hq;have hlen:=r'.length;obtain⟨o,ho,hc,n,hd⟩:=pl.isList;exact call_list_seq p (.inl rfl) ho hc hd (λh' c' kp e=>fin its r' hz h' c' kp e) (by simp only[fQ]<;>lia)
 ·obtain⟨its,r',pl,hz⟩:=I.tuple hq;have hlen:=r'.length;obtain⟨o,ho,hc,n,hd⟩:=pl;exact call_list_seq p (.inr rfl) ho hc hd (λh' c' kp e=>fin its r' hz h' c' kp e) (by simp only[fQ]<;>lia)
theorem zcN:cU X (.type "tuple") (λxs H Q=>∃p ys,xs=[.ref p]/\((cQ X.K H p ys/\∀l,H l=none->Q (.ref l) (upd H l (.tup ys)))\/(fU X.K H p ys/\Q (.ref p) H))):=by
 intro ao s Z H xs us Q I r h;obtain⟨p,ys,rfl,h⟩:=h;obtain⟨u,rfl,rx⟩:=vals1 r;cases rx;rcases h with ⟨hq,q⟩|⟨hq,q⟩
 ·obtain⟨its,r',pl,hz⟩:=I.list hq;have hlen:=r'.length;refine call_tuple_list pl.isList (λh' kp=>?_) (by simp only[fQ]<;>lia);have I1:Inv X ao Z H {s with heap:=h'}:=I.kept (t':=s.toks) kp;have I2:Inv X ao Z (upd H h'.objs.size (.tup ys)) {s with heap:=h'.push {cls:=.type "tuple",data:=.seq its.toArray}}:=
   I1.laid (t':=s.toks) (λb o e=>cN _ e) (bK _) (show aP X.prog X.w _ _ _ (.tup ys) from ⟨hz,its,r',jQ.new _ _⟩)
  exact⟨.ref h'.objs.size,_,I2,rfl,q _ (I1.hok.fresh (bK _))⟩
 ·obtain⟨its,r',pl,hz⟩:=I.tuple hq;exact call_tuple_same pl ⟨.ref p,H,I,rfl,q⟩
def RP(K:W.Frag)(T:String)(x:V)(H:Hp):Prop:=match x with
 |.str _=>T="str"
 |.int _=>T="int"
 |.ref p=>(T="list"/\∃xs,cQ K H p xs)\/(T="tuple"/\∃xs,fU K H p xs) \/
   (T="dict"/\((∃kvs,H p=some (.dK kvs))\/∃kvs,H p=some (.dT kvs)))\/(T="set"/\∃S n,H p=some (.set S n))
 |_=>False
theorem zlD{ao:List (Addr×Obj)}{Z:St}{H:Hp}{s:Shared}{T:String}{x:V}{v:Value}(I:Inv X ao Z H s)(r:RelV x v)(ty:RP X.K T x H) :
  s.TypeIs v T/\∀a,v=.ref a->∃ob,s.heap.get? a=some ob/\ob.dict=none:=by
 cases x with
 |str z=>
  obtain⟨t,rfl⟩:=r;cases (show T="str" from ty);exact⟨typeIs_str s z t,λ_ e=>nomatch e⟩
 |int i=>
  obtain⟨t,rfl⟩:=r;cases (show T="int" from ty);exact⟨typeIs_int s i t,λ_ e=>nomatch e⟩
 |ref p=>
  cases r;rcases ty with ⟨rfl,xs,hq⟩|⟨rfl,xs,hq⟩|⟨rfl,hk⟩|⟨rfl,S,n,hk⟩
  ·obtain⟨its,_,pl,_⟩:=I.list hq;refine⟨pl.isList.typeIs,λa e=>?_⟩;cases e;obtain⟨o,n,e,c,hd,_⟩:=pl;exact⟨o,e,hd⟩
  ·obtain⟨o,h1,h2,h3⟩:=I.Rf hq;refine⟨⟨o,h1,h2⟩,λa e=>?_⟩;cases e;exact⟨o,h1,h3⟩
  ·have z:∃o,s.heap.get? p=some o/\o.ExactDict:=by
    rcases hk with ⟨kvs,hk⟩|⟨kvs,hk⟩
    ·obtain⟨_,_,_,_,o,_,_,e,ex,_⟩:=I.hok p _ hk;exact⟨o,e,ex⟩
    ·obtain⟨_,_,_,_,o,_,_,e,ex,_⟩:=I.hok p _ hk;exact⟨o,e,ex⟩
   obtain⟨o,e,ex⟩:=z;refine⟨⟨o,e,ex.1⟩,λa e2=>?_⟩;cases e2;exact⟨o,e,ex.2.1⟩
  ·obtain⟨o,_,_,_,e,ex,_⟩:=I.hok p _ hk;refine⟨⟨o,e,ex.1⟩,λa e2=>?_⟩;cases e2;exact⟨o,e,ex.2.1⟩
 |_=>exact False.elim ty
noncomputable def tBM(K:W.Frag)(T:String)(r:V->List V->Hp->VK->Prop)(to:TE)(t:TA):TE:=λZ H Q=>to Z H λx H1=>RP K T x H1/\t Z H1 λxs H2=>r x xs H2 Q
variable {o e:Expr}{es:List Expr}{to:TE}{t:TA}{name:Str}{apos cpos:Pos}{T id:String}{r:V->List V->Hp->VK->Prop}
theorem Za(pa:PlainAttrs T)(slot:Slot T name id)(RQ:typeOf (.builtin id)=pure (.type "method_descriptor"))(hm:M_ X id r)(ho:PE X o to)(ha:PA X (e::es) t)
  (fV:attributeBase o name X.env (eval o X.env)=eval o X.env:=by rfl)
  (mR:((backTo cpos (starEach (e::es) X.env)).all (λx=>!x.1)&&(backToKw cpos (keywordEach [] X.env)).all (λx=>x.1.isSome)
  &&decide ((e::es).length+([]:List Keyword).length+(if ([]:List Keyword).isEmpty then 0 else 1)<30))=true:=by rfl)
  (fW:(apos.endLine==cpos.line)=true:=by rfl) (hs:starEach (e::es) X.env=(false,eval e X.env)::starEach es X.env:=by rfl) (dD:(backTo cpos (starEach es X.env)).any (·.1)=false:=by rfl) :
  PE X (.Call (.Attribute o name apos) (e::es) [] cpos) (tBM X.K T r to t):=by
 intro ao s Z H Q I h;refine wpAny_Call_method_late fV mR fW rfl (bA (ho ao s Z H _ I h) λv s1 hz=>?_);obtain⟨x,H1,I1,r1,ty,q1⟩:=hz;obtain⟨h1,h2⟩:=zlD I1 r1 ty;refine⟨T,id,pa,slot,RQ,h1,h2,?_⟩;have hA:=ha cpos ao s1 Z H1 _ I1 q1;rw[hs] at hA ⊢;refine Calls.callWith_builtin (by show (false||(backTo cpos (starEach es X.env)).any (·.1))=false;rw[dD]<;>rfl) (Calls.evalArgs_plain ?_);exact bA hA λus s2 hx=>dY hx λvs H2 I2 r2 q2=>hm ao s2 Z H2 x vs v us Q I2 r1 r2 q2
end
def MtM(X:Cx)(id:String)(r:V->List V->Hp->VK->Prop):Prop:=
 ∀(ao:List (Addr×Obj)) (s:Shared) (Z:St) (H:Hp) (x:V) (xs:List V) (v:Value) (us:List Value) (Q:VK),Inv X ao Z H s->RelV x v->Vals xs us->r x xs H Q->
  wpAny (model X.prog X.w) X.A (call (.builtin id) (v::us)) (EP X ao Z Q) X.xe s
theorem Vals.one{x:V}{us:List Value}(h:Vals [x] us):∃u,us=[u]/\RelV x u:=by
 cases h with
 |cons r t=>cases t;exact⟨_,rfl,r⟩
theorem Vals.two{x y:V}{us:List Value}(h:Vals [x,y] us):∃u v,us=[u,v]/\RelV x u/\RelV y v:=by
 cases h with
 |cons r t=>
  obtain⟨v,rfl,q⟩:=Vals.one t;exact⟨_,_,rfl,r,q⟩
section
variable {X:Cx}{ao:List (Addr×Obj)}{Z:St}{H:Hp}{s:Shared}{l b:Addr}{xs ys zs:List V}
theorem Inv.RT{its its':List Value}{n:Nat}{f:Array Value->Array Value}{t':Nat}(I:Inv X ao Z H s)(hH:H l=some (.lst xs))
  (e:s.heap.get? l=some {cls:=.type "list",data:=.seq its.toArray n}) (hf:f its.toArray=its'.toArray) (hv:Vals ys its') (hz:ys.length<=sizeLine) :
  Inv X ao Z (upd H l (.lst ys)) {s with heap:=s.heap.update l (Obj.mapSeq f),toks:=t'}:=by
 have q:=PySem.IsL.update e f;rw[hf] at q;refine I.write (x:=l) (e:=l) (by rw[hH];exact trivial) (.inl rfl) (λb' u hb hu=>(wI s.heap (Obj.mapSeq f) (Ne.symm hb)).trans hu) ⟨_,q⟩ ?_;exact⟨hz,its',_,hv,q⟩
theorem Inv.RV{its:List Value}{t':Nat}(I:Inv X ao Z H s)(hv:Vals ys its)(hz:ys.length<=sizeLine) :
  Inv X ao Z (upd H s.heap.objs.size (.lst ys)) {s with heap:=s.heap.push {cls:=.type "list",data:=.seq its.toArray},toks:=t'}:=
 I.laid (λ_ _ q=>cN _ q) (bK _) ⟨hz,its,0,hv,fL _ rfl⟩
theorem Inv.fresh(I:Inv X ao Z H s):H s.heap.objs.size=none:=I.hok.fresh (bK _)
theorem Inv.RW(I:Inv X ao Z H s)(hH:H l=some (.lst xs)):xs.length<=sizeLine/\∃(its:List Value) (n:Nat),Vals xs its/\xs.length=its.length/\s.heap.get? l=some {cls:=.type "list",data:=.seq its.toArray n}:=by
 obtain⟨z,its,n,r,e⟩:=I.hok l _ hH;exact⟨z,its,n,r,r.length,e⟩
end
section
variable {X:Cx}
noncomputable def xH:V->List V->Hp->VK->Prop:=λx vs H Q=>∃l xs y,x=.ref l/\vs=[y]/\H l=some (.lst xs)/\xs.length<sizeLine/\Q .non (upd H l (.lst (xs++[y])))
theorem Zb:MtM X "list.append" xH:=by
 intro ao s Z H x vs v us Q I rx rv h;obtain⟨l,xs,y,rfl,rfl,hH,hz,q⟩:=h;cases rx;obtain⟨u,rfl,ru⟩:=rv.one;obtain⟨z,its,n,r,hl,e⟩:=I.RW hH;refine Av F.slot_list_append ⟨_,e,rfl⟩ F.entry_list_append (F.args_list_append_2 _ _) (PySem.list_append l its.toArray n u (by rw[fQ];lia)) ⟨e,?_⟩;refine⟨.non,_,I.RT (its':=its++[u]) hH e Zaa (r.append (.cons ru .nil)) ?_,rfl,q⟩;rw[h_,List.length_singleton]
 lia
end
section
variable {prog:Program}{w:World}{A:Around}{E:Value->Shared->Prop}{s:Shared}
set_option maxRecDepth 100000 in
end
end L2
namespace Zc
open PySem PySem.W PySem.Calls PyProof.Rows
theorem zbV{P:Params}{h:Heap}:∀(ns:List Int) (vs:List Value),WellAll P h vs (ns.map WData.int)->IntsAre vs ns:=by
 intro ns
 induction ns with
 |nil=>
  intro vs w;rw[List.map_nil] at w;cases w;exact .nil
 |cons n ns ih=>
  intro vs w;rw[iR] at w;cases w with
  |cons a b=>
   cases a;exact .cons _ _ (ih _ b)
theorem zfG{l:OpenLaw}{n:Nat}(hn:l.most=some n){P:Params}{h:Heap}{args:List WData}{vals:List Value}
  (hpre:l.row.toRowW.claim.pre args=true) (RX:WellAll P h vals args) :
  ∃a vs ns,vals=[Value.ref a]/\args=[WData.list (ns.map WData.int)]/\h.get? a=some {cls:=.type "list",data:=.seq vs.toArray}/\IntsAre vs ns/\ns.length<=n:=by
 have hsh:WShape.hasAll [] args [.list .int]=true:=(pre_splitW hpre).1;have hc:l.pre.holds [] {args:=args}=true:=(pre_splitW hpre).2;obtain⟨d,r,rfl,h1,h2⟩:=hasAllW_cons hsh;obtain rfl:=hasAllW_nil h2;obtain⟨xs,rfl,h3⟩:=hasW_list h1;obtain⟨ns,rfl⟩:=items_int h3;have hlen:ns.length<=n:=by
  unfold OpenLaw.pre at hc;have h4:(WTm.not (.lt (.lit (.int (n:Int))) (.len (.arg 0)))).holds [] {args:=[.list (ns.map .int)]}=true:=by
   have h4:=(holds_andW hc).1;rw[hn] at h4;exact h4
  have h5:=condW_of h4 (w_not (w_lt w_lit (w_len_list (w_arg rfl))));rw[bI] at h5;refine GQ λq=>?_;have q':(n:Int)<((ns.length:Nat):Int):=by lia
  first
   |(rw[dB q'] at h5;exact absurd h5 Vu)
   |(simp at h5;lia)
 cases RX with
 |cons w1 w2=>
  cases w2;cases w1 with
  |list ho mU=>exact⟨_,_,ns,rfl,rfl,ho,zbV ns _ mU,hlen⟩
theorem zgy(l:OpenLaw)(args:List WData):l.row.toRowW.claim.post args (.bool true) args=true:=
 postW_of (r:=l.row.toRowW) (X:=(true==true))
  (show WShape.has [] (.bool true) .bool=true by first|rfl|decide|simp[WShape.has,WShape.arms,WShape.armsAll])
  (show (WTm.eq .res (.lit (.bool true))).value [] {args:=args,res:=some (.bool true),after:=args}=some (.bool (true==true)) from w_eq_bool (w_res rfl) w_lit) rfl
theorem ou{l:OpenLaw}{n:Nat}{q:Program}{loose:List Str}{XP:(Str->Option Value)->Heap->Prop}{YP:World->Heap->Prop}{d:DefRec}
  (hn:l.most=some n) (RZ:d.params.defaults=[])
  (call:∀(w:World) (s₀ s₁:Shared) (mg mb:Str->Option Value) (fa:Addr) (o:Obj) (pm cd doc:Value) (a:Addr) (vs:List Value) (ns:List Int),
   Ground q loose [] XP w s₀ mg mb s₁.heap->YP w s₁.heap->
   s₁.heap.get? fa=some o->o.data=.func (docDef d.name d.params d.body d.scope pm cd doc)->s₁.heap.CodeRec cd d.name->mg d.name=some (.ref fa)->
   s₁.heap.get? a=some {cls:=.type "list",data:=.seq vs.toArray}->IntsAre vs ns->ns.length<=n->s₁.gens=#[]->
   codeAny (model l.prog w) callerA (.call (.ref fa) ⟨[.ref a],[]⟩) (λr s'=>r=.ok (.ret (.bool true))/\OldK s₁.heap s'.heap/\s'.os=s₁.os/\AllBare s'.gens) s₁) :
  WalkO q loose XP YP l.row.toRowW d [] (λf vs=>PySem.call f vs):=by
 intro w s₀ s₁ mg mb G Y fa o pm cd doc dV kV ho hd kW hD hmg hg args vals as hpre aac hrd RX Nb;obtain rfl:dV=.none:=Dflts.none hD RZ;obtain rfl:kV=.none:=Dflts.noKw hD;obtain⟨a,vs,ns,rfl,rfl,BK,hints,hlen⟩:=zfG hn hpre RX;refine enter_call (El (call w s₀ s₁ mg mb fa o pm cd doc a vs ns G Y ho (fd_plain hd) kW hmg BK hints hlen hg) λr s' hq=>?_);obtain⟨rfl,h2,h3,h4⟩:=hq;exact⟨.inl ⟨.bool true,.bool true,[],rfl,λ_=>rfl,.bool true,zgy l _,λ_=>⟨List.Pairwise.nil,λ_ hm=>(nomatch hm)⟩⟩,h2,h3,h4⟩
end Zc
namespace L2
open PySem PySem.Spec PyProof.Rows
theorem Zd:∀{vs:List Value} {ns:List Int},IntsAre vs ns->Vals (ns.map V.int) vs
 |_,_,.nil=>.nil
 |_,_,.cons n t h=>.cons ⟨t,rfl⟩ (Zd h)
def Only(H:Hp):Prop:=∀b,H b=none\/∃o xs,H b=some (.uo o (.lst xs))
theorem zhR{P:Program}{w:World}{K:W.Frag}{mg mb:Str->Option Value}{CX:rm}{k:Nat}{fa a:Addr}{fd:FuncData}{x:Str}{sp:Sp}{s₁:Shared}{vs:List Value}{ns:List Int}
  (KX:K.In s₁.heap) (Ze:s₁.heap.Ns mainGlobals mg) (hb:s₁.heap.Ns builtinsNs mb) (hbb:∀x:Str,x≠"__name__"->mb x=bootBuiltins x) (R0:s₁.heap.NoLimit) (hg:s₁.gens=#[])
  (ha:s₁.heap.get? a=some {cls:=.type "list",data:=.seq vs.toArray}) (hi:IntsAre vs ns) (hl:ns.length<=sizeLine) (hr:bF k callerA)
  (F:∀base:Heap,K.In base->base.Ns mainGlobals mg->cC P w K mg base CX true k fa fd [x] sp) (Iu:∀(s:Shared) (u:Value),BindsTo s fd ⟨[u],[]⟩ [(x,u)])
  (pF:∀H:Hp,Only H->cQ K H a (ns.map V.int)->sp [.ref a] H (λv _=>v=.bl true) λ_ _ _=>False)
  (hCX:∀H e s',CX [] H s₁ (λ_ _ _=>False) e s'->False) :
  codeAny (model P w) callerA (.call (.ref fa) ⟨[.ref a],[]⟩) (λr s'=>r=.ok (.ret (.bool true))/\OldK s₁.heap s'.heap/\s'.os=s₁.os/\AllBare s'.gens) s₁:=by
 have rv:=Zd hi;have lenV:=hi.length;have core:∀H:Hp,Only H->cQ K H a (ns.map V.int)->gR P w H s₁.heap->(∀b,H b≠none->b=a)->(H a≠none->K.lookup a=none)->
   codeAny (model P w) callerA (.call (.ref fa) ⟨[.ref a],[]⟩) (λr s'=>r=.ok (.ret (.bool true))/\OldK s₁.heap s'.heap/\s'.os=s₁.os/\AllBare s'.gens) s₁:=by
  intro H hO hS hok hA hK;have qC:∀{b:Addr} {o:Obj},s₁.heap.get? b=some o->H b=none->(mF s₁.heap H).get? b=some o:=λe n=>zic e n;have Ia:∀{b:Addr} {o:Obj} {es:Array DictEntry} {ep:Nat},s₁.heap.get? b=some o->o.data=.dict es ep->H b=none:=λ{b o es ep} e d=>by
   cases q:H b with
   |none=>rfl
   |some u=>
    have e':b=a:=hA b (by rw[q];simp);subst e';rw[ha] at e;cases e;have d':Data.seq vs.toArray _=Data.dict es ep:=d;cases d'
  have Nf:∀{b:Addr} {m:Str->Option Value},s₁.heap.Ns b m->(mF s₁.heap H).Ns b m:=λ{b m} ⟨o,es,ep,e,d,r⟩=>⟨o,es,ep,qC e (Ia e d),d,r⟩;have Zf:K.In (mF s₁.heap H):=λb o e=>qC (KX b o e) (by
   cases q:H b with
   |none=>rfl
   |some u=>
    have e':b=a:=hA b (by rw[q];simp);subst e';rw[hK (by rw[q];simp)] at e;cases e)
  have hM:Mod K mg (mF s₁.heap H):=⟨Zf,Nf Ze,⟨mb,Nf hb,hbb⟩,let ⟨mc,h1,h2⟩:=R0;⟨mc,Nf h1,h2⟩⟩;have e0:pD P w K mg (mF s₁.heap H) callerA [] s₁ H:=⟨rfl,hM,λb o e=>zj6 e,Nat.le_of_eq (zgI _ _),trivial,λb hb=>absurd (show b∈([]:List Addr) from hb) Zaa,hok,.of_eq hg⟩;refine El ((F _ Zf (Nf Ze)).run callerA [] s₁ H ⟨[.ref a],[]⟩ [.ref a] [.ref a] _ _ (λ_=>rfl) hr e0 (Iu s₁ (.ref a)) (.cons rfl .nil) (pF H hO hS)) λr s' h=>?_;cases r with
  |error e=>exact(hCX H e s' h).elim
  |ok fl=>
   cases fl with
   |next=>exact False.elim h
   |brk=>exact False.elim h
   |cont=>exact False.elim h
   |ret u=>
    obtain⟨v,H',os,bare,un,R3,r',q⟩:=h;have q':v=.bl true:=q;subst q';obtain rfl:u=Value.bool true:=r';refine⟨rfl,OldK.of_keep λb o e=>?_,os,bare⟩;cases q:H b with
    |none=>exact un.keep b o e q (by intro z;exact absurd (show b∈([]:List Addr) from z) Zaa) Zaa
    |some u=>
     rcases hO b with z|⟨ob,xs,z⟩
     ·rw[q] at z;cases z
     ·have z2:=un.jx b ob _ z;obtain⟨e1,_⟩:=hok b _ z;obtain⟨e2,_⟩:=R3 b _ z2;rw[e] at e1;cases e1;exact e2
 cases hk:K.lookup a with
 |some o=>
  have e:=KX a o hk;rw[ha] at e;cases e;refine core (λ_=>none) (λ_=>.inl rfl) (.inr ⟨_,vs.toArray,_,hk,rfl,rfl,rfl,by rw[fQ,lenV];exact hl,by simpa using rv⟩) (λb u z=>by have z':(none:Option HO)=some u:=z;cases z') (λb z=>absurd rfl z) λz=>absurd rfl z
 |none=>
  refine core (λb=>if b=a then some (.uo {cls:=.type "list",data:=.seq vs.toArray} (.lst (ns.map V.int))) else none) (λb=>?_) (.inl (.inr ⟨{cls:=.type "list",data:=.seq vs.toArray},if_pos rfl⟩)) (λb u z=>?_) (λb z=>?_) λ_=>hk
  ·by_cases hb:b=a
   ·exact .inr ⟨_,_,if_pos hb⟩
   ·exact .inl (if_neg hb)
  ·by_cases hb:b=a
   ·have z':=(if_pos hb).symm.trans z;cases z';subst hb;exact⟨ha,by rw[bI];exact hl,vs,_,rv,ha⟩
   ·have z':=(if_neg hb).symm.trans z;cases z'
  ·by_cases hb:b=a
   ·exact hb
   ·exact absurd (if_neg hb) z
def R4(h0:Heap)(H:Hp)(h:Heap)(e:Addr)(hd:Value):Prop:=
 hd=.none\/∃T oT ts,hd=.ref T/\h0.get? T=none/\H T=none/\T≠e/\h.get? T=some oT/\oT.data=.fields ts/\ts[3]?=some .none
structure Exc(h0:Heap)(H:Hp)(h:Heap)(e C:Addr)(dx:Option Addr):Prop where
 new:h0.get? e=none
 un:H e=none
 ob:∃oe vs hd,h.get? e=some oe/\oe.cls=.ref C/\oe.dict=dx/\oe.data=.fields vs/\vs[1]?=some hd/\R4 h0 H h e hd
structure Iv(h0:Heap)(H:Hp)(fr:List Addr)(h h':Heap)(ch:List Addr):Prop where
 rec_:∀b∈ch,h0.get? b=none/\H b=none/\∃o vs,h.get? b=some o/\o.data=.fields vs
 keep:∀b o,h.get? b=some o->b∉fr->b∉ch->h'.get? b=some o
 slot:∀b o,h.get? b=some o->b∈fr->∃sl,h'.get? b=some {o with slots:=sl}
 there:∀b o,h.get? b=some o->∃o',h'.get? b=some o'
noncomputable def uD(head:Value)(L:Addr)(pl:List Value):Obj:=
 {cls:=.type "traceback",dict:=none,data:=.fields ([head,.ref L,.none,rawInt L,.none]++(if pl.isEmpty then List.replicate 6 Value.none else pl)).toArray}
theorem Zg(o:Obj)(f:Array Value->Array Value):(o.mapFields f).dict=o.dict:=by
 obtain⟨c,d,dt,sl⟩:=o;cases dt<;>rfl
theorem Zh(o:Obj)(f:Array Value->Array Value):(o.mapFields f).cls=o.cls:=by
 obtain⟨c,d,dt,sl⟩:=o;cases dt<;>rfl
section
variable {M:Model}{A:Around}{E:Value->Shared->Prop}{s:Shared}{base h0:Heap}{env:Env}{outer:List Env}{L e C:Addr}{dx:Option Addr}{H:Hp}{Q:Unit->Shared->Prop}
theorem Zi(tu:A.frames=some (env::outer))(hl:s.heap.FunFrames base (env::outer))(hf:env.frame=some L)
  (he:s.heap.get? e=some oe) (hd:oe.data=.fields vs) (hsz:1<vs.size)
  (k:∀h' T oT ts,s.heap.objs.size<=T->(∀b o,s.heap.get? b=some o->b∉frs (env::outer)->b≠e->h'.get? b=some o)->(∀b o,s.heap.get? b=some o->b∈frs (env::outer)->∃sl,h'.get? b=some {o with slots:=sl})->
   h'.get? e=some (oe.mapFields (·.setIfInBounds 1 (.ref T)))->h'.get? T=some oT->oT.data=.fields ts->3<ts.size->ts[3]?=some (rawInt L)->Q () {s with heap:=h'}) :
  wpAny M A (do let a <-frameOf env;let pl <-entryPlaceOf L hn;let b <-EntryCells.newEntry head a .none (rawInt L) .none pl;setField (.ref e) 1 b) Q E s:=by
 have Iw:e∉frs (env::outer):=λhm=>by
  obtain⟨_,o,ho,hx⟩:=hl.mem hm;rw[he] at ho;cases ho;exact hx vs hd
 refine aB (wpAny_frameOf_fun tu hl hf λh₁ sl₁=>?_);refine aB (wpAny_entryPlaceOf λpl hpl=>?_);unfold EntryCells.newEntry newFields;refine aB (vQ ?_ (hpl.sizeOk5 _ _ _ _ _));have e1:h₁.get? e=some oe:=(sl₁.2.1 e Iw).trans he;have e2:(h₁.push (uD head L pl)).get? e=some oe:=cN _ e1;refine GZ e2 hd hsz ?_;have ne:h₁.objs.size≠e:=wL (cg e1);have d3:=wJ hd (·.setIfInBounds 1 (Value.ref h₁.objs.size));have kp:∀b o,h₁.get? b=some o->b≠e->((h₁.push (uD head L pl)).update e (Obj.mapFields (·.setIfInBounds 1 (Value.ref h₁.objs.size)))).get? b=some o:=λb o q n=>by
  rw[wI _ _ n.symm];exact cN _ q
 refine k _ h₁.objs.size (uD head L pl) _ (by rw[sl₁.1];exact bK _) (λb o q n1 n2=>kp b o ((sl₁.2.1 b n1).trans q) n2) (λb o q m=>?_) (Af _ e2 (Ls d3)) ?_ rfl ?_ ?_
 ·obtain⟨sl,z⟩:=sl₁.2.2 b o q;exact⟨sl,kp b _ z λy=>Iw (y▸m)⟩
 ·rw[wI _ _ ne.symm];exact fL _ rfl
 ·simp only[fQ,h_,gD,Ao]<;>lia
 ·first
   |(simp;done)
   |(rcases hpl with rfl|⟨_,_,_,_,_,_,_,rfl⟩<;>simp)
theorem zid(tu:A.frames=some (env::outer))(hl:s.heap.FunFrames base (env::outer))(hf:env.frame=some L)(x:Exc h0 H s.heap e C dx)
  (k:∀h' T oT oe ts vs ch,Iv h0 H (frs (env::outer)) s.heap h' ch->s.heap.objs.size<=T->h'.get? e=some oe->oe.cls=.ref C->oe.dict=dx->oe.data=.fields vs->vs[1]?=some (.ref T)->h'.get? T=some oT->oT.data=.fields ts->
   3<ts.size->ts[3]?=some (rawInt L)->Q () {s with heap:=h'}):wpAny M A (noteFrame (.ref e) env) Q E s:=by
 obtain⟨oe,vs,hd,he,hc,yW,oA,h1,tb⟩:=x.ob;have hsz:1<vs.size:=(Gu.mp h1).1;have Iw:∀b o ws,s.heap.get? b=some o->o.data=.fields ws->b∉frs (env::outer):=λb o ws q d hm=>by
  obtain⟨_,o',ho,hx⟩:=hl.mem hm;rw[q] at ho;cases ho;exact hx ws d
 unfold noteFrame;simp only[hf];refine aB (lG he oA h1 ?_);rcases tb with rfl|⟨T,oT,ts,rfl,nT,uT,neT,gT,dT,h3⟩
 ·rw[if_neg Vu];refine Zi tu hl hf he oA hsz λh' T oT ts lt kp sl ge gT dT z3 z4=>?_;refine k h' T oT _ ts _ [e] ⟨λb hb=>?_,λb o q n1 n2=>kp b o q n1 λz=>n2 (by rw[z];exact .head _),sl,λb o q=>?_⟩ lt ge ((Zh _ _).trans hc) ((Zg _ _).trans yW) (wJ oA _) (by simp[hsz]) gT dT z3 z4
  ·obtain rfl:b=e:=by simpa using hb
   exact⟨x.new,x.un,oe,vs,he,oA⟩
  ·by_cases z:b=e
   ·subst z;exact⟨_,ge⟩
   ·by_cases m:b∈frs (env::outer)
    ·obtain⟨w,q'⟩:=sl b o q m;exact⟨_,q'⟩
    ·exact⟨o,kp b o q m z⟩
 ·rw[if_pos (show (Value.ref T != Value.none)=true from by simp)];refine aB (lG gT dT h3 ?_);rw[if_neg (show ¬((Value.none==rawInt L)=true) from by simp[rawInt])];have z3:3<ts.size:=(Gu.mp h3).1;refine aB (GZ gT dT z3 ?_);have oth:∀b,b≠T->(s.heap.update T (Obj.mapFields (·.setIfInBounds 3 Value.none))).get? b=s.heap.get? b:=λb n=>wI _ _ n.symm;have BL:(s.heap.update T (Obj.mapFields (·.setIfInBounds 3 Value.none))).FunFrames base (env::outer):=hl.of_keeps λb o q nd=>⟨o,(oth b λz=>by subst z;rw[gT] at q;cases q;exact nd ts dT).trans q,rfl⟩;have sT:(s.heap.update T (Obj.mapFields (·.setIfInBounds 3 Value.none))).get? T=some (oT.mapFields (·.setIfInBounds 3 Value.none)):=Af _ gT (Ls (wJ dT _));refine Zi tu BL hf ((oth e neT.symm).trans he) oA hsz λh' T' oT' ts' lt kp sl ge gT' dT' z3' z4'=>?_;have lt':s.heap.objs.size<=T':=by
   have:=lt;simp only[Heap.size_after_update] at this;exact this
  refine k h' T' oT' _ ts' _ [e,T] ⟨λb hb=>?_,λb o q n1 n2=>kp b o ((oth b λz=>n2 (by simp[z])).trans q) n1 λz=>n2 (by simp[z]),λb o q m=>?_,λb o q=>?_⟩ lt' ge ((Zh _ _).trans hc) ((Zg _ _).trans yW) (wJ oA _) (by simp[hsz]) gT' dT' z3' z4'
  ·have hb':b=e\/b=T:=by simpa using hb
   rcases hb' with rfl|rfl
   ·exact⟨x.new,x.un,oe,vs,he,oA⟩
   ·exact⟨nT,uT,oT,ts,gT,dT⟩
  ·exact sl b o ((oth b λz=>by subst z;exact Iw b o ts q (by rw[gT] at q;cases q;exact dT) m).trans q) m
  ·by_cases z:b=e
   ·subst z;exact⟨_,ge⟩
   ·by_cases y:b=T
    ·subst y;exact⟨_,kp b _ sT (Iw b oT ts gT dT) z⟩
    ·by_cases m:b∈frs (env::outer)
     ·obtain⟨w,q'⟩:=sl b o ((oth b y).trans q) m;exact⟨_,q'⟩
     ·exact⟨o,kp b o ((oth b y).trans q) m z⟩
theorem Zj(he:s.heap.get? e=some oe)(hd:oe.data=.fields vs)(h1:vs[1]?=some (.ref T))(gT:s.heap.get? T=some oT)(dT:oT.data=.fields ts)(z3:3<ts.size)
  (k:∀h',(∀b o,b≠T->s.heap.get? b=some o->h'.get? b=some o)->h'.get? T=some (oT.mapFields (·.setIfInBounds 3 Value.none))->Q () {s with heap:=h'}):wpAny M A (setFlight (.ref e) none) Q E s:=by
 unfold setFlight;refine aB (lG he hd h1 ?_);rw[if_pos (show (Value.ref T != Value.none)=true from by simp)];exact GZ gT dT z3 (k _ (λb o n q=>(wI _ _ n.symm).trans q) (Af _ gT (Ls (wJ dT _))))
theorem Zk(tu:A.frames=some (env::outer))(hl:s.heap.FunFrames base (env::outer))(hf:env.frame=some L)(x:Exc h0 H s.heap e C dx)
  (qu:∀b,s.heap.objs.size<=b->H b=none) (h0s:∀b o,h0.get? b=some o->∃o',s.heap.get? b=some o')
  (k:∀h' ch,Iv h0 H (frs (env::outer)) s.heap h' ch->Exc h0 H h' e C dx->Q () {s with heap:=h'}) :
  wpAny M A (noteFrame (.ref e) env) (λ_ s₁=>wpAny M A (setFlight (.ref e) none) Q E s₁) E s:=by
 have ele:∃o,s.heap.get? e=some o:=let ⟨oe,_,_,he,_⟩:=x.ob;⟨oe,he⟩;refine zid tu hl hf x λh' T oT oe ts vs ch t lt ge hc yW oA h1 gT dT z3 z4=>?_;have neT:T≠e:=λz=>by
  obtain⟨o,q⟩:=ele;exact absurd (iB (cg q) (z▸lt)) (qj _)
 refine Zj (s:={s with heap:=h'}) ge oA h1 gT dT z3 λh2 kp gT2=>?_;have nT:∀b o,s.heap.get? b=some o->b≠T:=λb o q z=>absurd (iB (cg q) (z▸lt)) (qj _);refine k h2 ch ⟨t.rec_,λb o q n1 n2=>kp b o (nT b o q) (t.keep b o q n1 n2),λb o q m=>?_,λb o q=>?_⟩ ⟨x.new,x.un,oe,vs,.ref T,kp e oe neT.symm ge,hc,yW,oA,h1,.inr ⟨T,_,_,rfl,?_,qu T lt,neT,gT2,wJ dT _,by simp[z3]⟩⟩
 ·obtain⟨sl,q'⟩:=t.slot b o q m;exact⟨sl,kp b _ (nT b o q) q'⟩
 ·obtain⟨o',q'⟩:=t.there b o q;exact⟨o',kp b o' (nT b o q) q'⟩
 ·cases z:h0.get? T with
  |none=>rfl
  |some o=>
   obtain⟨o',q⟩:=h0s T o z;exact absurd rfl (nT T o' q)
end
noncomputable abbrev XS:=St->Value->Option Addr->Hp->Prop
def Sub(h0 h:Heap):Prop:=∀b o,h0.get? b=some o->∃o',h.get? b=some o'
theorem Sub.none{h0 h:Heap}(x:Sub h0 h){b:Addr}(e:h.get? b=none):h0.get? b=none:=by
 cases q:h0.get? b with
 |none=>rfl
 |some o=>
  obtain⟨o',z⟩:=x b o q;rw[e] at z;cases z
theorem Exc.older{h0 h1:Heap}{H:Hp}{h:Heap}{e C:Addr}{dx:Option Addr}(x:Exc h1 H h e C dx)(y:Sub h0 h1):Exc h0 H h e C dx:=by
 obtain⟨oe,vs,hd,a,b,c,d,f,tb⟩:=x.ob;refine⟨y.none x.new,x.un,oe,vs,hd,a,b,c,d,f,?_⟩;rcases tb with z|⟨T,oT,ts,z1,z2,z3⟩
 ·exact .inl z
 ·exact .inr ⟨T,oT,ts,z1,y.none z2,z3⟩
section
variable {X:Cx}{ao:List (Addr×Obj)}{Z:St}{H:Hp}{s:Shared}{h0 h':Heap}{ch fr:List Addr}
theorem gR.Iz{P:Program}{w:World}{h:Heap}(x:gR P w H h)(t:Iv h0 H fr h h' ch)(hf:∀b∈fr,H b=none):gR P w H h':=λa o e=>by
 have st:∀b u,(b=a\/H b=some (.own a))->h.get? b=some u->h'.get? b=some u:=λb u z q=>by
  have nb:H b≠none:=by
   rcases z with z|z
   ·rw[z,e];simp
   ·rw[z];simp
  exact t.keep b u q (λm=>nb (hf b m)) λm=>nb (t.rec_ b m).2.1
 exact(x a o e).stay st (λ_ z=>z) λ_ _ z=>z
theorem Inv.Iz(I:Inv X ao Z H s)(t:Iv h0 H (frs X.stack) s.heap h' ch)(hs:∀b o,X.s₀.heap.get? b=some o->b∉X.ex->∃o',h0.get? b=some o')(hp:∀p∈X.pn++ao,∃o,h0.get? p.1=some o):Inv X ao Z H {s with heap:=h'}:=by
 refine I.call (g':=s.gens) (d':=s.drawn) (t':=s.toks) (ch:=ch) ⟨λb o q _ n1 n2=>t.keep b o q n1 n2,λb o q _ m _=>t.slot b o q m,λ_ _ _ n _=>n,λb o q _=>t.there b o q,λ_ _ q=>q,λ_ _ _ q=>q,λ_ ps q=>⟨#[],by rw[q];simp⟩⟩ (I.hok.Iz t I.jF) I.bare λb hb=>?_;obtain⟨n0,_,o,vs,q,d⟩:=t.rec_ b hb;refine⟨?_,λz=>?_,λx c e z=>?_,λp hq z=>?_⟩
 ·by_cases m:b∈X.ex
  ·exact .inl m
  ·refine .inr ?_;cases z:X.s₀.heap.get? b with
   |none=>rfl
   |some u=>
    obtain⟨o',z'⟩:=hs b u z m;rw[n0] at z';cases z'
 ·subst z;obtain⟨m,⟨ol,es,ep,e1,e2,_⟩,_⟩:=I.loc;rw[q] at e1;cases e1;rw[d] at e2;cases e2
 ·subst z;obtain⟨v,oc,e1,e2⟩:=I.cell x c e;rw[q] at e1;cases e1;rw[d] at e2;cases e2
 ·obtain⟨u,e1⟩:=hp p hq;rw[z,n0] at e1;cases e1
end
def Raises(X:Cx)(EX:XS):Prop:=
 ∀(ao:List (Addr×Obj)) (Z:St) (H:Hp) (s:Shared) (h0:Heap) (e C:Addr) (dx:Option Addr),Inv X ao Z H s->(∀b o,X.s₀.heap.get? b=some o->b∉X.ex->∃o',h0.get? b=some o')->
  (∀p∈X.pn++ao,∃o,h0.get? p.1=some o)->Sub h0 s.heap->Exc h0 H s.heap e C dx->EX Z (.ref C) dx H->X.xe (.ref e) s
noncomputable def gK(P:Program)(w:World):rm:=λouter H s E e s'=>
 ∃(a C:Addr) (dx:Option Addr) (H':Hp),e=.ref a/\s'.os=s.os/\AllBare s'.gens/\Un (frs outer) [] H H' s.heap s'.heap/\gR P w H' s'.heap/\Exc s.heap H' s'.heap a C dx/\E (.ref C) dx H'
theorem zfC{P:Program}{w:World}{K:W.Frag}{mg:Str->Option Value}{base:Heap}{N:List Str}{qual:Str}{scope:Scope}{f:Addr}{cd:Value}{A:Around}{outer:List Env}{s:Shared}{H:Hp}{E:XK}{cm:Bool} :
  Raises (gG (gK P w) P w K mg base N qual scope f cd A outer s H E cm) (λ_ C dx H'=>E C dx H'):=by
 intro ao Z H1 s1 h0 e C dx I hs hp h01 x ex;have I0:Inv (gG (gK P w) P w K mg base N qual scope f cd A outer s H E cm) [] Z H1 s1:=I.mJ λp z=>absurd z Zaa;show wpAny (model P w) (A.deeper (envOfC qual scope s.heap.objs.size f cd)) (leaving (envOfC qual scope s.heap.objs.size f cd) (.ref e)) _ _ s1;unfold leaving;have hsub:Sub s.heap h0:=λb o q=>hs b o q (by show b∉([]:List Addr);simp);refine aB (Zk (base:=base) (outer:=outer) (L:=s.heap.objs.size) I0.ok.frames I0.stack rfl x (λb z=>I0.hok.fresh z) h01 λh' ch t x'=>?_);have fin:∀b o,s.heap.get? b=some o->b∉ch:=λb o q m=>by
  have z:=hsub.none (t.rec_ b m).1;rw[q] at z;cases z
 have nL:∀b o,s.heap.get? b=some o->b∉frs outer->b∉frs (envOfC qual scope s.heap.objs.size f cd::outer):=λb o q n m=>by
  have m':b∈s.heap.objs.size::frs outer:=m;rcases gF.mp m' with z|z
  ·exact absurd (cg q) (by rw[z];exact qj _)
  ·exact n z
 refine⟨e,C,dx,H1,rfl,I0.os,I0.bare,⟨λb o q n hb _=>?_,λb o q n hb _=>?_,λb o q n _=>I0.base.free b o q n (by show b∉([]:List Addr);simp),λb o q _=>?_,I0.base.tups,I0.base.jx,I0.base.jR⟩,I0.hok.Iz t I0.jF,x'.older hsub,ex⟩
 ·exact t.keep b o (I0.base.keep b o q n hb (by show b∉([]:List Addr);simp)) (nL b o q hb) (fin b o q)
 ·obtain⟨sl,q1⟩:=I0.base.slot b o q n hb (by show b∉([]:List Addr);simp);obtain⟨sl',q2⟩:=t.slot b _ q1 (show b∈s.heap.objs.size::frs outer from g_ _ hb);exact⟨sl',q2⟩
 ·obtain⟨o',q1⟩:=I0.base.there b o q (by show b∉([]:List Addr);simp);exact t.there b o' q1
section
variable {X:Cx}{cm:Bool}{k:Nat}{f C:Addr}{fd:FuncData}{ps:List Str}{sp:Sp}{EX:XS}{x m:Str}{p pos apos:Pos}{e o:Expr}{es:List Expr}{ta:TE}{t:TA}
theorem Raises.pass(R:Raises X EX)(I:Inv X ao Z H s)(h:gK X.prog X.w X.stack H s (EX Z) v s'):X.xe v s':=by
 obtain⟨a,C,dx,H',rfl,os,bare,un,hok,x,q⟩:=h;have aq:Sub s.heap s'.heap:=λb o z=>un.there b o z Zaa;refine R ao Z H' s' s.heap a C dx (I.call' os un hok bare λb z=>absurd z Zaa) (λb o z n=>I.base.there b o z n) (λp hp=>?_) aq x q;exact⟨p.2,(I.pin p hp).1⟩
noncomputable def BP(sp:Sp)(EX:XS)(t:TA):TE:=λZ H Q=>t Z H λvs H1=>sp vs H1 Q (EX Z)
theorem zk8(F:cC X.prog X.w X.K X.mg X.base (gK X.prog X.w) cm k f fd ps sp)(jz:cm=true->X.aj=true)(hr:bF k X.A)(hb:Binds X.K fd ps [])(R:Raises X EX)
  (I:Inv X ao Z H s) (r:Vals vs us) (h:sp vs H Q (EX Z)):wpAny (model X.prog X.w) X.A (call (.ref f) us) (EP X ao Z Q) X.xe s:=by
 have hl:us.length=ps.length:=by rw[<-r.length];exact F.len _ _ _ _ h
 have hb':=hb s us I.nZ (by rw[wK];exact hl);rw[wK] at hb';refine wpAny_call (El (F.run X.A X.stack s H ⟨us,[]⟩ us vs Q (EX Z) (λz=>I.ok.hd (jz z)) hr I.env0 hb' r h) λr s' hq=>?_);cases r with
 |error v=>exact R.pass I hq
 |ok fl=>
  cases fl with
  |ret u=>exact I.after hq
  |next=>exact False.elim hq
  |brk=>exact False.elim hq
  |cont=>exact False.elim hq
theorem ziP(F:cC X.prog X.w X.K X.mg X.base (gK X.prog X.w) cm k f fd ps sp)(jz:cm=true->X.aj=true)(hr:bF k X.A)(hg:Gl X x)(hm:X.mg x=some (.ref f))(hk:PySem.W.keepIn X.K (.ref f)=true)(hb:Binds X.K fd ps [])(R:Raises X EX)
  (ha:PA X (e::es) t) (k_:(x==("__debug__" : Str))=false:=by decide) (he:starEach (e::es) X.env=(false,eval e X.env)::starEach es X.env:=by rfl) (hpl:(backTo pos (starEach es X.env)).any (·.1)=false:=by rfl) :
  PE X (.Call (.Name x p) (e::es) [] pos) (BP sp EX t):=by
 intro ao s Z H Q I h;refine yI (Hs I hg hm ?_ k_);exact Qx (h₀:=X.base) I.ok.mod.wN hk (bA (ha pos ao s Z H _ I h) λus s1 ⟨vs,H1,I1,r,q⟩=>⟨I1.nZ,zk8 F jz hr hb R I1 r q⟩) he hpl
theorem aP.there{P:Program}{w:World}{H:Hp}{h:Heap}{a:Addr}{o:HO}(x:aP P w H h a o):∃ob,h.get? a=some ob:=by
 cases o with
 |lst xs=>obtain⟨_,_,_,_,q⟩:=x;exact⟨_,q⟩
 |tup xs=>obtain⟨_,_,_,ob,q,_⟩:=x;exact⟨_,q⟩
 |dK kvs=>obtain⟨_,_,_,_,ob,_,_,q,_⟩:=x;exact⟨_,q⟩
 |dT kvs=>obtain⟨_,_,_,_,ob,_,_,q,_⟩:=x;exact⟨_,q⟩
 |set S n=>obtain⟨ob,_,_,_,q,_⟩:=x;exact⟨_,q⟩
 |ins C dx fs=>obtain⟨_,_,_,q,_⟩:=x;exact⟨_,q⟩
 |own y=>exact x
 |xd fs=>obtain⟨_,⟨_,_,_,q,_⟩,_⟩:=x;exact⟨_,q⟩
 |rng lo hi=>obtain⟨_,_,_,q⟩:=x;exact⟨_,q⟩
 |uo ob u=>obtain⟨q,_⟩:=x;exact⟨_,q⟩
 |yR ps=>exact⟨_,(show h.get? a=some _ from x)⟩
 |met f y=>exact⟨_,(show h.get? a=some _ from x)⟩
 |ext U=>obtain⟨_,q,_⟩:=x;exact q
theorem zoa{v:Value}{n:String}(h:X_ v=some n):v=.type n:=by cases v<;>first|(cases h;rfl)|cases h
theorem zkW{v:Value}{n:Addr}(h:G7 v=some n):v=.ref n:=by cases v<;>first|(cases h;rfl)|cases h
theorem zll{v:Value}{n:String}(h:wM v=some n):v=.builtin n:=by cases v<;>first|(cases h;rfl)|cases h
theorem zm3{v:Data}{n:ClassData}(h:Ax v=some n):v=.cls n:=by cases v<;>first|(cases h;rfl)|cases h
theorem zlZ{l:List Value}{p:Value×List Value}(h:Yb l=some p):l=p.1::p.2:=by
 cases l with
 |nil=>cases h
 |cons a r=>cases h;rfl
theorem R5{α:Type}{o:Option α}{p:α->Bool}(h:o.any p=true):∃a,o=some a/\p a=true:=by
 cases o with
 |none=>cases h
 |some a=>exact⟨a,rfl,h⟩
theorem zjO{K:W.Frag}{C:Addr}{bmB:List Value}{newId:String}{ini:Option Value}(q:mz K C bmB newId ini=true) :
  ∃o cd bm,K.lookup C=some o/\o.cls=.type "type"/\o.data=.cls cd/\cd.mro=.ref C::bm/\o.slots.size=6/\(o.slots[4]?.join).bind wM=some newId/\cd.hasDel=false/\PySem.W.tailIn K bmB bm=true/\PySem.W.nsOkIn K cd.ns=true/\PySem.W.nsIn K cd.ns "__init__"=some ini:=by
 obtain⟨o,lk,q⟩:=R5 q;obtain⟨q1,q⟩:=(dJ _ _).mp q;obtain⟨cd,ec,q⟩:=R5 q;obtain⟨v,ev,q⟩:=R5 q;simp only[dJ,nR,Bool.not_eq_true'] at q1 q;obtain⟨⟨⟨⟨⟨⟨q2,q3⟩,q4⟩,q5⟩,q6⟩,q7⟩,q8⟩:=q;exact⟨o,cd,v.2,lk,zoa q1,zm3 ec,by rw[zlZ ev,zkW q2],q3,q4,q5,q6,q7,q8⟩
theorem R6{sl:Array (Option Value)}{n:String}(h:sl.size=6)(h4:(sl[4]?.join).bind wM=some n):∃k0 k1 k2 k3 k5,sl=#[k0,k1,k2,k3,some (.builtin n),k5]:=by
 obtain⟨v,e,e2⟩:=tW.mp h4;cases zll e2;refine⟨sl[0],sl[1],sl[2],sl[3],sl[5],Array.ext (by simp[h]) λi h1 h2=>?_⟩;have e:sl[4]=some (.builtin n):=by
  rw[Array.getElem?_eq_getElem (show 4<sl.size by lia)] at e;exact e
 have:i<6:=by simpa using h2
 rcases i with _|_|_|_|_|_|i
 ·rfl
 ·rfl
 ·rfl
 ·rfl
 ·exact e
 ·rfl
 ·lia
theorem znY{o:Obj}{cd:ClassData}{C:Addr}{bm:List Value}{k0 k1 k2 k3 k5:Option Value}{n:String}(h1:o.cls=.type "type")(h2:o.data=.cls cd)(h3:cd.mro=.ref C::bm)(h4:o.slots=#[k0,k1,k2,k3,some (.builtin n),k5])(h5:cd.hasDel=false) :
  o=excClassObj cd.name cd.qualname C cd.ns cd.bases bm cd.hasDict cd.slotNames cd.subclasses cd.abstract cd.collection o.dict k0 k1 k2 k3 k5 n:=by
 obtain⟨cls,dd,data,sl⟩:=o;obtain⟨nm,bs,mro,ns,qn,hd,sn,aq,ab,col,del⟩:=cd;dsimp only at h1 h2 h3 h4 h5;subst h1 h2 h3 h4 h5;rfl
theorem zhL{K:W.Frag}{h:Heap}{C:Addr}{bmB:List Value}{newId:String}{ini:Option Value}(XI:K.In h)(q:mz K C bmB newId ini=true) :
  ∃bm N nm qn bs hdct sn aq ab col dd k0 k1 k2 k3 k5,h.get? C=some (excClassObj nm qn C N bs bm hdct sn aq ab col dd k0 k1 k2 k3 k5 newId)/\PySem.W.nsOkIn K N=true/\PySem.W.nsIn K N "__init__"=some ini/\OwnTail h bmB bm:=by
 obtain⟨o,cd,bm,lk,h1,h2,h3,h4,h5,h6,h7,h8,h9⟩:=zjO q;obtain⟨k0,k1,k2,k3,k5,e⟩:=R6 h4 h5;exact⟨bm,_,_,_,_,_,_,_,_,_,_,k0,k1,k2,k3,k5,(XI _ _ lk).trans (mj some (znY h1 h2 h3 e h6)),h8,h9,PySem.W.tail_of_in XI h7⟩
theorem zjV{K:W.Frag}{h:Heap}{C:Addr}{bmB:List Value}{newId:String}(XI:K.In h)(q:mz K C bmB newId none=true) :
  ∃bm N nm qn bs hdct sn aq ab col dd k0 k1 k2 k3 k5 mN,h.get? C=some (excClassObj nm qn C N bs bm hdct sn aq ab col dd k0 k1 k2 k3 k5 newId)/\h.Ns N mN/\mN "__init__"=none/\OwnTail h bmB bm:=by
 obtain⟨bm,N,nm,qn,bs,hdct,sn,aq,ab,col,dd,k0,k1,k2,k3,k5,hc,Zm,noi,tl⟩:=zhL XI q;exact⟨bm,N,nm,qn,bs,hdct,sn,aq,ab,col,dd,k0,k1,k2,k3,k5,_,hc,.of_isNs (PySem.W.isNs_of_in XI Zm),PySem.W.nsMap_none_of_in XI Zm noi,tl⟩
noncomputable def BR(EX:XS)(C:Addr)(t:TA):TS:=λ_ Z H=>t Z H λvs H1=>vs.length<=sizeLine/\EX Z (.ref C) none H1
theorem zit{B Bn newId nid initId inN:String}{bmB bmN:List Value}(Fn:ExcBaseFacts Bn newId inN bmN)(R7:bmB.contains (.type Bn)=true)(FB:ExcBaseFacts B nid initId bmB)(hc:X.aj=true)(hX:mz X.K C bmB newId none=true)(hg:Gl X x)(hm:X.mg x=some (.ref C))
  (R:Raises X EX) (ha:PA X (e::es) t) (k_:(x==("__debug__" : Str))=false:=by decide) (he:starEach (e::es) X.env=(false,eval e X.env)::starEach es X.env:=by rfl) (hpl:(backTo apos (starEach es X.env)).any (·.1)=false:=by rfl) :
  PS X (.Raise (some (.Call (.Name x p) (e::es) [] apos)) none pos) (BR EX C t):=by
 intro ao s Z H D I h;obtain⟨bm,N,nm,qn,bs,hdct,sn,aq,ab,col,dd,k0,k1,k2,k3,k5,mN,hC,hN,hni,T⟩:=zjV I.mod.wN hX;refine wpAny_Raise_call_subU (C:=C) (nm:=nm) (q:=qn) (N:=N) (bs:=bs) (bm:=bm) (hdct:=hdct) (sn:=sn) («sub»:=aq) (ab:=ab) (col:=col) (dd:=dd) (k0:=k0) (k1:=k1) (k2:=k2) (k3:=k3) (k5:=k5)
  Fn R7 FB (mN:=mN) (T.hasType FB.hasBase) (I.ok.hd hc) (by rw[he];show (false||(backTo apos (starEach es X.env)).any (·.1))=false;rw[hpl];rfl) hni (Hs I hg hm ⟨rfl,?_⟩ k_)
 have h2:=ha apos ao s Z H _ I h;rw[he] at h2 ⊢;refine Calls.evalArgs_plain (bA h2 λus s2 ⟨vs,H2,I2,r,z,q⟩=>⟨rfl,by rw[<-r.length];exact z,I2.bk _ _ hC,hN.keeps I2.bk,T.keeps I2.bk,λh' a mx=>?_⟩);obtain⟨tt,ge,_,_⟩:=mx.there;have un:H2 a=none:=by
  cases z:H2 a with
  |none=>rfl
  |some u=>
   have lt:=I2.hok.lt z;obtain⟨ob,z'⟩ : ∃ob,s2.heap.get? a=some ob:=by
    have:=I2.hok a u z;exact aP.there this
   rw[mx.new] at z';cases z'
 exact R ao Z H2 _ s2.heap a C none (I2.kept (t':=s2.toks) mx.keeps) (λb ob z n=>I2.base.there b ob z n) (λq hq=>⟨q.2,(I2.pin q hq).1⟩) (λb ob z=>⟨ob,mx.keeps b ob z⟩) ⟨mx.new,un,_,_,_,ge,rfl,rfl,rfl,rfl,.inl rfl⟩ q
end
noncomputable def jX(a C:Addr)(dx:Option Addr):HO:=.ext λh=>∃oe vs,h.get? a=some oe/\oe.cls=.ref C/\oe.dict=dx/\oe.data=.fields vs
theorem zkF(x:Exc h0 H0 h a C dx):aP P w H h a (jX a C dx):=by
 obtain⟨oe,vs,hd,q,c,d,f,_⟩:=x.ob;exact⟨⟨oe,vs,q,c,d,f⟩,⟨oe,q⟩,λh1 h2 ⟨o1,v1,q1,c1,d1,f1⟩ k=>⟨o1,v1,k o1 q1,c1,d1,f1⟩⟩
section
variable {X:Cx}{ao:List (Addr×Obj)}{Z:St}{H:Hp}{s:Shared}{e:Addr}{o:HO}
theorem Inv.track(I:Inv X ao Z H s)(hn:X.s₀.heap.get? e=none)(un:H e=none)(hp:∀p∈X.pn++ao,p.1≠e)(hL:e≠X.env.locals)(hc:∀x c,X.env.cells.lookup x=some c->c≠e)
  (new:aP X.prog X.w (upd H e o) s.heap e o):Inv X ao Z (upd H e o) s:=by
 have ne:∀b u,H b=some u->b≠e:=λb u q z=>by rw[z,un] at q;cases q
 have n0:∀b u,X.s₀.heap.get? b=some u->b≠e:=λb u q z=>by rw[z,hn] at q;cases q
 refine⟨I.ok,I.os,I.bare,⟨I.base.keep,I.base.slot,λb u q n hx=>?_,I.base.there,λb xs q=>?_,λb u v q=>?_,λb ps q=>?_⟩,I.loc,I.cell,?_,λx c q=>?_,λp q=>?_,λb u q=>?_,I.len⟩
 ·rw[cY (n0 b u q)];exact I.base.free b u q n hx
 ·have z:=I.base.tups b xs q;rw[cY (ne b _ z)];exact z
 ·have z:=I.base.jx b u v q;rw[cY (ne b _ z)];exact z
 ·obtain⟨m,z⟩:=I.base.jR b ps q;exact⟨m,by rw[cY (ne b _ z)];exact z⟩
 ·rw[cY hL.symm];exact I.free
 ·rw[cY (hc x c q)];exact I.fC x c q
 ·obtain⟨a1,a2,a3⟩:=I.pin p q;exact⟨a1,by rw[cY (hp p q)];exact a2,a3⟩
 ·by_cases z:b=e
  ·subst z;rw[iY] at q;cases q;exact new
  ·rw[cY z] at q;exact(I.hok b u q).stay (λ_ _ _ r=>r) (λc r=>by rw[cY (ne c _ r)];exact r) λc xs r=>by rw[cY (ne c _ r)];exact r
noncomputable def Cx.seen(X:Cx)(A:Around)(aj:Bool)(pn:List (Addr×Obj))(E:Value->Shared->Prop):Cx:={X with A:=A,aj:=aj,pn:=pn,xe:=E}
theorem Inv.seen(I:Inv X ao Z H s)(hA:A.frames=X.A.frames)(hc:c=true->A.handled=none)(hp:∀p∈pn++ps,p∈X.pn++ao):Inv (X.seen A c pn E) ps Z H s:=
 ⟨⟨I.ok.mod,I.ok.kind,I.ok.glob,I.ok.blt,I.ok.above,I.ok.inj,I.ok.has,I.ok.cab,hc,hA.trans I.ok.frames,I.ok.stk,I.ok.Ym,I.ok.bs,I.ok.wR,I.ok.uq,I.ok.wU,I.ok.jy,I.ok.Bg⟩,I.os,I.bare,I.base,I.loc,I.cell,I.free,I.fC,λp z=>I.pin p (hp p z),I.hok,I.len⟩
theorem Inv.fX(I:Inv (X.seen A c pn E) ps Z H s)(hA:X.A.frames=A.frames)(hc:X.aj=true->X.A.handled=none)(hp:∀p∈X.pn++ao,p∈pn++ps):Inv X ao Z H s:=
 ⟨⟨I.ok.mod,I.ok.kind,I.ok.glob,I.ok.blt,I.ok.above,I.ok.inj,I.ok.has,I.ok.cab,hc,hA.trans I.ok.frames,I.ok.stk,I.ok.Ym,I.ok.bs,I.ok.wR,I.ok.uq,I.ok.wU,I.ok.jy,I.ok.Bg⟩,I.os,I.bare,I.base,I.loc,I.cell,I.free,I.fC,λp z=>I.pin p (hp p z),I.hok,I.len⟩
theorem SP.fX(h:SP (X.seen A c pn E) ps D f s)(hA:X.A.frames=A.frames)(hc:X.aj=true->X.A.handled=none)(hp:∀p∈X.pn++ao,p∈pn++ps):SP X ao D f s:=by
 cases f with
 |next=>obtain⟨a,b,bO,q⟩:=h;exact⟨a,b,bO.fX hA hc hp,q⟩
 |brk=>obtain⟨a,b,bO,q⟩:=h;exact⟨a,b,bO.fX hA hc hp,q⟩
 |cont=>obtain⟨a,b,bO,q⟩:=h;exact⟨a,b,bO.fX hA hc hp,q⟩
 |ret u=>obtain⟨v,a,b,bO,r,q⟩:=h;exact⟨v,a,b,bO.fX hA hc hp,r,q⟩
theorem Inv.gone(I:Inv X ao Z H s)(hN:X.N.Nodup)(hi:X.N[i]?=some n)(hl:X.env.kindOf n=some .local)(hm:s.heap.Ns X.env.locals m)
  (hn:h'.Ns X.env.locals (λx=>if x=n then v else m x)) (sb:Heap.SameBut X.env.locals s.heap h'):Inv X ao (Z.set i none) H {s with heap:=h',toks:=t'}:=by
 have kp:∀b u,b≠X.env.locals->s.heap.get? b=some u->h'.get? b=some u:=λb u z q=>(sb.2 b z).trans q;have n0:∀b u,X.s₀.heap.get? b=some u->b≠X.env.locals:=λb u q=>dX (iB (cg q) I.ok.above);have nH:∀b u,H b=some u->b≠X.env.locals:=λb u q z=>by rw[z,I.free] at q;cases q
 refine⟨I.ok,I.os,I.bare,⟨λb u q n hb hx=>kp b u (n0 b u q) (I.base.keep b u q n hb hx),λb u q n hb hx=>?_,I.base.free,λb u q hx=>?_,I.base.tups,I.base.jx,I.base.jR⟩,⟨_,hn,λj x w e1 e2 e3=>?_⟩,λx c q=>?_,I.free,I.fC,λp q=>?_,λb u q=>?_,by rw[lF];exact I.len⟩
 ·obtain⟨sl,z⟩:=I.base.slot b u q n hb hx;exact⟨sl,kp b _ (n0 b u q) z⟩
 ·obtain⟨u',z⟩:=I.base.there b u q hx;exact⟨u',kp b u' (n0 b u q) z⟩
 ·have Zn:i≠j:=λz=>by
   subst z;by_cases hl:i<Z.length
   ·rw[vM hl] at e2;cases e2
   ·rw[yH (by rw[lF];lia)] at e2;cases e2
  rw[o_ Zn] at e2;obtain⟨m2,yX,uE⟩:=I.loc;obtain⟨u,r,l⟩:=uE j x w e1 e2 e3;refine⟨u,r,?_⟩;rcases l with ⟨k1,k2⟩|⟨k1,c,k2,oc,k3,k4⟩
  ·refine .inl ⟨k1,?_⟩;have nx:x≠n:=λz=>Zn (QW hN (by rw[z] at e1;exact hi) (z▸e1));have em:m=m2:=by
    obtain⟨o1,es1,ep1,g1,d1,t1,f1⟩:=hm;obtain⟨o2,es2,ep2,g2,d2,t2,f2⟩:=yX;rw[g1] at g2;cases g2;rw[d1] at d2;cases d2
    funext y
    rw[<-f1,<-f2]
   show (if x=n then v else m x)=some u;rw[if_neg nx,em];exact k2
  ·exact .inr ⟨k1,c,k2,oc,kp c oc (I.wV x c k2) k3,k4⟩
 ·obtain⟨u,oc,k3,k4⟩:=I.cell x c q;exact⟨u,oc,kp c oc (I.wV x c q) k3,k4⟩
 ·obtain⟨a1,a2,a3,a4⟩:=I.pin p q;exact⟨kp _ _ a3 a1,a2,a3,a4⟩
 ·exact(I.hok b u q).stay (λc w z r=>kp c w (z.elim (λy=>y▸nH b u q) λy=>nH c _ y) r) (λ_ r=>r) λ_ _ r=>r
end
theorem zhy(x:Exc h0 H s.heap e C dx)(hf:∀b∈fr,∀o vs,s.heap.get? b=some o->o.data≠.fields vs)
  (k:∀h' ch,Iv h0 H fr s.heap h' ch->Exc h0 H h' e C dx->Q () {s with heap:=h'}):wpAny M A (setFlight (.ref e) none) Q E s:=by
 obtain⟨oe,vs,hd,he,hc,yW,oA,h1,tb⟩:=x.ob;rcases tb with rfl|⟨T,oT,ts,rfl,nT,uT,neT,gT,dT,h3⟩
 ·unfold setFlight;refine aB (lG he oA h1 ?_);rw[if_neg Vu];exact aZ (k s.heap [] {rec_:=(λ_ z=>nomatch z),keep:=(λb o q _ _=>q),slot:=(λb o q _=>⟨o.slots,q⟩),there:=(λb o q=>⟨o,q⟩)} x)
 ·refine Zj he oA h1 gT dT (Gu.mp h3).1 λh' kp g'=>?_;have z3:3<ts.size:=(Gu.mp h3).1;refine k h' [T] ⟨λb z=>?_,λb o q _ n=>kp b o (λz=>n (by simp[z])) q,λb o q m=>?_,λb o q=>?_⟩ ⟨x.new,x.un,oe,vs,.ref T,kp e oe neT.symm he,hc,yW,oA,h1,.inr ⟨T,_,_,rfl,nT,uT,neT,g',wJ dT _,by simp[z3]⟩⟩
  ·obtain rfl:b=T:=by simpa using z
   exact⟨nT,uT,oT,ts,gT,dT⟩
  ·refine⟨o.slots,kp b o (λz=>?_) q⟩;subst z;rw[gT] at q;cases q;exact hf b m _ ts gT dT
  ·by_cases z:b=T
   ·subst z;exact⟨_,g'⟩
   ·exact⟨o,kp b o z q⟩
theorem zci{M:Model}{A:Around}{E:Value->Shared->Prop}{K:W.Frag}{h:Heap}{g:Array GenState}{d:Drawn}{t:Nat}{os:OsState}{e C D:Addr}{oe:Obj}{Q:Bool->Shared->Prop}(KI:K.In h)(q:subIn K C D=true)
  (he:h.get? e=some oe) (Bj:oe.cls=.ref C) (hq:Q true ⟨h,g,d,t,os⟩):wpAny M A (excMatches (.ref e) (.ref D)) Q E ⟨h,g,d,t,os⟩:=by
 unfold subIn at q;simp only[dJ] at q;obtain⟨⟨q1,q2⟩,q3⟩:=q;obtain⟨nm,qn,N,bs,bm,hdct,sn,aq,ab,col,dd,k0,k1,k2,k3,k5,newId,hC,_,_⟩:=PySem.W.kts_cls KI q1;obtain⟨nm',qn',N',bs',bm',Zo,sn',sub',ab',col',IK,k0',k1',k2',k3',k5',newId',hD,hb',_⟩:=PySem.W.kts_cls KI q2;have m1:(Value.ref C::bm).contains (.ref D)=true:=by
  split at q3
  ·rename_i c0 d0 cd sl lk;have z:=KI _ _ lk;rw[hC] at z;cases z;exact q3
  ·cases q3
 have m2:(Value.ref D::bm').contains (.type "BaseException")=true:=by rw[List.contains_cons,hb',Bool.or_true]
 have f:=tc_notTuple;unfold excMatches
 repeat (first|(with_reducible refine wpAny_loadPart_at he ?_;rw[Bj])|with_reducible refine wpAny_loadPart_at hD ?_|(with_reducible refine wpAny_isSubtype_exc hD ?_;rw[m2])|(with_reducible refine wpAny_isSubtype_exc hC ?_;rw[m1])|wp_step)
 exact hq
noncomputable def uF(D:Ends)(i:Nat):Ends:={nx:=λZ H=>D.nx (Z.set i none) H,rt:=D.rt,bk:=λZ H=>D.bk (Z.set i none) H,ct:=λZ H=>D.ct (Z.set i none) H}
noncomputable def IV(K:W.Frag)(Dc:Addr)(i:Nat)(th:TS)(D:Ends):XS:=λZ C dx H=>∃Ca,C=.ref Ca/\subIn K Ca Dc=true/\∀a,H a=none->th (uF D i) (Z.set i (some (.ref a))) (upd H a (jX a Ca dx))
section
variable {X:Cx}{x n:Str}{np uG pos:Pos}{b₀:Stmt}{body suite:List Stmt}{Dc:Addr}{i:Nat}{tb:XS->TS}{th:TS}
theorem znR(hex:X.ex=[])(oY:X.stack=X.env::X.outer/\X.env.frame=some X.env.locals)(hg:Gl X x)(hm:X.mg x=some (.ref Dc))(hN:X.N.Nodup)(hi:X.N[i]?=some n)(hl:X.env.scope.names.lookup n=some .local)
  (hb:∀(pn:List (Addr×Obj)) (E':Value->Shared->Prop) (tD:XS),Raises (X.seen X.A X.aj pn E') tD->PassesOwn (model X.prog X.w) X.A X.env E'->oX (X.seen X.A X.aj pn E') body (tb tD))
  (hh:∀e:Value,oX (X.seen (X.A.mark (some e)) false X.pn (λ_ _=>False)) (b₀::suite) th) (k_:(x==("__debug__" : Str))=false:=by decide) :
  PS X (.Try body [.ExceptHandler (some (.Name x np)) (some n) (b₀::suite) uG] [] [] pos) (λD Z H=>tb (IV X.K Dc i th D) D Z H):=by
 intro ao s Z H D I h;refine wpAny_Try_except ?_;have B:=hb (X.pn++ao) (λe s₁=>wpAny (model X.prog X.w) X.A (noteFrame e X.env) (λ_ s₂=>wpAny (model X.prog X.w) X.A (setFlight e none) (λ_ s₃=>wpAny (model X.prog X.w) X.A (handleBy e X.env [.ExceptHandler (some (.Name x np)) (some n) (b₀::suite) uG]) (SP X ao D) X.xe s₃) X.xe s₂) X.xe s₁) (IV X.K Dc i th D) ?R PassesOwn.looking [] s Z H D (I.seen rfl I.ok.hd (by intro p z;simpa using z)) h
 case R=>
  intro iC Z' H' s' h0 e C dx bO hs hp aq xc ⟨Ca,eC,sI,k⟩;cases eC;have I1:Inv X ao Z' H' s':=bO.fX rfl I.ok.hd (λp z=>Gx _ z);have R8:∀p∈X.pn++ao,∃o,h0.get? p.1=some o:=λp z=>hp p (Gx _ z);show wpAny (model X.prog X.w) X.A (noteFrame (.ref e) X.env) _ X.xe s';refine Zk (base:=X.base) (outer:=X.outer) (L:=X.env.locals) (I1.ok.frames.trans (mj some oY.1)) (oY.1▸I1.stack) oY.2 xc (λb z=>I1.hok.fresh z) aq λh1 ch1 t1 x1=>?_;have I2:=I1.Iz (oY.1▸t1) hs R8;refine wpAny_handleBy_cons (codeAny_handlers_test ?_) (by intro z;cases z);have I2h:Inv (X.seen (X.A.mark (some (.ref e))) false X.pn (λ_ _=>False)) ao Z' H' {s' with heap:=h1}:=I2.seen rfl (λz=>by cases z) (λp z=>z);refine Hs (E:=_) I2h hg hm ?_ k_;obtain⟨oe,vs,hd,g1,c1,d1,f1,_⟩:=x1.ob;refine zci I2.nZ sI g1 c1 ?_;refine codeAny_handlers_suite_as ?_;have R9:∀b∈frs X.stack,∀o vs,h1.get? b=some o->o.data≠.fields vs:=λb hb o vs q d=>by
   obtain⟨_,o',q',nd⟩:=I2.stack.mem hb;have q'':h1.get? b=some o':=q';rw[q] at q'';cases q'';exact nd vs d
  refine zhy (s:={s' with heap:=h1}) (fr:=frs X.stack) x1 R9 λh2 v8 t2 x2=>?_;have I3:Inv X ao Z' H' {s' with heap:=h2}:=I2.Iz t2 hs R8;obtain⟨oe2,vs2,hd2,g2,c2,d2,f2,_⟩:=x2.ob;have ns0:X.s₀.heap.get? e=none:=by
   cases z:X.s₀.heap.get? e with
   |none=>rfl
   |some u=>
    obtain⟨u',z'⟩:=hs e u z (by show e∉X.ex;rw[hex];simp);rw[x2.new] at z';cases z'
  have nL:e≠X.env.locals:=λz=>by
   obtain⟨m,⟨ol,es,ep,e1,e2,_⟩,_⟩:=I3.loc;have e1':h2.get? X.env.locals=some ol:=e1;rw[<-z,g2] at e1';cases e1';rw[f2] at e2;cases e2
  have nC:∀y c,X.env.cells.lookup y=some c->c≠e:=λy c q z=>by
   obtain⟨v,oc,e1,e2⟩:=I3.cell y c q;have e1':h2.get? c=some oc:=e1;rw[z,g2] at e1';cases e1';rw[f2] at e2;cases e2
  have I4:=I3.track (o:=jX e C dx) ns0 x2.un (λp z y=>by
   obtain⟨u,q⟩:=R8 p z;rw[y,x2.new] at q;cases q) nL nC (zkF x2)
  have I4h:Inv (X.seen (X.A.mark (some (.ref e))) false X.pn (λ_ _=>False)) ao Z' (upd H' e (jX e C dx)) {s' with heap:=h2}:=I4.seen rfl (λz=>by cases z) (λp z=>z);refine Q5 (X:=X.seen (X.A.mark (some (.ref e))) false X.pn (λ_ _=>False)) (v:=.ref e) I4h hN hi (.inl hl) rfl (λs5 I5=>?_) (.inr hl);refine lH (hh (.ref e) ao s5 _ _ (uF D i) I5 (k e x2.un)) (λf s6 q6=>?_) (λ_ _ z=>z.elim);have hkd:(X.env.scope.kind==.class||(X.env.scope.kind==.module&&X.env.locals != X.env.globals))=false:=by rw[I.ok.kind];rfl
  have fin:∀{Z6:St} {H6:Hp} {Q:Shared->Prop},Inv (X.seen (X.A.mark (some (.ref e))) false X.pn (λ_ _=>False)) ao Z6 H6 s6->(∀s7,Inv X ao (Z6.set i none) H6 s7->Q s7)->
    wpAny (model X.prog X.w) X.A (do bindName X.env n .none;unbindBehindTheSuite X.env n uG) (λ_ s7=>Q s7) X.xe s6:=λ{Z6 H6 Q} jd kq=>by
   have bO:Inv X ao Z6 H6 s6:=jd.fX rfl I.ok.hd (λp z=>z);obtain⟨m,Zq,_⟩:=id bO.loc;exact wpAny_nameGoes_keeps hl Zq hkd λh' v QX sb=>kq _ (bO.gone hN hi hl Zq QX sb)
  cases f with
  |next=>obtain⟨Z6,H6,jd,q⟩:=q6;exact fin jd λs7 mV=>⟨_,_,mV,q⟩
  |brk=>obtain⟨Z6,H6,jd,q⟩:=q6;exact fin jd λs7 mV=>⟨_,_,mV,q⟩
  |cont=>obtain⟨Z6,H6,jd,q⟩:=q6;exact fin jd λs7 mV=>⟨_,_,mV,q⟩
  |ret u=>obtain⟨v,Z6,H6,jd,r,q⟩:=q6;exact fin jd λs7 mV=>⟨v,_,_,mV,r,q⟩
 refine lH B (λf s1 q=>?_) λ_ _ z=>z;have q':SP X ao D f s1:=SP.fX q rfl I.ok.hd (by intro p z;simpa using z);cases f with
 |next=>exact wpAny_execs_nil q'
 |brk=>exact q'
 |cont=>exact q'
 |ret u=>exact q'
end
end L2
namespace L2
open PySem PySem.Spec PyProof.Rows PySem.W Builtin.ObjectAttr
section
variable {prog:Program}{w:World}{A:Around}{E:Value->Shared->Prop}{s:Shared}{K:Frag}{x C:Addr}{ox:Obj}{od:Option Obj}{name:Str}{tk:Tok}
theorem zj8(XI:K.In s.heap)(I:InstAt s.heap x ox C od)(hf:findObj K C od name=some r)
  (h:match r with|.value v=>Q (.done (.ret v)) s|.bind g a=>wpAny (model prog w) A (call g [a,.ref x,.ref C]) (λv s'=>Q (.done (.ret v)) s') E s|.missing=>False) :
  wpAny (model prog w) A (Builtin.«object.__getattribute__» ⟨[.ref x,.str name tk],[]⟩) Q E s:=by
 obtain⟨hh,g,d,t,os⟩:=s;have L0:=I.type (M:=model prog w);have L1:=looks_find (M:=model prog w) XI I hf;unfold Builtin.«object.__getattribute__»;refine aB (vY (a:=(Value.ref x,[Value.str name tk])) (by rfl) ?_);refine aB (vY (a:=name) (by rfl) ?_);refine aB (L0.at (aB (L1.at ?_)));cases r with
 |value v=>exact aZ h
 |bind g a=>
  show wpAny _ _ (holding [a] (call g [a,.ref x,.ref C]) >>= ret) _ _ _;exact aB (sX (lH h (λv s' z=>aZ z) λ_ _ z=>z))
 |missing=>exact h.elim
theorem zhd(XI:K.In s.heap)(I:InstAt s.heap x ox C od)(hb:mroIn K C (.type "BaseException")=some true)(hf:findObj K C od name=some r)
  (h:match r with|.value v=>R (.ok (.ret v)) s|.bind g a=>wpAny (model prog w) A.in1 (call g [a,.ref x,.ref C]) (λv s'=>R (.ok (.ret v)) s') (λe s'=>R (.error e) s') s|.missing=>False) :
  codeAny (model prog w) A (.call (.builtin "BaseException.__getattribute__") ⟨[.ref x,.str name tk],[]⟩) R s:=by
 have hk:builtinKind "BaseException.__getattribute__"=some .slot:=by decide +kernel
 have BW:splitId "BaseException.__getattribute__"=some ("BaseException","__getattribute__"):=by decide +kernel
 have ha:=F.args_bexc_ga (.ref x) (.str name tk);refine codeAny_call_builtin F.attr_ValueError.ga.plain F.entry_bexc_ga ?_;have fin:wpAny (model prog w) A.in1 (Builtin.«object.__getattribute__» ⟨[.ref x,.str name tk],[]⟩) (λfin s'=>match fin with|.done f=>R (.ok f) s'|.again c'=>c'.quiet=true/\codeAny (model prog w) A c' R s') (λe s'=>R (.error e) s') s:=by
  refine zj8 XI I hf ?_;cases r with
  |value v=>exact h
  |bind g a=>exact h
  |missing=>exact h.elim
 have chk:∀Q:Unit->Shared->Prop,Q () s->wpAny (model prog w) A.in1 (checkBuiltinCall "BaseException.__getattribute__" ⟨[.ref x,.str name tk],[]⟩) Q (λe s'=>R (.error e) s') s:=λQ hq=>by
  obtain⟨hh,g,d,t,os⟩:=s;have L0:=I.type (M:=model prog w);have L1:=looks_mroIn (M:=model prog w) XI hb;have LI:Looks (model prog w) hh (isInstance (.ref x) (.type "BaseException")) true:=L0.andThen L1;simp only[checkBuiltinCall,hk,BW];refine aB ?_
  repeat (first|with_reducible exact hq|with_reducible refine LI.at ?_|wp_step)
 exact chk _ fin
theorem bexc_get?(XI:K.In s.heap)(I:InstAt s.heap x ox C od)(hb:mroIn K C (.type "BaseException")=some true)(hga:findIn K (.ref C) "__getattribute__"=some (some (.builtin "BaseException.__getattribute__")))
  (hgn:findIn K (.ref C) "__getattr__"=some none) (hf:findObj K C od name=some r)
  (h:match r with|.value v=>wpAny (model prog w) A (handedOut v) (λu s'=>Q (some u) s') (λ_ _=>False) {s with toks:=s.toks+1}|.bind g a=>wpAny (model prog w) A.in1 (call g [a,.ref x,.ref C]) (λv s'=>wpAny (model prog w) A (handedOut v) (λu s''=>Q (some u) s'') (λ_ _=>False) s') (λ_ _=>False) {s with toks:=s.toks+1}|.missing=>False) :
  wpAny (model prog w) A (getAttr? (.ref x) name) Q E s:=by
 obtain⟨hh,g,d,t,os⟩:=s;have L0:=I.type (M:=model prog w);have L1:=looks_findIn (M:=model prog w) XI hga;have L2:=looks_findIn (M:=model prog w) XI hgn;have Ng:(Value.builtin "BaseException.__getattribute__"==Value.builtin "object.__getattribute__")=false:=by decide +kernel
 unfold getAttr? getAttrBy? getAttrBy;refine aB (wpAny_mkText (aB (zs2 (sX (aB (L0.at (aB (L1.at ?_))))))));show wpAny _ _ (if (onTheHeap (.ref C)&&(Value.builtin "BaseException.__getattribute__"==Value.builtin "object.__getattribute__"))=true then _ else getAttrByItsOwn _ _ _ _ _ _) _ _ _;rw[Ng,Bool.and_false,if_neg Vu];unfold getAttrByItsOwn hookBefore callGetattribute boundAndCalled;refine aB (L2.at ?_);refine aB (zs2 (sX (aB (vY (F.attr_ValueError.ga.bind (.ref x)) ?_))));refine wpAny_call (zhd XI I hb hf ?_);cases r with
 |value v=>exact lH h (λv s'' hv=>aZ hv) (λ_ _ z=>z.elim)
 |bind g a=>exact lH h (λv s' hv=>lH hv (λu s'' z=>aZ z) λ_ _ z=>z.elim) (λ_ _ z=>z.elim)
 |missing=>exact h.elim
end
structure XC(K:Frag)(C:Addr):Prop where
 ga:findIn K (.ref C) "__getattribute__"=some (some (.builtin "BaseException.__getattribute__"))
 gn:findIn K (.ref C) "__getattr__"=some none
 cl:findIn K (.ref C) "__class__"=some (some (.builtin "object.__class__"))
 mb:mroIn K C (.type "BaseException")=some true
 mo:mroIn K C (.type "object")=some true
 cd:(clsIn K C).isSome=true
 dg:specialIn K (.builtin "object.__class__") "__get__"=some (some (.builtin "getset_descriptor.__get__"))
 dt:takesIn K (.builtin "object.__class__")=some true
theorem zht{K:Frag}{C:Addr}{od:Option Obj}{name:Str}{a g:Value}(hc:(clsIn K C).isSome=true)(ha:findIn K (.ref C) name=some (some a))(hg:specialIn K a "__get__"=some (some g))(ht:takesIn K a=some true):findObj K C od name=some (.bind g a):=by
 obtain⟨cd,z⟩:=Qe.mp hc;simp only[findObj,z,ha,hg,ht,Option.bind_some]
theorem Zr{K:Frag}{e C:Addr}(c:XC K C):KitX K (.ref e) (.ref C) (λh=>∃ox od,InstAt h e ox C od) where
 ty:=λ_ _ _ ⟨_,_,I⟩=>I.type
 it:=λ_ _ XI _=>by
  have q:=c.cd;unfold clsIn at q;split at q
  ·rename_i c' d' cd' sl' lk;intro A' Q' E' s' k z;unfold isType loadHead;exact aB (wpAny_loadPart (k _ _ (XI _ _ lk)) (aZ z))
  ·cases q
 ne:=λh tp dd its n sl XI htp=>by
  refine Bool.eq_false_iff.mpr λz=>?_;have ee:C=tp:=Value.ref.inj (nR.mp z);subst ee;have q:=c.cd;unfold clsIn at q;split at q
  ·rename_i c' d' cd' sl' lk;have y:=(XI _ _ lk).symm.trans htp;cases y
  ·cases q
 ca:=λ{prog w A E Q s} XI ⟨ox,od,I⟩ k=>by
  have hf:findObj K C od "__class__"=some (.bind (.builtin "getset_descriptor.__get__") (.builtin "object.__class__")):=zht c.cd c.cl c.dg c.dt;refine bexc_get? XI I c.mb c.ga c.gn hf ?_;exact wpAny_call (class_get (s:={s with toks:=s.toks+1}) (ox:=ox) (od:=od) XI I c.mo (handed_on rfl k))
end L2
namespace L2
open PySem PySem.Spec PyProof.Rows
theorem zfb:∀(names:List (Str×NameKind)) (cs:List (Str×Addr)),(∀x∈names,x.2=.free->∃c,env.cells.lookup x.1=some c)->(∀x c,cs.lookup x=some c->env.cells.lookup x=some c)->
  ∃cl,(forIn names cs λx r=>(do
    if x.2==.free then
     let a <-cellOf env x.1
     pure (ForInStep.yield ((x.1,a)::r))
    else pure (ForInStep.yield r)):Sem (List (Str×Addr)))=pure cl/\(∀x c,cl.lookup x=some c->env.cells.lookup x=some c)/\(∀x c,cs.lookup x=some c->cl.lookup x=some c)/\∀x∈names,x.2=.free->∃c,cl.lookup x.1=some c:=by
 intro names
 induction names with
 |nil=>intro cs _ h;exact⟨cs,rfl,h,λ_ _ q=>q,λx z=>nomatch z⟩
 |cons y r ih=>
  intro cs h1 h2;obtain⟨n,k⟩:=y;by_cases hk:k=.free
  ·subst hk;obtain⟨c,hc⟩:=h1 (n,.free) kJ rfl;have hc:env.cells.lookup n=some c:=hc;have h3:∀x d,((n,c)::cs).lookup x=some d->env.cells.lookup x=some d:=λx d q=>by
    rw[pq] at q;by_cases z:x=n
    ·subst z;simp at q;subst q;exact hc
    ·have z':(x==n)=false:=by simpa using z
     rw[z'] at q;exact h2 x d q
   obtain⟨cl,e,a,b,d⟩:=ih ((n,c)::cs) (λx z=>h1 x (g_ _ z)) h3;have hco:cellOf env n=pure c:=by
    unfold cellOf;rw[hc]
   refine⟨cl,?_,a,λx q z=>?_,λx z q=>?_⟩
   ·rw[Ef];simp only[D_,if_true,hco];exact e
   ·by_cases y:x=n
    ·subst y;have z1:=h2 x q z;rw[hc] at z1;cases z1;exact b x c Zaa
    ·have y':(x==n)=false:=by simpa using y
     exact b x q (by rw[pq,y'];exact z)
   ·rcases gF.mp z with z|z
    ·subst z;exact⟨c,b n c Zaa⟩
    ·exact d x z q
  ·have hb:(k==NameKind.free)=false:=by simpa using hk
   obtain⟨cl,e,a,b,d⟩:=ih cs (λx z=>h1 x (g_ _ z)) h2;refine⟨cl,?_,a,b,λx z q=>?_⟩
   ·rw[Ef];simp only[hb,yJ,sZ];exact e
   ·rcases gF.mp z with z|z
    ·subst z;exact absurd q hk
    ·exact d x z q
theorem zfs(h:∀x∈scope.names,x.2=.free->∃c,env.cells.lookup x.1=some c):∃cl,closureFor scope env=pure cl/\(∀x c,cl.lookup x=some c->env.cells.lookup x=some c)/\∀x∈scope.names,x.2=.free->∃c,cl.lookup x.1=some c:=by
 obtain⟨cl,e,a,_,d⟩:=zfb scope.names [] h (λx c q=>by cases q);refine⟨cl,?_,a,d⟩;unfold closureFor;have e':=e;simp only[pure_bind,bind_pure] at e' ⊢;exact e'
theorem R_{env:Env}{k:NameKind}:∀{names:List (Str×NameKind)} {x:Str},(names.map λ(n,k)=>if (k==NameKind.free&&env.scope.kind==.function&&env.kindOf n==some .cell) then (n,NameKind.cell) else (n,k)).lookup x=some k->
  names.lookup x=some k\/(k=.cell/\names.lookup x=some .free)
 |[],x,h=>by simp at h
 |(n,q)::r,x,h=>by
  rw[iR,pq] at h;rw[pq];have hd:∀c:Bool,(if c=true then (n,NameKind.cell) else (n,q)).1=n:=λc=>by cases c<;>rfl
  rw[hd] at h;by_cases z:x=n
  ·subst z;simp only[D_] at h ⊢;split at h
   ·rename_i y;simp only[dJ,nR] at y;cases h;exact .inr ⟨rfl,by rw[y.1.1]⟩
   ·cases h;exact .inl rfl
  ·have z':(x==n)=false:=by simpa using z
   simp only[z'] at h ⊢;exact R_ h
theorem Nh{env:Env}:∀{names:List (Str×NameKind)} {x:Str},names.lookup x=some .free->
  (names.map λ(n,k)=>if (k==NameKind.free&&env.scope.kind==.function&&env.kindOf n==some .cell) then (n,NameKind.cell) else (n,k)).lookup x=some .cell \/
  (names.map λ(n,k)=>if (k==NameKind.free&&env.scope.kind==.function&&env.kindOf n==some .cell) then (n,NameKind.cell) else (n,k)).lookup x=some .free
 |[],x,h=>by simp at h
 |(n,q)::r,x,h=>by
  rw[pq] at h;rw[iR,pq];have hd:∀c:Bool,(if c=true then (n,NameKind.cell) else (n,q)).1=n:=λc=>by cases c<;>rfl
  rw[hd];by_cases z:x=n
  ·subst z;simp only[D_] at h ⊢;cases h
   split
   ·exact .inl rfl
   ·exact .inr rfl
  ·have z':(x==n)=false:=by simpa using z
   simp only[z'] at h ⊢;exact Nh h
structure oE(n:Nat)(h1:Heap)(names:List (Str×NameKind))(cl jG:List (Str×Addr)):Prop where
 d1:∀x c,jG.lookup x=some c->(cl.lookup x=some c/\(x,NameKind.cell)∉names)\/((x,NameKind.cell)∈names/\n<c/\h1.IsCell c none)
 d2:∀x y c,n<c->jG.lookup x=some c->jG.lookup y=some c->x=y
 d3:∀x,names.lookup x=some .cell->∃c,jG.lookup x=some c
 d4:∀x c,(x,NameKind.cell)∉names->cl.lookup x=some c->jG.lookup x=some c
theorem cc:(NameKind.cell==NameKind.cell)=true:=by decide
theorem IW:∀(names:List (Str×NameKind)) (h:Heap) (b:Addr) (o:Obj),h.get? b=some o->(pushCells h names).get? b=some o
 |[],h,b,o,e=>e
 |(x,k)::r,h,b,o,e=>by
  rw[pushCells]
  split
  ·exact IW r _ b o (cN _ e)
  ·exact IW r h b o e
theorem Sd:∀(names:List (Str×NameKind)) (h:Heap) (acc:List (Str×Addr)) (x:Str) (c:Addr),(cellsFrom h.objs.size names acc).lookup x=some c->
  (acc.lookup x=some c/\(x,NameKind.cell)∉names)\/((x,NameKind.cell)∈names/\h.objs.size<=c/\(pushCells h names).IsCell c none)
 |[],h,acc,x,c,e=>.inl ⟨e,by simp⟩
 |(y,k)::r,h,acc,x,c,e=>by
  rw[cellsFrom] at e;rw[pushCells];by_cases hk:k=.cell
  ·subst hk;rw[if_pos cc] at e ⊢;have sz:(h.push {cls:=Value.type "cell",data:=Data.cell none}).objs.size=h.objs.size+1:=by unfold Heap.push;simp
   rw[<-sz] at e;rcases Sd r _ _ x c e with ⟨a,b⟩|⟨a,b,d⟩
   ·rw[pq] at a;by_cases z:x=y
    ·subst z;simp at a;subst a;exact .inr ⟨kJ,bK _,_,IW r _ _ _ (fL _ rfl),rfl⟩
    ·have z':(x==y)=false:=by simpa using z
     rw[z'] at a;exact .inl ⟨a,by simp[z,b]⟩
   ·exact .inr ⟨g_ _ a,by lia,d⟩
  ·have hb:(k==NameKind.cell)=false:=by simpa using hk
   rw[if_neg (by rw[hb];decide)] at e ⊢;rcases Sd r _ _ x c e with ⟨a,b⟩|⟨a,b,d⟩
   ·exact .inl ⟨a,by simp[b];intro _ q;exact hk q.symm⟩
   ·exact .inr ⟨g_ _ a,b,d⟩
theorem Sg:∀(names:List (Str×NameKind)) (n:Nat) (acc:List (Str×Addr)) (x y:Str) (c:Addr),(∀u v,acc.lookup u=some c->acc.lookup v=some c->u=v)->(∀u a,acc.lookup u=some a->a<n\/a≠c)->(cellsFrom n names acc).lookup x=some c->(cellsFrom n names acc).lookup y=some c->x=y
 |[],n,acc,x,y,c,h,_,e1,e2=>h x y e1 e2
 |(z,k)::r,n,acc,x,y,c,h,hl,e1,e2=>by
  rw[cellsFrom] at e1 e2;by_cases hk:k=.cell
  ·subst hk;rw[if_pos cc] at e1 e2;refine Sg r (n+1) _ x y c (λu v a b=>?_) (λu a q=>?_) e1 e2
   ·rw[pq] at a b;by_cases u1:u=z
    ·by_cases v1:v=z
     ·rw[u1,v1]
     ·have v':(v==z)=false:=by simpa using v1
      subst u1;simp at a;rw[v'] at b;subst a;have b:acc.lookup v=some n:=b;rcases hl v n b with q|q
      ·exact absurd q (qj _)
      ·exact absurd rfl q
    ·have u':(u==z)=false:=by simpa using u1
     rw[u'] at a;have a:acc.lookup u=some c:=a;by_cases v1:v=z
     ·subst v1;simp at b;subst b;rcases hl u n a with q|q
      ·exact absurd q (qj _)
      ·exact absurd rfl q
     ·have v':(v==z)=false:=by simpa using v1
      rw[v'] at b;exact h u v a b
   ·rw[pq] at q;by_cases u1:u=z
    ·subst u1;simp at q;subst q;exact .inl (LR _)
    ·have u':(u==z)=false:=by simpa using u1
     rw[u'] at q;exact(hl u a q).imp (λq=>vR q) id
  ·have hb:(k==NameKind.cell)=false:=by simpa using hk
   rw[if_neg (by rw[hb];decide)] at e1 e2;exact Sg r n acc x y c h hl e1 e2
theorem Sh:∀(names:List (Str×NameKind)) (n:Nat) (acc:List (Str×Addr)) (x:Str) (c:Addr),(x,NameKind.cell)∉names->acc.lookup x=some c->(cellsFrom n names acc).lookup x=some c
 |[],n,acc,x,c,_,e=>e
 |(z,k)::r,n,acc,x,c,h,e=>by
  rw[cellsFrom];have hr:(x,NameKind.cell)∉r:=λq=>h (g_ _ q);by_cases hk:k=.cell
  ·subst hk;rw[if_pos cc];refine Sh r (n+1) _ x c hr ?_;have:x≠z:=λq=>h (by rw[q];exact kJ);have z':(x==z)=false:=by simpa using this
   rw[pq,z'];exact e
  ·have hb:(k==NameKind.cell)=false:=by simpa using hk
   rw[if_neg (by rw[hb];decide)];exact Sh r n acc x c hr e
theorem Sq:∀(names:List (Str×NameKind)) (acc:List (Str×Addr)) (s:Shared) (Q:List (Str×Addr)->Shared->Prop),
  Q (cellsFrom s.heap.objs.size names acc) {s with heap:=pushCells s.heap names}->
  wpAny M A (forIn names acc λx (cells:List (Str×Addr))=>match x with
   |(name,kind)=>if (kind==NameKind.cell)=true then do
     let a <-alloc {cls:=Value.type "cell",data:=Data.cell none}
     pure (ForInStep.yield ((name,a)::cells))
    else pure (ForInStep.yield cells)) Q E s
 |[],acc,s,Q,h=>by
  rw[Ml];exact aZ h
 |(z,k)::r,acc,s,Q,h=>by
  rw[Ef];rw[cellsFrom,pushCells] at h;by_cases hk:k=.cell
  ·subst hk;rw[if_pos cc,if_pos cc] at h;refine aB ?_;dsimp only;rw[if_pos cc];refine aB (wpAny_alloc (aZ ?_));refine Sq r _ _ Q ?_;have sz:(s.heap.push {cls:=Value.type "cell",data:=Data.cell none}).objs.size=s.heap.objs.size+1:=by unfold Heap.push;simp
   rw[sz];exact h
  ·have hb:(k==NameKind.cell)=false:=by simpa using hk
   rw[if_neg (by rw[hb];decide),if_neg (by rw[hb];decide)] at h;refine aB ?_;dsimp only;rw[if_neg (by rw[hb];decide)];exact aZ (Sq r _ _ Q h)
theorem zhn(old:∀x c,cl.lookup x=some c->c<s.heap.objs.size)(inj:∀x y c,cl.lookup x=some c->cl.lookup y=some c->x=y)
  (h:∀h1 jG,h1.Ns s.heap.objs.size (λ_=>none)->(∀b o,s.heap.get? b=some o->h1.get? b=some o)->oE s.heap.objs.size h1 scope.names cl jG->Q {scope:=scope,locals:=s.heap.objs.size,globals:=globals,cells:=jG,qual:=qual,func:=none,code:=env.code,frame:=env.frame,builtins:=env.builtins} {s with heap:=h1}) :
  wpAny M A (newFunctionEnv scope globals cl [] qual none .none (some env)) Q E s:=by
 unfold newFunctionEnv;refine aB (wpAny_alloc ?_);refine aB ?_;refine Sq scope.names cl _ _ ?_;dsimp only;rw[Ml];refine aB (aZ (aZ ?_));have sz:(s.heap.push {cls:=Value.type (if (some env).isSome=true then "dict" else "frame"),data:=Data.dict #[]}).objs.size=s.heap.objs.size+1:=by unfold Heap.push;simp
 refine h _ _ ?_ (λb o e=>IW _ _ _ _ (cN _ e)) ⟨λx c e=>?_,λx y c hc e1 e2=>?_,λx e=>?_,λx c hx e=>Sh _ _ _ x c hx e⟩
 ·refine⟨_,#[],_,IW _ _ _ _ (fL _ rfl),rfl,?_,λ_=>rfl⟩;intro e he;simp at he
 ·rcases Sd _ _ _ x c e with ⟨a,b⟩|⟨a,b,d⟩
  ·exact .inl ⟨a,b⟩
  ·rw[sz] at b;exact .inr ⟨a,by lia,d⟩
 ·exact Sg _ _ _ x y c (λu v a b=>inj u v c a b) (λu a q=>.inl (by rw[sz];exact vR (old u a q))) e1 e2
 ·have:=Qk scope.names (s.heap.push {cls:=Value.type (if (some env).isSome=true then "dict" else "frame"),data:=Data.dict #[]}).objs.size cl (.inl e);exact Qe.mp this
noncomputable def Cx.blk(X:Cx)(scope:Scope)(cl:List (Str×Addr))(N:List Str)(C:Addr)(s3:Shared)(H3:Hp)(fp:List Addr)(ao:List (Addr×Obj)):Cx where
 prog:=X.prog
 w:=X.w
 K:=X.K
 mg:=X.mg
 base:=X.base
 A:=X.A
 N:=N
 s₀:=s3
 H₀:=H3
 env:=compEnvC scope cl C X.env
 outer:=X.stack
 stack:=X.stack
 ex:=fp
 fn:=λx=>scope.names.lookup x==some .cell
 aj:=X.aj
 pn:=X.pn++ao
 xe:=λ_ _=>False
structure dO(sc scope:Scope):Prop where
 kind:scope.kind=.function
 Zu:∀y∈scope.names,y.2=.cell->scope.names.lookup y.1=some .cell
 free:∀y∈scope.names,y.2=.free->sc.names.lookup y.1=some .cell\/sc.names.lookup y.1=some .free
 loc:∀y∈scope.names,y.2=.local->scope.names.lookup y.1=some .local
section
variable {X:Cx}{ao:List (Addr×Obj)}{Z:St}{H:Hp}{s:Shared}{scope:Scope}{cl:List (Str×Addr)}{N:List Str}{fp:List Addr}{ZY:St}
theorem zkx{h1:Heap}{t:Nat}{jG:List (Str×Addr)}(I:Inv X ao Z H s)(B:dO X.env.scope scope)(c1:∀x c,cl.lookup x=some c->X.env.cells.lookup x=some c)(c2:∀x∈scope.names,x.2=.free->∃c,cl.lookup x.1=some c)
  (f:∀b∈fp,iZ X ao H b) (fo:∀b∈fp,∃o,s.heap.get? b=some o) (hn:h1.Ns s.heap.objs.size (λ_=>none)) (kp:∀b o,s.heap.get? b=some o->h1.get? b=some o) (CN:oE s.heap.objs.size h1 scope.names cl jG)
  (hl:ZY.length=N.length) (hZ:∀(i:Nat) (x:Str) (v:V),N[i]?=some x->ZY[i]?=some (some v)->scope.names.lookup x=some .free/\∃j:Nat,X.N[j]?=some x/\Z[j]?=some (some v)) :
  Inv (X.blk scope jG N s.heap.objs.size s H fp ao) [] ZY H {s with heap:=h1,toks:=t}:=by
 have lt:∀b o,s.heap.get? b=some o->b≠s.heap.objs.size:=λb o q=>dX (cg q);have Zv:∀b,b≠X.env.locals->b∉X.fs->b∉frs X.stack:=λb a c z=>(gF.mp (I.mH b z)).elim a c;have mem_of:∀x k,scope.names.lookup x=some k->(x,k)∈scope.names:=λx k q=>DP q;have old:∀x c,cl.lookup x=some c->c<s.heap.objs.size:=λx c q=>by
  obtain⟨v,o,q1,q2⟩:=I.cell x c (c1 x c q);exact cg q1
 have Zw:∀x,scope.names.lookup x=some .free->(x,NameKind.cell)∉scope.names:=λx q z=>by
  have:=B.Zu _ z rfl;have this:scope.names.lookup x=some .cell:=this;rw[q] at this;cases this
 refine⟨⟨I.ok.mod,B.kind,I.ok.glob,I.ok.blt,bK _,λx y c a b=>?_,λx hx=>?_,λx c z q=>?_,I.ok.hd,I.ok.frames,.inl rfl,λb hb=>?_,I.bs,jo I.ok.wR I.sz,λb o q hb=>?_,λb hb=>Zv b (f b hb).2.1 (f b hb).2.2.1,I.stack,I.jF⟩,
  rfl,I.bare,Un.kept kp,⟨_,hn,λi x v e1 e2 e3=>?_⟩,λx c q=>?_,I.hok.fresh (bK _),λx c q=>?_,λp hp=>?_,I.hok.kept kp,hl⟩
 ·by_cases hc:s.heap.objs.size<c
  ·exact CN.d2 x y c hc a b
  ·rcases CN.d1 x c a with ⟨a1,_⟩|⟨_,a1,_⟩
   ·rcases CN.d1 y c b with ⟨b1,_⟩|⟨_,b1,_⟩
    ·exact I.ok.inj x y c (c1 x c a1) (c1 y c b1)
    ·exact absurd b1 hc
   ·exact absurd a1 hc
 ·have hx:(relabel scope X.env).names.lookup x=some .cell\/(relabel scope X.env).names.lookup x=some .free:=hx;have fr:scope.names.lookup x=some .cell\/scope.names.lookup x=some .free:=by
   rcases hx with hx|hx
   ·rcases R_ hx with z|⟨_,z⟩
    ·exact .inl z
    ·exact .inr z
   ·rcases R_ hx with z|⟨z,_⟩
    ·exact .inr z
    ·cases z
  rcases fr with fr|fr
  ·exact CN.d3 x fr
  ·obtain⟨c,hc⟩:=c2 (x,.free) (mem_of x _ fr) rfl;exact⟨c,CN.d4 x c (Zw x fr) hc⟩
 ·rcases CN.d1 x c q with ⟨_,q1⟩|⟨_,q1,_⟩
  ·have z:(scope.names.lookup x==some NameKind.cell)=true:=z;exact absurd (mem_of x _ (by simpa using z)) q1
  ·exact yO q1
 ·obtain⟨o,q⟩:=fo b hb;refine⟨lt b o q,λx c z=>?_⟩;rcases CN.d1 x c z with ⟨q1,_⟩|⟨_,q1,_⟩
  ·exact(f b hb).2.2.2.2.1 x c (c1 x c q1)
  ·exact λe=>absurd (cg q) (by rw[<-e];exact Nat.not_lt.mpr (yO q1))
 ·obtain⟨_,_,_,z,_⟩:=f b hb;rcases z with z|z
  ·exact I.ok.uq b o q z
  ·exact absurd (iB (cg q) (jo I.ok.wR z)) (qj _)
 ·obtain⟨fr,j,hj,hv⟩:=hZ i x v e1 e2;have hk:=B.free (x,.free) (mem_of x _ fr) rfl;obtain⟨m,hm,hlk⟩:=I.loc;obtain⟨u,r,l⟩:=hlk j x v hj hv (hk.elim (λz=>.inr (.inl z)) λz=>.inr (.inr z));obtain⟨c',kZ⟩:=c2 (x,.free) (mem_of x _ fr) rfl;have kZ:cl.lookup x=some c':=kZ;refine⟨u,r,.inr ⟨Nh fr,c',CN.d4 x c' (Zw x fr) kZ,?_⟩⟩;rcases l with ⟨k1,_⟩|⟨_,c,k2,oc,k3,k4⟩
  ·have k1:X.env.scope.names.lookup x=some .local:=k1;rcases hk with hk|hk
   ·have hk:X.env.scope.names.lookup x=some .cell:=hk;rw[k1] at hk;cases hk
   ·have hk:X.env.scope.names.lookup x=some .free:=hk;rw[k1] at hk;cases hk
  ·have e:=c1 x c' kZ;rw[k2] at e;cases e;exact⟨oc,kp _ oc k3,k4⟩
 ·rcases CN.d1 x c q with ⟨q1,_⟩|⟨_,_,q1⟩
  ·obtain⟨v,o,q1,q2⟩:=I.cell x c (c1 x c q1);exact⟨v,o,kp c o q1,q2⟩
  ·exact⟨none,q1⟩
 ·rcases CN.d1 x c q with ⟨q1,_⟩|⟨_,q1,_⟩
  ·exact I.fC x c (c1 x c q1)
  ·exact I.hok.fresh (yO q1)
 ·have hp:p∈X.pn++ao:=by
   have z:p∈(X.pn++ao)++[]:=hp;simpa using z
  obtain⟨a1,a2,a3,a4,a5⟩:=I.pin p hp;exact⟨kp _ _ a1,a2,lt _ _ a1,Zv _ a3 a4,a5⟩
theorem zdK(I:Inv X ao Z H s)(f:∀b∈fp,iZ X ao H b)(bO:Inv (X.blk scope cl N s.heap.objs.size s H fp ao) [] Z' H' s'):Inv X ao Z H' s':=
 I.call' (ch:=fp) bO.os bO.base bO.hok bO.bare λb hb=>by
  obtain⟨_,a2,_,a4,a5,a6⟩:=f b hb;exact⟨a4.imp id λz=>Gw z,a2,a5,a6⟩
theorem Zx{Z':St}{H':Hp}{s':Shared}{h2:Heap}{C:Addr}(bO:Inv X ao Z H' s')(hC:X.s₀.heap.objs.size<=C)(n1:H' C=none)(n2:C≠X.env.locals)(n3:∀x c,X.env.cells.lookup x=some c->c≠C)(n4:∀p∈X.pn++ao,p.1≠C)
  (sb:Heap.SameBut C s'.heap h2):Inv X ao Z H' {s' with heap:=h2}:=
 bO.turned (t':=s'.toks) (λb o z q=>(sb.2 b z).trans q) n1 n2 (.inr hC) n3 n4
end
noncomputable abbrev qD(ifs:List Expr)(env:Env):Sem Bool:=forIn ifs true λc r=>if r=true then do let ok <-isTrue c env (eval c env);pure (ForInStep.yield ok) else pure (ForInStep.yield r)
theorem zgp{prog:Program}{w:World}{A:Around}{R:Result->Shared->Prop}{s:Shared}{elt target iter:Expr}{ifs:List Expr}{scope:Scope}{pos:Pos}{it acc:Value}{env:Env}(V:Nat->Shared->Prop)
  (turn:∀n s,V n s->wpAny (model prog w) A (pyNext it) (λr s₁=>match r with
   |none=>R (.ok .next) s₁
   |some v=>wpAny (model prog w) A (letOwnedTupleGo target it v) (λ_ s₂=>wpAny (model prog w) A (assign target env v) (λ_ s₃=>
     wpAny (model prog w) A (qD ifs env) (λok s₄=>
      if ok=true then wpAny (model prog w) A (eval elt env) (λx s₅=>wpAny (model prog w) A (call (.builtin "list.append") [acc,x]) (λ_ s₆=>∃m,m<n/\V m s₆) (λ_ _=>False) s₅) (λ_ _=>False) s₄
      else ∃m,m<n/\V m s₄) (λ_ _=>False) s₃) (λ_ _=>False) s₂) (λ_ _=>False) s₁) (λ_ _=>False) s)
  (n:Nat) (h:V n s):codeAny (model prog w) A (.compLoop (.ListComp elt [⟨target,iter,ifs,0⟩] scope pos) 0 it acc env) R s:=by
 refine codeAny_loop rfl V (λn s hV=>?_) n h;show wpAny _ A ((compTurn (.ListComp elt [⟨target,iter,ifs,0⟩] scope pos) 0 it acc env).onRaise (λx=>do noteFrame x env;theTreesLotGoes x)) _ _ s;refine wpAny_noted ?_;rw[compTurn_list];refine aB (wpAny_standAt (aB (lH (turn n s hV) (λr s₁ h₁=>?_) λ_ _ z=>z.elim)));cases r with
 |none=>exact aZ h₁
 |some v=>
  refine aB (lH h₁ (λ_ s₂ h₂=>?_) λ_ _ z=>z.elim);refine aB (lH h₂ (λ_ s₃ h₃=>aB (lH h₃ (λok s₄ h₄=>?_) λ_ _ z=>z.elim)) λ_ _ z=>z.elim);cases ok with
  |true=>
   simp only[if_true] at h₄ ⊢;exact aB (aB (lH h₄ (λx s₅ h₅=>aB (lH h₅ (λ_ s₆ h₆=>aZ (aZ ⟨rfl,h₆⟩)) λ_ _ z=>z.elim)) λ_ _ z=>z.elim))
  |false=>
   simp only[yJ,sZ] at h₄ ⊢;exact aZ ⟨rfl,h₄⟩
def Ni(X:Cx)(ifs:List Expr)(t:TT):Prop:=
 ∀(ao:List (Addr×Obj)) (s:Shared) (Z:St) (H:Hp) (Q:Bool->Hp->Prop),Inv X ao Z H s->t Z H Q->wpAny (model X.prog X.w) X.A (qD ifs X.env) (TP X ao Z Q) X.xe s
noncomputable def Ss:TT:=λ_ H Q=>Q true H
theorem zkX:Ni X [] Ss:=λ_ _ _ H _ I h=>wpAny_tests_nil ⟨H,I,h⟩
theorem zjL(h:PT X c t):Ni X [c] t:=λao s Z H Q I hq=>wpAny_tests_one (h ao s Z H Q I hq)
def I8(ZY:St->St)(g:TG)(tt:TT)(te:TE)(bO:It)(Z:St)(H:Hp)(Q:VK):Prop:=∀D,H D=none->∃W:Nat->Nat->St->Hp->Prop,(∃m,W 0 m (ZY Z) (upd H D (.lst [])))/\∀i m Z' H',W i m Z' H'->
 (bO.stop i H'/\Q (.ref D) H')\/(bO.go i H'/\∃N:St->Hp->Prop,(∀Z2 H2,N Z2 H2->∃m',m'<m/\W (i+1) m' Z2 H2)/\∀x H2,bO.Bp i H' x H2->g x Z' H2 λZ3 H3=>tt Z3 H3 λok H4=>
  if ok=true then te Z3 H4 λy H5=>∃ys,H5 D=some (.lst ys)/\ys.length<sizeLine/\N Z3 (upd H5 D (.lst (ys++[y]))) else N Z3 H4)
section
variable {X:Cx}{elt tg iter:Expr}{ifs:List Expr}{scope:Scope}{pos:Pos}{N:List Str}{ZY:St->St}{wi:TI}{g:TG}{tt:TT}{te:TE}
structure Parts(X:Cx)(elt tg:Expr)(ifs:List Expr)(scope:Scope)(N:List Str)(g:TG)(tt:TT)(te:TE):Prop where
 tgt:∀cl C s3 H3 fp ao,PG (X.blk scope cl N C s3 H3 fp ao) tg g
 tst:∀cl C s3 H3 fp ao,Ni (X.blk scope cl N C s3 H3 fp ao) ifs tt
 el:∀cl C s3 H3 fp ao,PE (X.blk scope cl N C s3 H3 fp ao) elt te
theorem Zy(hc:X.aj=true)(B:dO X.env.scope scope)(P:Parts X elt tg ifs scope N g tt te)(hl:∀Z,(ZY Z).length=N.length)
  (hZ:∀(Z:St) (i:Nat) (x:Str) (v:V),N[i]?=some x->(ZY Z)[i]?=some (some v)->scope.names.lookup x=some .free/\∃j:Nat,X.N[j]?=some x/\Z[j]?=some (some v))
  {ao:List (Addr×Obj)} {s:Shared} {Z:St} {H:Hp} {Q:VK} {it:Addr} {fp:List Addr} {tn:Nat->Heap->Prop} {bO:It} (I:Inv X ao Z H s) (T:Turn X.prog X.w X.K tg bO fp it tn) (st:tn 0 s.heap) (f:∀b∈fp,iZ X ao H b) (h:I8 ZY g tt te bO Z H Q)
  {cl:List (Str×Addr)} (c1:∀x c,cl.lookup x=some c->X.env.cells.lookup x=some c) (c2:∀x∈scope.names,x.2=.free->∃c,cl.lookup x.1=some c) {R:Value->Addr->Result->Shared->Prop} {E:Value->Shared->Prop}
  (k:∀D C s' H',Inv X ao Z H' s'->X.s₀.heap.objs.size<=C->H' C=none->C≠X.env.locals->(∀x c,X.env.cells.lookup x=some c->c≠C)->(∀p∈X.pn++ao,p.1≠C)->(∃m,s'.heap.Ns C m)->Q (.ref D) H'->R (.ref D) C (.ok .next) s') :
  wpAny (model X.prog X.w) X.A (newList []) (λacc s₃=>wpAny (model X.prog X.w) X.A (newFunctionEnv scope X.env.globals cl [] X.env.qual none .none (some X.env)) (λcenv s₄=>
   codeAny (model X.prog X.w) X.A (.compStart (.ListComp elt [⟨tg,iter,ifs,0⟩] scope pos) 0 (.ref it) acc {cenv with scope:=relabel scope X.env}) (R acc cenv.locals) s₄) E s₃) E s:=by
 refine vQ ?_;have hD:H s.heap.objs.size=none:=I.hok.fresh (bK _);have I3:Inv X ao Z (upd H s.heap.objs.size (.lst [])) {s with heap:=s.heap.push {cls:=.type "list",dict:=none,data:=.seq ([]:List Value).toArray}}:=
  I.laid (t':=s.toks) (λb u q=>cN _ q) (bK _) ⟨vX _,[],0,.nil,fL _ rfl⟩
 have f3:∀b∈fp,iZ X ao (upd H s.heap.objs.size (.lst [])) b:=λb hb=>by
  obtain⟨a1,a2⟩:=f b hb;obtain⟨o,q,_⟩:=T.obj 0 _ st b hb;exact⟨by rw[cY (dX (cg q))];exact a1,a2⟩
 have st3:tn 0 (s.heap.push {cls:=.type "list",dict:=none,data:=.seq ([]:List Value).toArray}):=T.keep _ _ _ st λb hb o q=>cN _ q;obtain⟨W,⟨m0,w0⟩,turn⟩:=h s.heap.objs.size hD;generalize Sv:({s with heap:=s.heap.push {cls:=.type "list",dict:=none,data:=.seq ([]:List Value).toArray}}:Shared)=s3 at *;have BX:tn 0 s3.heap:=by rw[<-Sv];exact st3
 generalize hH3:upd H s.heap.objs.size (.lst [])=H3 at *;refine zhn (λx c q=>by obtain⟨v,o,q1,_⟩:=I3.cell x c (c1 x c q);exact cg q1) (λx y c a b=>I3.ok.inj x y c (c1 x c a) (c1 y c b)) λh1 jG hn kp CN=>?_;have Sw:Inv (X.blk scope jG N s3.heap.objs.size s3 H3 fp ao) [] (ZY Z) H3 {s3 with heap:=h1}:=
  zkx (t:=s3.toks) I3 B c1 c2 f3 (λb hb=>let ⟨o,q,_⟩:=T.obj 0 _ BX b hb;⟨o,q⟩) hn kp CN (hl Z) (hZ Z)
 have Zz:tn 0 h1:=T.keep _ _ _ BX λb hb o q=>kp b o q;have fY:∀{H':Hp},(∀b∈fp,H' b=none)->∀b∈fp,iZ (X.blk scope jG N s3.heap.objs.size s3 H3 fp ao) [] H' b:=λ{H'} z b hb=>by
  obtain⟨a1,a2,a3,a4,a5,a6⟩:=f3 b hb;obtain⟨o,q,_⟩:=T.obj 0 _ BX b hb;refine⟨z b hb,dX (cg q),λy=>(gF.mp (I3.mH b y)).elim a2 a3,.inl hb,λx c y=>?_,λp hp=>a6 p ?_⟩
  ·rcases CN.d1 x c y with ⟨q1,_⟩|⟨_,q1,_⟩
   ·exact a5 x c (c1 x c q1)
   ·exact λe=>absurd (cg q) (by rw[<-e];exact Nat.not_lt.mpr (yO q1))
  have y:p∈(X.pn++ao)++[]:=hp;simpa using y
 have loop:codeAny (model X.prog X.w) X.A (.compLoop (.ListComp elt [⟨tg,iter,ifs,0⟩] scope pos) 0 (.ref it) (.ref s.heap.objs.size) (compEnvC scope jG s3.heap.objs.size X.env)) (R (.ref s.heap.objs.size) s3.heap.objs.size) {s3 with heap:=h1}:=by
  refine zgp (λn s'=>∃i Z' H',Inv (X.blk scope jG N s3.heap.objs.size s3 H3 fp ao) [] Z' H' s'/\tn i s'.heap/\(∀b∈fp,H' b=none)/\W i n Z' H') ?_ m0 ⟨0,ZY Z,H3,Sw,Zz,λb hb=>(f3 b hb).1,w0⟩;rintro n s5 ⟨i,Z5,H5,xJ,Fb,MP,w5⟩;rcases turn i n Z5 H5 w5 with ⟨stop,q⟩|⟨go,Nx,hN,step⟩
  ·refine bA (T.done (X.blk scope jG N s3.heap.objs.size s3 H3 fp ao) rfl rfl rfl hc i [] s5 Z5 H5 _ xJ (fY MP) Fb stop) λr s6 ⟨hr,jd⟩=>?_;subst hr;have JX:=zdK I3 f3 jd;refine k s.heap.objs.size s3.heap.objs.size s6 H5 JX I3.sz jd.free (wL I3.lt) (λx c y z=>?_) (λp hp z=>?_) ?_ q
   ·obtain⟨v,qc⟩:=I3.cell x c y;exact absurd qc.lt (by rw[z];exact qj _)
   ·exact absurd (cg (I3.pin p hp).1) (by rw[z];exact qj _)
   ·obtain⟨m,hm,_⟩:=jd.loc;exact⟨m,hm⟩
  ·refine bA (T.item (X.blk scope jG N s3.heap.objs.size s3 H3 fp ao) rfl rfl rfl hc i [] s5 Z5 H5 _ xJ (fY MP) Fb go) λr s6 hx=>wO hx λu hr h6=>?_;subst hr;refine bA h6 λ_ s7 hz=>?_;obtain⟨x,H7,mV,r7,y7,Sx,fr7⟩:=hz;have I9:=mV.pinned (fY fr7) (T.obj _ _ Sx);refine bA (P.tgt jG s3.heap.objs.size s3 H3 fp ao _ s7 Z5 H7 x u _ I9 r7 (step x H7 y7)) λ_ s8 hz=>?_;obtain⟨Z8,H8,Sy,q8⟩:=hz;refine bA (P.tst jG s3.heap.objs.size s3 H3 fp ao _ s8 Z8 H8 _ Sy q8) λok s9 hx=>wO hx λH9 I_ q9=>?_;have again:∀{H':Hp} {s':Shared},Inv (X.blk scope jG N s3.heap.objs.size s3 H3 fp ao) ([]++jT fp s7.heap) Z8 H' s'->Nx Z8 H'->∃m,m<n/\∃i Z' H',Inv (X.blk scope jG N s3.heap.objs.size s3 H3 fp ao) [] Z' H' s'/\tn i s'.heap/\(∀b∈fp,H' b=none)/\W i m Z' H':=λ{H' s'} pH n'=>by
    obtain⟨m',hm,w'⟩:=hN Z8 H' n';refine⟨m',hm,i+1,Z8,H',pH.iG,T.keep _ _ _ Sx λb hb o e=>(pH.pin (b,o) (vN _ (vN _ (MN hb e)))).1,λb hb=>?_,w'⟩;obtain⟨o,e,d⟩:=T.obj _ _ Sx b hb;exact(pH.pin (b,o) (vN _ (vN _ (MN hb e)))).2.1
   cases ok with
   |false=>
    rw[if_neg Vu] at q9 ⊢;exact again I_ q9
   |true=>
    rw[if_pos rfl] at q9 ⊢;refine bA (P.el jG s3.heap.objs.size s3 H3 fp ao _ s9 Z8 H9 _ I_ q9) λv s10 hz=>?_;obtain⟨y,H10,Ja,r10,ys,SJ,hz,q10⟩:=hz;refine bA (Zb (X:=(X.blk scope jG N s3.heap.objs.size s3 H3 fp ao)) _ s10 Z8 H10 (.ref s.heap.objs.size) [y] (.ref s.heap.objs.size) [v] (λ_ H'=>Nx Z8 H') Ja rfl (.cons r10 .nil) ⟨s.heap.objs.size,ys,y,rfl,rfl,SJ,hz,q10⟩) λ_ s11 hx=>dY hx λ_ H11 Jc _ q11=>again Jc q11
 exact codeAny_compStart_list loop (T.self _ 0 _ _ _ Zz loop)
end
noncomputable def uH(wi:TI)(ZY:St->St)(g:TG)(tt:TT)(te:TE):TE:=λZ H Q=>wi Z H λbO H1=>I8 ZY g tt te bO Z H1 Q
section
variable {X:Cx}{elt tg iter:Expr}{ifs:List Expr}{scope:Scope}{pos spos py:Pos}{N:List Str}{ZY:St->St}{wi:TI}{g:TG}{tt:TT}{te:TE}{i:Nat}{y:Str}
theorem ZC(I:Inv X ao Z H s)(B:dO X.env.scope scope):∃cl,closureFor scope X.env=pure cl/\(∀x c,cl.lookup x=some c->X.env.cells.lookup x=some c)/\∀x∈scope.names,x.2=.free->∃c,cl.lookup x.1=some c:=
 zfs λx hx hf=>I.ok.has x.1 (B.free x hx hf)
theorem zla(hc:X.aj=true)(B:dO X.env.scope scope)(hi:PI X tg iter wi)(P:Parts X elt tg ifs scope N g tt te)(hl:∀Z,(ZY Z).length=N.length)
  (hZ:∀(Z:St) (i:Nat) (x:Str) (v:V),N[i]?=some x->(ZY Z)[i]?=some (some v)->scope.names.lookup x=some .free/\∃j:Nat,X.N[j]?=some x/\Z[j]?=some (some v))
  (hs:∀x,foldedSetIterable iter X.env x=pure x:=by intro _;rfl):PE X (.ListComp elt [⟨tg,iter,ifs,0⟩] scope pos) (uH wi ZY g tt te):=by
 intro ao s Z H Q I h;obtain⟨cl,Fe,c1,c2⟩:=ZC I B;rw[eval_ListComp];refine wpAny_comprehension_free (use:=none) rfl hs Fe B.kind B.loc (bA (hi ao s Z H _ I h) λxv s1 h1=>bA h1 λitv s2 h2=>?_);obtain⟨it,fp,tn,bO,H2,e,I2,T,st2,f2,hq⟩:=h2;subst e;exact Zy hc B P hl hZ I2 T st2 f2 hq c1 c2 (R:=λacc C=>compPost (model X.prog X.w) X.A X.xe none (EP X ao Z Q) acc C) λD C s' H' pH a b c d e ⟨m,hm⟩ q=>⟨m,hm,λh' sb=>⟨.ref D,H',Zx (Z':=Z) pH a b c d e sb,rfl,q⟩⟩
theorem zfu(hc:X.aj=true)(hN:X.N.Nodup)(Jd:X.N[i]?=some y)(hx:Loc X.env.scope y)(hf:X.fn y=true\/X.env.scope.names.lookup y=some .local)(B:dO X.env.scope scope)(hi:PI X tg iter wi)(P:Parts X elt tg ifs scope N g tt te)(hl:∀Z,(ZY Z).length=N.length)
  (hZ:∀(Z:St) (i:Nat) (x:Str) (v:V),N[i]?=some x->(ZY Z)[i]?=some (some v)->scope.names.lookup x=some .free/\∃j:Nat,X.N[j]?=some x/\Z[j]?=some (some v))
  (Je:swapsWith (.ListComp elt [⟨tg,iter,ifs,0⟩] scope pos) (some (.Name y py)) spos.line X.env=pure true) (hs:∀x,foldedSetIterable iter X.env x=pure x:=by intro _;rfl) :
  PS X (.Assign [.Name y py] (.ListComp elt [⟨tg,iter,ifs,0⟩] scope pos) spos) (Bm (uH wi ZY g tt te) (eN i)):=by
 intro ao s Z H D I h;obtain⟨cl,Fe,c1,c2⟩:=ZC I B;rw[exec_Assign_Name_used _ _ _ _ Je];refine aB (wpAny_standAt (aB ?_));show wpAny _ X.A (do let _ <-comprehension (.ListComp elt [⟨tg,iter,ifs,0⟩] scope pos) scope X.env _ (newList []) false (eval iter X.env) (some (assign (.Name y py) X.env))) _ _ s;refine aB (wpAny_comprehension_free (use:=some (assign (.Name y py) X.env)) rfl hs Fe B.kind B.loc (bA (hi ao s Z H _ I h) λxv s1 h1=>bA h1 λitv s2 h2=>?_));obtain⟨it,fp,tn,bO,H2,e,I2,T,st2,f2,hq⟩:=h2;subst e;refine Zy hc B P hl hZ I2 T st2 f2 hq c1 c2 (R:=λacc C=>compPost (model X.prog X.w) X.A X.xe (some (assign (.Name y py) X.env)) _ acc C) λD' C s' H' pH a b c d e ⟨m,hm⟩ q=>?_;show wpAny _ _ (assign (.Name y py) X.env (.ref D')) _ _ s';refine wpAny_assign_Name (Yo (v:=.ref D') pH hN Jd hx rfl (λs5 xJ ⟨ad,sb,had⟩=>?_) hf);have nC:C≠ad:=by
  rcases had with z|z
  ·rw[z];exact c
  ·exact(d y ad z).symm
 obtain⟨ol,es,ep,e1,r1⟩:=hm;refine⟨m,⟨ol,es,ep,(sb.2 C nC).trans e1,r1⟩,λh' sb'=>aZ (aZ ⟨_,H',Zx (Z':=Z) xJ a b c d e sb',q⟩)⟩
end
end L2
namespace L2
open PySem PySem.Spec PyProof.Rows PySem.W
noncomputable def bT{α:Type}(lt:Nat->Nat->Option Bool):KasT α->Option α
 |.ret a=>some a
 |.ask i j k=>match lt i j with
  |some b=>bT lt (k b)
  |none=>none
theorem ZD{α:Type}{lt:Nat->Nat->Option Bool}{cmp:Nat->Nat->(Bool->Shared->Prop)->Shared->Prop}{Q:α->Shared->Prop}{s:Shared}(hc:∀i j b C,lt i j=some b->C b s->cmp i j C s){a:α}(q:Q a s):∀{t:KasT α},bT lt t=some a->t.kasWp cmp Q s
 |.ret a',h=>by
  unfold bT at h;cases h;exact q
 |.ask i j k,h=>by
  unfold bT at h;cases e:lt i j with
  |none=>rw[e] at h;cases h
  |some b=>
   rw[e] at h;exact hc i j b _ e (ZD hc q h)
noncomputable def jA(vs:List Value)(p:Array Nat):Array Value:=if vs.length<2 then vs.toArray else List.toArray (p.toList.map λi=>vs.getD i Value.none)
section
variable {prog:Program}{w:World}{A:Around}{E:Value->Shared->Prop}{s:Shared}{κ:SortKind}{lt:Nat->Nat->Option Bool}{p:Array Nat}
theorem zcP{a:Addr}{vs:List Value}{n:Nat}{P:PySem.Fin->Shared->Prop}(ho:s.heap.get? a=some (seqObj "list" vs.toArray n))(uI:vs.length<64)
  (hk:2<=vs.length->∀(s':Shared) (Q:SortKind->Shared->Prop),(∀b o,b≠a->s.heap.get? b=some o->s'.heap.get? b=some o)->Q κ s'->wpAny (model prog w) A (keyKind' vs.toArray) Q E s')
  (dF:2<=vs.length->∀(s':Shared) i j b C,(∀b o,b≠a->s.heap.get? b=some o->s'.heap.get? b=some o)->lt i j=some b->C b s'->kas_ask prog w A κ vs i j C s') (hr:2<=vs.length->bT lt (kas_sort vs.length)=some p) (SM:2<=vs.length->p.size=vs.length)
  (h:P (.done (.ret .none)) {s with heap:=sortedHeap s.heap a vs (jA vs p)}) :
  wpAny (model prog w) A (Builtin.«list.sort» ⟨[.ref a],[]⟩) P E s:=by
 rw[list_sort_plain];have ha:a<s.heap.objs.size:=cg ho;refine aB (listItems_at ho rfl ?_);refine aB (listUpdate_at ho rfl ?_ (by rw[fQ,sY];lia) (vX _));obtain⟨e1,Nj⟩ : ∃e1,(s.heap.update a (Obj.mapSeq λ_=>#[])).get? a=some (seqObj "list" #[] e1):=⟨_,get?_update_seq ho (λ_=>#[])⟩;refine aB (seqEpoch_at Nj rfl ?_);refine aB (wpAny_newTuple ?_ (by show vs.length<=_;rw[sY];lia));refine aB (wpAny_newList ?_ (vX _));refine sX ?_;have keep:∀b o,b≠a->s.heap.get? b=some o->(((s.heap.update a (Obj.mapSeq λ_=>(#[]:Array Value))).push (seqObj "tuple" vs.toArray 0)).push (seqObj "list" #[] 0)).get? b=some o:=λb o nb e=>
  cN _ (cN _ ((Heap.get?_update_ne _ _ _ _ nb).trans e))
 have Nk:(((s.heap.update a (Obj.mapSeq λ_=>(#[]:Array Value))).push (seqObj "tuple" vs.toArray 0)).push (seqObj "list" #[] 0)).get? a=some (seqObj "list" #[] e1):=by
  rw[Lz _ _ _ (by rw[size_push',Heap.size_update];exact dX (vR ha)),Lz _ _ _ (by rw[Heap.size_update];exact dX ha)];exact Nj
 show wpAny (model prog w) A _ P E {s with heap:=((s.heap.update a (Obj.mapSeq λ_=>#[])).push (seqObj "tuple" vs.toArray 0)).push (seqObj "list" #[] 0)};dsimp only;have hsz:vs.toArray.size=vs.length:=by simp
 by_cases h2:vs.toArray.size<2
 ·rw[if_pos h2,if_pos h2];refine aB (aZ ?_);rw[StateT.run_pure];refine aB (aZ ?_);dsimp only;refine aB (seqEpoch_at Nk rfl ?_);refine aB (listUpdate_at Nk rfl ?_ (vX _) (by rw[Array.size_map];show (pairsOf vs).size<=_;rw[pairsOf_size,sY];lia));simp only[bne_self_eq_false,yJ,sZ];have e:((vs.toArray.zip vs.toArray).map (·.2))=jA vs p:=by
   unfold jA;rw[if_pos (by rw[hsz] at h2;exact h2)];apply Array.toList_inj.mp;simp[List.map_snd_zip]
  refine aZ ?_;have h':=h;rw[<-e] at h';exact h'
 ·rw[if_neg h2,if_neg h2];have oF:2<=vs.length:=by lia
  refine aB (hk oF _ _ keep ?_);refine aB (lH (kat_run (κ:=κ) (ks:=vs) (vs:=vs) (G:=λp' s'=>p'=p/\s'={s with heap:=((s.heap.update a (Obj.mapSeq λ_=>#[])).push (seqObj "tuple" vs.toArray 0)).push (seqObj "list" #[] 0)})
   (Q:=λst' s'=>arrOf st'=p.map (kas_item (vs.toArray.zip vs.toArray))/\failedOf st'=none/\s'={s with heap:=((s.heap.update a (Obj.mapSeq λ_=>#[])).push (seqObj "tuple" vs.toArray 0)).push (seqObj "list" #[] 0)})
   rfl oF uI (λp' st' s' a1 a2 a3 a4=>⟨by rw[a2,a4.1],a3,a4.2⟩) (ZD (λi j b C hl hC=>dF oF _ i j b C keep hl hC) ⟨rfl,rfl⟩ (hr oF))) ?_ λ_ _ e=>e)
  rintro⟨⟨⟩,st'⟩ s' ⟨Nm,hf,rfl⟩;dsimp only;have hout:=kat_snds (ks:=vs) (vs:=vs) rfl Nm;have e:List.toArray (p.toList.map λi=>vs.getD i Value.none)=jA vs p:=by
   unfold jA;rw[if_neg gV]
  rw[hout,e];have hso:(jA vs p).size=vs.length:=by rw[<-e,fQ,bI,vO,SM oF]
  refine aB (seqEpoch_at Nk rfl ?_);refine aB (listUpdate_at Nk rfl ?_ (vX _) (by rw[hso,sY];lia));rw[hf];simp only[bne_self_eq_false,yJ,sZ];exact aZ h
theorem SN(hl:s.heap.IsList l vs.toArray)(uI:vs.length<64)
  (hk:2<=vs.length->∀(s':Shared) (Q:SortKind->Shared->Prop) E,(∀b o,s.heap.get? b=some o->s'.heap.get? b=some o)->Q κ s'->wpAny (model prog w) A.in1.in1 (keyKind' vs.toArray) Q E s')
  (dF:2<=vs.length->∀(s':Shared) i j b C,(∀b o,s.heap.get? b=some o->s'.heap.get? b=some o)->lt i j=some b->C b s'->kas_ask prog w A.in1.in1 κ vs i j C s') (hr:2<=vs.length->bT lt (kas_sort vs.length)=some p) (SM:2<=vs.length->p.size=vs.length)
  (h:Q (.ref (s.heap.objs.size+1)) {s with heap:=sortedAll s.heap vs (jA vs p)}) :
  wpAny (model prog w) A (call (.builtin "sorted") [.ref l]) Q E s:=by
 refine Calls.call_function_entry kind_sorted plain_sorted entry_sorted (args_sorted1 _) ?_;unfold Builtin.«sorted»;refine aB (m:=checkCount "sorted" 1 1 _) (aZ ?_);refine aB (collect_list hl ?_ (by rw[sY];lia));refine aB (wpAny_newList ?_ (by rw[sY];lia));have hsz:((s.heap.push (seqObj "list" #[] 0)).update s.heap.objs.size (Obj.mapSeq (·++vs.toArray))).objs.size=s.heap.objs.size+1:=by
  rw[Heap.size_update,size_push']
 have Mw:(((s.heap.push (seqObj "list" #[] 0)).update s.heap.objs.size (Obj.mapSeq (·++vs.toArray))).push (seqObj "list" vs.toArray 0)).get? (s.heap.objs.size+1)=some (seqObj "list" vs.toArray 0):=by
  rw[<-hsz];exact fL _ rfl
 have keep:∀b o,s.heap.get? b=some o->(((s.heap.push (seqObj "list" #[] 0)).update s.heap.objs.size (Obj.mapSeq (·++vs.toArray))).push (seqObj "list" vs.toArray 0)).get? b=some o:=λb o q=>by
  have dF:b<s.heap.objs.size:=cg q;rw[Lz _ _ _ (by rw[hsz];exact dX (vR dF)),Heap.get?_update_ne _ _ _ _ (dX dF),Lz _ _ _ (dX dF)];exact q
 show wpAny _ _ _ _ _ {s with heap:=((s.heap.push (seqObj "list" #[] 0)).update s.heap.objs.size (Obj.mapSeq (·++vs.toArray))).push (seqObj "list" vs.toArray 0)};rw[hsz];have nn:∀b o,s.heap.get? b=some o->b≠s.heap.objs.size+1:=λb o e=>dX (vR (cg e));refine aB (sX (yL slot_list_sort ⟨_,Mw,rfl⟩ entry_list_sort (zcP (κ:=κ) (lt:=lt) (p:=p) Mw uI (λh2 s' Q' k q=>hk h2 s' Q' _ (λb o e=>k b o (nn b o e) (keep b o e)) q) (λh2 s' i j b C k e q=>dF h2 s' i j b C (λb o e=>k b o (nn b o e) (keep b o e)) e q) hr SM ⟨_,rfl,?_⟩) (args_list_sort _)));exact aZ ⟨_,rfl,h⟩
end
noncomputable def lg:List V->List V->Option Bool
 |[],ys=>some (decide (0<ys.length))
 |_::_,[]=>some false
 |.int x::xs,.int y::ys=>if x=y then lg xs ys else some (decide (x<y))
 |_::_,_::_=>none
theorem zmC{prog:Program}{w:World}{A:Around}{s:Shared}{fin:Bool}{C:Bool->Shared->Prop}{b:Bool}:∀{us ws:List V} {its jts:List Value} {i:Nat},Vals us its->Vals ws jts->lg us ws=some b->fin=decide (us.length<ws.length)->C b s->KatLex prog w A true fin C (its.zip jts) i s:=by
 intro us ws its jts i r1
 induction r1 generalizing ws jts i with
 |nil=>
  intro _ h hf hc;rw[List.zip_nil_left];unfold lg at h;cases h;rw[hf];exact kat_nil hc
 |@cons x u us its rx ri ih=>
  intro r2 h hf hc;cases r2 with
  |nil=>
   rw[List.zip_nil_right];unfold lg at h;cases h;rw[hf];exact kat_nil (by simpa using hc)
  |@cons y v ws jts ry rj=>
   rw[GC];cases x with
   |int a=>
    cases y with
    |int c=>
     obtain⟨t,rfl⟩:=rx;obtain⟨t',rfl⟩:=ry;unfold lg at h;refine kat_cons (wpAny_eqBool_int ?_);by_cases e:a=c
     ·rw[if_pos e] at h;subst e;rw[D_];exact kat_yes (ih rj h (by rw[hf];simp) hc)
     ·rw[if_neg e] at h;cases h;rw[show (a==c)=false by simpa using e];refine kat_no ?_;by_cases hi:i=0
      ·subst hi;exact oneLt_int hc
      ·rw[show (true&&i==0)=false by simpa using hi];exact kat_one _ _ (wpAny_lt_int hc)
    |_=>cases h
   |_=>cases y<;>cases h
def uJ(K:W.Frag)(H:Hp)(ys:List V)(lt:Nat->Nat->Option Bool):Prop:=
 ((∀v∈ys,∃i,v=V.int i)/\∀i j b,lt i j=some b->∃x y,ys[i]?=some (.int x)/\ys[j]?=some (.int y)/\b=decide (x<y)) \/
 ((∀v∈ys,∃a i r,v=.ref a/\fU K H a (.int i::r))/\∀i j b,lt i j=some b->∃a c us ws,ys[i]?=some (.ref a)/\ys[j]?=some (.ref c)/\fU K H a us/\fU K H c ws/\lg us ws=some b)
noncomputable def lq(ys:List V)(p:Array Nat):List V:=if ys.length<2 then ys else p.toList.map λi=>ys.getD i .non
theorem ZF(r:Vals ys its):∀l:List Nat,Vals (l.map λi=>ys.getD i .non) (l.map λi=>its.getD i Value.none)
 |[]=>.nil
 |i::l=>by
  refine .cons ?_ (ZF r l);cases e:ys[i]? with
  |some y=>
   obtain⟨u,e1,e2⟩:=r.get e;show RelV (ys.getD i .non) (its.getD i Value.none);rw[nP,nP,e,e1];exact e2
  |none=>
   have e1:its[i]?=none:=by rw[o9] at e ⊢;rw[<-r.length];exact e
   show RelV (ys.getD i .non) (its.getD i Value.none);rw[nP,nP,e,e1];rfl
theorem zh1{ys:List V}{its:List Value}(r:Vals ys its)(p:Array Nat):Vals (lq ys p) (jA its p).toList:=by
 unfold lq jA;rw[r.length];by_cases h:its.length<2
 ·rw[if_pos h,if_pos h];exact r
 ·rw[if_neg h,if_neg h];exact ZF r p.toList
theorem ziD{ys:List V}{its:List Value}(r:Vals ys its):∀u∈its,∃v∈ys,RelV v u:=by
 induction r with
 |nil=>intro u hu;cases hu
 |cons h t ih=>
  intro u hu;rcases gF.mp hu with rfl|hu
  ·exact⟨_,kJ,h⟩
  ·obtain⟨v,a,b⟩:=ih u hu;exact⟨v,g_ _ a,b⟩
section
variable {X:Cx}
theorem zfK{prog:Program}{w:World}{A:Around}{E:Value->Shared->Prop}{s:Shared}{its:List Value}{Q:SortKind->Shared->Prop}(h2:2<=its.length)(hi:∀u∈its,∃i t,u=Value.int i t)(q:Q oneType' s):wpAny (model prog w) A (keyKind' its.toArray) Q E s:=
 kas_kind (T:=.type "int") h2 (λv hv=>by obtain⟨i,t,rfl⟩:=hi v hv;exact .of_pure rfl) Vu Vu q
theorem zj0{K:W.Frag}{ao:List (Addr×Obj)}{s:Shared}{Z:St}{H:Hp}(I:Inv X ao Z H s){h':Heap}(k:∀b o,s.heap.get? b=some o->h'.get? b=some o):∀{ys:List V} {its:List Value},Vals ys its->(∀v∈ys,∃a i r,v=.ref a/\fU X.K H a (.int i::r))->∃fs:List Value,fs.length=its.length/\(∀f∈fs,∃i t,f=Value.int i t)/\KatTups h' its fs:=by
 intro ys its r0
 induction r0 with
 |nil=>exact λ_=>⟨[],rfl,(λf hf=>by cases hf),trivial⟩
 |@cons v u ys its r rs ih=>
  intro h;obtain⟨a,i,r',rfl,hq⟩:=h _ kJ;obtain⟨fs,l,hf,kt⟩:=ih λv hv=>h v (g_ _ hv);obtain⟨its',rv,⟨o,ho,hc,n,hd⟩,_⟩:=I.tuple hq;cases (show u=Value.ref a from r);cases rv with
  |cons ri rr=>
   obtain⟨t,rfl⟩:=ri;refine⟨Value.int i t::fs,by simp[l],λf hf'=>?_,KatTups.cons (k _ _ ho) hc hd Zaa kt⟩;rcases gF.mp hf' with rfl|z
   ·exact⟨i,t,rfl⟩
   ·exact hf f z
theorem zfL{prog:Program}{w:World}{A:Around}{E:Value->Shared->Prop}{s:Shared}{its fs:List Value}{Q:SortKind->Shared->Prop}(h2:2<=its.length)(hl:fs.length=its.length)(hi:∀u∈fs,∃i t,u=Value.int i t)(kt:KatTups s.heap its fs)(q:Q (tuples' true) s):wpAny (model prog w) A (keyKind' its.toArray) Q E s:=
 kat_kind (T:=.type "int") kt gV (λv hv=>by obtain⟨i,t,rfl⟩:=hi v hv;exact .of_pure rfl) Vu q
theorem Np{its:List Value}{i:Nat}{u:Value}(h:its[i]?=some u):its.getD i Value.none=u:=by rw[nP,h];rfl
theorem zdL:cU X (.builtin "sorted") (λxs H Q=>∃l ys lt p,xs=[.ref l]/\cQ X.K H l ys/\ys.length<64/\(2<=ys.length->uJ X.K H ys lt/\bT lt (kas_sort ys.length)=some p/\p.size=ys.length)/\∀r,H r=none->Q (.ref r) (upd H r (.lst (lq ys p)))):=by
 intro ao s Z H xs us Q I r h;obtain⟨l,ys,lt,p,rfl,hq,uI,hs,q⟩:=h;obtain⟨u,rfl,rx⟩:=vals1 r;cases rx;obtain⟨its,rv,pl,hz⟩:=I.list hq;have hlen:=rv.length;have fin:EP X ao Z Q (.ref (s.heap.objs.size+1)) {s with heap:=sortedAll s.heap its (jA its p)}:=by
  obtain⟨e,he⟩:=sortedAll_at s.heap its (jA its p);have hn:H (s.heap.objs.size+1)=none:=I.hok.fresh (Ep _);refine⟨.ref (s.heap.objs.size+1),_,I.laid (t':=s.toks) (λb u q=>sortedAll_old q) (Ep _) (show aP X.prog X.w _ _ _ (.lst (lq ys p)) from ⟨?_,(jA its p).toList,e,zh1 rv p,by rw[Qs];exact he⟩),rfl,q _ hn⟩;unfold lq;by_cases h2:ys.length<2
  ·rw[if_pos h2];exact hz
  ·rw[if_neg h2,bI,vO,(hs gV).2.2];exact hz
 by_cases h2:2<=ys.length
 ·obtain⟨hS,hr,hp⟩:=hs h2;rcases hS with ⟨hI,dF⟩|⟨hT,dF⟩
  ·refine SN (κ:=oneType') (lt:=lt) (p:=p) pl.isList gV (λoF s' Q' E' k q'=>zfK oF (λu hu=>?_) q') (λ_ s' i j b C k e hC=>?_) (λ_=>by rw[<-hlen];exact hr) (λ_=>by lia) fin
   ·obtain⟨v,hv,rr⟩:=ziD rv u hu;obtain⟨i,rfl⟩:=hI v hv;obtain⟨t,rfl⟩:=rr;exact⟨i,t,rfl⟩
   ·obtain⟨x,y,e1,e2,rfl⟩:=dF i j b e;obtain⟨u1,f1,g1⟩:=rv.get e1;obtain⟨u2,f2,g2⟩:=rv.get e2;obtain⟨t1,rfl⟩:=g1;obtain⟨t2,rfl⟩:=g2;show wpAny _ _ (keyLt' oneType' (its.getD i Value.none) (its.getD j Value.none)) C _ s';rw[Np f1,Np f2];exact kat_lt_int hC
  ·refine SN (κ:=tuples' true) (lt:=lt) (p:=p) pl.isList gV (λoF s' Q' E' k q'=>?_) (λ_ s' i j b C k e hC=>?_) (λ_=>by rw[<-hlen];exact hr) (λ_=>by lia) fin
   ·obtain⟨fs,l1,hf,kt⟩:=zj0 (K:=X.K) I k rv hT;exact zfL oF l1 hf kt q'
   ·obtain⟨a,c,us,ws,e1,e2,q1,q2,e3⟩:=dF i j b e;obtain⟨u1,f1,g1⟩:=rv.get e1;obtain⟨u2,f2,g2⟩:=rv.get e2;cases (show u1=Value.ref a from g1);cases (show u2=Value.ref c from g2);obtain⟨i1,r1,⟨o1,Nj,hc1,n1,hd1⟩,_⟩:=I.tuple q1;obtain⟨i2,r2,⟨o2,pG,qw,n2,hd2⟩,_⟩:=I.tuple q2;show wpAny _ _ (keyLt' (tuples' true) (its.getD i Value.none) (its.getD j Value.none)) C _ s';rw[Np f1,Np f2];refine kat_lt (k _ _ Nj) hd1 (k _ _ pG) hd2 (zmC r1 r2 e3 ?_ hC);rw[r1.length,r2.length];simp
 ·exact SN (κ:=oneType') (lt:=lt) (p:=p) pl.isList gV (λoF=>absurd oF gV) (λoF=>absurd oF gV) (λoF=>absurd oF gV) (λoF=>absurd oF gV) fin
end
end L2
namespace L2
open PySem PySem.Spec PyProof.Rows PySem.W PySem.Calls
theorem ZG{α:Type}:∀{l:List (Str×α)} {f:Str} {u:α},(l.map (·.1)).Nodup->(f,u)∈l->l.lookup f=some u
 |(g,v)::r,f,u,hn,hm=>by
  rw[iR,yN] at hn;rw[pq];rcases gF.mp hm with e|hm
  ·cases e;simp
  ·have:f≠g:=λz=>hn.1 (by rw[<-z];exact jO.mpr ⟨(f,u),hm,rfl⟩);rw[show (f==g)=false by simpa using this];exact ZG hn.2 hm
theorem zkZ{α:Type}{fs:List Str}{us:List α}{i:Nat}{f:Str}{u:α}(h1:fs[i]?=some f)(h2:us[i]?=some u):(f,u)∈fs.zip us:=by
 refine fK (i:=i) ?_;exact(List.getElem?_zip_eq_some (z:=(f,u))).mpr ⟨h1,h2⟩
structure XF(K:Frag)(C:Addr)(f:Str):Prop where
 ga:findIn K (.ref C) "__getattribute__"=some (some (.builtin "BaseException.__getattribute__"))
 gn:findIn K (.ref C) "__getattr__"=some none
 mb:mroIn K C (.type "BaseException")=some true
 no:findIn K (.ref C) f=some none
 hd:hasDictIn K C=true
end L2
namespace L2
open PySem PySem.Spec PyProof.Rows
section
variable {X:Cx}{ao:List (Addr×Obj)}{Z:St}{H:Hp}{s:Shared}{h':Heap}
theorem Inv.lN{t':Nat}{ch:List Addr}{a:Addr}{o:HO}(I:Inv X ao Z H s)(k:∀b u,b∉ch->s.heap.get? b=some u->h'.get? b=some u)(hf:∀b∈ch,iZ X ao H b)(ha:s.heap.objs.size<=a)(new:aP X.prog X.w (upd H a o) h' a o) :
  Inv X ao Z (upd H a o) {s with heap:=h',toks:=t'}:=by
 have yS:∀b u,H b=some u->b∉ch:=λb u e z=>by rw[(hf b z).1] at e;cases e
 have hn:H a=none:=I.hok.fresh ha;have na:∀b u,H b=some u->b≠a:=λb u e z=>by rw[z,hn] at e;cases e
 have la:∀b u,s.heap.get? b=some u->b≠a:=λb u e=>dX (iB (cg e) ha);refine I.step (g':=s.gens) (d':=s.drawn) (ch:=ch) (λb hb=>?_) (λb o _ _ hc e _=>k b o hc e) (λb o _ _ hc e _=>⟨o.slots,k b o hc e⟩) (λb o' _ e n=>by rw[cY (la b o' e)];exact n)
  (λb o hc e=>⟨o,k b o hc e⟩) (λb xs e=>by rw[cY (na b _ e)];exact e) (λb o u e=>by rw[cY (na b _ e)];exact e) (λb ps e=>⟨#[],by rw[cY (na b _ e),e];simp⟩) (λm hm=>?_) (λb u e=>?_) I.bare
 ·obtain⟨f0,f1,f2,f3,f4,f5⟩:=hf b hb;exact⟨f3.imp id λz=>Gw z,f1,f4,f5⟩
 ·obtain⟨o,es,ep,ho,r⟩:=hm;exact⟨o,es,ep,k _ o (λz=>(hf _ z).2.1 rfl) ho,r⟩
 ·by_cases z:b=a
  ·subst z;rw[iY] at e;cases e;exact new
  ·rw[cY z] at e;refine(I.hok b u e).stay (λc v hc q=>k c v ?_ q) (λc q=>by rw[cY (na c _ q)];exact q) λc _ q=>by rw[cY (na c _ q)];exact q
   rcases hc with y|y
   ·rw[y];exact yS b u e
   ·exact yS c _ y
theorem Inv.qF{t':Nat}{ch:List Addr}(I:Inv X ao Z H s)(k:∀b u,b∉ch->s.heap.get? b=some u->h'.get? b=some u)(hf:∀b∈ch,iZ X ao H b):Inv X ao Z H {s with heap:=h',toks:=t'}:=by
 have yS:∀b u,H b=some u->b∉ch:=λb u e z=>by rw[(hf b z).1] at e;cases e
 refine I.step (g':=s.gens) (d':=s.drawn) (ch:=ch) (λb hb=>?_) (λb o _ _ hc e _=>k b o hc e) (λb o _ _ hc e _=>⟨o.slots,k b o hc e⟩) (λ_ _ _ _ n=>n)
  (λb o hc e=>⟨o,k b o hc e⟩) (λ_ _ e=>e) (λ_ _ _ e=>e) (λb ps e=>⟨#[],by rw[e];simp⟩) (λm hm=>?_) (λb u e=>?_) I.bare
 ·obtain⟨f0,f1,f2,f3,f4,f5⟩:=hf b hb;exact⟨f3.imp id λz=>Gw z,f1,f4,f5⟩
 ·obtain⟨o,es,ep,ho,r⟩:=hm;exact⟨o,es,ep,k _ o (λz=>(hf _ z).2.1 rfl) ho,r⟩
 ·refine(I.hok b u e).stay (λc v hc q=>k c v ?_ q) (λ_ q=>q) λ_ _ q=>q;rcases hc with y|y
  ·rw[y];exact yS b u e
  ·exact yS c _ y
end
structure jY(prog:Program)(w:World)(it src:Addr)(st:Nat->Heap->Prop)(its:Array Value):Prop where
 item:∀(A:Around) (E:Value->Shared->Prop) (s:Shared) (i:Nat) (x:Value) (Q:Value->Shared->Prop),st i s.heap->its[i]?=some x->(∀h',st (i+1) h'->Heap.SameBut it s.heap h'->Q x {s with heap:=h'})->wpAny (model prog w) A (Builtin.SmallTypes.nextOf (.ref it)) Q E s
 fin:∀(A:Around) (E:Value->Shared->Prop) (s:Shared) (i:Nat) (Q:Value->Shared->Prop),A.handled=none->st i s.heap->its[i]?=none->(∀h' e,Heap.ExtBut it s.heap h'->(∃o,h'.get? e=some o/\o.cls=.type "StopIteration")->E (.ref e) {s with heap:=h'})->wpAny (model prog w) A (Builtin.SmallTypes.nextOf (.ref it)) Q E s
 keep:∀i h h',st i h->(∀b o,b=it\/b=src->h.get? b=some o->h'.get? b=some o)->st i h'
theorem jY.list(uK:l≠it):jY prog w it l (λi h=>h.IsListIter it l i/\h.IsList l its) its where
 item:=λA E s i x Q ⟨h1,h2⟩ hx q=>wpAny_nextOf_list_item h1 h2 hx λh' a sb=>q h' ⟨a,h2.at λo e=>(sb.2 l uK).trans e⟩ sb
 fin:=λA E s i Q hh ⟨h1,h2⟩ hx q=>wpAny_nextOf_list_end hh h1 h2 hx q
 keep:=λi h h' ⟨h1,h2⟩ k=>⟨h1.at λo e=>k it o (.inl rfl) e,h2.at λo e=>k l o (.inr rfl) e⟩
theorem ZJ(l:Addr):¬((Value.ref l==Value.none)=true):=λz=>by cases (show false=true from z)
theorem IsTupleIter.at'{h h':Heap}{it l:Addr}{i:Nat}(x:h.IsTupleIter it l i)(k:∀o,h.get? it=some o->h'.get? it=some o):h'.IsTupleIter it l i:=by
 obtain⟨o,e,r⟩:=x;exact⟨o,k o e,r⟩
theorem IsTuple.at'{h h':Heap}{l:Addr}{xs:Array Value}(x:h.IsTuple l xs)(k:∀o,h.get? l=some o->h'.get? l=some o):h'.IsTuple l xs:=by
 obtain⟨o,e,r⟩:=x;exact⟨o,k o e,r⟩
section
variable {prog:Program}{w:World}{A:Around}{E:Value->Shared->Prop}{s:Shared}{it l:Addr}{i:Nat}{its:Array Value}
theorem zfk{x:Value}{Q:Value->Shared->Prop}(hi:s.heap.IsTupleIter it l i)(hl:s.heap.IsTuple l its)(hx:its[i]?=some x)(q:∀h',h'.IsTupleIter it l (i+1)->Heap.SameBut it s.heap h'->Q x {s with heap:=h'}) :
  wpAny (model prog w) A (Builtin.SmallTypes.nextOf (.ref it)) Q E s:=by
 obtain⟨oi,ei,ci,di⟩:=id hi;obtain⟨ol,el,_,nl,dl⟩:=hl;unfold Builtin.SmallTypes.nextOf;refine aB (Ae (name:=Str.ofString "__next__") hi.typeIs Lq (yL Lq hi.typeIs F.entry_tuple_iterator_next ?_ (F.args_tuple_iterator_next_1 _)));show wpAny _ A.in1 (field (.ref it) 0 >>= _) _ E s;refine aB (lG ei di (x:=.ref l) rfl ?_);show wpAny _ A.in1 (if (Value.ref l==Value.none)=true then _ else _) _ E s;rw[if_neg (ZJ l)];show wpAny _ A.in1 (field (.ref it) 1 >>= _) _ E s;refine aB (lG ei di (x:=.int i 0) rfl ?_);show wpAny _ A.in1 (seqItems? (.ref l) >>= _) _ E s;refine aB (qW el dl ?_);simp only[oV,hx];refine aB (GZ ei di Zaa (aZ ⟨x,rfl,aZ (q _ ⟨_,Af _ ei (Ls (wJ di _)),(Obj.cls_mapFields ..).trans ci,?_⟩ (Heap.SameBut.update ..))⟩));rw[wJ di];simp[rawInt]
theorem zgU{Q:Value->Shared->Prop}(hh:A.handled=none)(hi:s.heap.IsTupleIter it l i)(hl:s.heap.IsTuple l its)(hx:its[i]?=none)(q:∀h' e,Heap.ExtBut it s.heap h'->(∃o,h'.get? e=some o/\o.cls=.type "StopIteration")->E (.ref e) {s with heap:=h'}) :
  wpAny (model prog w) A (Builtin.SmallTypes.nextOf (.ref it)) Q E s:=by
 obtain⟨oi,ei,ci,di⟩:=id hi;obtain⟨ol,el,_,nl,dl⟩:=hl;unfold Builtin.SmallTypes.nextOf;refine aB (Ae (name:=Str.ofString "__next__") hi.typeIs Lq (yL Lq hi.typeIs F.entry_tuple_iterator_next ?_ (F.args_tuple_iterator_next_1 _)));show wpAny _ A.in1 (field (.ref it) 0 >>= _) _ E s;refine aB (lG ei di (x:=.ref l) rfl ?_);show wpAny _ A.in1 (if (Value.ref l==Value.none)=true then _ else _) _ E s;rw[if_neg (ZJ l)];show wpAny _ A.in1 (field (.ref it) 1 >>= _) _ E s;refine aB (lG ei di (x:=.int i 0) rfl ?_);show wpAny _ A.in1 (seqItems? (.ref l) >>= _) _ E s;refine aB (qW el dl ?_);simp only[oV,hx];refine aB (wpAny_rule (aB (GZ ei di Zaa ?_)));show wpAny _ A.in1 (newExc (.type "StopIteration") [] >>= _) _ E _;refine aB ?_;simp only[newExc,newTuple];refine aB (vQ (aB (m:=firstArgMember _ _) (vY (a:=Value.none) (by first|rfl|(simp only[firstArgMember];rfl)) (vQ ?_ (by size_fits)))) (by size_fits));simp only[raiseNew];refine aB (wpAny_handled ?_);rw[show A.in1.handled=none from hh];exact aB (aZ (wpAny_throw (q _ _ (((Heap.SameBut.update ..).extBut.push _).push _) ⟨_,fL _ rfl,rfl⟩)))
end
theorem jY.tuple{prog:Program}{w:World}{it l:Addr}{its:Array Value}(uK:l≠it):jY prog w it l (λi h=>h.IsTupleIter it l i/\h.IsTuple l its) its where
 item:=λA E s i x Q ⟨h1,h2⟩ hx q=>zfk h1 h2 hx λh' a sb=>q h' ⟨a,IsTuple.at' h2 λo e=>(sb.2 l uK).trans e⟩ sb
 fin:=λA E s i Q hh ⟨h1,h2⟩ hx q=>zgU hh h1 h2 hx q
 keep:=λi h h' ⟨h1,h2⟩ k=>⟨IsTupleIter.at' h1 λo e=>k it o (.inl rfl) e,IsTuple.at' h2 λo e=>k l o (.inr rfl) e⟩
structure mW(z TI TO i1 i2 l1 l2:Addr):Prop where
 zs:z≠TI/\z≠TO/\z≠i1/\z≠i2/\z≠l1/\z≠l2
 os:TO≠TI/\TO≠i1/\TO≠i2/\TO≠l1/\TO≠l2
 is:TI≠i1/\TI≠i2/\i1≠i2/\i1≠l1/\i1≠l2/\i2≠l1/\i2≠l2
section
variable {prog:Program}{w:World}{A:Around}{E:Value->Shared->Prop}{s:Shared}{z TI TO i1 i2 l1 l2:Addr}{st1 st2:Nat->Heap->Prop}{xs ys:Array Value}{k:Nat}{a b:Value}
theorem zij(N1:jY prog w i1 l1 st1 xs)(N2:jY prog w i2 l2 st2 ys)(D:mW z TI TO i1 i2 l1 l2)(hz:IsZip s.heap z TI TO .none)(SQ:IsPair s.heap TI (.ref i1) (.ref i2))(SX:IsPair s.heap TO a b)
  (h1:st1 k s.heap) (h2:st2 k s.heap) (hx:xs[k]?=some x) (hy:ys[k]?=some y)
  (q:∀h',IsZip h' z TI TO (rawInt s.heap.objs.size)->IsPair h' TO x y->st1 (k+1) h'->st2 (k+1) h'->IsPair h' s.heap.objs.size x y->h'.objs.size=s.heap.objs.size+1->(∀c o,c≠z->c≠TO->c≠i1->c≠i2->s.heap.get? c=some o->h'.get? c=some o)->Q (some (.ref s.heap.objs.size)) {s with heap:=h'}) :
  wpAny (model prog w) A (pyNext (.ref z)) Q E s:=by
 obtain⟨⟨z1,z2,z3,z4,z5,z6⟩,⟨t1,t2,t3,t4,t5⟩,⟨j1,j2,j3,j4,j5,j6,j7⟩⟩:=D;have hT:s.TypeIs (.ref z) "zip":=⟨_,hz,rfl⟩;unfold pyNext;refine aB (zs2 (Ae (name:=Str.ofString "__next__") hT Mg (yL Mg hT F.entry_zip_next ?_ (F.args_zip_next_1 _))));show wpAny _ A.in1 (field (.ref z) 2 >>= _) _ _ s;refine aB (lG hz rfl (x:=.bool false) rfl ?_);show wpAny _ A.in1 (field (.ref z) 3 >>= _) _ _ s;refine aB (lG hz rfl (x:=.ref TI) rfl (aB (qW SQ rfl ?_)));show wpAny _ A.in1 (Builtin.SmallTypes.ownedTupleIsFree (.ref z) >>= _) _ _ s;refine aB ?_;unfold Builtin.SmallTypes.ownedTupleIsFree;refine aB (lG hz rfl (x:=.none) rfl (aZ ?_));simp only[if_true];refine aB (wpAny_rule (aB (lG hz rfl (x:=.ref TO) rfl (aB (DW hz Zaa λha za sa=>aB ?_)))))
 replace za:IsZip ha z TI TO .ellipsis:=za
 simp only[List.zipIdx_cons,List.zipIdx_nil,Ef,Ml];refine aB (aB (wpAny_onRaise ?_));show wpAny _ A.in1 (Builtin.SmallTypes.nextOf (.ref i1) >>= _) _ _ _;refine aB (N1.item _ _ {s with heap:=ha} k x _ (N1.keep _ _ _ h1 λc o hc e=>sa.extBut c o (by rcases hc with rfl|rfl;exact z3.symm;exact z5.symm) e) hx λhb ZK sb=>aZ ?_);have tb:IsPair hb TO a b:=sb.extBut _ _ t2 (sa.extBut _ _ z2.symm SX);refine aB (qW tb rfl (aB (Qt tb λhc tc sc=>aB (Ar (aZ ?_)))))
 replace tc:IsPair hc TO x b:=tc
 refine aB (aB (wpAny_onRaise ?_));show wpAny _ A.in1 (Builtin.SmallTypes.nextOf (.ref i2) >>= _) _ _ _;have k2:st2 k hc:=N2.keep _ _ _ h2 λc o kZ e=>by
  rcases kZ with rfl|rfl
  ·exact sc.extBut _ _ t3.symm (sb.extBut _ _ j3.symm (sa.extBut _ _ z4.symm e))
  ·exact sc.extBut _ _ t5.symm (sb.extBut _ _ j5.symm (sa.extBut _ _ z6.symm e))
 have k1:st1 (k+1) hc:=N1.keep _ _ _ ZK λc o kZ e=>by
  rcases kZ with rfl|rfl
  ·exact sc.extBut _ _ t2.symm e
  ·exact sc.extBut _ _ t4.symm e
 refine aB (N2.item _ _ {s with heap:=hc} k y _ k2 hy λhd sd2 sd=>aZ ?_);have td:IsPair hd TO x b:=sd.extBut _ _ t3 tc;refine aB (qW td rfl (aB (Qt td λhe te se=>aB (Ar (aZ (aZ ?_))))))
 replace te:IsPair he TO x y:=te
 refine aB (qW te rfl (aB (wpAny_newTuple ?_)));have size:he.objs.size=s.heap.objs.size:=by rw[se.1,sd.1,sc.1,sb.1,sa.1]
 have ze:IsZip he z TI TO .ellipsis:=se.extBut _ _ z2 (sd.extBut _ _ z4 (sc.extBut _ _ z2 (sb.extBut _ _ z3 za)));have kept:∀c o,c≠z->c≠TO->c≠i1->c≠i2->s.heap.get? c=some o->he.get? c=some o:=λc o c1 c2 c3 c4 e=>se.extBut _ _ c2 (sd.extBut _ _ c4 (sc.extBut _ _ c2 (sb.extBut _ _ c3 (sa.extBut _ _ c1 e))));have e1:st1 (k+1) he:=N1.keep _ _ _ k1 λc o kZ e=>by
  rcases kZ with rfl|rfl
  ·exact se.extBut _ _ t2.symm (sd.extBut _ _ j3 e)
  ·exact se.extBut _ _ t4.symm (sd.extBut _ _ j6.symm e)
 have e2:st2 (k+1) he:=N2.keep _ _ _ sd2 λc o kZ e=>by
  rcases kZ with rfl|rfl
  ·exact se.extBut _ _ t3.symm e
  ·exact se.extBut _ _ t5.symm e
 show wpAny _ A.in1 (Builtin.SmallTypes.ownedTupleHandOut (.ref z) (.ref he.objs.size) >>= _) _ _ _;refine aB ?_;unfold Builtin.SmallTypes.ownedTupleHandOut;have zf:IsZip (he.push {cls:=.type "tuple",data:=.seq #[x,y]}) z TI TO .ellipsis:=cN _ ze;refine aB (DW zf Zaa λhg zg sg=>DW zg Zaa λhh zh sh=>aZ ⟨_,rfl,aZ ?_⟩)
 replace zh:IsZip hh z TI TO (rawInt he.objs.size):=zh
 have up:∀c o,c≠z->he.get? c=some o->hh.get? c=some o:=λc o c1 e=>sh.extBut _ _ c1 (sg.extBut _ _ c1 (cN _ e));have lz:z<he.objs.size:=cg ze;have tn:IsPair hh he.objs.size x y:=sh.extBut _ _ (wL lz) (sg.extBut _ _ (wL lz) (fL _ rfl));have sz:hh.objs.size=he.objs.size+1:=by rw[sh.1,sg.1,tZ]
 rw[size] at zh tn sz;show Q (some (.ref he.objs.size)) _;rw[size];exact q hh zh (up _ _ z2.symm te) (N1.keep _ _ _ e1 λc o kZ e=>up c o (by rcases kZ with rfl|rfl;exact z3.symm;exact z5.symm) e) (N2.keep _ _ _ e2 λc o kZ e=>up c o (by rcases kZ with rfl|rfl;exact z4.symm;exact z6.symm) e) tn sz λc o c1 c2 c3 c4 e=>up c o c1 (kept c o c1 c2 c3 c4 e)
theorem zjR(hn:A.handled=none)(N1:jY prog w i1 l1 st1 xs)(N2:jY prog w i2 l2 st2 ys)(D:mW z TI TO i1 i2 l1 l2)(hz:IsZip s.heap z TI TO .none)(SQ:IsPair s.heap TI (.ref i1) (.ref i2))(SX:IsPair s.heap TO a b)
  (h1:st1 k s.heap) (h2:st2 k s.heap) (hx:xs[k]?=none\/ys[k]?=none) (q:∀h',(∀c o,c≠z->c≠TO->c≠i1->c≠i2->s.heap.get? c=some o->h'.get? c=some o)->Q none {s with heap:=h'}):wpAny (model prog w) A (pyNext (.ref z)) Q E s:=by
 obtain⟨⟨z1,z2,z3,z4,z5,z6⟩,⟨t1,t2,t3,t4,t5⟩,⟨j1,j2,j3,j4,j5,j6,j7⟩⟩:=D;have hT:s.TypeIs (.ref z) "zip":=⟨_,hz,rfl⟩;have stop:∀(h':Heap) (e:Addr),(∀c o,c≠z->c≠TO->c≠i1->c≠i2->s.heap.get? c=some o->h'.get? c=some o)->(∃o,h'.get? e=some o/\o.cls=.type "StopIteration")->
   wpAny (model prog w) A (do if <-isInstance (.ref e) (.type "StopIteration") then pure none else throw (.ref e):Sem (Option Value)) Q E {s with heap:=h'}:=λh' e kp ⟨o,ho,hc⟩=>
  aB (L_ (T:="StopIteration") (b:=true) ⟨o,ho,hc⟩ isSubtype_stop (aZ (q h' kp)))
 unfold pyNext;refine aB (zs2 (Ae (name:=Str.ofString "__next__") hT Mg (yL Mg hT F.entry_zip_next ?_ (F.args_zip_next_1 _))));show wpAny _ A.in1 (field (.ref z) 2 >>= _) _ _ s;refine aB (lG hz rfl (x:=.bool false) rfl ?_);show wpAny _ A.in1 (field (.ref z) 3 >>= _) _ _ s;refine aB (lG hz rfl (x:=.ref TI) rfl (aB (qW SQ rfl ?_)));show wpAny _ A.in1 (Builtin.SmallTypes.ownedTupleIsFree (.ref z) >>= _) _ _ s;refine aB ?_;unfold Builtin.SmallTypes.ownedTupleIsFree;refine aB (lG hz rfl (x:=.none) rfl (aZ ?_));simp only[if_true];refine aB (wpAny_rule (aB (lG hz rfl (x:=.ref TO) rfl (aB (DW hz Zaa λha za sa=>aB ?_)))))
 replace za:IsZip ha z TI TO .ellipsis:=za
 simp only[List.zipIdx_cons,List.zipIdx_nil,Ef,Ml];refine aB (aB (wpAny_onRaise ?_));show wpAny _ A.in1 (Builtin.SmallTypes.nextOf (.ref i1) >>= _) _ _ _;have ka:st1 k ha:=N1.keep _ _ _ h1 λc o hc e=>sa.extBut c o (by rcases hc with rfl|rfl;exact z3.symm;exact z5.symm) e;cases ex:xs[k]? with
 |none=>
  refine aB (N1.fin _ _ {s with heap:=ha} k _ hn ka ex λhb e sb se=>?_);obtain⟨oe,ho,hc⟩:=se;have zb:IsZip hb z TI TO .ellipsis:=sb _ _ z3 za;have ne:e≠z:=λy=>by subst y;rw[zb] at ho;cases ho;simp at hc
  exact DW zb Zaa λhd _ sd=>stop hd e (λc o c1 _ c3 _ y=>sd.extBut _ _ c1 (sb _ _ c3 (sa.extBut _ _ c1 y))) ⟨oe,sd.extBut _ _ ne ho,hc⟩
 |some x=>
  have ey:ys[k]?=none:=by
   rcases hx with y|y
   ·rw[ex] at y;cases y
   ·exact y
  refine aB (N1.item _ _ {s with heap:=ha} k x _ ka ex λhb ZK sb=>aZ ?_);have tb:IsPair hb TO a b:=sb.extBut _ _ t2 (sa.extBut _ _ z2.symm SX);refine aB (qW tb rfl (aB (Qt tb λhc tc sc=>aB (Ar (aZ ?_)))));refine aB (aB (wpAny_onRaise ?_));show wpAny _ A.in1 (Builtin.SmallTypes.nextOf (.ref i2) >>= _) _ _ _;have k2:st2 k hc:=N2.keep _ _ _ h2 λc o kZ e=>by
   rcases kZ with rfl|rfl
   ·exact sc.extBut _ _ t3.symm (sb.extBut _ _ j3.symm (sa.extBut _ _ z4.symm e))
   ·exact sc.extBut _ _ t5.symm (sb.extBut _ _ j5.symm (sa.extBut _ _ z6.symm e))
  refine aB (N2.fin _ _ {s with heap:=hc} k _ hn k2 ey λhd e sd se=>?_);obtain⟨oe,ho,Fe⟩:=se;have zd:IsZip hd z TI TO .ellipsis:=sd _ _ z4 (sc.extBut _ _ z2 (sb.extBut _ _ z3 za));have ne:e≠z:=λy=>by subst y;rw[zd] at ho;cases ho;simp at Fe
  exact DW zd Zaa λhf _ sf=>stop hf e (λc o c1 c2 c3 c4 y=>sf.extBut _ _ c1 (sd _ _ c4 (sc.extBut _ _ c2 (sb.extBut _ _ c3 (sa.extBut _ _ c1 y))))) ⟨oe,sf.extBut _ _ ne ho,Fe⟩
end
noncomputable def Ck:Bool->Heap->Addr->Array Value->Prop
 |true,h,l,xs=>h.IsList l xs
 |false,h,l,xs=>h.IsTuple l xs
noncomputable def Rk:Bool->Addr->Addr->Nat->Heap->Prop
 |true,it,l,i,h=>h.IsListIter it l i
 |false,it,l,i,h=>h.IsTupleIter it l i
noncomputable def Sk:Bool->W.Frag->Hp->Addr->List V->Prop
 |true,K,H,l,xs=>cQ K H l xs
 |false,K,H,l,xs=>fU K H l xs
noncomputable def gA:Bool->Addr->Obj
 |true,l=>{cls:=.type "list_iterator",data:=.fields #[.ref l,.int 0 0]}
 |false,l=>{cls:=.type "tuple_iterator",data:=.fields #[.ref l,.int 0 0]}
theorem jY.of(kd:Bool)(uK:l≠it):jY prog w it l (λi h=>Rk kd it l i h/\Ck kd h l its) its:=by
 cases kd
 ·exact jY.tuple uK
 ·exact jY.list uK
theorem Ck.keep(x:Ck kd h l xs)(k:∀o,h.get? l=some o->h'.get? l=some o):Ck kd h' l xs:=by
 cases kd
 ·exact IsTuple.at' x k
 ·exact Heap.IsList.at x k
theorem Rk.keep(x:Rk kd it l i h)(k:∀o,h.get? it=some o->h'.get? it=some o):Rk kd it l i h':=by
 cases kd
 ·exact IsTupleIter.at' x k
 ·exact Heap.IsListIter.at x k
theorem Rk.obj(x:Rk kd it l i h):∃o,h.get? it=some o/\∀v,o.data≠.cell v:=by
 cases kd
 ·obtain⟨o,e,c,d⟩:=x;exact⟨o,e,λv z=>by rw[d] at z;cases z⟩
 ·obtain⟨o,e,c,d⟩:=x;exact⟨o,e,λv z=>by rw[d] at z;cases z⟩
theorem Ck.lt(x:Ck kd h l xs):l<h.objs.size:=by
 cases kd
 ·obtain⟨o,e,_⟩:=x;exact cg e
 ·obtain⟨o,e,_⟩:=x;exact cg e
section
variable {prog:Program}{w:World}{A:Around}{E:Value->Shared->Prop}{s:Shared}
theorem Nq(c:Ck kd s.heap l xs)(q:Q (.ref s.heap.objs.size) {s with heap:=s.heap.push (gA kd l)}):wpAny (model prog w) A (pyIter (.ref l)) Q E s:=by
 cases kd
 ·exact wpAny_pyIter_tuple c q
 ·exact LC c q
end
noncomputable def zH(h:Heap)(k1 k2:Bool)(l1 l2:Addr):Heap:=((((h.push (gA k1 l1)).push (gA k2 l2)).push {cls:=.type "tuple",data:=.seq #[.ref h.objs.size,.ref (h.push (gA k1 l1)).objs.size]}).push {cls:=.type "tuple",data:=.seq #[.none,.none]}).push
 {cls:=.type "zip",data:=.fields #[.none,.bool false,.bool false,.ref ((h.push (gA k1 l1)).push (gA k2 l2)).objs.size,.ref (((h.push (gA k1 l1)).push (gA k2 l2)).push {cls:=.type "tuple",data:=.seq #[.ref h.objs.size,.ref (h.push (gA k1 l1)).objs.size]}).objs.size]}
theorem zhM(k1 k2:Bool)(l1 l2:Addr)(xs ys:Array Value):Meets (Builtin.«zip.__new__» ⟨[.type "zip",.ref l1,.ref l2],[]⟩) (λ_ R s=>Ck k1 s.heap l1 xs/\Ck k2 s.heap l2 ys /\
   R (.ok (.ret (.ref ((((s.heap.push (gA k1 l1)).push (gA k2 l2)).push {cls:=.type "tuple",data:=.seq #[.ref s.heap.objs.size,.ref (s.heap.push (gA k1 l1)).objs.size]}).push {cls:=.type "tuple",data:=.seq #[.none,.none]}).objs.size))) {s with heap:=zH s.heap k1 k2 l1 l2}):=
 .of_wp λprog w A R s h=>by
  obtain⟨hp,g,d,tk,os⟩:=s;obtain⟨c1,c2,h⟩:=h;have hsub:=sub_zip;have C1:Ck k1 (Shared.heap ⟨hp,g,d,tk,os⟩) l1 xs:=c1;have C2:Ck k2 (Shared.heap ⟨hp.push (gA k1 l1),g,d,tk,os⟩) l2 ys:=c2.keep λo e=>cN _ e
  wp_walk using Nq C1,Nq C2
  exact⟨_,rfl,h⟩
section
variable {prog:Program}{w:World}{A:Around}{E:Value->Shared->Prop}{s:Shared}
theorem zkl(c1:Ck k1 s.heap l1 xs)(c2:Ck k2 s.heap l2 ys)
  (h:∀h',IsZip h' (s.heap.objs.size+4) (s.heap.objs.size+2) (s.heap.objs.size+3) .none->IsPair h' (s.heap.objs.size+2) (.ref s.heap.objs.size) (.ref (s.heap.objs.size+1))->IsPair h' (s.heap.objs.size+3) .none .none->
   Rk k1 s.heap.objs.size l1 0 h'->Rk k2 (s.heap.objs.size+1) l2 0 h'->(∀c o,s.heap.get? c=some o->h'.get? c=some o)->Q (.ref (s.heap.objs.size+4)) {s with heap:=h'}) :
  wpAny (model prog w) A (call (.type "zip") [.ref l1,.ref l2]) Q E s:=by
 refine callType_new F.called_zip Vu (F.typeCall_zip_2 _ _) (F.newCall_zip_2 _ _) (λobj=>F.args_object_init_3 obj _ _) F.entry_zip_new (zhM k1 k2 l1 l2 xs ys) ⟨c1,c2,?_⟩;have n1:(s.heap.push (gA k1 l1)).objs.size=s.heap.objs.size+1:=tZ ..;have n2:((s.heap.push (gA k1 l1)).push (gA k2 l2)).objs.size=s.heap.objs.size+2:=by rw[tZ,n1]
 have fr:∀kd l,(gA kd l).isFreed=false:=λkd l=>by cases kd<;>rfl
 have rk:∀{h:Heap} {a:Addr} {kd:Bool} {l:Addr},h.get? a=some (gA kd l)->Rk kd a l 0 h:=λ{h a kd l} e=>by
  cases kd
  ·exact⟨_,e,rfl,rfl⟩
  ·exact⟨_,e,rfl,rfl⟩
 have o1:(s.heap.push (gA k1 l1)).get? s.heap.objs.size=some (gA k1 l1):=fL _ (fr _ _);have o2:((s.heap.push (gA k1 l1)).push (gA k2 l2)).get? (s.heap.objs.size+1)=some (gA k2 l2):=by
  have:=fL (s.heap.push (gA k1 l1)) (o:=gA k2 l2) (fr _ _);rw[n1] at this;exact this
 generalize hA:(s.heap.push (gA k1 l1)).push (gA k2 l2)=Nr at *;have eH:zH s.heap k1 k2 l1 l2=((Nr.push {cls:=.type "tuple",data:=.seq #[.ref s.heap.objs.size,.ref (s.heap.objs.size+1)]}).push {cls:=.type "tuple",data:=.seq #[.none,.none]}).push {cls:=.type "zip",data:=.fields #[.none,.bool false,.bool false,.ref (s.heap.objs.size+2),.ref (s.heap.objs.size+3)]}:=by
  unfold zH;rw[hA,n1,n2,tZ,n2]
 have n3:(Nr.push {cls:=.type "tuple",data:=.seq #[.ref s.heap.objs.size,.ref (s.heap.objs.size+1)]}).objs.size=s.heap.objs.size+3:=by rw[tZ,n2]
 have n4:((Nr.push {cls:=.type "tuple",data:=.seq #[.ref s.heap.objs.size,.ref (s.heap.objs.size+1)]}).push {cls:=.type "tuple",data:=.seq #[.none,.none]}).objs.size=s.heap.objs.size+4:=by rw[tZ,n3]
 rw[n1,n4];have g5:(zH s.heap k1 k2 l1 l2).get? (s.heap.objs.size+4)=some {cls:=.type "zip",data:=.fields #[.none,.bool false,.bool false,.ref (s.heap.objs.size+2),.ref (s.heap.objs.size+3)]}:=by
  rw[eH,<-n4];exact fL _ rfl
 have g4:(zH s.heap k1 k2 l1 l2).get? (s.heap.objs.size+3)=some {cls:=.type "tuple",data:=.seq #[.none,.none]}:=by
  rw[eH,<-n3];exact cN _ (fL _ rfl)
 have g3:(zH s.heap k1 k2 l1 l2).get? (s.heap.objs.size+2)=some {cls:=.type "tuple",data:=.seq #[.ref s.heap.objs.size,.ref (s.heap.objs.size+1)]}:=by
  rw[eH,<-n2];exact cN _ (cN _ (fL _ rfl))
 have up:∀c o,Nr.get? c=some o->(zH s.heap k1 k2 l1 l2).get? c=some o:=λc o e=>by rw[eH];exact cN _ (cN _ (cN _ e))
 refine⟨⟨_,g5,rfl⟩,h _ g5 g3 g4 (rk (up _ _ ?_)) (rk (up _ _ o2)) λc o e=>up _ _ ?_⟩
 ·rw[<-hA];exact cN _ o1
 ·rw[<-hA];exact cN _ (cN _ e)
end
noncomputable def S5(K:W.Frag)(k1 k2:Bool)(l1 l2:Addr):It:=
 ⟨λi H=>∃xs ys x y,Sk k1 K H l1 xs/\Sk k2 K H l2 ys/\xs[i]?=some x/\ys[i]?=some y,
  λi H v H'=>∃a x y,H a=none/\v=.ref a/\H'=upd H a (.tup [x,y])/\(∀xs,Sk k1 K H l1 xs->xs[i]?=some x)/\∀ys,Sk k2 K H l2 ys->ys[i]?=some y,
  λi H=>∃xs ys,Sk k1 K H l1 xs/\Sk k2 K H l2 ys/\(xs.length<=i\/ys.length<=i)⟩
section
variable {X:Cx}{ao:List (Addr×Obj)}{Z:St}{H:Hp}{s:Shared}{kd:Bool}{l:Addr}{xs ys:List V}
theorem Inv.row(I:Inv X ao Z H s)(h:Sk kd X.K H l xs):∃its:List Value,Vals xs its/\Ck kd s.heap l its.toArray:=by
 cases kd
 ·obtain⟨its,rv,p,hz⟩:=I.tuple h;exact⟨its,rv,p⟩
 ·obtain⟨its,rv,p,hz⟩:=I.list h;exact⟨its,rv,p.isList⟩
theorem Inv.mX(I:Inv X ao Z H s)(h:Sk kd X.K H l xs)(h':Sk kd X.K H l ys):xs=ys:=by
 cases kd
 ·exact I.lM h h'
 ·exact I.n_ h h'
end
theorem ziM{P:Program}{w:World}{K:W.Frag}{elts:List Expr}{kk:Nat}{pos:Pos}{k1 k2:Bool}{l1 l2 z TI TO i1 i2:Addr}(D:mW z TI TO i1 i2 l1 l2) :
  Turn P w K (.Tuple elts kk pos) (S5 K k1 k2 l1 l2) [z,TI,TO,i1,i2] z (λi h=>IsZip h z TI TO .none/\IsPair h TI (.ref i1) (.ref i2)/\(∃a b,IsPair h TO a b)/\Rk k1 i1 l1 i h/\Rk k2 i2 l2 i h) where
 mem:=by simp
 obj:=λi h ⟨a1,a2,⟨p,q,a3⟩,a4,a5⟩ b hb=>by
  have:b=z\/b=TI\/b=TO\/b=i1\/b=i2:=by simpa using hb
  rcases this with rfl|rfl|rfl|rfl|rfl
  ·exact⟨_,a1,λv y=>by cases y⟩
  ·exact⟨_,a2,λv y=>by cases y⟩
  ·exact⟨_,a3,λv y=>by cases y⟩
  ·exact a4.obj
  ·exact a5.obj
 keep:=λi h h' ⟨a1,a2,⟨p,q,a3⟩,a4,a5⟩ k=>⟨k z Zaa _ a1,k TI Zaa _ a2,⟨p,q,k TO Zaa _ a3⟩,a4.keep λo e=>k i1 Zaa o e,a5.keep λo e=>k i2 Zaa o e⟩
 item:=by
  rintro X hP hw hK hc i ao s Z H E I hf ⟨a1,a2,⟨p,q,a3⟩,a4,a5⟩ hg;subst hP hw hK;obtain⟨xs,ys,x,y,Fg,Fj,hx,hy⟩:=hg;obtain⟨ZL,Nt,c1⟩:=I.row Fg;obtain⟨Jf,Nu,c2⟩:=I.row Fj;obtain⟨u,hu,ru⟩:=Nt.get hx;obtain⟨v,hv,rv⟩:=Nu.get hy;have D':=D;obtain⟨⟨z1,z2,z3,z4,z5,z6⟩,⟨t1,t2,t3,t4,t5⟩,⟨j1,j2,j3,j4,j5,j6,j7⟩⟩:=D';refine zij (jY.of k1 j4.symm) (jY.of k2 j7.symm) D a1 a2 a3 ⟨a4,c1⟩ ⟨a5,c2⟩ (x:=u) (y:=v) (by simpa using hu) (by simpa using hv) λh1 b1 b2 b3 b4 b5 b6 kp=>?_;refine⟨_,rfl,wpAny_letOwnedTupleGo_zip (s:={s with heap:=h1}) b1 λh2 e2 sb=>?_⟩;have S6:IsPair h2 s.heap.objs.size u v:=(sb.2 _ (wL (cg a1))).trans b5;have kk:∀b o,b∉[z,TI,TO,i1,i2]->s.heap.get? b=some o->h2.get? b=some o:=λb o hb e=>(sb.2 b λy=>hb (by simp[y])).trans (kp b o (λy=>hb (by simp[y])) (λy=>hb (by simp[y])) (λy=>hb (by simp[y])) (λy=>hb (by simp[y])) e);have I2:=I.lN (t':=s.toks) (a:=s.heap.objs.size) (o:=.tup [x,y]) kk (λb hb=>hf b hb) (bK _) (show aP X.prog X.w _ h2 _ (.tup [x,y]) from ⟨by show 2<=sizeLine;decide,[u,v],.cons ru (.cons rv .nil),⟨_,S6,rfl,_,rfl,rfl⟩⟩);have hn:H s.heap.objs.size=none:=I.hok.fresh (bK _);refine⟨.ref s.heap.objs.size,_,I2,rfl,⟨_,x,y,hn,rfl,rfl,λzs hz=>by rw[I.mX hz Fg];exact hx,λzs hz=>by rw[I.mX hz Fj];exact hy⟩,⟨e2,(sb.2 _ z1.symm).trans (kp _ _ z1.symm t1.symm j1 j2 a2),⟨_,_,(sb.2 _ z2.symm).trans b2⟩,b3.1.keep λo e=>(sb.2 _ z3.symm).trans e,b4.1.keep λo e=>(sb.2 _ z4.symm).trans e⟩,λb hb=>?_⟩;have nb:b≠s.heap.objs.size:=by
   have:b=z\/b=TI\/b=TO\/b=i1\/b=i2:=by simpa using hb
   rcases this with rfl|rfl|rfl|rfl|rfl
   ·exact dX (cg a1)
   ·exact dX (cg a2)
   ·exact dX (cg a3)
   ·obtain⟨o,e,_⟩:=a4.obj;exact dX (cg e)
   ·obtain⟨o,e,_⟩:=a5.obj;exact dX (cg e)
  rw[cY nb];exact(hf b hb).1
 done:=by
  rintro X hP hw hK hc i ao s Z H E I hf ⟨a1,a2,⟨p,q,a3⟩,a4,a5⟩ hg;subst hP hw hK;obtain⟨xs,ys,Fg,Fj,hx⟩:=hg;obtain⟨ZL,Nt,c1⟩:=I.row Fg;obtain⟨Jf,Nu,c2⟩:=I.row Fj;have n1:=Nt.length;have n2:=Nu.length;refine zjR (I.ok.hd hc) (jY.of k1 D.is.2.2.2.1.symm) (jY.of k2 D.is.2.2.2.2.2.2.symm) D a1 a2 a3 ⟨a4,c1⟩ ⟨a5,c2⟩ ?_ λh' kp=>⟨rfl,I.qF (t':=s.toks) (ch:=[z,TI,TO,i1,i2]) (λb o hb e=>kp b o (λy=>hb (by simp[y])) (λy=>hb (by simp[y])) (λy=>hb (by simp[y])) (λy=>hb (by simp[y])) e) λb hb=>hf b hb⟩;rcases hx with y|y
  ·exact .inl (by simp;lia)
  ·exact .inr (by simp;lia)
 self:=λ_ _ _ _ _ ⟨a1,_⟩ h=>wpAny_pyIter_zip a1 h
section
variable {X:Cx}
noncomputable def S7(K:W.Frag)(ta:TA):TI:=λZ H R=>ta Z H λvs H1=>∃k1 k2 l1 l2 xs ys,vs=[.ref l1,.ref l2]/\Sk k1 K H1 l1 xs/\Sk k2 K H1 l2 ys/\R (S5 K k1 k2 l1 l2) H1
theorem ziu:bootBuiltins "zip"=some (.type "zip"):=by decide +kernel
theorem znC{a b:Expr}{ta:TA}{p pos tpos:Pos}{elts:List Expr}{kk:Nat}(hg:Gl X "zip")(hm:X.mg "zip"=none)(ha:PA X [a,b] ta)(hs:starEach [a,b] X.env=[(false,eval a X.env),(false,eval b X.env)]:=by rfl)(wW:starEach [b] X.env=[(false,eval b X.env)]:=by rfl) :
  PI X (.Tuple elts kk tpos) (.Call (.Name "zip" p) [a,b] [] pos) (S7 X.K ta):=by
 intro ao s Z H R I h;refine Call_ (qZ I hg hm ziu (tV (bA (ha pos ao s Z H _ I h) λus s1 hz=>?_) (by rw[hs,wW]) (by rw[wW];rfl)));obtain⟨vs,H1,I1,r1,q1⟩:=hz;obtain⟨k1,k2,l1,l2,xs,ys,e,Fg,Fj,q⟩:=q1;subst e;cases r1 with
 |cons r rr=>
  cases rr with
  |cons r' rr=>
   cases rr;cases r;cases r';obtain⟨ZL,Nt,c1⟩:=I1.row Fg;obtain⟨Jf,Nu,c2⟩:=I1.row Fj;have m1:=c1.lt;have m2:=c2.lt;refine zkl c1 c2 λh' b1 b2 b3 b4 b5 kp=>?_;refine wpAny_pyIter_zip b1 ?_;have ne:∀{u v:Nat},u<v->u≠v:=λh=>dX h;have D:mW (s1.heap.objs.size+4) (s1.heap.objs.size+2) (s1.heap.objs.size+3) s1.heap.objs.size (s1.heap.objs.size+1) l1 l2:=
    ⟨⟨(ne gV).symm,(ne gV).symm,(ne gV).symm,(ne gV).symm,(ne (iB m1 gV)).symm,(ne (iB m2 gV)).symm⟩,
     ⟨(ne gV).symm,(ne gV).symm,(ne gV).symm,(ne (iB m1 gV)).symm,(ne (iB m2 gV)).symm⟩,
     ⟨(ne gV).symm,(ne gV).symm,ne gV,(ne m1).symm,(ne m2).symm,(ne (iB m1 gV)).symm,(ne (iB m2 gV)).symm⟩⟩
   refine⟨s1.heap.objs.size+4,[s1.heap.objs.size+4,s1.heap.objs.size+2,s1.heap.objs.size+3,s1.heap.objs.size,s1.heap.objs.size+1],_,_,H1,rfl,I1.kept (t':=s1.toks) kp,ziM D,⟨b1,b2,⟨_,_,b3⟩,b4,b5⟩,λb hb=>?_,q⟩;have:s1.heap.objs.size<=b:=by
    have:b=s1.heap.objs.size+4\/b=s1.heap.objs.size+2\/b=s1.heap.objs.size+3\/b=s1.heap.objs.size\/b=s1.heap.objs.size+1:=by simpa using hb
    rcases this with rfl|rfl|rfl|rfl|rfl<;>lia
   exact I1.q_ this (I1.hok.fresh this)
end
noncomputable def Ite(K:W.Frag)(kd:Bool)(l:Addr):It:=
 ⟨λi H=>∃xs x,Sk kd K H l xs/\xs[i]?=some x,λi H v H'=>∃a x,H a=none/\v=.ref a/\H'=upd H a (.tup [.int i,x])/\∀xs,Sk kd K H l xs->xs[i]?=some x,λi H=>∃xs,Sk kd K H l xs/\xs.length<=i⟩
theorem BZ{prog:Program}{w:World}{A:Around}(hh:A.handled=none)(kd:Bool){it l:Addr}(uK:l≠it)(its:Array Value):Draws prog w A it [it,l] its.size (λi v=>its[i]?=some v) (λi h=>Rk kd it l i h/\Ck kd h l its) where
 live:=λ_ _ st=>let ⟨o,e,_⟩:=st.1.obj;⟨o,e⟩
 frame:=λ_ _ _ st k=>⟨st.1.keep λo e=>k it Zaa o e,st.2.keep λo e=>k l Zaa o e⟩
 item:=λi s Q E hi st q=>(jY.of kd uK).item A E s i its[i] Q st (by simp[hi]) λh' a b=>q _ h' s.toks (by simp[hi]) a b
 done:=λs Q E st q=>(jY.of kd uK).fin A E s its.size Q hh st Zaa q
theorem zh2(kd:Bool)(l:Addr)(xs:Array Value):Meets (Builtin.«enumerate.__new__» ⟨[.type "enumerate",.ref l],[]⟩) (λ_ R s=>Ck kd s.heap l xs /\
   R (.ok (.ret (.ref (s.heap.push (gA kd l)).objs.size))) {s with heap:=(s.heap.push (gA kd l)).push {cls:=.type "enumerate",data:=.fields #[.none,.bool false,.ref s.heap.objs.size,rawInt 0,.none,.none]}}):=
 .of_wp λprog w A R s h=>by
  obtain⟨hp,g,d,tk,os⟩:=s;obtain⟨c1,h⟩:=h;have hsub:=sub_enumerate;have C1:Ck kd (Shared.heap ⟨hp,g,d,tk,os⟩) l xs:=c1;obtain⟨ol,el⟩ : ∃o,hp.get? l=some o:=by
   cases kd
   ·obtain⟨o,e,_⟩:=c1;exact⟨o,e⟩
   ·obtain⟨o,e,_⟩:=c1;exact⟨o,e⟩
  wp_walk using Lr el
  refine wpAny_stack_any λst=>aZ ?_
  split
  ·rename_i c _ _ _ _ _;cases (c==Value.type "enumerate")<;>(wp_walk using Lr el,Nq C1;exact⟨_,rfl,h⟩)
  ·wp_walk using Lr el,Nq C1
   exact⟨_,rfl,h⟩
theorem ziL{prog:Program}{w:World}{A:Around}{E:Value->Shared->Prop}{s:Shared}{e it l:Addr}{its:Array Value}{st:Nat->Heap->Prop}{i:Nat}{old:Value}{Q:Option Value->Shared->Prop}(hh:A.handled=none)(N:jY prog w it l st its)(he:IsEnum s.heap e it i old)(oY:st i s.heap)(hx:its[i]?=none)
  (q:∀h',Heap.ExtBut it s.heap h'->Q none {s with heap:=h'}):wpAny (model prog w) A (pyNext (.ref e)) Q E s:=by
 have ty:s.TypeIs (.ref e) "enumerate":=⟨_,he,rfl⟩;have body:∀{E':Value->Shared->Prop},(∀h' x,Heap.ExtBut it s.heap h'->(∃o,h'.get? x=some o/\o.cls=.type "StopIteration")->E' (.ref x) {s with heap:=h'})->wpAny (model prog w) A.in1 (Builtin.«enumerate.__next__» ⟨[.ref e],[]⟩) (λ_ _=>False) E' s:=λk=>by
  show wpAny _ A.in1 (field (.ref e) 2 >>= _) _ _ _;exact aB (lG he rfl (x:=.ref it) rfl (aB (N.fin A.in1 _ s i _ hh oY hx k)))
 unfold pyNext;refine aB (zs2 (Ae (name:=Str.ofString "__next__") ty F.slot_enumerate_next (yL F.slot_enumerate_next ty F.entry_enumerate_next (lH (body λh' x a b=>?_) (λ_ _ z=>z.elim) λ_ _ z=>z) (F.args_enumerate_next_1 _))));obtain⟨o,a1,a2⟩:=b;exact aB (L_ (T:="StopIteration") (b:=true) ⟨o,a1,a2⟩ isSubtype_stop (aZ (q h' a)))
theorem zhl{P:Program}{w:World}{K:W.Frag}{elts:List Expr}{kk:Nat}{pos:Pos}{kd:Bool}{l e it:Addr}(S8:e≠it)(ZM:l≠it)(hle:l≠e) :
  Turn P w K (.Tuple elts kk pos) (Ite K kd l) [e,it] e (λi h=>(∃old,IsEnum h e it i old)/\Rk kd it l i h) where
 mem:=by simp
 obj:=λi h ⟨⟨old,he⟩,st⟩ b hb=>by
  have:b=e\/b=it:=by simpa using hb
  rcases this with rfl|rfl
  ·exact⟨_,he,λv z=>by cases z⟩
  ·exact st.obj
 keep:=λi h h' ⟨⟨old,he⟩,st⟩ k=>⟨⟨old,k e Zaa _ he⟩,st.keep λo e=>k it Zaa o e⟩
 item:=by
  rintro X hP hw hK hc i ao s Z H E I hf ⟨⟨old,he⟩,st⟩ hg;subst hP hw hK;obtain⟨xs,x,hq,hx⟩:=hg;obtain⟨its,rv,p⟩:=I.row hq;obtain⟨u,hu,ru⟩:=rv.get hx;have dF:i<its.toArray.size:=by simpa using (eY.mp hu).1
  refine wpAny_pyNext_enum_itemD (BZ (A:=X.A.in1) (I.ok.hd hc) kd ZM its.toArray) he ⟨st,p⟩ dF S8 (by simp[S8,hle.symm]) λu' h1 tk hP ho S9 hT hsz hk=>?_;have eu:u'=u:=by
   have:its[i]?=some u':=by simpa using hP
   rw[hu] at this;cases this;rfl
  subst eu;refine⟨_,rfl,wpAny_letOwnedTupleGo_enum (s:={s with heap:=h1,toks:=tk+1}) ho λh2 he2 sb=>?_⟩;have S6:h2.get? s.heap.objs.size=some {cls:=.type "tuple",data:=.seq #[.int i tk,u']}:=(sb.2 _ (wL (cg he))).trans hT;have kk:∀b o,b∉[e,it]->s.heap.get? b=some o->h2.get? b=some o:=λb o hb q=>(sb.2 b λz=>hb (by simp[z])).trans (hk b o (λz=>hb (by simp[z])) (λz=>hb (by simp[z])) q);have I2:=I.lN (t':=tk+1) (a:=s.heap.objs.size) (o:=.tup [.int i,x]) kk (λb hb=>hf b hb) (bK _) (show aP X.prog X.w _ h2 _ (.tup [.int i,x]) from ⟨by show 2<=sizeLine;decide,[.int i tk,u'],.cons ⟨_,rfl⟩ (.cons ru .nil),⟨_,S6,rfl,_,rfl,rfl⟩⟩);have hn:H s.heap.objs.size=none:=I.hok.fresh (bK _);refine⟨.ref s.heap.objs.size,_,I2,rfl,⟨_,x,hn,rfl,rfl,λys hy=>by rw[I.mX hy hq];exact hx⟩,⟨⟨_,by simpa using he2⟩,S9.1.keep λo q=>(sb.2 it S8.symm).trans q⟩,λb hb=>?_⟩;have nb:b≠s.heap.objs.size:=by
   have:b=e\/b=it:=by simpa using hb
   rcases this with rfl|rfl
   ·exact dX (cg he)
   ·obtain⟨o,q,_⟩:=st.obj;exact dX (cg q)
  rw[cY nb];exact(hf b hb).1
 done:=by
  rintro X hP hw hK hc i ao s Z H E I hf ⟨⟨old,he⟩,st⟩ hg;subst hP hw hK;obtain⟨xs,hq,hx⟩:=hg;obtain⟨its,rv,p⟩:=I.row hq;have hl:=rv.length;exact ziL (I.ok.hd hc) (jY.of kd ZM) he ⟨st,p⟩ (by simp;lia) λh' eb=>⟨rfl,I.qF (t':=s.toks) (ch:=[e,it]) (λb o hb q=>eb b o (λz=>hb (by simp[z])) q) λb hb=>hf b hb⟩
 self:=λ_ _ _ _ _ ⟨⟨old,he⟩,_⟩ h=>wpAny_pyIter_enum he h
section
variable {X:Cx}
noncomputable def Jg(K:W.Frag)(ta:TA):TI:=λZ H R=>ta Z H λvs H1=>∃kd l xs,vs=[.ref l]/\Sk kd K H1 l xs/\R (Ite K kd l) H1
theorem zgO:bootBuiltins "enumerate"=some (.type "enumerate"):=by decide +kernel
theorem zkK{a:Expr}{ta:TA}{p pos tpos:Pos}{elts:List Expr}{kk:Nat}(hg:Gl X "enumerate")(hm:X.mg "enumerate"=none)(ha:PA X [a] ta)(hs:starEach [a] X.env=[(false,eval a X.env)]:=by rfl):PI X (.Tuple elts kk tpos) (.Call (.Name "enumerate" p) [a] [] pos) (Jg X.K ta):=by
 intro ao s Z H R I h;refine Call_ (qZ I hg hm zgO (tV (bA (ha pos ao s Z H _ I h) λus s1 hz=>?_) hs rfl));obtain⟨vs,H1,I1,r1,q1⟩:=hz;obtain⟨kd,l,xs,e,hq,q⟩:=q1;subst e;cases r1 with
 |cons r rr=>
  cases rr;cases r;obtain⟨its,rv,p⟩:=I1.row hq;have hl:l<s1.heap.objs.size:=p.lt;refine callType_new F.called_enumerate Vu (F.typeCall_enumerate_1 _) (F.newCall_enumerate_1 _) (λobj=>F.args_object_init_2 obj _) F.entry_enumerate_new (zh2 kd l its.toArray) ⟨p,?_⟩;have n1:(s1.heap.push (gA kd l)).objs.size=s1.heap.objs.size+1:=tZ ..;have he:IsEnum ((s1.heap.push (gA kd l)).push {cls:=.type "enumerate",data:=.fields #[.none,.bool false,.ref s1.heap.objs.size,rawInt 0,.none,.none]}) (s1.heap.objs.size+1) s1.heap.objs.size 0 .none:=by
   have:=fL (s1.heap.push (gA kd l)) (o:={cls:=.type "enumerate",data:=.fields #[.none,.bool false,.ref s1.heap.objs.size,rawInt 0,.none,.none]}) rfl;rw[n1] at this;exact this
  show _/\_;rw[n1];refine⟨⟨_,he,rfl⟩,wpAny_pyIter_enum (s:={s1 with heap:=(s1.heap.push (gA kd l)).push {cls:=.type "enumerate",data:=.fields #[.none,.bool false,.ref s1.heap.objs.size,rawInt 0,.none,.none]}}) he ?_⟩;have rk:Rk kd s1.heap.objs.size l 0 ((s1.heap.push (gA kd l)).push {cls:=.type "enumerate",data:=.fields #[.none,.bool false,.ref s1.heap.objs.size,rawInt 0,.none,.none]}):=by
   cases kd
   ·exact⟨_,cN _ (fL _ rfl),rfl,rfl⟩
   ·exact⟨_,cN _ (fL _ rfl),rfl,rfl⟩
  refine⟨s1.heap.objs.size+1,[s1.heap.objs.size+1,s1.heap.objs.size],_,_,H1,rfl,I1.kept (t':=s1.toks) λb o x=>cN _ (cN _ x),zhl (kd:=kd) (l:=l) (Nat.succ_ne_self _) (dX hl) (dX (vR hl)),⟨⟨_,he⟩,rk⟩,λb hb=>?_,q⟩;have:s1.heap.objs.size<=b:=by
   have:b=s1.heap.objs.size+1\/b=s1.heap.objs.size:=by simpa using hb
   rcases this with rfl|rfl
   ·exact Ep _
   ·exact bK _
  exact I1.q_ this (I1.hok.fresh this)
end
end L2
set_option genSizeOf false
set_option genInjectivity false
namespace Mi
open PySem
inductive D where
 |non|bl (b:Bool)|int (i:Int)|str (s:Str)|tup (xs:List D)|fl (xs:List D)|fd (ks vs:List D)|exc (c:Nat) (fs:List D)|ob (c:Nat) (fs:List D)|any
inductive Xv where
 |d (x:D)|l (n:Nat)
inductive Kx where
 |non|int (i:Int)|row (is:List Int)
deriving DecidableEq
inductive SO where
 |lst (xs:List D)
 |dct (kvs:List (List Kx×D))
noncomputable abbrev S:=List SO
inductive Rs (α:Type) where
 |ok (a:α)|er (c:Nat) (fs:List D)
noncomputable abbrev M(α:Type):=S->Option (Rs α×S)
noncomputable def M.ret{α:Type}(a:α):M α:=λs=>some (.ok a,s)
noncomputable def M.bd{α β:Type}(m:M α)(k:α->M β):M β:=λs=>match m s with
 |some (.ok a,s')=>k a s'
 |some (.er c f,s')=>some (.er c f,s')
 |none=>none
noncomputable def M.qt{α:Type}(m:M α):M α:=λs=>match m s with
 |some (.ok a,s')=>some (.ok a,s')
 |_=>none
noncomputable def M.no{α:Type}:M α:=λ_=>none
noncomputable def M.opt{α:Type}:Option α->M α
 |some a=>M.ret a
 |none=>M.no
inductive Rz where
 |dat (d:D)|nw (xs:List D)
inductive Pr where
 |add|aq|mul|fdiv|mod|pow|neg
 |eq|ne|lt|le|gt|ge|inn|nin
 |tG|rA
 |len|abs|max2|min2|Jh|Ji|rB|Fl|xK|divmod|all|sum|list|tuple|sorted|qG|uL|str1
 |ix|rev|xM|Jj|mult|yZ
 |count|index|repr
 |nir|S_|Tc|shl|shr|band|isT|noT|isF|Jk|B_|Cd
inductive Kd where
 |int|bool|str|tuple|list|dict|cls (c:Nat)|pI
mutual
inductive E where
 |c (d:D)
 |v (i:Nat)
 |pr (fz:Bool) (p:Pr) (xs:Es)
 |v8 (p q:Pr) (a b c:E)
 |ch3 (p q r:Pr) (a b c d:E)
 |and (a b:E)
 |or (a b:E)
 |not (a:E)
 |ite (c a b:E)
 |tup (xs:Es)
 |lst (fz:Bool) (xs:Es)
 |uM (k:Str) (i:Int)
 |call (f:Nat) (xs:Es)
 |iu (a:E) (k:Kd)
 |sl (fz:Bool) (a:E) (lo hi:Eo)
 |meth (fz:Bool) (p:Pr) (k:Kd) (o:E) (xs:Es)
 |push (o a:E)
 |pop (o:E)
 |comp (fz:Bool) (elt:E) (tg:List Nat) (it:Wk) (fr:List Nat) (many:Nat) (cond:Eo)
 |Jl (fz:Bool) (elt:E) (tg:List Nat) (it:Wk) (ZP:List Nat) (Jf:Wk) (fr:List Nat) (many:Nat) (cond:Eo)
 |fld (o:E) (cs:List Nat) (i:Nat)
 |of (o:E) (c i:Nat)
 |mk (c f:Nat) (xs:Es)
 |cm (c f:Nat) (o:E) (xs:Es)
 |rC
 |Ce (b:Bool) (k d:E)
 |pJ (d k:E)
 |Fp (a:E)
 |Jm (fz:Bool) (a:E) (b:E)
 |orv (a b:E)
 |ins (o i a:E)
 |no
inductive Wk where
 |seq (e:E)
 |rg (a b:E)
 |zip (a b:E)
 |enum (a:E)
 |Jo (a:E)
inductive Es where
 |nil
 |cons (a:E) (r:Es)
inductive Eo where
 |no
 |yes (a:E)
end
noncomputable abbrev Ea(a:E):Es:=.cons a .nil
noncomputable abbrev Eb(a b:E):Es:=.cons a (.cons b .nil)
noncomputable abbrev Ec(a b c:E):Es:=.cons a (.cons b (.cons c .nil))
noncomputable abbrev Ei(a b:E):E:=.pr true .ix (.cons a (.cons b .nil))
noncomputable abbrev Ci(i:Int):E:=.c (.int i)
noncomputable def Es.len:Es->Nat
 |.nil=>0
 |.cons _ r=>r.len+1
inductive Tg where
 |nm (i:Nat)
 |tp (is:List Nat)
 |aq (o i:E)
mutual
inductive St where
 |pass
 |ex (e:E)
 |asg (t:Tg) (e:E)
 |par (i j:Nat) (a b:E)
 |aug (i:Nat) (e:E)
 |ret (e:E)
 |rise (c:Nat) (kp:Bool) (xs:Es)
 |iff (c:E) (t e:bL)
 |wh (c:E) (b:bL)
 |fr (t:Tg) (w:Wk) (b:bL)
 |rD (b:bL) (d:Nat) (i:Nat) (h:bL)
 |dput (d k v:E)
 |no
inductive bL where
 |nil
 |cons (a:St) (r:bL)
end
noncomputable def dU(eq:D->D->Option Bool):List D->List D->Option Bool
 |[],[]=>some true
 |[],_::_=>some false
 |_::_,[]=>some false
 |x::xs,y::ys=>match eq x y,dU eq xs ys with
  |some a,some b=>some (a&&b)
  |_,_=>none
noncomputable def kq:D->Option Nat
 |.non=>some 0
 |.bl _=>some 1
 |.int _=>some 1
 |.str _=>some 2
 |.tup _=>some 3
 |.fl _=>some 4
 |_=>none
noncomputable def cL:Nat->D->D->Option Bool
 |n+1,.tup xs,.tup ys=>dU (cL n) xs ys
 |n+1,.fl xs,.fl ys=>dU (cL n) xs ys
 |_,.non,.non=>some true
 |_,.bl a,.bl b=>some (a==b)
 |_,.int a,.int b=>some (a==b)
 |_,.str a,.str b=>some (a==b)
 |_,.bl a,.int b=>some ((if a then 1 else 0)==b)
 |_,.int a,.bl b=>some (a==(if b then 1 else 0))
 |_,a,b=>match kq a,kq b with
  |some i,some j=>if i=j then none else some false
  |_,_=>none
noncomputable def cD:List D->Option (List Int)
 |[]=>some []
 |.int i::r=>(cD r).map (i::·)
 |_=>none
noncomputable def ltI:List Int->List Int->Bool
 |_,[]=>false
 |[],_::_=>true
 |x::xs,y::ys=>if x=y then ltI xs ys else decide (x<y)
noncomputable def fG:List D->Option (List Bool)
 |[]=>some []
 |.bl b::r=>(fG r).map (b::·)
 |_=>none
noncomputable def cut{α:Type}(xs:List α)(lo hi:Option Int):List α:=(xs.drop (HT.bQ xs.length 0 lo)).take (HT.bQ xs.length xs.length hi-HT.bQ xs.length 0 lo)
noncomputable def jZ:D->Option (List D)
 |.tup xs=>some xs
 |.fl xs=>some xs
 |_=>none
noncomputable def cutD(x:D)(lo hi:Option Int):Option Rz:=match x with
 |.tup xs=>some (.dat (.tup (cut xs lo hi)))
 |.fl xs=>some (.nw (cut xs lo hi))
 |_=>none
noncomputable def memD(d:D):List D->Option Bool
 |[]=>some false
 |x::r=>match cL 50 x d,memD d r with
  |some a,some b=>some (a||b)
  |_,_=>none
noncomputable def rE(d:D):List D->Nat
 |[]=>0
 |x::r=>rE d r+(if cL 50 x d=some true then 1 else 0)
noncomputable def pK:Kd->D->Bool
 |.list,.fl _=>true
 |.str,.str _=>true
 |.dict,.fd _ _=>true
 |.tuple,.tup _=>true
 |_,_=>false
noncomputable def insI(x:Int):List Int->List Int
 |[]=>[x]
 |y::r=>if x<y then x::y::r else y::insI x r
noncomputable def sortI:List Int->List Int
 |[]=>[]
 |x::r=>insI x (sortI r)
noncomputable def cF(f:Int->Int->Option D):List D->Option Rz
 |[.int i,.int j]=>(f i j).map .dat
 |_=>none
noncomputable def qH(f:Int->D):List D->Option Rz
 |[.int i]=>some (.dat (f i))
 |_=>none
noncomputable def rF(f:List D->Option Rz):List D->Option Rz
 |[a]=>(jZ a).bind f
 |_=>none
noncomputable def Cg:List D->Option Rz
 |[.int i,.int j]=>some (.dat (.int (i+j)))
 |[.tup xs,.tup ys]=>if xs.length+ys.length<=sizeLine then some (.dat (.tup (xs++ys))) else none
 |[.fl xs,.fl ys]=>if xs.length+ys.length<=sizeLine then some (.nw (xs++ys)) else none
 |[.str x,.str y]=>if x.length+y.length<=sizeLine then some (.dat (.str (x++y))) else none
 |_=>none
noncomputable def Jp:List D->Option Rz
 |[.int i,.int j]=>some (.dat (.bl (decide (i<j))))
 |[.tup xs,.tup ys]=>match cD xs,cD ys with
  |some a,some b=>some (.dat (.bl (ltI a b)))
  |_,_=>none
 |_=>none
noncomputable def zc(f:Bool->Bool):List D->Option Rz
 |[a,b]=>(cL 50 a b).map λk=>.dat (.bl (f k))
 |_=>none
noncomputable def Fq(f:Bool->Bool):List D->Option Rz
 |[a,b]=>((jZ b).bind (memD a)).map λk=>.dat (.bl (f k))
 |_=>none
noncomputable def D.uN:D->Bool
 |.non=>true
 |_=>false
noncomputable def Cj(f:Bool->Bool):List D->Option Rz
 |[a]=>some (.dat (.bl (f a.uN)))
 |_=>none
noncomputable def Jq:List D->Option Rz
 |[.int i]=>some (.dat (.int i))
 |[.bl k]=>some (.dat (.int (if k then 1 else 0)))
 |_=>none
noncomputable def Cm:List D->Option Rz
 |[.fl xs]=>(fG xs).map λbs=>.dat (.bl (bs.all id))
 |_=>none
noncomputable def dW:List D->Option (List Int)
 |[]=>some []
 |.int i::r=>(dW r).map (i::·)
 |_=>none
noncomputable def best(bt:Int->Int->Bool)(i:Int)(is:List Int):Int:=is.foldl (λm j=>if bt j m then j else m) i
noncomputable def Jr(bt:Int->Int->Bool):Option (List Int)->Option Rz
 |some (i::is)=>some (.dat (.int (best bt i is)))
 |_=>none
noncomputable def zj(bt:Int->Int->Bool):List D->Option Rz
 |[a]=>(jZ a).bind λxs=>Jr bt (dW xs)
 |_=>none
noncomputable def okR(i j:Int):Bool:=decide (-(2^62)<=i/\i<2^62/\-(2^62)<=j/\j<2^62/\(j-i).toNat<=65536)
noncomputable def rG(i:Int)(n:Nat):List D:=(List.range n).map λk=>.int (i+(k:Nat))
noncomputable def Cp:List D->Option Rz
 |[.int j]=>if okR 0 j then some (.nw (rG 0 (j-0).toNat)) else none
 |[.int i,.int j]=>if okR i j then some (.nw (rG i (j-i).toNat)) else none
 |_=>none
noncomputable def Cq:List D->Option Rz
 |[.int j]=>if okR 0 j then some (.dat (.tup (rG 0 (j-0).toNat))) else none
 |_=>none
noncomputable def pL:List D->Option Rz
 |[a]=>(jZ a).map λxs=>.dat (.tup xs)
 |_=>none
noncomputable def Td:List D->Option Rz
 |[a,.int i]=>((jZ a).bind λxs=>L2.qy xs i).map .dat
 |_=>none
noncomputable def rH:List D->List D->Option Bool
 |[],ys=>some (decide (0<ys.length))
 |_::_,[]=>some false
 |.int x::xs,.int y::ys=>if x=y then rH xs ys else some (decide (x<y))
 |_::_,_::_=>none
noncomputable def zm(xs:List D)(i j:Nat):Option Bool:=match xs[i]?,xs[j]? with
 |some (.int x),some (.int y)=>some (decide (x<y))
 |some (.tup us),some (.tup ws)=>rH us ws
 |_,_=>none
noncomputable def fZ(b:List Int):List (List Int)->List Int
 |[]=>b
 |x::r=>fZ (if ltI x b=true then x else b) r
noncomputable def j8:List D->Option (List (List Int))
 |[]=>some []
 |.tup xs::r=>match cD xs,j8 r with
  |some a,some b=>some (a::b)
  |_,_=>none
 |_=>none
noncomputable def oG:List D->Option Rz
 |[.fl xs]=>match j8 xs with
  |some (x::r)=>some (.dat (.tup ((fZ x r).map .int)))
  |_=>none
 |_=>none
noncomputable def j9:D->Bool
 |.int _=>true
 |_=>false
noncomputable def je:D->Bool
 |.tup (.int _::_)=>true
 |_=>false
noncomputable def qI(lt:Nat->Nat->Option Bool)(xs:List D):Option (List D):=if xs.length<2 then some xs else if xs.length<64 then (match L2.bT lt (PySem.W.kas_sort xs.length) with
  |some p=>if p.size=xs.length then some (p.toList.map λi=>xs.getD i .non) else none
  |none=>none) else none
noncomputable def zp(xs:List D):Option (List D):=if xs.all j9||xs.all je then qI (zm xs) xs else none
noncomputable def mY:List D->Option Rz
 |[.fl xs]=>(zp xs).map .nw
 |_=>none
noncomputable def ltK(ks:List Int)(i j:Nat):Option Bool:=match ks[i]?,ks[j]? with
 |some x,some y=>some (decide (x<y))
 |_,_=>none
noncomputable def Te:List D->Option Rz
 |[.tup xs]=>some (.dat (.tup xs.reverse))
 |_=>none
noncomputable def pN:List D->Option Rz
 |[.fl xs,d]=>(memD d xs).map λ_=>.dat (.int (rE d xs:Nat))
 |_=>none
noncomputable def pO:List D->Option Rz
 |[.fl xs,.bl b]=>((fG xs).bind λbs=>bs.idxOf? b).map λ(i:Nat)=>.dat (.int i)
 |_=>none
noncomputable def Tf:List D->Option Rz
 |[.int i]=>if i.natAbs<2^62 then some (.dat (.str (Str.ofString (toString i)))) else none
 |_=>none
noncomputable def Nv(f:D->Option PyData):List D->Option (List PyData)
 |[]=>some []
 |x::r=>match f x,Nv f r with
  |some a,some b=>some (a::b)
  |_,_=>none
noncomputable def pd:Nat->D->Option PyData
 |n+1,.tup xs=>(Nv (pd n) xs).map .tuple
 |n+1,.fl xs=>(Nv (pd n) xs).map .list
 |_,.non=>some .none
 |_,.bl b=>some (.bool b)
 |_,.int i=>some (.int i)
 |_,.str x=>some (.str x)
 |_,_=>none
noncomputable def pe:Nat->D->Option PyData
 |n+1,.tup xs=>(Nv (pe n) xs).map .tuple
 |n+1,.fd [.str k] [.int i]=>some (.dict [(.str k,.int i)])
 |_,.non=>some .none
 |_,.bl b=>some (.bool b)
 |_,.int i=>some (.int i)
 |_,.str x=>some (.str x)
 |_,_=>none
noncomputable def orE(a b:Option PyData):Option PyData:=match a with
 |some d=>some d
 |none=>b
noncomputable def pdT:D->Option PyData
 |.fd [.str k] [.int i]=>some (.dict [(.str k,.int i)])
 |x=>orE (pd 40 x) (pe 40 x)
noncomputable def shw(d:PyData):Option Rz:=if d.showable=true/\d.shown.length<=sizeLine then some (.dat (.str d.shown)) else none
noncomputable def Js:List D->Option Rz
 |[x]=>(pdT x).bind shw
 |_=>none
noncomputable def zu:List (Int×Int):=[(0,1),(0,2),(0,3),(0,4),(0,5),(0,6),(0,7),(1,2),(1,3),(1,4),(1,5),(1,6),(1,7),(2,3),(2,4),(2,5),(2,6),(2,7),(3,4),(3,5),(3,6),(3,7),(4,5),(4,6),(4,7),(5,6),(5,7),(6,7)]
noncomputable def ss(ts:List (Int×Int)):List (Int×Int):=zu.filter λt=>ts.contains t
noncomputable def Ti:D->Option (Int×Int)
 |.tup [.int a,.int b]=>if 0<=a/\a<b/\b<8 then some (a,b) else none
 |_=>none
noncomputable def zx:List D->Option (List (Int×Int))
 |[]=>some []
 |x::r=>match Ti x,zx r with
  |some a,some b=>some (a::b)
  |_,_=>none
noncomputable def pSs:List D->Option Rz
 |[.tup xs]=>(zx xs).map λts=>.nw ((ss ts).map λp=>.tup [.int p.1,.int p.2])
 |_=>none
noncomputable def Jt(is:List Int):Bool:=decide (is.length<=1000)&&is.all λi=>decide (-1000000<=i/\i<=1000000)
noncomputable def Tj(is:List Int):Option Rz:=match Jt is with
 |true=>some (.dat (.int is.sum))
 |false=>none
noncomputable def Tn:List D->Option Rz
 |[a]=>(jZ a).bind λxs=>(dW xs).bind Tj
 |_=>none
noncomputable def jH:List Int->List Int
 |[]=>[]
 |x::r=>if r.contains x then jH r else x::jH r
noncomputable def Ju(x:Int):Bool:=decide (-1<=x/\x<=34)||decide (100000000000000000000<=x/\x<=100000000000000000034)
noncomputable def Tq(is:List Int):Bool:=decide (is.length<=18)&&is.all Ju
noncomputable def Jv(is:List Int):Option Rz:=match Tq is with
 |true=>some (.dat (.int (jH is).length))
 |false=>none
noncomputable def Jw:List D->Option Rz
 |[.tup xs]=>(dW xs).bind Jv
 |_=>none
noncomputable def Tt(is:List Int):Option Rz:=match Tq is with
 |true=>some (.nw ((sortI (jH is)).map .int))
 |false=>none
noncomputable def Tv:List D->Option Rz
 |[.tup xs]=>(dW xs).bind Tt
 |_=>none
noncomputable def xO:List D->Option Rz
 |[.fl xs,.int i]=>((dW xs).bind λis=>is.idxOf? i).map λ(k:Nat)=>.dat (.int k)
 |_=>none
noncomputable def rep{α:Type}(xs:List α)(n:Nat):List α:=(List.replicate n xs).flatten
noncomputable def Jx:List D->Option Rz
 |[.fl xs,.int n]=>if 0<=n/\n<=1000/\xs.length<=1000 then some (.nw (rep xs n.toNat)) else none
 |_=>none
noncomputable def Cr:List D->Option Rz
 |[.tup xs]=>if xs.all j9=true then (zp xs).map .nw else none
 |_=>none
noncomputable def zy:List D->Option Rz
 |[.tup xs,.int n]=>if 1<=n/\n<=1000/\1<=xs.length/\xs.length<=1000 then some (.dat (.tup (rep xs n.toNat))) else none
 |_=>none
noncomputable def Tw(xs ys:List D):List D:=List.zipWith (λp q=>.tup [p,q]) xs ys
noncomputable def zlO(xs ys:List D):Option Rz:=if xs.length<=65536 then some (.nw (Tw xs ys)) else none
noncomputable def Jy:List D->Option Rz
 |[a,b]=>match jZ a,jZ b with
  |some xs,some ys=>zlO xs ys
  |_,_=>none
 |_=>none
noncomputable def Jz:List D->Option Rz
 |[.fl xs]=>some (.nw (xs.drop 1).reverse)
 |_=>none
noncomputable def D.zA(b:Bool):D->Bool
 |.bl c=>b==c
 |_=>false
noncomputable def Cu(b:Bool)(f:Bool->Bool):List D->Option Rz
 |[a]=>some (.dat (.bl (f (a.zA b))))
 |_=>none
noncomputable def Jk:List D->Option Nat
 |[]=>none
 |.tup []::_=>some 0
 |.tup (_::_)::r=>(Jk r).map (·+1)
 |.non::r=>(Jk r).map (·+1)
 |_=>none
noncomputable def Tz:List D->Option Rz
 |[.tup xs,.tup []]=>(Jk xs).map λ(i:Nat)=>.dat (.int i)
 |_=>none
noncomputable def xP:D->Option Bool
 |.non=>some false
 |.bl b=>some b
 |.int i=>some (i != 0)
 |.tup xs=>some (!xs.isEmpty)
 |.fl xs=>some (!xs.isEmpty)
 |_=>none
noncomputable def prim:Pr->List D->Option Rz
 |.add=>Cg
 |.aq=>cF λi j=>some (.int (i-j))
 |.mul=>cF λi j=>if (-(2^64)<i/\i<2^64)\/(-(2^64)<j/\j<2^64) then some (.int (i*j)) else none
 |.fdiv=>cF λi j=>if 0<j/\j<1073741824 then some (.int (i/j)) else none
 |.mod=>cF λi j=>if 0<j then some (.int (i%j)) else none
 |.pow=>cF λi j=>if 0<=j/\j<=1000000/\i.natAbs<2^64 then some (.int (i^j.toNat)) else none
 |.neg=>qH λi=>.int (-i)
 |.eq=>zc id
 |.ne=>zc not
 |.lt=>Jp
 |.le=>cF λi j=>some (.bl (decide (i<=j)))
 |.gt=>cF λi j=>some (.bl (decide (j<i)))
 |.ge=>cF λi j=>some (.bl (decide (j<=i)))
 |.inn=>Fq id
 |.nin=>Fq not
 |.tG=>Cj id
 |.rA=>Cj not
 |.len=>rF λxs=>some (.dat (.int xs.length))
 |.abs=>qH λi=>.int (if i<0 then -i else i)
 |.max2=>cF λi j=>some (.int (if j>i then j else i))
 |.min2=>cF λi j=>some (.int (if j<i then j else i))
 |.xK=>Jq
 |.divmod=>cF λi j=>if 0<j/\j<1073741824 then some (.tup [.int (i/j),.int (i%j)]) else none
 |.all=>Cm
 |.xM=>Cp
 |.Jh=>zj λa b=>decide (a>b)
 |.Ji=>zj λa b=>decide (a<b)
 |.rB=>oG
 |.Fl=>Cq
 |.list=>rF λxs=>some (.nw xs)
 |.tuple=>pL
 |.ix=>Td
 |.rev=>Te
 |.sorted=>mY
 |.qG=>pSs
 |.Jj=>Jx
 |.mult=>zy
 |.yZ=>Cr
 |.sum=>Tn
 |.uL=>Jw
 |.count=>pN
 |.index=>pO
 |.repr=>Js
 |.str1=>Tf
 |.nir=>cF λi j=>some (.bl (!decide (0<=i/\i<j)))
 |.S_=>Jy
 |.Tc=>Jz
 |.shl=>cF λi j=>if 0<=j/\j<=64/\i.natAbs<2^64 then some (.int (i*2^j.toNat)) else none
 |.shr=>cF λi j=>if 0<=j/\j<=64/\0<=i then some (.int (i/2^j.toNat)) else none
 |.band=>cF λi j=>if j=1/\0<=i then some (.int (i%2)) else none
 |.isT=>Cu true id
 |.noT=>Cu true not
 |.isF=>Cu false id
 |.Jk=>Tz
 |.B_=>Tv
 |.Cd=>xO
noncomputable def lO(aq:Nat->Nat->Bool):D->Kd->Option Bool
 |.exc c _,.cls e=>some (aq c e)
 |.exc _ _,.pI=>some true
 |.exc _ _,_=>none
 |.ob _ _,_=>none
 |.any,_=>none
 |_,.cls _=>none
 |_,.pI=>none
 |.bl _,.bool=>some true
 |.bl _,.int=>some true
 |.bl _,_=>some false
 |.int _,.int=>some true
 |.int _,_=>some false
 |.non,_=>some false
 |.str _,.str=>some true
 |.str _,_=>some false
 |.tup _,.tuple=>some true
 |.tup _,_=>some false
 |.fl _,.list=>some true
 |.fl _,_=>some false
 |.fd _ _,.dict=>some true
 |.fd _ _,_=>some false
noncomputable def rd(x:Xv):M D:=λs=>match x with
 |.d v=>some (.ok v,s)
 |.l n=>match s[n]? with
  |some (.lst xs)=>some (.ok (.fl xs),s)
  |_=>none
noncomputable def gW:List Xv->M (List D)
 |[]=>M.ret []
 |x::r=>M.bd (rd x) λd=>M.bd (gW r) λds=>M.ret (d::ds)
noncomputable def dat(x:Xv):M D:=match x with
 |.d v=>M.ret v
 |.l _=>M.no
noncomputable def bY:List Xv->M (List D)
 |[]=>M.ret []
 |x::r=>M.bd (dat x) λd=>M.bd (bY r) λds=>M.ret (d::ds)
noncomputable def bool(x:Xv):M Bool:=match x with
 |.d (.bl b)=>M.ret b
 |_=>M.no
noncomputable def int(x:Xv):M Int:=match x with
 |.d (.int b)=>M.ret b
 |_=>M.no
noncomputable def newL(fz:Bool)(xs:List D):M Xv:=match fz with
 |true=>M.ret (.d (.fl xs))
 |false=>λs=>some (.ok (.l s.length),s++[.lst xs])
noncomputable def cG(fz:Bool)(o:Option Rz):M Xv:=match o with
 |some (.dat d)=>M.ret (.d d)
 |some (.nw xs)=>newL fz xs
 |none=>M.no
noncomputable def cV(x:Xv):M (Nat×List D):=λs=>match x with
 |.l n=>match s[n]? with
  |some (.lst xs)=>some (.ok (n,xs),s)
  |_=>none
 |_=>none
noncomputable def putL(n:Nat)(xs:List D):M Unit:=λs=>some (.ok (),s.set n (.lst xs))
noncomputable def uO:D->Option Kx
 |.non=>some .non
 |.int i=>some (.int i)
 |.tup xs=>(cD xs).map .row
 |_=>none
noncomputable def Cv:List D->Option (List Kx)
 |[]=>some []
 |x::r=>match uO x,Cv r with
  |some a,some b=>some (a::b)
  |_,_=>none
noncomputable def kOf:D->Option (List Kx)
 |.tup xs=>Cv xs
 |_=>none
noncomputable abbrev iU:=List (List Kx×D)
noncomputable def bZ(k:List Kx):iU->Option D
 |[]=>none
 |p::r=>if p.1=k then some p.2 else bZ k r
noncomputable def jB(k:List Kx)(d:D)(r:iU):iU:=if (bZ k r).isSome=true then r.map λp=>if p.1=k then (p.1,d) else p else r++[(k,d)]
noncomputable def f9(x:Xv):M (Nat×iU):=λs=>match x with
 |.l n=>match s[n]? with
  |some (.dct kvs)=>some (.ok (n,kvs),s)
  |_=>none
 |_=>none
noncomputable def putD(n:Nat)(kvs:iU):M Unit:=λs=>some (.ok (),s.set n (.dct kvs))
noncomputable def key(x:Xv):M (List Kx):=match x with
 |.d v=>M.opt (kOf v)
 |.l _=>M.no
noncomputable def enumFrom:Nat->List D->List D
 |_,[]=>[]
 |i,x::r=>.tup [.int i,x]::enumFrom (i+1) r
inductive Src where
 |fix (xs:List D)|live (n:Nat)|lQ (n:Nat)
noncomputable def Src.at(c:Src)(i:Nat)(s:S):Option (Option D):=match c with
 |.fix xs=>some xs[i]?
 |.live n=>match s[n]? with
  |some (.lst xs)=>some xs[i]?
  |_=>none
 |.lQ n=>match s[n]? with
  |some (.lst xs)=>some (xs[i]?.map λx=>.tup [.int i,x])
  |_=>none
noncomputable def oH(x:Xv):M (Src×Nat):=λs=>match x with
 |.d (.tup xs)=>some (.ok (.fix (enumFrom 0 xs),(enumFrom 0 xs).length),s)
 |.d (.fl xs)=>some (.ok (.fix (enumFrom 0 xs),(enumFrom 0 xs).length),s)
 |.l n=>match s[n]? with
  |some (.lst xs)=>some (.ok (.lQ n,xs.length),s)
  |_=>none
 |_=>none
noncomputable def src(x:Xv):M (Src×Nat):=λs=>match x with
 |.d (.tup xs)=>some (.ok (.fix xs,xs.length),s)
 |.d (.fl xs)=>some (.ok (.fix xs,xs.length),s)
 |.l n=>match s[n]? with
  |some (.lst xs)=>some (.ok (.live n,xs.length),s)
  |_=>none
 |_=>none
noncomputable def pP(x:Xv):M (List D):=match x with
 |.d (.tup xs)=>M.ret xs
 |.d (.fl xs)=>M.ret xs
 |_=>M.no
noncomputable def gb(a b:Int):List D:=(List.range (b-a).toNat).map λ(i:Nat)=>.int (a+i)
noncomputable def fj(a:Int):Bool:=decide (-(2^62)<a)&&decide (a<2^62)
noncomputable def walk(c:Src)(f:D->List D->M (List D)):Nat->Nat->List D->M (List D)
 |0,_,_=>M.no
 |k+1,i,acc=>λs=>match c.at i s with
  |none=>none
  |some none=>some (.ok acc,s)
  |some (some x)=>M.bd (f x acc) (λacc'=>walk c f k (i+1) acc') s
noncomputable def zB(f:D->M Xv):List D->Option (List Int)
 |[]=>some []
 |x::r=>match f x [] with
  |some (.ok (.d (.int k)),[])=>(zB f r).map (k::·)
  |_=>none
noncomputable abbrev Vs:=List (Option Xv)
noncomputable abbrev Fn:=Nat->List Xv->M Xv
noncomputable def locs:List Xv->List Nat
 |[]=>[]
 |.d _::r=>locs r
 |.l n::r=>n::locs r
noncomputable def dG:Nat->List Xv->List Xv
 |_,[]=>[]
 |k,.d v::r=>.d v::dG k r
 |k,.l _::r=>.l k::dG (k+1) r
noncomputable def jf(s:S):List Nat->Option S
 |[]=>some []
 |n::r=>match s[n]?,jf s r with
  |some o,some q=>some (o::q)
  |_,_=>none
noncomputable def cW(s:S):List Nat->S->S
 |n::r,o::q=>cW (s.set n o) r q
 |_,_=>s
noncomputable def bW(F:List Xv->M Xv)(xs:List Xv):M Xv:=λs=>
 if (locs xs).Nodup then match jf s (locs xs) with
  |none=>none
  |some s0=>match F (dG 0 xs) s0 with
   |none=>none
   |some (.er c fs,s1)=>some (.er c fs,cW s (locs xs) s1)
   |some (.ok (.d v),s1)=>some (.ok (.d v),cW s (locs xs) s1)
   |some (.ok (.l n),s1)=>match (locs xs)[n]? with
    |some m=>some (.ok (.l m),cW s (locs xs) s1)
    |none=>match s1[n]? with
     |some o=>some (.ok (.l s.length),cW s (locs xs) s1++[o])
     |none=>none
 else none
noncomputable def TF(F:List Xv->M Xv)(c:Nat)(vs:List Xv):M Xv:=λs=>
 if locs vs=[] then match F (.d .any::vs) [] with
  |some (.ok (.d (.tup ds)),_)=>some (.ok (.d (.ob c ds)),s)
  |_=>none
 else none
noncomputable def rJ(c:Nat)(x:Xv):M (List D):=match x with
 |.d (.ob e fs)=>if e=c then M.ret fs else M.no
 |_=>M.no
noncomputable def gY{α:Type}:List Nat->List α->List (Option α)->Option (List (Option α))
 |[],[],J=>some J
 |i::is,d::ds,J=>gY is ds (J.set i (some d))
 |_,_,_=>none
noncomputable def lR:D->Option (List D)
 |.tup xs=>some xs
 |_=>none
noncomputable def iI(tg:List Nat)(x:D)(J:Vs):Option Vs:=match tg with
 |[i]=>some (J.set i (some (.d x)))
 |is=>(lR x).bind λds=>gY is (ds.map .d) J
noncomputable def blk(many:Nat)(fr:List Nat)(J:Vs):Vs:=List.replicate many none++fr.map λj=>J[j]?.join
section
variable (aq:Nat->Nat->Bool)(aj:Bool)(F:Fn)
mutual
noncomputable def ev:E->Vs->M Xv
 |.c d,_=>M.ret (.d d)
 |.v i,J=>M.opt (J[i]?.join)
 |.pr fz p xs,J=>M.bd (evs xs J) λvs=>M.bd (gW vs) λds=>cG fz (prim p ds)
 |.v8 p q a b c,J=>M.bd (ev a J) λx=>M.bd (ev b J) λy=>M.bd (gW [x,y]) λds=>M.bd (cG true (prim p ds)) λt=>M.bd (bool t) λk=>
   if k=true then M.bd (ev c J) λz=>M.bd (gW [y,z]) λds=>cG true (prim q ds) else M.ret (.d (.bl false))
 |.ch3 p q r a b c d,J=>M.bd (ev a J) λx=>M.bd (ev b J) λy=>M.bd (gW [x,y]) λds=>M.bd (cG true (prim p ds)) λt=>M.bd (bool t) λk=>
   if k=true then M.bd (ev c J) λz=>M.bd (gW [y,z]) λds=>M.bd (cG true (prim q ds)) λt=>M.bd (bool t) λk2=>
    if k2=true then M.bd (ev d J) λw=>M.bd (gW [z,w]) λds=>cG true (prim r ds) else M.ret (.d (.bl false))
   else M.ret (.d (.bl false))
 |.and a b,J=>M.bd (ev a J) λx=>M.bd (bool x) λk=>if k=true then ev b J else M.ret (.d (.bl false))
 |.or a b,J=>M.bd (ev a J) λx=>M.bd (bool x) λk=>if k=true then M.ret (.d (.bl true)) else ev b J
 |.not a,J=>M.bd (ev a J) λx=>M.bd (bool x) λk=>M.ret (.d (.bl (!k)))
 |.ite c a b,J=>M.bd (ev c J) λx=>M.bd (bool x) λk=>if k=true then ev a J else ev b J
 |.tup xs,J=>M.bd (evs xs J) λvs=>M.bd (bY vs) λds=>M.ret (.d (.tup ds))
 |.lst fz xs,J=>M.bd (evs xs J) λvs=>M.bd (bY vs) λds=>newL fz ds
 |.uM k i,_=>M.ret (.d (.fd [.str k] [.int i]))
 |.call f xs,J=>M.bd (evs xs J) λvs=>bW (F f) vs
 |.iu a k,J=>M.bd (ev a J) λx=>M.bd (rd x) λd=>M.bd (M.opt (lO aq d k)) λb=>M.ret (.d (.bl b))
 |.sl fz a lo hi,J=>M.bd (ev a J) λx=>M.bd (xQ lo J) λl=>M.bd (xQ hi J) λh=>M.bd (rd x) λd=>cG fz (cutD d l h)
 |.meth fz p k o xs,J=>M.bd (ev o J) λx=>M.bd (rd x) λd=>if pK k d=true then M.bd (evs xs J) λys=>M.bd (gW (x::ys)) λds=>cG fz (prim p ds) else M.no
 |.push o a,J=>M.bd (ev o J) λx=>M.bd (cV x) λ_=>M.bd (ev a J) λy=>M.bd (dat y) λd=>M.bd (cV x) λnx=>if nx.2.length<sizeLine then M.bd (putL nx.1 (nx.2++[d])) λ_=>M.ret (.d .non) else M.no
 |.pop o,J=>M.bd (ev o J) λx=>M.bd (cV x) λnx=>match nx.2.getLast? with
   |some d=>M.bd (putL nx.1 nx.2.dropLast) λ_=>M.ret (.d d)
   |none=>M.no
 |.comp fz elt tg it fr many cond,J=>if aj=true then M.bd (mZ it J) λcn=>
   M.bd (walk cn.1 (λd acc=>M.bd (M.opt (iI tg d (blk many fr J))) λJ'=>M.bd (M.qt (rK cond J')) λok=>
    if ok=true then M.bd (M.qt (ev elt J')) λy=>M.bd (dat y) λe=>if acc.length<sizeLine then M.ret (acc++[e]) else M.no else M.ret acc) (cn.2+1) 0 []) λxs=>newL fz xs
  else M.no
 |.Jl fz elt tg it ZP Jf fr many cond,J=>if aj=true then M.bd (mZ it J) λcn=>
   M.bd (walk cn.1 (λd acc=>M.bd (M.opt (iI tg d (blk many fr J))) λJ'=>M.bd (M.qt (mZ Jf J')) λZQ=>
    walk ZQ.1 (λd2 acc=>M.bd (M.opt (iI ZP d2 J')) λZR=>M.bd (M.qt (rK cond ZR)) λok=>
     if ok=true then M.bd (M.qt (ev elt ZR)) λy=>M.bd (dat y) λe=>if acc.length<sizeLine then M.ret (acc++[e]) else M.no else M.ret acc) (ZQ.2+1) 0 acc) (cn.2+1) 0 []) λxs=>newL fz xs
  else M.no
 |.fld o cs i,J=>M.bd (ev o J) λx=>match x with
   |.d (.exc c fs)=>if cs.contains c=true then M.opt (fs[i]?.map .d) else M.no
   |_=>M.no
 |.of o c i,J=>M.bd (ev o J) λx=>M.bd (rJ c x) λfs=>M.opt (fs[i]?.map .d)
 |.mk c f xs,J=>M.bd (evs xs J) λvs=>TF (F f) c vs
 |.cm c f o xs,J=>M.bd (ev o J) λx=>M.bd (rJ c x) λ_=>M.bd (evs xs J) λvs=>M.qt (bW (F f) (x::vs))
 |.rC,_=>λs=>some (.ok (.l s.length),s++[.dct []])
 |.Ce b k d,J=>M.bd (ev k J) λx=>M.bd (ev d J) λy=>M.bd (key x) λkx=>M.bd (f9 y) λnk=>M.ret (.d (.bl ((bZ kx nk.2).isSome==b)))
 |.pJ d k,J=>M.bd (ev d J) λy=>M.bd (ev k J) λx=>M.bd (key x) λkx=>M.bd (f9 y) λnk=>M.opt ((bZ kx nk.2).map .d)
 |.Fp a,J=>M.bd (ev a J) λx=>M.bd (rd x) λd=>M.bd (M.opt (xP d)) λk=>M.ret (.d (.bl k))
 |.Jm fz a b,J=>if aj=true then M.bd (ev a J) λx=>match x with
   |.d (.fl xs)=>M.bd (M.opt (zB (λd=>ev b [some (.d d)]) xs)) λks=>M.bd (M.opt (qI (ltK ks) xs)) λys=>newL fz ys
   |_=>M.no else M.no
 |.orv a b,J=>M.bd (ev a J) λx=>M.bd (rd x) λd=>M.bd (M.opt (xP d)) λk=>if k=true then M.ret x else ev b J
 |.ins o i a,J=>M.bd (ev o J) λx=>M.bd (cV x) λ_=>M.bd (ev i J) λz=>M.bd (int z) λj=>M.bd (ev a J) λy=>M.bd (dat y) λd=>M.bd (cV x) λnx=>if 0<=j/\j<=nx.2.length/\nx.2.length<sizeLine then M.bd (putL nx.1 (nx.2.take j.toNat++d::nx.2.drop j.toNat)) λ_=>M.ret (.d .non) else M.no
 |.no,_=>M.no
noncomputable def mZ:Wk->Vs->M (Src×Nat)
 |.seq e,J=>M.bd (ev e J) src
 |.rg a b,J=>M.bd (ev a J) λx=>M.bd (ev b J) λy=>M.bd (int x) λi=>M.bd (int y) λj=>if fj i&&fj j then M.ret (.fix (gb i j),(gb i j).length) else M.no
 |.zip a b,J=>M.bd (ev a J) λx=>M.bd (ev b J) λy=>M.bd (pP x) λxs=>M.bd (pP y) λys=>M.ret (.fix (List.zipWith (λp q=>.tup [p,q]) xs ys),(List.zipWith (λ(p q:D)=>D.tup [p,q]) xs ys).length)
 |.enum a,J=>M.bd (ev a J) oH
 |.Jo a,J=>M.bd (ev a J) λx=>M.bd (int x) λi=>if fj i then M.ret (.fix (gb 0 i).reverse,(gb 0 i).length) else M.no
noncomputable def xQ:Eo->Vs->M (Option Int)
 |.no,_=>M.ret none
 |.yes a,J=>M.bd (ev a J) λx=>M.bd (int x) λi=>M.ret (some i)
noncomputable def rK:Eo->Vs->M Bool
 |.no,_=>M.ret true
 |.yes a,J=>M.bd (ev a J) bool
noncomputable def evs:Es->Vs->M (List Xv)
 |.nil,_=>M.ret []
 |.cons a r,J=>M.bd (ev a J) λx=>M.bd (evs r J) λxs=>M.ret (x::xs)
end
end
inductive Out where
 |nx (J:Vs)|rt (x:Xv)|bk (J:Vs)|ct (J:Vs)|er (c:Nat) (fs:List D) (J:Vs)
noncomputable abbrev MS:=S->Option (Out×S)
noncomputable def ofM{α:Type}(m:M α)(J:Vs)(k:α->MS):MS:=λs=>match m s with
 |some (.ok a,s')=>k a s'
 |some (.er c fs,s')=>some (.er c fs J,s')
 |none=>none
noncomputable def cH(m:MS)(k:Vs->MS):MS:=λs=>match m s with
 |some (.nx J,s')=>k J s'
 |r=>r
section
variable (aq:Nat->Nat->Bool)
noncomputable def store(aj:Bool)(F:Fn)(t:Tg)(x:Xv)(J:Vs):MS:=match t with
 |.nm i=>λs=>some (.nx (J.set i (some x)),s)
 |.tp is=>if aj=true then ofM (M.bd (dat x) λd=>M.opt ((lR d).bind λds=>gY is (ds.map .d) J)) J (λJ' s=>some (.nx J',s)) else λ_=>none
 |.aq o i=>ofM (M.bd (dat x) λd=>M.bd (ev aq aj F o J) λy=>M.bd (ev aq aj F i J) λz=>M.bd (int z) λj=>M.bd (cV y) λnx=>
   match L2.rz nx.2.length j with
   |some q=>putL nx.1 (nx.2.set q d)
   |none=>M.no) J (λ_ s=>some (.nx J,s))
noncomputable def pQ(c:Vs->M Bool)(b:Vs->MS):Nat->Vs->MS
 |0,_=>λ_=>none
 |k+1,J=>ofM (c J) J λok=>if ok=true then λs=>match b J s with
   |some (.nx J',s')=>pQ c b k J' s'
   |some (.ct J',s')=>pQ c b k J' s'
   |some (.bk J',s')=>some (.nx J',s')
   |r=>r
  else λs=>some (.nx J,s)
noncomputable def cR(c:Src)(b:D->Vs->MS):Nat->Nat->Vs->MS
 |0,_,_=>λ_=>none
 |k+1,i,J=>λs=>match c.at i s with
  |none=>none
  |some none=>some (.nx J,s)
  |some (some d)=>match b d J s with
   |some (.nx J',s')=>cR c b k (i+1) J' s'
   |some (.ct J',s')=>cR c b k (i+1) J' s'
   |some (.bk J',s')=>some (.nx J',s')
   |r=>r
noncomputable def goes(i:Nat):Out->Out
 |.nx J=>.nx (J.set i none)
 |.bk J=>.bk (J.set i none)
 |.ct J=>.ct (J.set i none)
 |r=>r
noncomputable def JD:Nat:=1000000000000
mutual
noncomputable def ex(aj:Bool)(F:Bool->Fn):St->Vs->MS
 |.pass,J=>λs=>some (.nx J,s)
 |.ex e,J=>ofM (ev aq aj (F aj) e J) J λ_ s=>some (.nx J,s)
 |.asg t e,J=>ofM (ev aq aj (F aj) e J) J λx=>store aq aj (F aj) t x J
 |.par i j a b,J=>if aj=true then ofM (M.bd (ev aq aj (F aj) a J) λx=>M.bd (ev aq aj (F aj) b J) λy=>M.ret (x,y)) J λxy s=>some (.nx ((J.set i (some xy.1)).set j (some xy.2)),s) else λ_=>none
 |.aug i e,J=>ofM (M.bd (M.opt (J[i]?.join)) λx=>M.bd (ev aq aj (F aj) e J) λy=>M.bd (int x) λp=>M.bd (int y) λq=>M.ret (p+q)) J λr s=>some (.nx (J.set i (some (.d (.int r)))),s)
 |.ret e,J=>ofM (ev aq aj (F aj) e J) J λx s=>some (.rt x,s)
 |.rise c kp xs,J=>if aj=true then ofM (M.bd (evs aq aj (F aj) xs J) bY) J λds s=>some (.er c (if kp=true then ds else []) J,s) else λ_=>none
 |.iff c t e,J=>ofM (M.bd (ev aq aj (F aj) c J) bool) J λb=>if b=true then exs aj F t J else exs aj F e J
 |.wh c b,J=>pQ (λJ=>M.bd (ev aq aj (F aj) c J) bool) (λJ=>exs aj F b J) JD J
 |.fr t w b,J=>if aj=true then ofM (mZ aq aj (F aj) w J) J λcn=>cR cn.1 (λd J=>cH (store aq aj (F aj) t (.d d) J) λJ'=>exs aj F b J') (cn.2+1) 0 J else λ_=>none
 |.rD b d i h,J=>if aj=true then λs=>match exs aj F b J s with
   |some (.er c fs J',s')=>if aq c d=true then (match exs false F h (J'.set i (some (.d (.exc c fs)))) s' with
    |some (r,s'')=>(match r with
     |.er _ _ _=>none
     |r=>some (goes i r,s''))
    |none=>none) else none
   |r=>r
  else λ_=>none
 |.dput d k v,J=>ofM (M.bd (ev aq aj (F aj) v J) λz=>M.bd (dat z) λw=>M.bd (ev aq aj (F aj) d J) λy=>M.bd (ev aq aj (F aj) k J) λx=>M.bd (key x) λkx=>M.bd (f9 y) λnk=>if nk.2.length<sizeLine then putD nk.1 (jB kx w nk.2) else M.no) J (λ_ s=>some (.nx J,s))
 |.no,_=>λ_=>none
noncomputable def exs(aj:Bool)(F:Bool->Fn):bL->Vs->MS
 |.nil,J=>λs=>some (.nx J,s)
 |.cons a r,J=>cH (ex aj F a J) λJ'=>exs aj F r J'
end
structure Df where
 many:Nat
 gH:Nat
 body:bL
noncomputable def call(T:Nat->Option Df):Nat->Bool->Fn
 |0,_,_,_=>M.no
 |k+1,aj,f,xs=>match T f with
  |none=>M.no
  |some d=>if xs.length=d.gH then λs=>match exs aq aj (λc=>call T k c) d.body (xs.map some++List.replicate (d.many-d.gH) none) s with
    |some (.nx _,s')=>some (.ok (.d .non),s')
    |some (.rt v,s')=>some (.ok v,s')
    |some (.er c fs _,s')=>some (.er c fs,s')
    |_=>none
   else M.no
end
end Mi
namespace Mi
open PySem L2
structure Ph where
 z:Addr->Prop
 l:List Addr
structure Cl where
 a:Nat->Addr
 f:Nat->List Str
 b:Nat->Addr
 g:Nat->List Str
section
variable (K:W.Frag)(cA:Cl)
def KT(a:Addr)(vs:List V):Prop:=fU K (λ_=>none) a vs
def KL(a:Addr)(vs:List V):Prop:=cQ K (λ_=>none) a vs
def TupAt(U:Ph)(H:Hp)(a:Addr)(vs:List V):Prop:=(Rd H a (.tup vs)/\¬U.z a)\/KT K a vs
def LstAt(U:Ph)(H:Hp)(a:Addr)(vs:List V):Prop:=(Rd H a (.lst vs)/\¬U.z a)\/KL K a vs
def ExcAt(U:Ph)(H:Hp)(a:Addr)(c:Nat)(vs:List V):Prop:=¬U.z a/\((cA.f c=[]/\vs=[]/\H a=some (jX a (cA.a c) none))\/∃dx,H a=some (jX a (cA.a c) (some dx))/\¬U.z dx/\H dx=some (.xd ((cA.f c).zip vs))/\(cA.f c).length=vs.length)
def pR(U:Ph)(H:Hp)(a:Addr)(c:Nat)(vs:List V):Prop:=¬U.z a/\∃dx,H a=some (.ins (cA.b c) dx ((cA.g c).zip vs))/\(cA.g c).length=vs.length
mutual
inductive Rep (U:Ph) (H:Hp):D->V->Prop where
 |non:Rep U H .non .non
 |bl (b:Bool):Rep U H (.bl b) (.bl b)
 |int (i:Int):Rep U H (.int i) (.int i)
 |str (x:Str):Rep U H (.str x) (.str x)
 |tup {a:Addr} {xs:List D} {vs:List V} (h:TupAt K U H a vs) (r:aD U H xs vs):Rep U H (.tup xs) (.ref a)
 |fl {a:Addr} {xs:List D} {vs:List V} (h:LstAt K U H a vs) (r:aD U H xs vs):Rep U H (.fl xs) (.ref a)
 |fd {a:Addr} {k:Str} {i:Int} (h:H a=some (.dK [(.inr k,.int i)])) (n:¬U.z a):Rep U H (.fd [.str k] [.int i]) (.ref a)
 |exc {a:Addr} {c:Nat} {xs:List D} {vs:List V} (h:ExcAt cA U H a c vs) (r:aD U H xs vs):Rep U H (.exc c xs) (.ref a)
 |ob {a:Addr} {c:Nat} {xs:List D} {vs:List V} (h:pR cA U H a c vs) (r:aD U H xs vs):Rep U H (.ob c xs) (.ref a)
 |any (a:Addr):Rep U H .any (.ref a)
inductive aD (U:Ph) (H:Hp):List D->List V->Prop where
 |nil:aD U H [] []
 |cons {d:D} {v:V} {ds:List D} {vs:List V} (h:Rep U H d v) (r:aD U H ds vs):aD U H (d::ds) (v::vs)
end
inductive bw (U:Ph) (H:Hp):Xv->V->Prop where
 |d {x:D} {v:V} (h:Rep K cA U H x v):bw U H (.d x) v
 |l {n:Nat} {a:Addr} (h:U.l[n]?=some a):bw U H (.l n) (.ref a)
inductive aW (U:Ph) (H:Hp):List Xv->List V->Prop where
 |nil:aW U H [] []
 |cons {d:Xv} {v:V} {ds:List Xv} {vs:List V} (h:bw K cA U H d v) (r:aW U H ds vs):aW U H (d::ds) (v::vs)
noncomputable def TJ:Kx->Int
 |.non=>reduceHash 0xFCA86420
 |.int i=>hashInt i
 |.row is=>reduceHash (Builtin.Tuple.tupleHashOf (is.map hashInt))
noncomputable def qJ(k:List Kx):Int:=reduceHash (Builtin.Tuple.tupleHashOf (k.map TJ))
noncomputable def rM:Kx->D
 |.non=>.non
 |.int i=>.int i
 |.row is=>.tup (is.map .int)
noncomputable def jg(k:List Kx):D:=.tup (k.map rM)
noncomputable abbrev m5:=List (List Kx×Addr×Value)
noncomputable def uP(a:Addr)(xs:m5):HO:=.ext λh=>(a==sysModules)=false/\xs.length<=sizeLine/\∃o es ep,h.get? a=some o/\o.ExactDict/\o.data=.dict es ep/\es.toList=xs.map (λx=>⟨qJ x.1,.ref x.2.1,x.2.2⟩)/\(xs.map (·.1)).Nodup
inductive jq (U:Ph) (H:Hp):iU->m5->Prop where
 |nil:jq U H [] []
 |cons {k:List Kx} {d:D} {ka:Addr} {u:Value} {v:V} {r:iU} {xs:m5} (hk:Rep K cA U H (jg k) (.ref ka)) (hu:RelV v u) (hv:Rep K cA U H d v) (q:jq U H r xs):jq U H ((k,d)::r) ((k,ka,u)::xs)
noncomputable def kY(U:Ph)(H:Hp)(a:Addr):SO->Prop
 |.lst xs=>∃vs,H a=some (.lst vs)/\aD K cA U H xs vs
 |.dct kvs=>∃xs,H a=some (uP a xs)/\jq K cA U H kvs xs
structure aG(U:Ph)(H:Hp)(s:S):Prop where
 len:U.l.length=s.length
 obj:∀(n:Nat) o a,s[n]?=some o->U.l[n]?=some a->kY K cA U H a o
 uniq:U.l.Nodup
 lz:∀a∈U.l,U.z a
 zt:∀a,U.z a->∃o,H a=some o
structure Ext(U:Ph)(H:Hp)(U':Ph)(H':Hp):Prop where
 more:∃r,U'.l=U.l++r/\∀b∈r,H b=none
 tH:∀a,U.z a->U'.z a
 m6:∀a,U'.z a->U.z a\/H a=none
 frame:∀a o,H a=some o->a∉U.l->H' a=some o
 stay:∀a o,H a=some o->∃o',H' a=some o'
def bx(U:Ph)(H:Hp)(Z:L2.St)(J:Vs):Prop:=Z.length=J.length/\∀(i:Nat) (x:Xv),J[i]?=some (some x)->∃v,Z[i]?=some (some v)/\bw K cA U H x v
end
section
variable {K:W.Frag}{cA:Cl}{U U' TQ:Ph}{H H' JF:Hp}{s:S}{Z:L2.St}{J:Vs}
theorem Ext.refl:Ext U H U H:=⟨⟨[],by simp,by simp⟩,λ_ h=>h,λ_ h=>.inl h,λ_ _ h _=>h,λ_ o h=>⟨o,h⟩⟩
theorem Ext.lU(x:Ext U H U' H'){a:Addr}(h:H' a=none):H a=none:=by
 cases e:H a with
 |none=>rfl
 |some o=>obtain⟨o',q⟩:=x.stay a o e;rw[h] at q;cases q
theorem Ext.trans(x:Ext U H U' H')(y:Ext U' H' TQ JF):Ext U H TQ JF:=by
 obtain⟨r,e,hr⟩:=x.more;obtain⟨r',e',zE⟩:=y.more;refine⟨⟨r++r',by rw[e',e,Ah],λb hb=>?_⟩,λa h=>y.tH a (x.tH a h),λa h=>?_,λa o h n=>y.frame a o (x.frame a o h n) ?_,λa o h=>?_⟩
 ·rcases kO.mp hb with z|z
  ·exact hr b z
  ·exact x.lU (zE b z)
 ·rcases y.m6 a h with z|z
  ·exact x.m6 a z
  ·exact .inr (x.lU z)
 ·rw[e];intro z;rcases kO.mp z with z|z
  ·exact n z
  ·rw[hr a z] at h;cases h
 ·obtain⟨o',q⟩:=x.stay a o h;exact y.stay a o' q
theorem Ext.get(x:Ext U H U' H'){n:Nat}{a:Addr}(h:U.l[n]?=some a):U'.l[n]?=some a:=by
 obtain⟨r,e,_⟩:=x.more;rw[e,lD (eY.mp h).1];exact h
theorem Ext.out(x:Ext U H U' H')(hz:∀a∈U.l,U.z a){a:Addr}{o:HO}(h:H a=some o)(n:¬U.z a):H' a=some o/\¬U'.z a:=
 ⟨x.frame a o h λz=>n (hz a z),λz=>by
  rcases x.m6 a z with y|y
  ·exact n y
  ·rw[h] at y;cases y⟩
theorem TupAt.mono(x:Ext U H U' H')(hz:∀a∈U.l,U.z a){a:Addr}{vs:List V}(h:TupAt K U H a vs):TupAt K U' H' a vs:=by
 rcases h with ⟨h|⟨o,h⟩,n⟩|h
 ·obtain⟨p,q⟩:=x.out hz h n;exact .inl ⟨.inl p,q⟩
 ·obtain⟨p,q⟩:=x.out hz h n;exact .inl ⟨.inr ⟨o,p⟩,q⟩
 ·exact .inr h
theorem LstAt.mono(x:Ext U H U' H')(hz:∀a∈U.l,U.z a){a:Addr}{vs:List V}(h:LstAt K U H a vs):LstAt K U' H' a vs:=by
 rcases h with ⟨h|⟨o,h⟩,n⟩|h
 ·obtain⟨p,q⟩:=x.out hz h n;exact .inl ⟨.inl p,q⟩
 ·obtain⟨p,q⟩:=x.out hz h n;exact .inl ⟨.inr ⟨o,p⟩,q⟩
 ·exact .inr h
theorem ExcAt.mono(x:Ext U H U' H')(hz:∀a∈U.l,U.z a){a:Addr}{c:Nat}{vs:List V}(h:ExcAt cA U H a c vs):ExcAt cA U' H' a c vs:=by
 obtain⟨n,⟨e1,e2,h⟩|⟨dx,h,n2,h2,h3⟩⟩:=h
 ·obtain⟨p,q⟩:=x.out hz h n;exact⟨q,.inl ⟨e1,e2,p⟩⟩
 ·obtain⟨p,q⟩:=x.out hz h n;obtain⟨p2,q2⟩:=x.out hz h2 n2;exact⟨q,.inr ⟨dx,p,q2,p2,h3⟩⟩
theorem pR.mono(x:Ext U H U' H')(hz:∀a∈U.l,U.z a){a:Addr}{c:Nat}{vs:List V}(h:pR cA U H a c vs):pR cA U' H' a c vs:=by
 obtain⟨n,dx,h,h3⟩:=h;obtain⟨p,q⟩:=x.out hz h n;exact⟨q,dx,p,h3⟩
theorem Rep.mono(x:Ext U H U' H')(hz:∀a∈U.l,U.z a){d:D}{v:V}(h:Rep K cA U H d v):Rep K cA U' H' d v:=
 Rep.rec (motive_1:=λd v _=>Rep K cA U' H' d v) (motive_2:=λd v _=>aD K cA U' H' d v) .non .bl .int .str (λh _ i=>.tup (h.mono x hz) i) (λh _ i=>.fl (h.mono x hz) i) (λh n=>.fd (x.out hz h n).1 (x.out hz h n).2) (λh _ i=>.exc (h.mono x hz) i) (λh _ i=>.ob (h.mono x hz) i) .any .nil (λ_ _ i j=>.cons i j) h
theorem aD.mono(x:Ext U H U' H')(hz:∀a∈U.l,U.z a){d:List D}{v:List V}(h:aD K cA U H d v):aD K cA U' H' d v:=
 aD.rec (motive_1:=λd v _=>Rep K cA U' H' d v) (motive_2:=λd v _=>aD K cA U' H' d v) .non .bl .int .str (λh _ i=>.tup (h.mono x hz) i) (λh _ i=>.fl (h.mono x hz) i) (λh n=>.fd (x.out hz h n).1 (x.out hz h n).2) (λh _ i=>.exc (h.mono x hz) i) (λh _ i=>.ob (h.mono x hz) i) .any .nil (λ_ _ i j=>.cons i j) h
theorem aD.map(m:∀d v,Rep K cA U H d v->Rep K cA U' H' d v):∀{d:List D} {v:List V},aD K cA U H d v->aD K cA U' H' d v:=by
 intro d
 induction d with
 |nil=>intro v h;cases h;exact .nil
 |cons a d ih=>intro v h;cases h with|cons h r=>exact .cons (m _ _ h) (ih r)
theorem jq.map(m:∀d v,Rep K cA U H d v->Rep K cA U' H' d v){d:iU}{v:m5}(h:jq K cA U H d v):jq K cA U' H' d v:=by
 induction h with
 |nil=>exact .nil
 |cons a b c _ ih=>exact .cons (m _ _ a) b (m _ _ c) ih
theorem kY.map{a:Addr}{o:SO}(h:kY K cA U H a o)(e:∀u,H a=some u->H' a=some u)(m:∀d v,Rep K cA U H d v->Rep K cA U' H' d v):kY K cA U' H' a o:=by
 cases o with
 |lst xs=>obtain⟨vs,q,r⟩:=h;exact⟨vs,e _ q,r.map m⟩
 |dct xs=>obtain⟨vs,q,r⟩:=h;exact⟨vs,e _ q,r.map m⟩
theorem bw.mono(x:Ext U H U' H')(hz:∀a∈U.l,U.z a){d:Xv}{v:V}(h:bw K cA U H d v):bw K cA U' H' d v:=by
 cases h with
 |d h=>exact .d (h.mono x hz)
 |l h=>exact .l (x.get h)
theorem aW.mono(x:Ext U H U' H')(hz:∀a∈U.l,U.z a){ds:List Xv}{vs:List V}(h:aW K cA U H ds vs):aW K cA U' H' ds vs:=by
 induction h with
 |nil=>exact .nil
 |cons h _ ih=>exact .cons (h.mono x hz) ih
theorem bx.mono(x:Ext U H U' H')(hz:∀a∈U.l,U.z a)(h:bx K cA U H Z J):bx K cA U' H' Z J:=⟨h.1,λi d e=>let ⟨v,a,b⟩:=h.2 i d e;⟨v,a,b.mono x hz⟩⟩
theorem aD.len{ds:List D}{vs:List V}(r:aD K cA U H ds vs):ds.length=vs.length:=by
 induction ds generalizing vs with
 |nil=>cases r;rfl
 |cons a d ih=>cases r with|cons _ r=>rw[gD,gD,ih r]
theorem aW.len{ds:List Xv}{vs:List V}(r:aW K cA U H ds vs):ds.length=vs.length:=by
 induction r with
 |nil=>rfl
 |cons _ _ ih=>rw[gD,gD,ih]
theorem aD.get{ds:List D}{vs:List V}{i:Nat}{d:D}(r:aD K cA U H ds vs)(e:ds[i]?=some d):∃v,vs[i]?=some v/\Rep K cA U H d v:=by
 induction ds generalizing vs i with
 |nil=>cases e
 |cons a ds ih=>
  cases r with
  |cons h r=>cases i with
   |zero=>cases e;exact⟨_,rfl,h⟩
   |succ i=>obtain⟨w,p,q⟩:=ih r e;exact⟨w,p,q⟩
theorem aW.get{ds:List Xv}{vs:List V}{i:Nat}{d:Xv}(r:aW K cA U H ds vs)(e:ds[i]?=some d):∃v,vs[i]?=some v/\bw K cA U H d v:=by
 induction r generalizing i with
 |nil=>cases e
 |cons h _ ih=>cases i with
  |zero=>cases e;exact⟨_,rfl,h⟩
  |succ i=>obtain⟨w,p,q⟩:=ih e;exact⟨w,p,q⟩
theorem aD.none:∀{ds:List D} {vs:List V} {i:Nat},aD K cA U H ds vs->ds[i]?=none->vs[i]?=none:=λ{ds vs i} r e=>by
 have:=r.len;have h2:ds.length<=i:=o9.mp e;exact o9.mpr gV
theorem aD.app{ds es:List D}{vs us:List V}(h:aD K cA U H ds vs)(s:aD K cA U H es us):aD K cA U H (ds++es) (vs++us):=by
 induction ds generalizing vs with
 |nil=>cases h;exact s
 |cons a d ih=>cases h with|cons h r=>exact .cons h (ih r)
theorem aD.take{ds:List D}{vs:List V}(n:Nat)(r:aD K cA U H ds vs):aD K cA U H (ds.take n) (vs.take n):=by
 induction n generalizing ds vs with
 |zero=>exact .nil
 |succ n ih=>cases r with
  |nil=>exact .nil
  |cons h r=>exact .cons h (ih r)
theorem aD.drop{ds:List D}{vs:List V}(n:Nat)(r:aD K cA U H ds vs):aD K cA U H (ds.drop n) (vs.drop n):=by
 induction n generalizing ds vs with
 |zero=>exact r
 |succ n ih=>cases r with
  |nil=>exact .nil
  |cons h r=>exact ih r
theorem aD.set{d:D}{v:V}(h:Rep K cA U H d v){ds:List D}{vs:List V}(i:Nat)(r:aD K cA U H ds vs):aD K cA U H (ds.set i d) (vs.set i v):=by
 induction i generalizing ds vs with
 |zero=>cases r with
  |nil=>exact .nil
  |cons _ r=>exact .cons h r
 |succ i ih=>cases r with
  |nil=>exact .nil
  |cons q r=>exact .cons q (ih r)
theorem aD.cut{ds:List D}{vs:List V}{l h:Option Int}(r:aD K cA U H ds vs):aD K cA U H (Mi.cut ds l h) (mL vs l h):=by
 unfold Mi.cut mL;rw[<-r.len];exact(r.drop _).take _
def bf(H H':Hp):Prop:=∀a o,H a=some o->H' a=some o
theorem bf.refl:bf H H:=λ_ _ h=>h
theorem bf.trans(x:bf H H')(y:bf H' JF):bf H JF:=λa o h=>y a o (x a o h)
theorem bf.new{p:Addr}{o:HO}(hp:H p=none):bf H (upd H p o):=λa u h=>by rw[cY (EY h hp)];exact h
theorem bf.ext(g:bf H H'):Ext U H U H':=⟨⟨[],by simp,by simp⟩,λ_ h=>h,λ_ h=>.inl h,λa o h _=>g a o h,λa o h=>⟨o,g a o h⟩⟩
theorem kY.grow{a:Addr}{o:SO}(g:bf H H')(hz:∀a∈U.l,U.z a)(h:kY K cA U H a o):kY K cA U H' a o:=h.map (g _) λ_ _ r=>r.mono g.ext hz
theorem aG.grow(g:bf H H')(h:aG K cA U H s):aG K cA U H' s:=
 ⟨h.len,λn o a e1 e2=>(h.obj n o a e1 e2).grow g h.lz,h.uniq,h.lz,λa z=>let ⟨o,e⟩:=h.zt a z;⟨o,g _ _ e⟩⟩
theorem aG.nz(h:aG K cA U H s){p:Addr}(hp:H p=none):¬U.z p:=λz=>by obtain⟨o,e⟩:=h.zt p z;rw[hp] at e;cases e
noncomputable def Ph.add(U:Ph)(p:Addr):Ph:=⟨λa=>U.z a\/a=p,U.l++[p]⟩
theorem Ext.add{p:Addr}{o:HO}(hp:H p=none):Ext U H (U.add p) (upd H p o):=
 ⟨⟨[p],rfl,by simpa using hp⟩,λ_ h=>.inl h,λa h=>h.imp id λe=>by rw[e];exact hp,λa u h _=>bf.new hp a u h,λa u h=>⟨u,bf.new hp a u h⟩⟩
theorem aG.JL{p:Addr}{so:SO}{ho:HO}(h:aG K cA U H s)(hp:H p=none)(hr:kY K cA (U.add p) (upd H p ho) p so):aG K cA (U.add p) (upd H p ho) (s++[so]):=by
 have pn:p∉U.l:=λz=>h.nz hp (h.lz p z);refine⟨by show (U.l++[p]).length=_;rw[h_,h_,h.len];rfl,λn o a e1 e2=>?_,?_,λa ha=>?_,λa ha=>?_⟩
 ·have e2:(U.l++[p])[n]?=some a:=e2;by_cases hn:n<s.length
  ·rw[lD hn] at e1;rw[lD (by rw[h.len];exact hn)] at e2;exact(h.obj n o a e1 e2).map (bf.new hp _) λ_ _ r=>r.mono (Ext.add hp) h.lz
  ·have hl:n=s.length:=by
    have z:=(eY.mp e1).1;rw[h_] at z;simp at z
    lia
   subst hl;rw[nF (bK _)] at e1;rw[nF (by rw[h.len];exact bK _)] at e2;simp at e1;simp[h.len] at e2;subst e1 e2;exact hr
 ·show (U.l++[p]).Nodup;rw[LQ];refine⟨h.uniq,by simp,λa ha b hb e=>?_⟩;simp at hb;subst hb e;exact pn ha
 ·have ha:a∈U.l++[p]:=ha;rcases kO.mp ha with z|z
  ·exact .inl (h.lz a z)
  ·simp at z;exact .inr z
 ·rcases ha with z|z
  ·obtain⟨o,e⟩:=h.zt a z;exact⟨o,bf.new hp _ _ e⟩
  ·subst z;exact⟨_,iY⟩
theorem aG.add{p:Addr}{xs:List D}{vs:List V}(h:aG K cA U H s)(hp:H p=none)(r:aD K cA U H xs vs):aG K cA (U.add p) (upd H p (.lst vs)) (s++[.lst xs]):=h.JL hp ⟨vs,iY,r.mono (Ext.add hp) h.lz⟩
theorem Ext.write{n:Nat}{p:Addr}{o:HO}(hp:U.l[n]?=some p)(hv:∃u,H p=some u):Ext U H U (upd H p o):=by
 have hm:p∈U.l:=fK hp;refine⟨⟨[],by simp,by simp⟩,λ_ h=>h,λ_ h=>.inl h,λa u h n=>by
  have ne:a≠p:=λe=>n (by rw[e];exact hm);rw[cY ne];exact h,λa u h=>?_⟩
 by_cases e:a=p
 ·subst e;exact⟨o,iY⟩
 ·exact⟨u,by rw[cY e];exact h⟩
theorem aG.uQ{n:Nat}{p:Addr}{so:SO}{ho:HO}(h:aG K cA U H s)(hl:n<s.length)(hp:U.l[n]?=some p)(hr:kY K cA U (upd H p ho) p so):aG K cA U (upd H p ho) (s.set n so):=by
 have hv:=h.zt p (h.lz p (fK hp));have x:Ext U H U (upd H p ho):=Ext.write hp hv;refine⟨by rw[lF];exact h.len,λm o a e1 e2=>?_,h.uniq,h.lz,λa ha=>?_⟩
 ·by_cases hm:n=m
  ·subst hm;rw[vM hl] at e1;cases e1;rw[hp] at e2;cases e2;exact hr
  ·rw[o_ hm] at e1;have ne:a≠p:=λy=>by
    subst y;exact hm ((Qz (eY.mp hp).1 h.uniq).mp (hp.trans e2.symm))
   exact(h.obj m o a e1 e2).map (λ_ q=>by rw[cY ne];exact q) λ_ _ r=>r.mono x h.lz
 ·obtain⟨o,e⟩:=h.zt a ha;obtain⟨o',e'⟩:=x.stay a o e;exact⟨o',e'⟩
theorem aG.write{n:Nat}{p:Addr}{xs ys:List D}{us:List V}(h:aG K cA U H s)(hn:s[n]?=some (.lst xs))(hp:U.l[n]?=some p)(r:aD K cA U H ys us):aG K cA U (upd H p (.lst us)) (s.set n (.lst ys)):=
 h.uQ (eY.mp hn).1 hp ⟨us,iY,r.mono (Ext.write hp (h.zt p (h.lz p (fK hp)))) h.lz⟩
theorem bx.set{i:Nat}{d:Xv}{v:V}(hL:bx K cA U H Z J)(r:bw K cA U H d v):bx K cA U H (Z.set i (some v)) (J.set i (some d)):=by
 refine⟨by rw[lF,lF];exact hL.1,λj e h=>?_⟩;by_cases hij:i=j
 ·subst hij;by_cases hl:i<J.length
  ·rw[vM hl] at h;cases h;exact⟨v,by rw[vM (by rw[hL.1];exact hl)],r⟩
  ·rw[yH (by rw[lF];lia)] at h;cases h
 ·rw[o_ hij] at h;obtain⟨u,a,b⟩:=hL.2 j e h;exact⟨u,by rw[o_ hij];exact a,b⟩
theorem bx.unset{i:Nat}(hL:bx K cA U H Z J):bx K cA U H (Z.set i none) (J.set i none):=by
 refine⟨by rw[lF,lF];exact hL.1,λj e h=>?_⟩;by_cases hij:i=j
 ·subst hij;by_cases hl:i<J.length
  ·rw[vM hl] at h;cases h
  ·rw[yH (by rw[lF];lia)] at h;cases h
 ·rw[o_ hij] at h;obtain⟨u,a,b⟩:=hL.2 j e h;exact⟨u,by rw[o_ hij];exact a,b⟩
theorem TupAt.jh{a:Addr}{vs:List V}(h:TupAt K U H a vs):fU K H a vs:=by
 rcases h with ⟨h,_⟩|(h|h)
 ·exact .inl h
 ·rcases h with h|⟨o,h⟩<;>cases h
 ·exact .inr h
theorem LstAt.tK{a:Addr}{vs:List V}(h:LstAt K U H a vs):cQ K H a vs:=by
 rcases h with ⟨h,_⟩|(h|h)
 ·exact .inl h
 ·rcases h with h|⟨o,h⟩<;>cases h
 ·exact .inr h
theorem TupAt.new{p:Addr}{vs:List V}(hz:¬U.z p):TupAt K U (upd H p (.tup vs)) p vs:=.inl ⟨.inl iY,hz⟩
theorem LstAt.new{p:Addr}{vs:List V}(hz:¬U.z p):LstAt K U (upd H p (.lst vs)) p vs:=.inl ⟨.inl iY,hz⟩
end
end Mi
namespace Mi
open PySem PySem.Spec PyProof.Rows L2
theorem un{α β γ:Type}{A B C:α->β->γ->Prop}{R:Prop}(h:∃a b c,A a b c/\B a b c/\C a b c)(f:∀a b c,A a b c->B a b c->C a b c->R):R:=by
 obtain⟨a,b,c,x,y,z⟩:=h;exact f a b c x y z
section
variable (K:W.Frag)(cA:Cl)
def Run{α:Type}(m:M α)(U:Ph)(H:Hp)(s:S)(P:α->S->Ph->Hp->Prop)(Ee:Nat->List D->S->Ph->Hp->Prop):Prop:=
 match m s with
 |some (.ok a,s')=>∀U' H',Ext U H U' H'->aG K cA U' H' s'->P a s' U' H'
 |some (.er c f,s')=>∀U' H',Ext U H U' H'->aG K cA U' H' s'->Ee c f s' U' H'
 |none=>False
def j_(U:Ph)(H:Hp)(c:Nat)(fs:List D)(dx:Option Addr):Prop:=
 (cA.f c=[]/\fs=[]/\dx=none)\/∃d vs,dx=some d/\¬U.z d/\H d=some (.xd ((cA.f c).zip vs))/\(cA.f c).length=vs.length/\aD K cA U H fs vs
noncomputable def eX(EX:XS)(Z:L2.St):Nat->List D->S->Ph->Hp->Prop:=λc fs _ U' H'=>∀dx,j_ K cA U' H' c fs dx->EX Z (.ref (cA.a c)) dx H'
noncomputable def tE(EX:XS)(m:Vs->M Xv):TE:=λZ H Q=>∃U J s,bx K cA U H Z J/\aG K cA U H s/\Run K cA (m J) U H s (λd _ U' H'=>∀v,bw K cA U' H' d v->Q v H') (eX K cA EX Z)
noncomputable def TV(EX:XS)(m:Vs->M (List Xv)):TA:=λZ H Q=>∃U J s,bx K cA U H Z J/\aG K cA U H s/\Run K cA (m J) U H s (λd _ U' H'=>∀v,aW K cA U' H' d v->Q v H') (eX K cA EX Z)
noncomputable def v9(EX:XS)(m:Vs->M Bool):TT:=λZ H Q=>∃U J s,bx K cA U H Z J/\aG K cA U H s/\Run K cA (m J) U H s (λd _ U' H'=>Q d H') (eX K cA EX Z)
def Rv(U:Ph)(H:Hp)(d:D)(v:V):Prop:=match d with
 |.fl xs=>∃a vs,v=.ref a/\cQ K H a vs/\aD K cA U H xs vs
 |d=>Rep K cA U H d v
inductive xR (U:Ph) (H:Hp):List D->List V->Prop where
 |nil:xR U H [] []
 |cons {d:D} {v:V} {ds:List D} {vs:List V} (h:Rv K cA U H d v) (r:xR U H ds vs):xR U H (d::ds) (v::vs)
def bC(U:Ph)(H:Hp)(o:Option Rz)(Q:VK):Prop:=match o with
 |none=>False
 |some (.dat d)=>∀H' v,bf H H'->Rep K cA U H' d v->Q v H'
 |some (.nw xs)=>∀p vs,H p=none->aD K cA U H xs vs->Q (.ref p) (upd H p (.lst vs))
structure Zt(U:Ph)(H:Hp):Prop where
 lz:∀a∈U.l,U.z a
 zt:∀a,U.z a->∃o,H a=some o
def bD(p:Pr)(r:List V->Hp->VK->Prop):Prop:=∀(U:Ph) (H:Hp) (ds:List D) (vs:List V) (Q:VK),Zt U H->xR K cA U H ds vs->bC K cA U H (prim p ds) Q->r vs H Q
end
section
variable {K:W.Frag}{cA:Cl}{U U':Ph}{H H':Hp}{s:S}{Z:L2.St}{J:Vs}{EX:XS}
theorem aG.zs(h:aG K cA U H s):Zt U H:=⟨h.lz,h.zt⟩
theorem Zt.nz(h:Zt U H)(hp:H p=none):¬U.z p:=λz=>by obtain⟨o,e⟩:=h.zt p z;rw[hp] at e;cases e
theorem Rep.rv{d:D}{v:V}(h:Rep K cA U H d v):Rv K cA U H d v:=by
 cases h with
 |fl h r=>exact⟨_,_,rfl,h.tK,r⟩
 |non=>exact .non
 |bl b=>exact .bl b
 |int b=>exact .int b
 |str b=>exact .str b
 |tup h r=>exact .tup h r
 |fd h n=>exact .fd h n
 |exc h r=>exact .exc h r
 |ob h r=>exact .ob h r
 |any v=>exact .any v
theorem Run.bd{α β:Type}{m:M α}{k:α->M β}{P:β->S->Ph->Hp->Prop}{Ee:Nat->List D->S->Ph->Hp->Prop}(h:Run K cA (M.bd m k) U H s P Ee):Run K cA m U H s (λa s1 U1 H1=>Ext U H U1 H1/\aG K cA U1 H1 s1/\Run K cA (k a) U1 H1 s1 P Ee) Ee:=by
 unfold Run M.bd at *;cases e:m s with
 |none=>rw[e] at h;exact h
 |some r=>
  obtain⟨r,s1⟩:=r;rw[e] at h;cases r with
  |er c f=>exact h
  |ok a=>
   intro U1 H1 x1 r1;refine⟨x1,r1,?_⟩;dsimp only at h ⊢;cases e2:k a s1 with
   |none=>rw[e2] at h;exact h
   |some q=>
    obtain⟨q,s2⟩:=q;rw[e2] at h;cases q with
    |ok b=>exact λU2 H2 x2 r2=>h U2 H2 (x1.trans x2) r2
    |er c f=>exact λU2 H2 x2 r2=>h U2 H2 (x1.trans x2) r2
theorem Run.imp{α:Type}{m:M α}{P P':α->S->Ph->Hp->Prop}{Ee:Nat->List D->S->Ph->Hp->Prop}(h:Run K cA m U H s P Ee)(f:∀a s' U' H',P a s' U' H'->P' a s' U' H'):Run K cA m U H s P' Ee:=by
 unfold Run at *;split at h
 ·exact λU' H' x r=>f _ _ _ _ (h U' H' x r)
 ·exact h
 ·exact h
theorem Run.ext(x:Ext U H U' H')(h:Run K cA m U H s P Ee):Run K cA m U' H' s P Ee:=by
 unfold Run at *;split at h
 ·exact λU2 H2 y r=>h U2 H2 (x.trans y) r
 ·exact λU2 H2 y r=>h U2 H2 (x.trans y) r
 ·exact h.elim
theorem Run.bH{α:Type}{a:α}{P:α->S->Ph->Hp->Prop}{Ee:Nat->List D->S->Ph->Hp->Prop}(r:aG K cA U H s)(h:Run K cA (M.ret a) U H s P Ee):P a s U H:=h U H Ext.refl r
theorem Run.opt{α:Type}{o:Option α}{P:α->S->Ph->Hp->Prop}{Ee:Nat->List D->S->Ph->Hp->Prop}(r:aG K cA U H s)(h:Run K cA (M.opt o) U H s P Ee):∃a,o=some a/\P a s U H:=by
 cases o with
 |none=>exact h.elim
 |some a=>exact⟨a,rfl,h U H Ext.refl r⟩
theorem Ny(h:Run K cA (M.bd (M.opt o) k) U H s P Ee):∃a,o=some a/\Run K cA (k a) U H s P Ee:=by
 cases o with
 |none=>exact h.elim
 |some a=>exact⟨a,rfl,h⟩
theorem JM{β:Type}{x:Xv}{v:V}{k:Bool->M β}{P:β->S->Ph->Hp->Prop}{Ee:Nat->List D->S->Ph->Hp->Prop}(r:bw K cA U H x v)(h:Run K cA (M.bd (bool x) k) U H s P Ee):∃b,x=.d (.bl b)/\v=.bl b/\Run K cA (k b) U H s P Ee:=by
 cases r with
 |l _=>exact h.elim
 |d r=>cases r with
  |bl b=>exact⟨b,rfl,rfl,h⟩
  |_=>exact h.elim
theorem Ft(r:bw K cA U H x v)(h:Run K cA (M.bd (int x) k) U H s P Ee):∃b,x=.d (.int b)/\v=.int b/\Run K cA (k b) U H s P Ee:=by
 cases r with
 |l _=>exact h.elim
 |d r=>cases r with
  |int b=>exact⟨b,rfl,rfl,h⟩
  |_=>exact h.elim
theorem Nz(r:bw K cA U H x v)(h:Run K cA (M.bd (dat x) k) U H s P Ee):∃d,x=.d d/\Rep K cA U H d v/\Run K cA (k d) U H s P Ee:=by
 cases r with
 |l _=>exact h.elim
 |d r=>exact⟨_,rfl,r,h⟩
theorem NK:∀{xs:List Xv} {vs:List V} {k:List D->M β} {P:β->S->Ph->Hp->Prop} {Ee:Nat->List D->S->Ph->Hp->Prop},aW K cA U H xs vs->Run K cA (M.bd (bY xs) k) U H s P Ee->∃ds,xs=ds.map .d/\aD K cA U H ds vs/\Run K cA (k ds) U H s P Ee:=by
 intro xs
 induction xs with
 |nil=>intro vs k P Ee r h;cases r;exact⟨[],rfl,.nil,h⟩
 |cons x xs ih=>
  intro vs k P Ee r h;cases r with
  |cons a r=>
   cases a with
   |l _=>exact h.elim
   |@d y v a=>
    have h2:Run K cA (M.bd (bY xs) λds=>k (y::ds)) U H s P Ee:=by
     unfold Run M.bd bY dat at h;unfold Run M.bd;simp only[M.bd,M.ret] at h;cases e:bY xs s with
     |none=>simp only[e] at h
     |some q=>
      obtain⟨q,s1⟩:=q;simp only[e] at h;cases q with
      |ok ds=>exact h
      |er c f=>exact h
    obtain⟨ds,e,rs,h3⟩:=ih r h2;exact⟨y::ds,by rw[e];rfl,.cons a rs,h3⟩
theorem JV(hS:aG K cA U H s)(r:bw K cA U H x v)(h:Run K cA (M.bd (rd x) k) U H s P Ee):∃d,Rv K cA U H d v/\Run K cA (k d) U H s P Ee:=by
 cases r with
 |d r=>exact⟨_,r.rv,h⟩
 |@l n a hl=>
  unfold Run M.bd rd at h;dsimp only at h;cases e:s[n]? with
  |none=>rw[e] at h;exact h.elim
  |some o=>
   rw[e] at h;cases o with
   |lst xs=>
    obtain⟨vs,q1,q2⟩:=hS.obj n _ _ e hl;exact⟨.fl xs,⟨a,vs,rfl,cQ.of q1,q2⟩,h⟩
   |_=>exact h.elim
theorem jJ{α β γ:Type}(m:M α)(f:α->M β)(g:β->M γ):M.bd (M.bd m f) g=M.bd m λx=>M.bd (f x) g:=by
 funext s
 unfold M.bd;cases m s with
 |none=>rfl
 |some r=>
  obtain⟨r,s1⟩:=r;cases r<;>rfl
theorem tL{β:Type}:∀{xs:List Xv} {vs:List V} {k:List D->M β} {P:β->S->Ph->Hp->Prop} {Ee:Nat->List D->S->Ph->Hp->Prop},aG K cA U H s->aW K cA U H xs vs->Run K cA (M.bd (gW xs) k) U H s P Ee->∃ds,xR K cA U H ds vs/\Run K cA (k ds) U H s P Ee:=by
 intro xs
 induction xs with
 |nil=>intro vs k P Ee hS r h;cases r;exact⟨[],.nil,h⟩
 |cons x xs ih=>
  intro vs k P Ee hS r h;cases r with
  |cons a r=>
   have h2:Run K cA (M.bd (rd x) λd=>M.bd (gW xs) λds=>k (d::ds)) U H s P Ee:=by
    have e:M.bd (gW (x::xs)) k=M.bd (rd x) λd=>M.bd (gW xs) λds=>k (d::ds):=by
     show M.bd (M.bd (rd x) λd=>M.bd (gW xs) λds=>M.ret (d::ds)) k=_;rw[jJ]
     congr 1
     funext d
     rw[jJ];rfl
    rw[e] at h;exact h
   obtain⟨d,rd,h3⟩:=JV hS a h2;obtain⟨ds,rs,h4⟩:=ih hS r h3;exact⟨d::ds,.cons rd rs,h4⟩
theorem rN{fz:Bool}{o:Option Rz}{Q:VK}{Ee:Nat->List D->S->Ph->Hp->Prop}(hS:aG K cA U H s)(h:Run K cA (cG fz o) U H s (λx _ U' H'=>∀v,bw K cA U' H' x v->Q v H') Ee):bC K cA U H o Q:=by
 cases o with
 |none=>exact h.elim
 |some z=>
  cases z with
  |dat d=>exact λH' v g r=>h U H' g.ext (hS.grow g) v (.d r)
  |nw xs=>
   intro p vs hp r;cases fz with
   |true=>exact h U _ (bf.new hp).ext (hS.grow (bf.new hp)) _ (.d (.fl (LstAt.new (hS.nz hp)) (r.mono (bf.new hp).ext hS.lz)))
   |false=>exact h (U.add p) _ (Ext.add hp) (hS.add hp r) _ (.l (by show (U.l++[p])[s.length]?=_;rw[<-hS.len];simp))
theorem ziy{fz:Bool}{xs:List D}{Q:VK}{Ee:Nat->List D->S->Ph->Hp->Prop}(hS:aG K cA U H s)(h:Run K cA (newL fz xs) U H s (λx _ U' H'=>∀v,bw K cA U' H' x v->Q v H') Ee):∀p vs,H p=none->aD K cA U H xs vs->Q (.ref p) (upd H p (.lst vs)):=
 rN (o:=some (.nw xs)) hS h
theorem bB{β:Type}{ma:Vs->M Xv}{k:Xv->M β}{P:β->S->Ph->Hp->Prop}(hL:bx K cA U H Z J)(hS:aG K cA U H s)(h:Run K cA (M.bd (ma J) k) U H s P (eX K cA EX Z)){Q:VK}
  (f:∀x H1 U1 d s1,Ext U H U1 H1->bx K cA U1 H1 Z J->aG K cA U1 H1 s1->bw K cA U1 H1 d x->Run K cA (k d) U1 H1 s1 P (eX K cA EX Z)->Q x H1):tE K cA EX ma Z H Q:=
 ⟨U,J,s,hL,hS,h.bd.imp λd s1 U1 H1 ⟨x1,r1,h1⟩ v rv=>f v H1 U1 d s1 x1 (hL.mono x1 hS.lz) r1 rv h1⟩
theorem m7{β:Type}{ma:Vs->M (List Xv)}{k:List Xv->M β}{P:β->S->Ph->Hp->Prop}(hL:bx K cA U H Z J)(hS:aG K cA U H s)(h:Run K cA (M.bd (ma J) k) U H s P (eX K cA EX Z)){Q:List V->Hp->Prop}
  (f:∀x H1 U1 d s1,Ext U H U1 H1->bx K cA U1 H1 Z J->aG K cA U1 H1 s1->aW K cA U1 H1 d x->Run K cA (k d) U1 H1 s1 P (eX K cA EX Z)->Q x H1):TV K cA EX ma Z H Q:=
 ⟨U,J,s,hL,hS,h.bd.imp λd s1 U1 H1 ⟨x1,r1,h1⟩ v rv=>f v H1 U1 d s1 x1 (hL.mono x1 hS.lz) r1 rv h1⟩
theorem xT(hL:bx K cA U H Z J)(hS:aG K cA U H s)(h:Run K cA (M.bd (ma J) k) U H s P (eX K cA EX Z))
  (f:∀b H1 U1 s1,Ext U H U1 H1->bx K cA U1 H1 Z J->aG K cA U1 H1 s1->Run K cA (k b) U1 H1 s1 P (eX K cA EX Z)->Q b H1):v9 K cA EX ma Z H Q:=
 ⟨U,J,s,hL,hS,h.bd.imp λd s1 U1 H1 ⟨x1,r1,h1⟩=>f d H1 U1 s1 x1 (hL.mono x1 hS.lz) r1 h1⟩
end
section
variable (X:Cx)(cA:Cl)(aq:Nat->Nat->Bool)(aj:Bool)(F:Fn)(EX:XS)
def SE(e:Expr)(m:E):Prop:=PE X e (tE X.K cA EX (ev aq aj F m))
def SA(es:List Expr)(m:Es):Prop:=PA X es (TV X.K cA EX (evs aq aj F m))
def ST(e:Expr)(m:E):Prop:=PT X e (v9 X.K cA EX (λJ=>M.bd (ev aq aj F m J) bool))
def SW(e:Expr)(m:E):Prop:=PW X e (v9 X.K cA EX (λJ=>M.bd (ev aq aj F m J) bool))
end
section
variable {X:Cx}{cA:Cl}{aq:Nat->Nat->Bool}{aj:Bool}{F:Fn}{EX:XS}{a b c d e:Expr}{A B C Dd E':E}{pos:Pos}{es:List Expr}{Xs:Es}{fz:Bool}{p:Pr}
theorem PE.weak{t t':TE}(h:PE X e t)(f:∀Z H Q,t' Z H Q->t Z H Q):PE X e t':=λao s Z H Q I q=>h ao s Z H Q I (f Z H Q q)
theorem PT.weak{t t':TT}(h:PT X e t)(f:∀Z H Q,t' Z H Q->t Z H Q):PT X e t':=λao s Z H Q I q=>h ao s Z H Q I (f Z H Q q)
theorem PW.weak{t t':TT}(h:PW X e t)(f:∀Z H Q,t' Z H Q->t Z H Q):PW X e t':=λwh ao s Z H Q I q=>h wh ao s Z H Q I (f Z H Q q)
theorem PA.weak{t t':TA}(h:PA X es t)(f:∀Z H Q,t' Z H Q->t Z H Q):PA X es t':=λp ao s Z H Q I q=>h p ao s Z H Q I (f Z H Q q)
theorem zmi{i j p}:SE X cA aq aj F EX (.Constant (.int i) j p) (.c (.int i)):=PE.weak Yt λZ H Q hh=>un hh λU J s hL hS h=>h.bH hS _ (.d (.int i))
theorem zpp{i j p}:SE X cA aq aj F EX (.Constant (.bool i) j p) (.c (.bl i)):=PE.weak zpe λZ H Q hh=>un hh λU J s hL hS h=>h.bH hS _ (.d (.bl i))
theorem zl1{j p}:SE X cA aq aj F EX (.Constant .none j p) (.c .non):=PE.weak zof λZ H Q hh=>un hh λU J s hL hS h=>h.bH hS _ (.d .non)
theorem zlT{i j p}:SE X cA aq aj F EX (.Constant (.str i) j p) (.c (.str i)):=PE.weak Yu λZ H Q hh=>un hh λU J s hL hS h=>h.bH hS _ (.d (.str i))
theorem TX{α:Type}{o:Option (Option α)}{x:α}(h:o.join=some x):o=some (some x):=by
 cases o with
 |none=>cases h
 |some y=>cases y with
  |none=>cases h
  |some z=>cases h;rfl
theorem ZS(i:Nat){x:Str}(hN:X.N[i]?=some x:=by rfl)(hv:QS X.env.scope x:=by first|exact Or.inl rfl|exact Or.inr (Or.inl rfl)|exact Or.inr (Or.inr rfl))(hd:(x==("__debug__" : Str))=false:=by decide)
  (kW:(x==("__classdict__" : Str))=false:=by decide):SE X cA aq aj F EX (.Name x pos) (.v i):=PE.weak (Ys hN hv hd kW) λZ H Q hh=>un hh λU J s hL hS h=>by
 obtain⟨dd,e1,q⟩:=Run.opt hS h;obtain⟨v,q1,q2⟩:=hL.2 i dd (TX e1);exact⟨v,q1,q v q2⟩
theorem zjN{x:Str}{i:Int}{t:Tok}(hg:Gl X x)(hm:X.mg x=some (.int i t))(hd:(x==("__debug__" : Str))=false:=by decide):SE X cA aq aj F EX (.Name x pos) (.c (.int i)):=PE.weak (Yv (v:=.int i) hg hm ⟨t,rfl⟩ hd) λZ H Q hh=>un hh λU J s hL hS h=>h.bH hS _ (.d (.int i))
theorem zlP:SA X cA aq aj F EX [] .nil:=PA.weak yV λZ H Q hh=>un hh λU J s hL hS h=>h.bH hS _ .nil
theorem zk1(ha:SE X cA aq aj F EX a A)(hr:SA X cA aq aj F EX es Xs)(hs:starEach (a::es) X.env=(false,eval a X.env)::starEach es X.env:=by rfl):SA X cA aq aj F EX (a::es) (.cons A Xs):=PA.weak (uy ha hr hs) λZ H Q hh=>un hh λU J s hL hS h=>by
 refine bB hL hS h λx H1 U1 d1 s1 x1 hL1 aJ r1 h1=>m7 hL1 aJ h1 λys H2 U2 d2 s2 x2 hL2 aV r2 h2=>h2.bH aV _ (.cons (r1.mono x2 aJ.lz) r2)
theorem NP{U U1 U2:Ph}{H1 H2:Hp}{s1 s2:S}{d1 d2:Xv}{x y:V}{Q:VK}{Ee:Nat->List D->S->Ph->Hp->Prop}(x2:Ext U1 H1 U2 H2)(aJ:aG X.K cA U1 H1 s1)(aV:aG X.K cA U2 H2 s2)(r1:bw X.K cA U1 H1 d1 x)(r2:bw X.K cA U2 H2 d2 y)
  (h:Run X.K cA (M.bd (gW [d1,d2]) λds=>cG fz (prim p ds)) U2 H2 s2 (λx _ U' H'=>∀v,bw X.K cA U' H' x v->Q v H') Ee) {r:List V->Hp->VK->Prop} (hp:bD X.K cA p r):r [x,y] H2 Q:=by
 obtain⟨ds,rs,h2⟩:=tL aV (.cons (r1.mono x2 aJ.lz) (.cons r2 .nil)) h;exact hp U2 H2 ds _ Q aV.zs rs (rN aV h2)
noncomputable def r2(r:R2):List V->Hp->VK->Prop:=λvs H Q=>∃x y,vs=[x,y]/\r x y H Q
theorem Fw{r:R2}{x y:V}{H:Hp}{Q:VK}(h:r2 r [x,y] H Q):r x y H Q:=by
 obtain⟨_,_,e,q⟩:=h;cases e;exact q
theorem zmt{op:Operator}{r:R2}(ho:fD X (binaryOp op) r)(hp:bD X.K cA p (r2 r))(ha:SE X cA aq aj F EX a A)(hb:SE X cA aq aj F EX b B):SE X cA aq aj F EX (.BinOp a op b pos) (.pr fz p (.cons A (.cons B .nil))):=PE.weak (zpk ho ha hb) λZ H Q hh=>un hh λU J s hL hS h=>by
 have h:Run X.K cA (M.bd (M.bd (ev aq aj F A J) λx=>M.bd (M.bd (ev aq aj F B J) λy=>M.bd (M.ret []) λz=>M.ret (y::z)) λys=>M.ret (x::ys)) λvs=>M.bd (gW vs) λds=>cG fz (prim p ds)) U H s _ _:=h;simp only[jJ] at h;refine bB hL hS h λx H1 U1 d1 s1 x1 hL1 aJ r1 h1=>bB hL1 aJ h1 λy H2 U2 d2 s2 x2 hL2 aV r2' h2=>?_;exact Fw (NP (fz:=fz) (U:=U) x2 aJ aV r1 r2' h2 hp)
theorem zmf{op:CmpOp}{r:R2}(ho:fD X (compareOp op) r)(hp:bD X.K cA p (r2 r))(ha:SE X cA aq aj F EX a A)(hb:SE X cA aq aj F EX b B)(hm:behindInMarks op b=false):SE X cA aq aj F EX (.Compare a [op] [b] pos) (.pr true p (.cons A (.cons B .nil))):=PE.weak (zjW ho ha hb hm) λZ H Q hh=>un hh λU J s hL hS h=>by
 have h:Run X.K cA (M.bd (M.bd (ev aq aj F A J) λx=>M.bd (M.bd (ev aq aj F B J) λy=>M.bd (M.ret []) λz=>M.ret (y::z)) λys=>M.ret (x::ys)) λvs=>M.bd (gW vs) λds=>cG true (prim p ds)) U H s _ _:=h;simp only[jJ] at h;refine bB hL hS h λx H1 U1 d1 s1 x1 hL1 aJ r1 h1=>bB hL1 aJ h1 λy H2 U2 d2 s2 x2 hL2 aV r2' h2=>?_;exact Fw (NP (fz:=true) (U:=U) x2 aJ aV r1 r2' h2 hp)
theorem iT{A B:Prop}(h:A):if true=true then A else B:=by rw[if_pos rfl];exact h
theorem iF{A B:Prop}(h:B):if false=true then A else B:=by rw[if_neg Lw];exact h
theorem zob{op:CmpOp}{r:R2}(ho:fD X (compareOp op) r)(hp:bD X.K cA p (r2 r))(ha:SE X cA aq aj F EX a A)(hb:SE X cA aq aj F EX b B)(hm:behindInMarks op b=false):ST X cA aq aj F EX (.Compare a [op] [b] pos) (.pr true p (.cons A (.cons B .nil))):=PT.weak (zkQ ho ha hb hm) λZ H Q hh=>un hh λU J s hL hS h=>by
 have h:Run X.K cA (M.bd (M.bd (M.bd (ev aq aj F A J) λx=>M.bd (M.bd (ev aq aj F B J) λy=>M.bd (M.ret []) λz=>M.ret (y::z)) λys=>M.ret (x::ys)) λvs=>M.bd (gW vs) λds=>cG true (prim p ds)) bool) U H s _ _:=h;simp only[jJ] at h;refine bB hL hS h λx H1 U1 d1 s1 x1 hL1 aJ r1 h1=>bB hL1 aJ h1 λy H2 U2 d2 s2 x2 hL2 aV r2' h2=>?_;obtain⟨ds,rs,h3⟩:=tL aV (.cons (r1.mono x2 aJ.lz) (.cons r2' .nil)) h2;refine Fw (hp U2 H2 ds _ _ aV.zs rs (rN (Ee:=eX X.K cA EX Z) aV (h3.bd.imp λt s3 U3 H3 ⟨x3,lV,h4⟩ v rv=>?_)));cases rv with
 |l _=>exact h4.elim
 |d rv=>cases rv with
  |bl k=>exact⟨k,rfl,h4 U3 H3 Ext.refl lV⟩
  |_=>exact h4.elim
theorem zlX{op op':CmpOp}{r r':R2}{q:Pr}(ho:fD X (compareOp op) r)(hp:bD X.K cA p (r2 r))(ur:fD X (compareOp op') r')(ZV:bD X.K cA q (r2 r'))(ha:SE X cA aq aj F EX a A)(hb:SE X cA aq aj F EX b B)(hc:SE X cA aq aj F EX c C)(hm:lastMarks [op,op'] [b,c]=false:=by with_unfolding_all rfl) :
  SE X cA aq aj F EX (.Compare a [op,op'] [b,c] pos) (.v8 p q A B C):=PE.weak (zib ho ur ha hb hc hm) λZ H Q hh=>un hh λU J s hL hS h=>by
 refine bB hL hS h λx H1 U1 d1 s1 x1 hL1 aJ r1 h1=>bB hL1 aJ h1 λy H2 U2 d2 s2 x2 hL2 aV r2' h2=>?_;obtain⟨ds,rs,h3⟩:=tL aV (.cons (r1.mono x2 aJ.lz) (.cons r2' .nil)) h2;refine Fw (hp U2 H2 ds _ _ aV.zs rs (rN (Ee:=eX X.K cA EX Z) aV (h3.bd.imp λt s3 U3 H3 ⟨x3,lV,h4⟩ v rv=>?_)));obtain⟨k,_,e,h5⟩:=JM rv h4;refine⟨k,e,?_⟩;cases k with
 |false=>exact iF (h5.bH lV _ (.d (.bl _)))
 |true=>
  have xU:=hL2.mono x3 aV.lz;refine iT (bB xU lV h5 λz H4 U4 d4 s4 x4 hL4 zF r4 h6=>?_);exact Fw (NP (fz:=true) (U:=U) x4 lV zF (r2'.mono x3 aV.lz) r4 h6 ZV)
theorem zm4(ha:SE X cA aq aj F EX a A):SE X cA aq aj F EX (.UnaryOp .Not a pos) (.not A):=PE.weak (zlK ha) λZ H Q hh=>un hh λU J s hL hS h=>by
 refine bB hL hS h λx H1 U1 d1 s1 x1 hL1 aJ r1 h1=>?_;obtain⟨i,_,e,h3⟩:=JM r1 h1;exact⟨i,e,h3.bH aJ _ (.d (.bl _))⟩
theorem zmc{op}(ha:SE X cA aq aj F EX a A):SE X cA aq aj F EX (.BoolOp op [a] pos) A:=zmv ha
theorem zmy{rest:List Expr}(ha:SE X cA aq aj F EX a A)(hb:SE X cA aq aj F EX (.BoolOp .And (b::rest) pos) B):SE X cA aq aj F EX (.BoolOp .And (a::b::rest) pos) (.and A B):=PE.weak (znI ha hb) λZ H Q hh=>un hh λU J s hL hS h=>by
 refine bB hL hS h λx H1 U1 d1 s1 x1 hL1 aJ r1 h1=>?_;obtain⟨i,_,e,h3⟩:=JM r1 h1;refine⟨i,e,?_⟩;cases i with
 |true=>exact iT ⟨U1,J,s1,hL1,aJ,h3⟩
 |false=>exact iF (h3.bH aJ _ (.d (.bl _)))
theorem zpC{rest:List Expr}(ha:SE X cA aq aj F EX a A)(hb:SE X cA aq aj F EX (.BoolOp .Or (b::rest) pos) B):SE X cA aq aj F EX (.BoolOp .Or (a::b::rest) pos) (.or A B):=PE.weak (zpf ha hb) λZ H Q hh=>un hh λU J s hL hS h=>by
 refine bB hL hS h λx H1 U1 d1 s1 x1 hL1 aJ r1 h1=>?_;obtain⟨i,_,e,h3⟩:=JM r1 h1;refine⟨i,e,?_⟩;cases i with
 |true=>exact iT (h3.bH aJ _ (.d (.bl _)))
 |false=>exact iF ⟨U1,J,s1,hL1,aJ,h3⟩
end
section
variable {X:Cx}{cA:Cl}{aq:Nat->Nat->Bool}{aj:Bool}{F:Fn}{EX:XS}{a b c d e o:Expr}{A B C Dd E' O:E}{pos pp p2 apos:Pos}{es:List Expr}{Xs:Es}{fz:Bool}{p:Pr}{x:Str}
theorem znc(ha:SE X cA aq aj F EX a A)(he:∀whole,isTrue a X.env whole=(do let v <-whole;standAt a.pos;holding [v] (truthy v)):=by intro _;rfl):ST X cA aq aj F EX a A:=PT.weak (zlS ha he) λZ H Q hh=>un hh λU J s hL hS h=>by
 refine bB hL hS h λx H1 U1 d1 s1 x1 hL1 aJ r1 h1=>?_;have h1:Run X.K cA (M.bd (bool d1) M.ret) U1 H1 s1 (λd _ U' H'=>Q d H') (eX X.K cA EX Z):=by
  cases d1 with
  |l n=>exact h1
  |d v=>cases v<;>exact h1
 obtain⟨k,_,e,q⟩:=JM r1 h1;exact⟨k,e,q.bH aJ⟩
theorem ziN{m:M Xv}{g:Bool->Bool}:M.bd (M.bd m λx=>M.bd (bool x) λk=>M.ret (Xv.d (.bl (g k)))) bool=M.bd (M.bd m bool) λk=>M.ret (g k):=by
 rw[jJ,jJ]
 congr 1
 funext x
 rw[jJ];rfl
theorem zmj(ha:ST X cA aq aj F EX a A):ST X cA aq aj F EX (.UnaryOp .Not a pos) (.not A):=PT.weak (zn7 ha) λZ H Q hh=>un hh λU J s hL hS h=>by
 have h:Run X.K cA (M.bd (M.bd (ev aq aj F A J) λx=>M.bd (bool x) λk=>M.ret (Xv.d (.bl (!k)))) bool) U H s _ _:=h;rw[ziN (g:=λk=>!k)] at h;exact xT hL hS h λk H1 U1 s1 x1 hL1 aJ h1=>h1.bH aJ
theorem zk4(ha:ST X cA aq aj F EX a A):SW X cA aq aj F EX (.BoolOp .And [a] pos) A:=zj3 ha
theorem zl6(ha:ST X cA aq aj F EX a A):SW X cA aq aj F EX (.BoolOp .Or [a] pos) A:=zm9 ha
theorem ZW{m:M Xv}{k:Bool->M Xv}:M.bd (M.bd m λx=>M.bd (bool x) k) bool=M.bd (M.bd m bool) λb=>M.bd (k b) bool:=by
 rw[jJ,jJ]
 congr 1
 funext x
 rw[jJ]
theorem zl8{rest:List Expr}(ha:ST X cA aq aj F EX a A)(hb:SW X cA aq aj F EX (.BoolOp .And (b::rest) pos) B):SW X cA aq aj F EX (.BoolOp .And (a::b::rest) pos) (.and A B):=PW.weak (zmZ ha hb) λZ H Q hh=>un hh λU J s hL hS h=>by
 have h:Run X.K cA (M.bd (M.bd (ev aq aj F A J) λx=>M.bd (bool x) λk=>if k=true then ev aq aj F B J else M.ret (Xv.d (.bl false))) bool) U H s _ _:=h;rw[ZW] at h;refine xT hL hS h λk H1 U1 s1 x1 hL1 aJ h3=>?_;cases k with
 |true=>exact iT ⟨U1,J,s1,hL1,aJ,h3⟩
 |false=>exact iF (Run.bH aJ (a:=false) h3)
theorem zoQ{rest:List Expr}(ha:ST X cA aq aj F EX a A)(hb:SW X cA aq aj F EX (.BoolOp .Or (b::rest) pos) B):SW X cA aq aj F EX (.BoolOp .Or (a::b::rest) pos) (.or A B):=PW.weak (zo7 ha hb) λZ H Q hh=>un hh λU J s hL hS h=>by
 have h:Run X.K cA (M.bd (M.bd (ev aq aj F A J) λx=>M.bd (bool x) λk=>if k=true then M.ret (Xv.d (.bl true)) else ev aq aj F B J) bool) U H s _ _:=h;rw[ZW] at h;refine xT hL hS h λk H1 U1 s1 x1 hL1 aJ h3=>?_;cases k with
 |true=>exact iT (Run.bH aJ (a:=true) h3)
 |false=>exact iF ⟨U1,J,s1,hL1,aJ,h3⟩
theorem zqm(h:SW X cA aq aj F EX a A):ST X cA aq aj F EX a A:=Kad h
theorem zkm:(M.bd m λx=>M.bd (bool x) k)=M.bd (M.bd m bool) k:=by rw[jJ]
theorem zml(hc:ST X cA aq aj F EX c C)(ha:SE X cA aq aj F EX a A)(hb:SE X cA aq aj F EX b B):SE X cA aq aj F EX (.IfExp c a b pos) (.ite C A B):=PE.weak (ziz hc ha hb) λZ H Q hh=>un hh λU J s hL hS h=>by
 have h:Run X.K cA (M.bd (ev aq aj F C J) λx=>M.bd (bool x) λk=>if k=true then ev aq aj F A J else ev aq aj F B J) U H s _ _:=h;rw[zkm] at h;refine xT hL hS h λk H1 U1 s1 x1 hL1 aJ h3=>?_;cases k with
 |true=>exact iT ⟨U1,J,s1,hL1,aJ,h3⟩
 |false=>exact iF ⟨U1,J,s1,hL1,aJ,h3⟩
theorem ZX:∀(Xs:Es) (J:Vs) (s:S) (ds:List Xv) (s':S),evs aq aj F Xs J s=some (.ok ds,s')->ds.length=Es.len Xs
 |.nil,J,s,ds,s',h=>by cases h;rfl
 |.cons a r,J,s,ds,s',h=>by
  have h:M.bd (ev aq aj F a J) (λx=>M.bd (evs aq aj F r J) λxs=>M.ret (x::xs)) s=some (.ok ds,s'):=h;unfold M.bd at h;cases e1:ev aq aj F a J s with
  |none=>rw[e1] at h;cases h
  |some q=>
   obtain⟨q,s1⟩:=q;rw[e1] at h;cases q with
   |er c f=>cases h
   |ok d=>
    dsimp only at h;cases e2:evs aq aj F r J s1 with
    |none=>rw[e2] at h;cases h
    |some q=>
     obtain⟨q,s2⟩:=q;rw[e2] at h;cases q with
     |er c f=>cases h
     |ok ds'=>
      cases h;rw[gD,ZX r J s1 ds' _ e2];rfl
theorem Cw{β:Type}{K:W.Frag}{U:Ph}{H:Hp}{s:S}{Z:L2.St}{J:Vs}{k:List Xv->M β}{P:β->S->Ph->Hp->Prop}(hL:bx K cA U H Z J)(hS:aG K cA U H s)(h:Run K cA (M.bd (evs aq aj F Xs J) k) U H s P (eX K cA EX Z)){Q:List V->Hp->Prop}
  (f:∀x H1 U1 d s1,d.length=Es.len Xs->Ext U H U1 H1->bx K cA U1 H1 Z J->aG K cA U1 H1 s1->aW K cA U1 H1 d x->Run K cA (k d) U1 H1 s1 P (eX K cA EX Z)->Q x H1):TV K cA EX (evs aq aj F Xs) Z H Q:=by
 refine⟨U,J,s,hL,hS,?_⟩;have h2:=h.bd;unfold Run at h2 ⊢;cases e:evs aq aj F Xs J s with
 |none=>rw[e] at h2;exact h2
 |some r=>
  obtain⟨r,s1⟩:=r;rw[e] at h2;cases r with
  |er c f=>exact h2
  |ok ds=>
   intro U1 H1 x1 r1 v rv;obtain⟨_,_,h3⟩:=h2 U1 H1 x1 r1;exact f v H1 U1 ds s1 (ZX Xs J s ds s1 e) x1 (hL.mono x1 hS.lz) r1 rv h3
theorem zm1{k}(ha:SA X cA aq aj F EX es Xs)(hz:Es.len Xs<=sizeLine):SE X cA aq aj F EX (.Tuple es k pos) (.tup Xs):=PE.weak (zl2 ha) λZ H Q hh=>un hh λU J s hL hS h=>by
 refine Cw hL hS h λvs H1 U1 xs s1 hl x1 hL1 aJ rv h1=>?_;obtain⟨ds,e,rs,h2⟩:=NK rv h1;refine⟨by rw[<-rv.len,hl];exact hz,λp hp=>?_⟩;exact h2 U1 (upd H1 p (.tup vs)) (bf.new hp).ext (aJ.grow (bf.new hp)) _ (.d (.tup (TupAt.new (aJ.nz hp)) (rs.mono (bf.new hp).ext aJ.lz)))
theorem zn3(ha:SA X cA aq aj F EX es Xs)(hz:Es.len Xs<=sizeLine):SE X cA aq aj F EX (.List es pos) (.lst fz Xs):=PE.weak (zne ha) λZ H Q hh=>un hh λU J s hL hS h=>by
 refine Cw hL hS h λvs H1 U1 xs s1 hl x1 hL1 aJ rv h1=>?_;obtain⟨ds,e,rs,h2⟩:=NK rv h1;exact⟨by rw[<-rv.len,hl];exact hz,λp hp=>ziy aJ h2 p vs hp rs⟩
theorem zG{id:String}{r:List V->Hp->VK->Prop}(hc:cU X (.builtin id) r)(hp:bD X.K cA p r)
  (hg:Gl X x) (hm:X.mg x=none) (hv:bootBuiltins x=some (.builtin id)) (ha:SA X cA aq aj F EX (e::es) Xs) (hn:x≠"__name__":=by decide) (k_:(x==("__debug__" : Str))=false:=by decide)
  (he:starEach (e::es) X.env=(false,eval e X.env)::starEach es X.env:=by rfl) (hpl:(backTo pos (starEach es X.env)).any (·.1)=false:=by rfl):SE X cA aq aj F EX (.Call (.Name x pp) (e::es) [] pos) (.pr fz p Xs):=PE.weak (Y4 hc hg hm hv ha hn k_ he hpl) λZ H Q hh=>un hh λU J s hL hS h=>
 m7 hL hS h λvs H1 U1 ds s1 x1 hL1 aJ r1 h1=>by
  obtain⟨ds,rs,h3⟩:=tL aJ r1 h1;exact hp U1 H1 ds _ _ aJ.zs rs (rN aJ h3)
theorem TY{id:String}{r:List V->Hp->VK->Prop}(hc:cU X (.type id) r)(hp:bD X.K cA p r)
  (hg:Gl X x) (hm:X.mg x=none) (hv:bootBuiltins x=some (.type id)) (ha:SA X cA aq aj F EX (e::es) Xs) (hn:x≠"__name__":=by decide) (k_:(x==("__debug__" : Str))=false:=by decide)
  (he:starEach (e::es) X.env=(false,eval e X.env)::starEach es X.env:=by rfl) (hpl:(backTo pos (starEach es X.env)).any (·.1)=false:=by rfl):SE X cA aq aj F EX (.Call (.Name x pp) (e::es) [] pos) (.pr fz p Xs):=PE.weak (zf1 hc hg hm hv ha hn k_ he hpl) λZ H Q hh=>un hh λU J s hL hS h=>
 m7 hL hS h λvs H1 U1 ds s1 x1 hL1 aJ r1 h1=>by
  obtain⟨ds,rs,h3⟩:=tL aJ r1 h1;exact hp U1 H1 ds _ _ aJ.zs rs (rN aJ h3)
theorem zoI(hp:bD X.K cA p (r2 (RN X.K)))(ha:SE X cA aq aj F EX a A)(hb:SE X cA aq aj F EX b B)(hs:qz b:=by intro _ _;rfl):SE X cA aq aj F EX (.Subscript a b pos) (.pr true p (.cons A (.cons B .nil))):=PE.weak (zoO znE ha hb hs) λZ H Q hh=>un hh λU J s hL hS h=>by
 have h:Run X.K cA (M.bd (M.bd (ev aq aj F A J) λx=>M.bd (M.bd (ev aq aj F B J) λy=>M.bd (M.ret []) λz=>M.ret (y::z)) λys=>M.ret (x::ys)) λvs=>M.bd (gW vs) λds=>cG true (prim p ds)) U H s _ _:=h;simp only[jJ] at h;refine bB hL hS h λx H1 U1 d1 s1 x1 hL1 aJ r1 h1=>bB hL1 aJ h1 λy H2 U2 d2 s2 x2 hL2 aV r2' h2=>?_;exact Fw (NP (fz:=true) (U:=U) x2 aJ aV r1 r2' h2 hp)
theorem zoP(ho:M4 X (unaryOp op) r)(hp:bD X.K cA p (λvs H Q=>∃x,vs=[x]/\r x H Q))(ha:SE X cA aq aj F EX a A):SE X cA aq aj F EX (.UnaryOp op a pos) (.pr true p (.cons A .nil)):=PE.weak (zoy ho ha) λZ H Q hh=>un hh λU J s hL hS h=>by
 have h:Run X.K cA (M.bd (M.bd (ev aq aj F A J) λx=>M.bd (M.ret []) λz=>M.ret (x::z)) λvs=>M.bd (gW vs) λds=>cG true (prim p ds)) U H s _ _:=h;simp only[jJ] at h;refine bB hL hS h λx H1 U1 d1 s1 x1 hL1 aJ r1 h1=>?_;obtain⟨ds,rs,h3⟩:=tL aJ (.cons r1 .nil) h1;obtain⟨_,e,q⟩:=hp U1 H1 ds _ _ aJ.zs rs (rN aJ h3);cases e;exact q
theorem zlA{j p'}(ha:SE X cA aq aj F EX a A):SE X cA aq aj F EX (.Compare a [.Is] [.Constant .none j p'] pos) (.pr true .tG (.cons A .nil)):=PE.weak (Yy (Yw ha)) λZ H Q hh=>un hh λU J s hL hS h=>by
 have h:Run X.K cA (M.bd (M.bd (ev aq aj F A J) λx=>M.bd (M.ret []) λz=>M.ret (x::z)) λvs=>M.bd (gW vs) λds=>cG true (prim .tG ds)) U H s _ _:=h;simp only[jJ] at h;refine bB hL hS h λx H1 U1 d1 s1 x1 hL1 aJ r1 h1=>?_;obtain⟨ds,rs,h3⟩:=tL aJ (.cons r1 .nil) h1;cases rs with
 |cons r rs=>cases rs with
  |nil=>
   rename_i d;have h4:=rN aJ h3;have q:=h4 H1 _ bf.refl (.bl _);cases d<;>first
    |(obtain⟨_,_,rfl,_,_⟩:=r;exact q)
    |(cases (show Rep _ _ _ _ _ x from r)<;>exact q)
theorem zj5{j p'}(ha:SE X cA aq aj F EX a A):SE X cA aq aj F EX (.Compare a [.IsNot] [.Constant .none j p'] pos) (.pr true .rA (.cons A .nil)):=PE.weak (Yy (Yx ha)) λZ H Q hh=>un hh λU J s hL hS h=>by
 have h:Run X.K cA (M.bd (M.bd (ev aq aj F A J) λx=>M.bd (M.ret []) λz=>M.ret (x::z)) λvs=>M.bd (gW vs) λds=>cG true (prim .rA ds)) U H s _ _:=h;simp only[jJ] at h;refine bB hL hS h λx H1 U1 d1 s1 x1 hL1 aJ r1 h1=>?_;obtain⟨ds,rs,h3⟩:=tL aJ (.cons r1 .nil) h1;cases rs with
 |cons r rs=>cases rs with
  |nil=>
   rename_i d;have h4:=rN aJ h3;have q:=h4 H1 _ bf.refl (.bl _);cases d<;>first
    |(obtain⟨_,_,rfl,_,_⟩:=r;exact q)
    |(cases (show Rep _ _ _ _ _ x from r)<;>exact q)
theorem Z0(q:Pr)(hq:prim q=Cj f)(hh:v9 X.K cA EX (λJ=>M.bd (ev aq aj F (.pr true q (.cons A .nil)) J) bool) Z H Q):tE X.K cA EX (ev aq aj F A) Z H λx H1=>Q (f (decide (x=.non))) H1:=un hh λU J s hL hS h=>by
 have h:Run X.K cA (M.bd (M.bd (M.bd (ev aq aj F A J) λx=>M.bd (M.ret []) λz=>M.ret (x::z)) λvs=>M.bd (gW vs) λds=>cG true (prim q ds)) bool) U H s _ _:=h;simp only[jJ] at h;refine bB hL hS h λx H1 U1 d1 s1 x1 hL1 aJ r1 h1=>?_;obtain⟨ds,rs,h3⟩:=tL aJ (.cons r1 .nil) h1;cases rs with
 |cons r rs=>cases rs with
  |nil=>
   rename_i d;rw[hq] at h3;have h4:Run X.K cA (M.bd (M.ret (Xv.d (.bl (f d.uN)))) bool) U1 H1 s1 (λd _ U' H'=>Q d H') (eX X.K cA EX Z):=h3;have q:=h4 U1 H1 Ext.refl aJ;cases d<;>first
    |(obtain⟨_,_,rfl,_,_⟩:=r;exact q)
    |(cases (show Rep _ _ _ _ _ x from r)<;>exact q)
theorem znB{j p'}(ha:SE X cA aq aj F EX a A):ST X cA aq aj F EX (.Compare a [.Is] [.Constant .none j p'] pos) (.pr true .tG (.cons A .nil)):=PT.weak (Q8 (Yw ha)) λZ H Q hh=>by
 have:=Z0 .tG (f:=id) rfl hh;obtain⟨U,J,s,a,b,c⟩:=this;exact⟨U,J,s,a,b,c.imp λd s' U' H' k v rv=>⟨_,rfl,k v rv⟩⟩
theorem zkN{j p'}(ha:SE X cA aq aj F EX a A):ST X cA aq aj F EX (.Compare a [.IsNot] [.Constant .none j p'] pos) (.pr true .rA (.cons A .nil)):=PT.weak (Q8 (Yx ha)) λZ H Q hh=>by
 have:=Z0 .rA (f:=not) rfl hh;obtain⟨U,J,s,a,b,c⟩:=this;exact⟨U,J,s,a,b,c.imp λd s' U' H' k v rv=>⟨_,rfl,k v rv⟩⟩
theorem zhJ{K:W.Frag}{U:Ph}{H:Hp}{s:S}{x:Xv}{v:V}{Q:Bool->Hp->Prop}{Ee:Nat->List D->S->Ph->Hp->Prop}(hS:aG K cA U H s)(r:bw K cA U H x v)(h:Run K cA (bool x) U H s (λd _ U' H'=>Q d H') Ee):∃k,v=.bl k/\Q k H:=by
 cases r with
 |l _=>exact h.elim
 |d rv=>cases rv with
  |bl k=>exact⟨k,rfl,h U H Ext.refl hS⟩
  |_=>exact h.elim
end
mutual
inductive Is (h:Heap):D->Value->Prop where
 |non:Is h .non .none
 |bl (b:Bool):Is h (.bl b) (.bool b)
 |int (i:Int) (t:Tok):Is h (.int i) (.int i t)
 |str (x:Str) (t:Tok):Is h (.str x) (.str x t)
 |tup {a:Addr} {xs:List D} {its:List Value} (p:h.IsTuple a its.toArray) (r:iJ h xs its):Is h (.tup xs) (.ref a)
 |fl {a:Addr} {xs:List D} {its:List Value} (p:h.IsList a its.toArray) (r:iJ h xs its):Is h (.fl xs) (.ref a)
 |oth {d:D} {u:Value} (k:kq d=none):Is h d u
inductive iJ (h:Heap):List D->List Value->Prop where
 |nil:iJ h [] []
 |cons {d:D} {u:Value} {ds:List D} {us:List Value} (a:Is h d u) (r:iJ h ds us):iJ h (d::ds) (u::us)
end
section
variable {X:Cx}{cA:Cl}{ao:List (Addr×Obj)}{Z:L2.St}{H:Hp}{s:Shared}{U:Ph}{h:Heap}
theorem T3(I:Inv X ao Z H s){ds:List D}{vs:List V}{us:List Value}(h:aD X.K cA U H ds vs)(r:Vals vs us):iJ s.heap ds us:=
 aD.rec (motive_1:=λd v _=>∀{u:Value},RelV v u->Is s.heap d u) (motive_2:=λd v _=>∀{u:List Value},Vals v u->iJ s.heap d u) (λr=>by cases r;exact .non) (λb _ r=>by cases r;exact .bl b) (λi _ r=>by obtain⟨t,rfl⟩:=r;exact .int i t) (λi _ r=>by obtain⟨t,rfl⟩:=r;exact .str i t)
 (λh _ ih _ r=>by
  cases r;obtain⟨its,rv,ht,_⟩:=I.tuple h.jh;exact .tup ht (ih rv))
 (λh _ ih _ r=>by
  cases r;obtain⟨its,rv,ht,_⟩:=I.list h.tK;exact .fl ht.isList (ih rv))
 (λ_ _ _ _=>.oth rfl) (λ_ _ _ _ _=>.oth rfl) (λ_ _ _ _ _=>.oth rfl) (λ_ _ _=>.oth rfl)
 (λr=>by cases r;exact .nil)
 (λ_ _ i j _ r=>by
  cases r with
  |cons a b=>exact .cons (i a) (j b)) h r
theorem rO(I:Inv X ao Z H s){d:D}{v:V}{u:Value}(h:Rep X.K cA U H d v)(r:RelV v u):Is s.heap d u:=by
 cases h with
 |non=>cases r;exact .non
 |bl b=>cases r;exact .bl b
 |int i=>obtain⟨t,rfl⟩:=r;exact .int i t
 |str i=>obtain⟨t,rfl⟩:=r;exact .str i t
 |tup h q=>
  cases r;obtain⟨its,rv,ht,_⟩:=I.tuple h.jh;exact .tup ht (T3 I q rv)
 |fl h q=>
  cases r;obtain⟨its,rv,ht,_⟩:=I.list h.tK;exact .fl ht.isList (T3 I q rv)
 |fd _ _=>exact .oth rfl
 |exc _ _=>exact .oth rfl
 |ob _ _=>exact .oth rfl
 |any _=>exact .oth rfl
theorem zdt(I:Inv X ao Z H s){d:D}{v:V}{u:Value}(q:Rv X.K cA U H d v)(r:RelV v u):Is s.heap d u:=by
 cases d with
 |fl xs=>
  obtain⟨a,vs,rfl,sq,rs⟩:=q;cases r;obtain⟨its,rv,ht,_⟩:=I.list sq;exact .fl ht.isList (T3 I rs rv)
 |non=>exact rO I q r
 |bl b=>exact rO I q r
 |int b=>exact rO I q r
 |str b=>exact rO I q r
 |tup b=>exact rO I q r
 |fd b c=>exact rO I q r
 |exc b c=>exact rO I q r
 |ob b c=>exact rO I q r
 |any=>exact rO I q r
theorem iJ.len{ds:List D}{us:List Value}(r:iJ h ds us):ds.length=us.length:=by
 induction ds generalizing us with
 |nil=>cases r;rfl
 |cons a d ih=>cases r with|cons _ r=>rw[gD,gD,ih r]
theorem iJ.get:∀{ds:List D} {us:List Value} {i:Nat} {d:D},iJ h ds us->ds[i]?=some d->∃u,us[i]?=some u/\Is h d u
 |_,_,_,_,.nil,e=>by simp at e
 |_,_,0,_,.cons h _,e=>by simp at e;subst e;exact⟨_,rfl,h⟩
 |_,_,i+1,d,.cons _ r,e=>by
  obtain⟨v,a,b⟩:=iJ.get (i:=i) (d:=d) r (by simpa using e);exact⟨v,by simpa using a,b⟩
theorem Z9{a:Addr}{is js:Array Value}(p:h.IsTuple a is)(q:h.IsTuple a js):is=js:=by
 obtain⟨o,e,c,n,d⟩:=p;obtain⟨o',e',c',n',d'⟩:=q;rw[e] at e';cases e';rw[d] at d';cases d';rfl
theorem Z_{a:Addr}{is js:Array Value}(p:h.IsList a is)(q:h.IsList a js):is=js:=by
 obtain⟨o,e,c,n,d⟩:=p;obtain⟨o',e',c',n',d'⟩:=q;rw[e] at e';cases e';rw[d] at d';cases d';rfl
theorem Fx{a:Addr}{is js:Array Value}(p:h.IsList a is)(q:h.IsTuple a js):False:=by
 obtain⟨o,e,c,n,d⟩:=p;obtain⟨o',e',c',n',d'⟩:=q;rw[e] at e';cases e';rw[c] at c';exact absurd c' Zaa
theorem JZ{eq:D->D->Option Bool}:∀{xs ys:List D} {b:Bool},dU eq xs ys=some b->∃e:Nat->Bool,(∀(j:Nat) x y,xs[j]?=some x->ys[j]?=some y->eq x y=some (e j))/\b=((List.range (min xs.length ys.length)).all e&&xs.length==ys.length)
 |[],[],b,h=>by cases h;exact⟨λ_=>true,λj x y q=>by simp at q,by simp⟩
 |[],y::ys,b,h=>by cases h;exact⟨λ_=>true,λj x y q=>by simp at q,by simp⟩
 |x::xs,[],b,h=>by cases h;exact⟨λ_=>true,λj x y q r=>by simp at r,by simp⟩
 |x::xs,y::ys,b,h=>by
  simp only[dU] at h;cases e1:eq x y with
  |none=>rw[e1] at h;cases h
  |some a=>
   cases e2:dU eq xs ys with
   |none=>rw[e1,e2] at h;cases h
   |some c=>
    rw[e1,e2] at h;cases h;obtain⟨e,h1,h2⟩:=JZ e2;refine⟨λj=>match j with|0=>a|j+1=>e j,λj p q r1 r2=>?_,?_⟩
    ·cases j with
     |zero=>
      simp at r1 r2;subst r1 r2;exact e1
     |succ j=>exact h1 j p q (by simpa using r1) (by simpa using r2)
    ·rw[h2];simp only[gD,Nat.succ_min_succ,Qm,nQ,Em,Function.comp_def];rw[Bool.and_assoc]
     congr 2
     simp
theorem tM{n:Nat}{d e:D}(k:kq d=none):cL n d e=none:=by
 cases n<;>cases d<;>first|cases k;done|(cases e<;>rfl)
theorem iw{n:Nat}{d e:D}(k:kq e=none):cL n d e=none:=by
 cases n<;>cases e<;>first|cases k;done|(cases d<;>rfl)
theorem T4:∀(n:Nat) {d1 d2:D} {u:Value} {b:Bool},Is h d1 u->Is h d2 u->cL n d1 d2=some b->b=true:=by
 intro n;have rows:∀(n:Nat),(∀{d1 d2:D} {u:Value} {b:Bool},Is h d1 u->Is h d2 u->cL n d1 d2=some b->b=true)->∀{xs ys:List D} {is js:List Value} {b:Bool},iJ h xs is->iJ h ys js->is.toArray=js.toArray->dU (cL n) xs ys=some b->b=true:=by
  intro n ih xs ys is js b q1 q2 e hd;have e:is=js:=by simpa using e
  subst e;obtain⟨e,a1,a2⟩:=JZ (eq:=cL n) hd;rw[a2];have hl:_=_:=q1.len.trans q2.len.symm;rw[dJ];refine⟨dZ.mpr λj hj=>?_,by rw[hl];simp⟩;have hj:=tY.mp hj;obtain⟨x,hx⟩ : ∃x,_=some x:=⟨_,cX (iB hj (Nat.min_le_left _ _))⟩;obtain⟨y,hy⟩ : ∃y,_=some y:=⟨_,cX (iB hj (Nat.min_le_right _ _))⟩;obtain⟨v1,e1,p1⟩:=q1.get hx;obtain⟨v2,e2,p2⟩:=q2.get hy;rw[e1] at e2;cases e2;exact ih p1 p2 (a1 j x y hx hy)
 induction n with
 |zero=>
  intro d1 d2 u b r1 r2 hd;cases r1 with
  |oth k=>rw[tM k] at hd;cases hd
  |non=>cases r2 with
   |oth k=>rw[iw k] at hd;cases hd
   |non=>cases hd;rfl
  |bl x=>cases r2 with
   |oth k=>rw[iw k] at hd;cases hd
   |bl y=>cases hd;simp
  |int x t=>cases r2 with
   |oth k=>rw[iw k] at hd;cases hd
   |int y=>cases hd;simp
  |str x t=>cases r2 with
   |oth k=>rw[iw k] at hd;cases hd
   |str y=>cases hd;simp
  |tup p q=>cases r2 with
   |oth k=>rw[iw k] at hd;cases hd
   |tup p2 q2=>cases hd
   |fl p2 q2=>exact(Fx p2 p).elim
  |fl p q=>cases r2 with
   |oth k=>rw[iw k] at hd;cases hd
   |fl p2 q2=>cases hd
   |tup p2 q2=>exact(Fx p p2).elim
 |succ n ih=>
  intro d1 d2 u b r1 r2 hd;cases r1 with
  |oth k=>rw[tM k] at hd;cases hd
  |non=>cases r2 with
   |oth k=>rw[iw k] at hd;cases hd
   |non=>cases hd;rfl
  |bl x=>cases r2 with
   |oth k=>rw[iw k] at hd;cases hd
   |bl y=>cases hd;simp
  |int x t=>cases r2 with
   |oth k=>rw[iw k] at hd;cases hd
   |int y=>cases hd;simp
  |str x t=>cases r2 with
   |oth k=>rw[iw k] at hd;cases hd
   |str y=>cases hd;simp
  |tup p q=>cases r2 with
   |oth k=>rw[iw k] at hd;cases hd
   |tup p2 q2=>exact rows n ih q q2 (Z9 p p2) hd
   |fl p2 q2=>exact(Fx p2 p).elim
  |fl p q=>cases r2 with
   |oth k=>rw[iw k] at hd;cases hd
   |fl p2 q2=>exact rows n ih q q2 (Z_ p p2) hd
   |tup p2 q2=>exact(Fx p p2).elim
theorem parts{n:Nat}{A:Around}{xs ys:List D}{is js:List Value}{b:Bool}(r1:iJ s.heap xs is)(r2:iJ s.heap ys js)(hd:dU (cL n) xs ys=some b)
  (ih:∀{d1 d2:D} {u1 u2:Value} {b:Bool},Is s.heap d1 u1->Is s.heap d2 u2->cL n d1 d2=some b->SeqAt.EqAt A s u1 u2 b) :
  ∃e:Nat->Bool,(∀j (h1:j<is.toArray.size) (h2:j<js.toArray.size),SeqAt.EqAt A s is.toArray[j] js.toArray[j] (e j))/\b=((List.range (min is.toArray.size js.toArray.size)).all e&&is.toArray.size==js.toArray.size):=by
 obtain⟨e,a1,a2⟩:=JZ hd;have z1:=r1.len;have z2:=r2.len;refine⟨e,λj h1 h2=>?_,by simp only[fQ,<-z1,<-z2];exact a2⟩;simp only[fQ] at h1 h2;obtain⟨x,hx⟩ : ∃x,xs[j]?=some x:=⟨_,cX (by rw[z1];exact h1)⟩;obtain⟨y,hy⟩ : ∃y,ys[j]?=some y:=⟨_,cX (by rw[z2];exact h2)⟩;obtain⟨u,f1,g1⟩:=r1.get hx;obtain⟨u',f2,g2⟩:=r2.get hy;have k1:is.toArray[j]=u:=by
  have:=eY.mp f1;simpa using this.2
 have k2:js.toArray[j]=u':=by
  have:=eY.mp f2;simpa using this.2
 rw[k1,k2];exact ih g1 g2 (a1 j x y hx hy)
theorem zeP{A:Around}{l m:Addr}{is js:Array Value}{e:Nat->Bool}{b:Bool}(p1:s.heap.IsList l is)(p2:s.heap.IsList m js)(hu:A.units<cLine)(he:∀j (h1:j<is.size) (h2:j<js.size),SeqAt.EqAt A.in1 s is[j] js[j] (e j))(hb:b=((List.range (min is.size js.size)).all e&&is.size==js.size)):SeqAt.RcAt A s (.ref l) (.ref m) b:=by
 by_cases hz:is.size=js.size
 ·have:b=(List.range is.size).all e:=by rw[hb,hz];simp
  rw[this];exact SeqAt.RcAt.lists p1 p2 hz hu he
 ·have T5:(is.size != js.size)=true:=by simpa using hz
  have:b=false:=by rw[hb];simp[hz]
  rw[this];exact SeqAt.RcAt.lists_lengths p1 p2 T5 hu
theorem zgd{A:Around}{l m:Addr}{is js:Array Value}{e:Nat->Bool}{b:Bool}(p1:s.heap.IsList l is)(p2:s.heap.IsList m js)(hu:A.units<cLine)(he:∀j (h1:j<is.size) (h2:j<js.size),SeqAt.EqAt A.in1 s is[j] js[j] (e j))(hb:b=((List.range (min is.size js.size)).all e&&is.size==js.size)):SeqAt.RcNeAt A s (.ref l) (.ref m) (!b):=by
 by_cases hz:is.size=js.size
 ·have:b=(List.range is.size).all e:=by rw[hb,hz];simp
  rw[this];exact SeqAt.RcNeAt.lists p1 p2 hz hu he
 ·have T5:(is.size != js.size)=true:=by simpa using hz
  have:b=false:=by rw[hb];simp[hz]
  rw[this];exact SeqAt.RcNeAt.lists_lengths p1 p2 T5 hu
open SeqAt in
theorem Fy:∀(n:Nat) {A:Around} {d1 d2:D} {u1 u2:Value} {b:Bool},A.units+n<cLine->Is s.heap d1 u1->Is s.heap d2 u2->cL n d1 d2=some b->SeqAt.EqAt A s u1 u2 b:=by
 intro n
 induction n with
 |zero=>
  intro A d1 d2 u1 u2 b hu r1 r2 hd;have hu:A.units<cLine:=by lia
  cases r1 with
  |oth k=>rw[tM k] at hd;cases hd
  |non=>cases r2 with
   |oth k=>rw[iw k] at hd;cases hd
   |non=>cases hd;exact EqAt.same _
   |bl y=>cases hd;exact EqAt.none_bool _
   |int y t=>cases hd;exact EqAt.none_int _ _
   |str y t=>cases hd;exact EqAt.none_str _ _
   |tup p q=>cases hd;exact EqAt.none_tuple p hu
   |fl p q=>cases hd;exact EqAt.none_list p hu
  |bl x=>cases r2 with
   |oth k=>rw[iw k] at hd;cases hd
   |non=>cases hd;exact EqAt.bool_none _
   |bl y=>cases hd;exact EqAt.bool_bool _ _
   |int y t=>cases hd;exact EqAt.bool_int _ _ _
   |str y t=>cases hd;exact EqAt.bool_str _ _ _
   |tup p q=>cases hd;exact EqAt.bool_tuple _ p hu
   |fl p q=>cases hd;exact EqAt.bool_list _ p hu
  |int x t=>cases r2 with
   |oth k=>rw[iw k] at hd;cases hd
   |non=>cases hd;exact EqAt.int_none _ _
   |bl y=>cases hd;exact EqAt.int_bool _ _ _
   |int y t=>cases hd;exact EqAt.int_int _ _ _ _
   |str y t=>cases hd;exact EqAt.int_str _ _ _ _
   |tup p q=>cases hd;exact EqAt.int_tuple _ _ p hu
   |fl p q=>cases hd;exact EqAt.int_list _ _ p hu
  |str x t=>cases r2 with
   |oth k=>rw[iw k] at hd;cases hd
   |non=>cases hd;exact EqAt.str_none _ _
   |bl y=>cases hd;exact EqAt.str_bool _ _ _
   |int y t=>cases hd;exact EqAt.str_int _ _ _ _
   |str y t=>cases hd;exact EqAt.str_str _ _ _ _
   |tup p q=>cases hd;exact EqAt.str_tuple _ _ p hu
   |fl p q=>cases hd;exact EqAt.str_list _ _ p hu
  |tup p q=>cases r2 with
   |oth k=>rw[iw k] at hd;cases hd
   |non=>cases hd;exact EqAt.tuple_none p hu
   |bl y=>cases hd;exact EqAt.tuple_bool _ p hu
   |int y t=>cases hd;exact EqAt.tuple_int _ _ p hu
   |str y t=>cases hd;exact EqAt.tuple_str _ _ p hu
   |tup p2 q2=>cases hd
   |fl p2 q2=>cases hd;exact EqAt.tuple_list p p2 hu
  |fl p q=>cases r2 with
   |oth k=>rw[iw k] at hd;cases hd
   |non=>cases hd;exact EqAt.list_none p hu
   |bl y=>cases hd;exact EqAt.list_bool _ p hu
   |int y t=>cases hd;exact EqAt.list_int _ _ p hu
   |str y t=>cases hd;exact EqAt.list_str _ _ p hu
   |tup p2 q2=>cases hd;exact EqAt.list_tuple p p2 hu
   |fl p2 q2=>cases hd
 |succ n ih=>
  intro A d1 d2 u1 u2 b Cy r1 r2 hd;have hu:A.units<cLine:=by lia
  have iy:A.in1.units+n<cLine:=by show A.units+1+n<cLine;lia
  cases r1 with
  |oth k=>rw[tM k] at hd;cases hd
  |non=>cases r2 with
   |oth k=>rw[iw k] at hd;cases hd
   |non=>cases hd;exact EqAt.same _
   |bl y=>cases hd;exact EqAt.none_bool _
   |int y t=>cases hd;exact EqAt.none_int _ _
   |str y t=>cases hd;exact EqAt.none_str _ _
   |tup p q=>cases hd;exact EqAt.none_tuple p hu
   |fl p q=>cases hd;exact EqAt.none_list p hu
  |bl x=>cases r2 with
   |oth k=>rw[iw k] at hd;cases hd
   |non=>cases hd;exact EqAt.bool_none _
   |bl y=>cases hd;exact EqAt.bool_bool _ _
   |int y t=>cases hd;exact EqAt.bool_int _ _ _
   |str y t=>cases hd;exact EqAt.bool_str _ _ _
   |tup p q=>cases hd;exact EqAt.bool_tuple _ p hu
   |fl p q=>cases hd;exact EqAt.bool_list _ p hu
  |int x t=>cases r2 with
   |oth k=>rw[iw k] at hd;cases hd
   |non=>cases hd;exact EqAt.int_none _ _
   |bl y=>cases hd;exact EqAt.int_bool _ _ _
   |int y t=>cases hd;exact EqAt.int_int _ _ _ _
   |str y t=>cases hd;exact EqAt.int_str _ _ _ _
   |tup p q=>cases hd;exact EqAt.int_tuple _ _ p hu
   |fl p q=>cases hd;exact EqAt.int_list _ _ p hu
  |str x t=>cases r2 with
   |oth k=>rw[iw k] at hd;cases hd
   |non=>cases hd;exact EqAt.str_none _ _
   |bl y=>cases hd;exact EqAt.str_bool _ _ _
   |int y t=>cases hd;exact EqAt.str_int _ _ _ _
   |str y t=>cases hd;exact EqAt.str_str _ _ _ _
   |tup p q=>cases hd;exact EqAt.str_tuple _ _ p hu
   |fl p q=>cases hd;exact EqAt.str_list _ _ p hu
  |@tup a1 xs is p q=>cases r2 with
   |oth k=>rw[iw k] at hd;cases hd
   |non=>cases hd;exact EqAt.tuple_none p hu
   |bl y=>cases hd;exact EqAt.tuple_bool _ p hu
   |int y t=>cases hd;exact EqAt.tuple_int _ _ p hu
   |str y t=>cases hd;exact EqAt.tuple_str _ _ p hu
   |@tup a2 ys js p2 q2=>
    by_cases ea:a1=a2
    ·subst ea;have:=T4 (n+1) (.tup p q) (.tup p2 q2) hd;subst this;exact EqAt.same _
    ·obtain⟨e,he,hb⟩:=parts (A:=A.in1) q q2 hd λa b c=>ih iy a b c;rw[hb];exact EqAt.of_refs ea (RcAt.tuples p p2 hu he)
   |fl p2 q2=>cases hd;exact EqAt.tuple_list p p2 hu
  |@fl a1 xs is p q=>cases r2 with
   |oth k=>rw[iw k] at hd;cases hd
   |non=>cases hd;exact EqAt.list_none p hu
   |bl y=>cases hd;exact EqAt.list_bool _ p hu
   |int y t=>cases hd;exact EqAt.list_int _ _ p hu
   |str y t=>cases hd;exact EqAt.list_str _ _ p hu
   |tup p2 q2=>cases hd;exact EqAt.list_tuple p p2 hu
   |@fl a2 ys js p2 q2=>
    by_cases ea:a1=a2
    ·subst ea;have:=T4 (n+1) (.fl p q) (.fl p2 q2) hd;subst this;exact EqAt.same _
    ·obtain⟨e,he,hb⟩:=parts (A:=A.in1) q q2 hd λa b c=>ih iy a b c;exact EqAt.of_refs ea (zeP p p2 hu he hb)
end
section
variable {X:Cx}{cA:Cl}{ao:List (Addr×Obj)}{Z:L2.St}{H:Hp}{s:Shared}{U:Ph}{h:Heap}
open SeqAt in
theorem zgq(Cy:A.units+(n+1)<cLine)(r1:Is s.heap d1 u1)(r2:Is s.heap d2 u2)(hd:cL (n+1) d1 d2=some b):RcAt A s u1 u2 b/\RcNeAt A s u1 u2 (!b):=by
 have hu:A.units<cLine:=by lia
 have iy:A.in1.units+n<cLine:=by show A.units+1+n<cLine;lia
 cases r1 with
 |oth k=>rw[tM k] at hd;cases hd
 |non=>cases r2 with
  |oth k=>rw[iw k] at hd;cases hd
  |non=>cases hd;exact⟨RcAt.none_none,RcNeAt.none_none⟩
  |bl y=>cases hd;exact⟨RcAt.none_bool _,RcNeAt.none_bool _⟩
  |int y t=>cases hd;exact⟨RcAt.none_int _ _,RcNeAt.none_int _ _⟩
  |str y t=>cases hd;exact⟨RcAt.none_str _ _,RcNeAt.none_str _ _⟩
  |tup p q=>cases hd;exact⟨RcAt.none_tuple p hu,RcNeAt.none_tuple p hu⟩
  |fl p q=>cases hd;exact⟨RcAt.none_list p hu,RcNeAt.none_list p hu⟩
 |bl x=>cases r2 with
  |oth k=>rw[iw k] at hd;cases hd
  |non=>cases hd;exact⟨RcAt.bool_none _,RcNeAt.bool_none _⟩
  |bl y=>cases hd;exact⟨RcAt.bool_bool _ _,RcNeAt.bool_bool _ _⟩
  |int y t=>cases hd;exact⟨RcAt.bool_int _ _ _,RcNeAt.bool_int _ _ _⟩
  |str y t=>cases hd;exact⟨RcAt.bool_str _ _ _,RcNeAt.bool_str _ _ _⟩
  |tup p q=>cases hd;exact⟨RcAt.bool_tuple _ p hu,RcNeAt.bool_tuple _ p hu⟩
  |fl p q=>cases hd;exact⟨RcAt.bool_list _ p hu,RcNeAt.bool_list _ p hu⟩
 |int x t=>cases r2 with
  |oth k=>rw[iw k] at hd;cases hd
  |non=>cases hd;exact⟨RcAt.int_none _ _,RcNeAt.int_none _ _⟩
  |bl y=>cases hd;exact⟨RcAt.int_bool _ _ _,RcNeAt.int_bool _ _ _⟩
  |int y t=>cases hd;exact⟨RcAt.int_int _ _ _ _,RcNeAt.int_int _ _ _ _⟩
  |str y t=>cases hd;exact⟨RcAt.int_str _ _ _ _,RcNeAt.int_str _ _ _ _⟩
  |tup p q=>cases hd;exact⟨RcAt.int_tuple _ _ p hu,RcNeAt.int_tuple _ _ p hu⟩
  |fl p q=>cases hd;exact⟨RcAt.int_list _ _ p hu,RcNeAt.int_list _ _ p hu⟩
 |str x t=>cases r2 with
  |oth k=>rw[iw k] at hd;cases hd
  |non=>cases hd;exact⟨RcAt.str_none _ _,RcNeAt.str_none _ _⟩
  |bl y=>cases hd;exact⟨RcAt.str_bool _ _ _,RcNeAt.str_bool _ _ _⟩
  |int y t=>cases hd;exact⟨RcAt.str_int _ _ _ _,RcNeAt.str_int _ _ _ _⟩
  |str y t=>cases hd;exact⟨RcAt.str_str _ _ _ _,RcNeAt.str_str _ _ _ _⟩
  |tup p q=>cases hd;exact⟨RcAt.str_tuple _ _ p hu,RcNeAt.str_tuple _ _ p hu⟩
  |fl p q=>cases hd;exact⟨RcAt.str_list _ _ p hu,RcNeAt.str_list _ _ p hu⟩
 |@tup a1 xs is p q=>cases r2 with
  |oth k=>rw[iw k] at hd;cases hd
  |non=>cases hd;exact⟨RcAt.tuple_none p hu,RcNeAt.tuple_none p hu⟩
  |bl y=>cases hd;exact⟨RcAt.tuple_bool _ p hu,RcNeAt.tuple_bool _ p hu⟩
  |int y t=>cases hd;exact⟨RcAt.tuple_int _ _ p hu,RcNeAt.tuple_int _ _ p hu⟩
  |str y t=>cases hd;exact⟨RcAt.tuple_str _ _ p hu,RcNeAt.tuple_str _ _ p hu⟩
  |@tup a2 ys js p2 q2=>
   obtain⟨e,he,hb⟩:=parts (A:=A.in1) q q2 hd λa b c=>Fy n iy a b c;rw[hb];exact⟨RcAt.tuples p p2 hu he,RcNeAt.tuples p p2 hu he⟩
  |fl p2 q2=>cases hd;exact⟨RcAt.tuple_list p p2 hu,RcNeAt.tuple_list p p2 hu⟩
 |@fl a1 xs is p q=>cases r2 with
  |oth k=>rw[iw k] at hd;cases hd
  |non=>cases hd;exact⟨RcAt.list_none p hu,RcNeAt.list_none p hu⟩
  |bl y=>cases hd;exact⟨RcAt.list_bool _ p hu,RcNeAt.list_bool _ p hu⟩
  |int y t=>cases hd;exact⟨RcAt.list_int _ _ p hu,RcNeAt.list_int _ _ p hu⟩
  |str y t=>cases hd;exact⟨RcAt.list_str _ _ p hu,RcNeAt.list_str _ _ p hu⟩
  |tup p2 q2=>cases hd;exact⟨RcAt.list_tuple p p2 hu,RcNeAt.list_tuple p p2 hu⟩
  |@fl a2 ys js p2 q2=>
   obtain⟨e,he,hb⟩:=parts (A:=A.in1) q q2 hd λa b c=>Fy n iy a b c;exact⟨zeP p p2 hu he hb,zgd p p2 hu he hb⟩
noncomputable def xV(K:W.Frag)(cA:Cl)(f:Bool->Bool):R2:=λx y H Q=>∃U d1 d2 b,Rv K cA U H d1 x/\Rv K cA U H d2 y/\cL 50 d1 d2=some b/\Q (.bl (f b)) H
theorem zlU(hu:X.A.units+60<cLine):fD X (compareOp .Eq) (xV X.K cA id):=by
 rintro ao s Z H x y v u Q I rx ry ⟨U,d1,d2,b,r1,r2,hd,q⟩;exact(zgq (n:=49) gV (zdt I r1 rx) (zdt I r2 ry) hd).1 X.prog X.w X.xe _ ⟨.bl b,H,I,rfl,q⟩
theorem znF(hu:X.A.units+60<cLine):fD X (compareOp .NotEq) (xV X.K cA not):=by
 rintro ao s Z H x y v u Q I rx ry ⟨U,d1,d2,b,r1,r2,hd,q⟩;exact(zgq (n:=49) gV (zdt I r1 rx) (zdt I r2 ry) hd).2 X.prog X.w X.xe _ ⟨.bl (!b),H,I,rfl,q⟩
theorem zgX:∀(n:Nat) {d d' x:D} {u:Value} {b b':Bool},Is h d u->Is h d' u->cL n d x=some b->cL n d' x=some b'->b=b':=by
 intro n;have tn:∀{n:Nat} {xs xs':List D} {x:D},(∀ys,x=.tup ys->False)->cL n (.tup xs) x=cL n (.tup xs') x:=λ{n xs xs' x} hx=>by
  cases n<;>cases x<;>first|rfl|exact(hx _ rfl).elim
 have ln:∀{n:Nat} {xs xs':List D} {x:D},(∀ys,x=.fl ys->False)->cL n (.fl xs) x=cL n (.fl xs') x:=λ{n xs xs' x} hx=>by
  cases n<;>cases x<;>first|rfl|exact(hx _ rfl).elim
 have main:∀{n:Nat},(∀{xs xs' ys:List D} {is js:List Value} {b b':Bool},iJ h xs is->iJ h xs' js->is.toArray=js.toArray->cL n (.tup xs) (.tup ys)=some b->cL n (.tup xs') (.tup ys)=some b'->b=b')->(∀{xs xs' ys:List D} {is js:List Value} {b b':Bool},iJ h xs is->iJ h xs' js->is.toArray=js.toArray->cL n (.fl xs) (.fl ys)=some b->cL n (.fl xs') (.fl ys)=some b'->b=b')->∀{d d' x:D} {u:Value} {b b':Bool},Is h d u->Is h d' u->cL n d x=some b->cL n d' x=some b'->b=b':=by
  intro n R L d d' x u b b' r1 r2 h1 h2;cases r1 with
  |oth k=>rw[tM k] at h1;cases h1
  |non=>cases r2 with
   |oth k=>rw[tM k] at h2;cases h2
   |non=>rw[h1] at h2;exact dz h2
  |bl y=>cases r2 with
   |oth k=>rw[tM k] at h2;cases h2
   |bl=>rw[h1] at h2;exact dz h2
  |int y=>cases r2 with
   |oth k=>rw[tM k] at h2;cases h2
   |int=>rw[h1] at h2;exact dz h2
  |str y=>cases r2 with
   |oth k=>rw[tM k] at h2;cases h2
   |str=>rw[h1] at h2;exact dz h2
  |tup p q=>cases r2 with
   |oth k=>rw[tM k] at h2;cases h2
   |tup p2 q2=>
    cases x with
    |tup ys=>exact R q q2 (Z9 p p2) h1 h2
    |_=>rw[tn (by intro ys z;cases z),h2] at h1;exact(dz h1).symm
   |fl p2 q2=>exact(Fx p2 p).elim
  |fl p q=>cases r2 with
   |oth k=>rw[tM k] at h2;cases h2
   |fl p2 q2=>
    cases x with
    |fl ys=>exact L q q2 (Z_ p p2) h1 h2
    |_=>rw[ln (by intro ys z;cases z),h2] at h1;exact(dz h1).symm
   |tup p2 q2=>exact(Fx p p2).elim
 induction n with
 |zero=>
  intro d d' x u b b' r1 r2;exact main (n:=0) (λ_ _ _ z=>by cases z) (λ_ _ _ z=>by cases z) r1 r2
 |succ n ih=>
  have rows:∀{xs xs' ys:List D} {is js:List Value} {b b':Bool},iJ h xs is->iJ h xs' js->is.toArray=js.toArray->dU (cL n) xs ys=some b->dU (cL n) xs' ys=some b'->b=b':=by
   intro xs xs' ys is js b b' q1 q2 e h1 h2;have e:is=js:=by simpa using e
   subst e;obtain⟨e1,a1,b1⟩:=JZ h1;obtain⟨e2,a2,b2⟩:=JZ h2;have hl:xs.length=xs'.length:=q1.len.trans q2.len.symm;rw[b1,b2,hl]
   congr 1
   rw[Bool.eq_iff_iff,dZ,dZ];have key:∀j∈List.range (min xs'.length ys.length),e1 j=e2 j:=λj hj=>by
    have hj:=tY.mp hj;obtain⟨x1,hx1⟩ : ∃x,xs[j]?=some x:=⟨_,cX (by rw[hl];exact iB hj (Nat.min_le_left _ _))⟩;obtain⟨x2,Ng⟩ : ∃x,xs'[j]?=some x:=⟨_,cX (iB hj (Nat.min_le_left _ _))⟩;obtain⟨y,hy⟩ : ∃y,ys[j]?=some y:=⟨_,cX (iB hj (Nat.min_le_right _ _))⟩;obtain⟨v1,f1,p1⟩:=q1.get hx1;obtain⟨v2,f2,p2⟩:=q2.get Ng;rw[f1] at f2;cases f2;exact ih p1 p2 (a1 j x1 y hx1 hy) (a2 j x2 y Ng hy)
   exact⟨λz j hj=>by rw[<-key j hj];exact z j hj,λz j hj=>by rw[key j hj];exact z j hj⟩
  intro d d' x u b b' r1 r2;exact main (n:=n+1) rows rows r1 r2
theorem T6:∀{xs:List D} {b:Bool},memD x xs=some b->∀d∈xs,∃k,cL 50 d x=some k
 |[],_,_,d,hd=>by cases hd
 |y::xs,b,h,d,hd=>by
  unfold memD at h;cases e1:cL 50 y x with
  |none=>simp only[e1] at h;cases h
  |some a=>
   cases e2:memD x xs with
   |none=>simp only[e1,e2] at h;cases h
   |some c=>
    rcases gF.mp hd with rfl|hd
    ·exact⟨a,e1⟩
    ·exact T6 e2 d hd
theorem T7:∀{xs:List D} {us:List Value} {b:Bool},memD x xs=some b->iJ h xs us->∃e:Value->Bool,(∀u∈us,∃d,Is h d u/\cL 50 d x=some (e u))/\us.any e=b:=by
 intro xs us b hm r;have ex:∀u∈us,∃d k,Is h d u/\cL 50 d x=some k:=by
  intro u hu;obtain⟨i,hi,e⟩:=sV hu;have hl:=r.len;obtain⟨d,hd⟩ : ∃d,xs[i]?=some d:=⟨_,cX gV⟩;obtain⟨u',e1,q⟩:=r.get hd;rw[cX hi,e] at e1;cases e1;obtain⟨k,hk⟩:=T6 hm d (fK hd);exact⟨d,k,q,hk⟩
 refine⟨λu=>by classical exact if z:∃k,∃d,Is h d u/\cL 50 d x=some k then z.choose else false,λu hu=>?_,?_⟩
 ·obtain⟨d,k,q,hk⟩:=ex u hu;have z:∃k,∃d,Is h d u/\cL 50 d x=some k:=⟨k,d,q,hk⟩;dsimp only;rw[dif_pos z];exact z.choose_spec
 ·clear ex;have key:∀(xs:List D) (us:List Value) (b:Bool),memD x xs=some b->iJ h xs us->us.any (λu=>by classical exact if z:∃k,∃d,Is h d u/\cL 50 d x=some k then z.choose else false)=b:=by
   intro xs
   induction xs with
   |nil=>intro us b hm r;cases r;cases hm;rfl
   |cons d ds ih=>
    intro us b hm r;cases r with
    |@cons _ u _ us a r=>
     unfold memD at hm;cases e1:cL 50 d x with
     |none=>simp only[e1] at hm;cases hm
     |some k=>
      cases e2:memD x ds with
      |none=>simp only[e1,e2] at hm;cases hm
      |some c=>
       simp only[e1,e2] at hm;cases hm;rw[List.any_cons];have z:∃k,∃d,Is h d u/\cL 50 d x=some k:=⟨k,d,a,e1⟩;have hk:z.choose=k:=by
        obtain⟨d',q,Bh⟩:=z.choose_spec;exact zgX 50 q a Bh e1
       rw[dif_pos z,hk,ih us c e2 r]
  exact key xs us b hm r
noncomputable def J1(K:W.Frag)(cA:Cl)(f:Bool->Bool):R2:=λx y H Q=>∃U d1 d2 xs b,Rv K cA U H d1 x/\Rv K cA U H d2 y/\jZ d2=some xs/\memD d1 xs=some b/\Q (.bl (f b)) H
theorem znM(hu:X.A.units+60<cLine):fD X (compareOp .In) (J1 X.K cA id):=by
 rintro ao s Z H x y v u Q I rx ry ⟨U,d1,d2,xs,b,r1,r2,hq,hm,q⟩;have iy:X.A.in1.units+50<cLine:=by show X.A.units+1+50<cLine;lia
 have i1:=zdt I r1 rx;cases zdt I r2 ry with
 |tup p r=>
  cases hq;obtain⟨e,he,hb⟩:=T7 hm r;refine SeqAt.in_tupleAt e p (λw hw=>?_) ⟨.bl b,H,I,by rw[<-hb];simp[L2.RelV],q⟩;obtain⟨d,q1,q2⟩:=he w (by simpa using hw);exact Fy 50 iy q1 i1 q2
 |fl p r=>
  cases hq;obtain⟨e,he,hb⟩:=T7 hm r;refine SeqAt.in_listAt e p (λw hw=>?_) ⟨.bl b,H,I,by rw[<-hb];simp[L2.RelV],q⟩;obtain⟨d,q1,q2⟩:=he w (by simpa using hw);exact Fy 50 iy q1 i1 q2
 |oth k=>cases d2<;>cases hq<;>cases k
 |_=>cases hq
end
end Mi
namespace HT
open PySem PyProof.Rows
section
variable {prog:Program}{w:World}{A:Around}{E:Value->Shared->Prop}{s:Shared}
theorem uR{t b:Addr}{vs ws:List Value}{Q:Value->Shared->Prop}(ht:IsTup s.heap t vs.toArray)(hb:IsTup s.heap b ws.toArray)(hv:vs=[])
  (h1:Q (.ref b) s):wpAny (model prog w) A (binaryOp .Add (.ref t) (.ref b)) Q E s:=by
 obtain⟨⟨cls,dd,data,sl⟩,ho,hc,n,hd⟩:=id ht;obtain⟨⟨cls2,dd2,data2,sl2⟩,pG,qw,n2,hd2⟩:=id hb;simp only at hc hd qw hd2;subst hc hd qw hd2;exact concat_meets ⟨_,ho,rfl⟩ ⟨_,pG,rfl⟩ noFill_tuple_add seq_tuple_add Ql Qh (Qf _ _)
   (tuple_addW0 t b vs.toArray ws.toArray n n2 dd dd2 sl sl2 (by simp[hv])) ⟨ho,pG,h1⟩
theorem gJ{t sl:Addr}{items:Array Value}{vl vu:Value}{lo hi:Option Int}{Q:Value->Shared->Prop}(ht:IsTup s.heap t items)(hs:s.heap.IsSliceOf sl vl vu .none)(pl:IsPart vl lo)(pu:IsPart vu hi)
  (hw:bQ items.size 0 lo=0/\bQ items.size items.size hi=items.size) (h:Q (.ref t) s):wpAny (model prog w) A (getItem (.ref t) (.ref sl)) Q E s:=by
 obtain⟨os,Bv,M9,Ii⟩:=id hs;have RK:s.TypeIs (.ref sl) "slice":=⟨os,Bv,M9⟩;unfold getItem
 try with_reducible refine sX ?_
 first|refine aB (aZ ?_)|skip
 refine aB (wpAny_sequenceKey ht.typeIs Vu ?_);refine aB (Ae (name:=Str.ofString "__getitem__") ht.typeIs Dy
  (yL Dy ht.typeIs entry_tuple_getitem ?_ (args_tuple_getitem _ _)))
 show wpAny _ _ (Builtin.Tuple.tupleItemsOf (.ref t) >>= _) _ _ s;refine aB (tupleItemsOf_ ht ?_);refine aB (wpAny_typeOf RK ?_);rw[if_pos Vu];refine aB (Y7 hs pl pu ?_);have T8:(((bQ items.size 0 lo:Nat):Int)==0&&(1:Int)==1&&(bQ items.size items.size hi-bQ items.size 0 lo)==items.size)=true:=by
  rw[hw.1,hw.2];simp
 show wpAny _ _ (if (((bQ items.size 0 lo:Nat):Int)==0&&(1:Int)==1&&(bQ items.size items.size hi-bQ items.size 0 lo)==items.size)=true then _ else _) _ _ s;rw[if_pos T8];refine aB ?_;unfold Builtin.Tuple.tupleIsExact;refine aB (wpAny_typeOf ht.typeIs ?_);refine aZ ?_;rw[if_pos Vu];refine aB (wpAny_rule ?_);exact aZ ⟨_,rfl,aZ h⟩
end
end HT
namespace L2
open PySem PySem.Spec PyProof.Rows
section
variable {X:Cx}{e:Expr}{te:TE}{pos p2:Pos}
noncomputable def uU(K:W.Frag):R2:=λx y H Q=>∃a b xs ys,x=.ref a/\y=.ref b/\fU K H a xs/\fU K H b ys/\xs.length+ys.length<=sizeLine /\
 (xs=[]->Q (.ref b) H)/\(ys=[]->Q (.ref a) H)/\∀p,H p=none->Q (.ref p) (upd H p (.tup (xs++ys)))
theorem uV:fD X (binaryOp .Add) (uU X.K):=by
 intro ao s Z H x y v u Q I rx ry h;obtain⟨a,b,xs,ys,rfl,rfl,ha,hb,hz,q0,q1,q2⟩:=h;cases rx;cases ry;obtain⟨its,r1,p1,_⟩:=I.tuple ha;obtain⟨its2,r2,p2,_⟩:=I.tuple hb;by_cases hx:xs=[]
 ·exact HT.uR p1 p2 (r1.mO.mpr hx) ⟨.ref b,H,I,rfl,q0 hx⟩
 ·refine HT.w6 p1 p2 (λz=>hx (r1.mO.mp z)) (λz=>⟨.ref a,H,I,rfl,q1 (r2.mO.mp z)⟩) (λz=>?_) (by rw[<-r1.length,<-r2.length];exact hz);refine⟨.ref s.heap.objs.size,_,I.laid (t':=s.toks) (o:=.tup (xs++ys)) (λb ob q=>cN _ q) (bK _) ?_,rfl,q2 _ (I.hok.fresh (bK _))⟩;exact⟨by rw[h_];exact hz,_,r1.append r2,jQ.new _ _⟩
noncomputable def zJ(K:W.Frag):V->Option Int->Option Int->Hp->VK->Prop:=λx lo hi H Q=>∃a xs,x=.ref a/\fU K H a xs /\
 ((HT.bQ xs.length 0 lo=0/\HT.bQ xs.length xs.length hi=xs.length)->Q (.ref a) H)/\∀p,H p=none->Q (.ref p) (upd H p (.tup (mL xs lo hi)))
theorem zls:xq X (zJ X.K):=by
 intro ao s Z H x v vl vu lo hi sl Q I rx hs pl pu h;obtain⟨a,xs,rfl,hx,hw,q⟩:=h;by_cases hz:HT.bQ xs.length 0 lo=0/\HT.bQ xs.length xs.length hi=xs.length
 ·cases rx;obtain⟨its,r,ht,_⟩:=I.tuple hx;have hlen:its.toArray.size=xs.length:=by rw[fQ];exact r.length.symm
  refine⟨"tuple",_,Dy.lookup,ht.typeIs,?_⟩;exact HT.gJ ht hs pl pu (by rw[hlen];exact hz) ⟨.ref a,H,I,rfl,hw hz⟩
 ·exact zmm ao s Z H (.ref a) v vl vu lo hi sl Q I rx hs pl pu ⟨a,xs,rfl,hx,hz,q⟩
end
section
variable {X:Cx}
noncomputable def zK(K:W.Frag):R2:=λx y H Q=>∃l b xs zs,x=.ref l/\y=.ref b/\cQ K H l xs/\cQ K H b zs/\xs.length+zs.length<=sizeLine/\∀p,H p=none->Q (.ref p) (upd H p (.lst (xs++zs)))
theorem xW:fD X (binaryOp .Add) (zK X.K):=by
 intro ao s Z H x y v u Q I rx ry h;obtain⟨l,b,xs,zs,rfl,rfl,hH,hB,hz,q⟩:=h;cases rx;cases ry;obtain⟨its,r,pl,_⟩:=I.list hH;obtain⟨its2,r2,pl2,_⟩:=I.list hB;obtain⟨⟨cls,dd,data,sl⟩,ho,hc,n,hd⟩:=pl.isList;obtain⟨⟨cls2,dd2,data2,sl2⟩,pG,qw,n2,hd2⟩:=pl2.isList;simp only at hc hd qw hd2;subst hc hd qw hd2;refine concat_meets ⟨_,ho,rfl⟩ ⟨_,pG,rfl⟩ noFill_list_add seq_list_add PySem.F.slot_list_add PySem.F.entry_list_add (PySem.F.args_list_add_2 _ _) (list_addW l b its.toArray its2.toArray n n2 dd dd2 sl sl2 (by rw[fQ,fQ,<-r.length,<-r2.length];exact hz)) ⟨ho,pG,?_⟩;have ea:its.toArray++its2.toArray=(its++its2).toArray:=by simp
 rw[ea];exact⟨.ref _,_,I.RV (t':=s.toks) (r.append r2) (by rw[h_];omega),rfl,q _ I.fresh⟩
noncomputable def qK(K:W.Frag):R2:=λx y H Q=>pB (λi j=>.int (i+j)) x y H Q\/zK K x y H Q\/uU K x y H Q\/∃i j,x=.str i/\y=.str j/\i.length+j.length<=sizeLine/\Q (.str (i++j)) H
theorem zgP:fD X (binaryOp .Add) (qK X.K):=Br.or (xW.or (uV.or zfl))
end
end L2
namespace Mi
open PySem PySem.Spec PyProof.Rows L2
section
variable {K:W.Frag}{cA:Cl}{U:Ph}{H:Hp}{Q:VK}{p:Pr}
theorem bC.some'{o:Option Rz}(h:bC K cA U H o Q):∃z,o=some z:=by
 cases o with
 |none=>exact h.elim
 |some z=>exact⟨z,rfl⟩
theorem bC.of{o:Option Rz}{z:Rz}(h:bC K cA U H o Q)(e:o=some z):bC K cA U H (some z) Q:=e▸h
theorem bC.here{d:D}{v:V}(h:bC K cA U H (some (.dat d)) Q)(r:Rep K cA U H d v):Q v H:=h H v bf.refl r
theorem bC.tup{xs:List D}{vs:List V}{a:Addr}(h:bC K cA U H (some (.dat (.tup xs))) Q)(z:Zt U H)(r:aD K cA U H xs vs)(hp:H a=none):Q (.ref a) (upd H a (.tup vs)):=
 h _ _ (bf.new hp) (.tup (TupAt.new (z.nz hp)) (r.mono (bf.new hp).ext z.lz))
theorem xR.two{ds:List D}{vs:List V}{d d':D}(h:xR K cA U H [d,d'] vs):∃v v',vs=[v,v']/\Rv K cA U H d v/\Rv K cA U H d' v':=by
 cases h with
 |cons a r=>cases r with
  |cons b r=>cases r;exact⟨_,_,rfl,a,b⟩
theorem xR.one(h:xR K cA U H [d] vs):∃v,vs=[v]/\Rv K cA U H d v:=by
 cases h with
 |cons a r=>cases r;exact⟨_,rfl,a⟩
theorem Rv.int{i:Int}{v:V}(h:Rv K cA U H (.int i) v):v=.int i:=by cases (show Rep K cA U H (.int i) v from h);rfl
theorem Rv.bl{i:Bool}{v:V}(h:Rv K cA U H (.bl i) v):v=.bl i:=by cases (show Rep K cA U H (.bl i) v from h);rfl
theorem Rv.str{i:Str}{v:V}(h:Rv K cA U H (.str i) v):v=.str i:=by cases (show Rep K cA U H (.str i) v from h);rfl
theorem Rv.tup{xs:List D}{v:V}(h:Rv K cA U H (.tup xs) v):∃a vs,v=.ref a/\TupAt K U H a vs/\aD K cA U H xs vs:=by
 cases (show Rep K cA U H (.tup xs) v from h) with
 |tup a r=>exact⟨_,_,rfl,a,r⟩
theorem Rv.sq{d:D}{xs:List D}{v:V}(h:Rv K cA U H d v)(e:jZ d=some xs):∃a vs,v=.ref a/\(cQ K H a vs\/fU K H a vs)/\aD K cA U H xs vs:=by
 cases d with
 |tup ys=>
  cases e;obtain⟨a,vs,e,t,r⟩:=Rv.tup h;exact⟨a,vs,e,.inr t.jh,r⟩
 |fl ys=>
  cases e;obtain⟨a,vs,e,l,r⟩:=h;exact⟨a,vs,e,.inl l,r⟩
 |_=>cases e
theorem zdk{f:Int->Int->Option D}{ds:List D}{z:Rz}(h:cF f ds=some z):∃i j d,ds=[.int i,.int j]/\f i j=some d/\z=.dat d:=by
 cases ds with
 |nil=>cases h
 |cons a t=>
 cases a with
 |int i=>
  cases t with
  |nil=>cases h
  |cons b t=>
  cases b with
  |int j=>
   cases t with
   |cons _ _=>cases h
   |nil=>
    obtain⟨d,e1,e2⟩:=jE.mp h;exact⟨_,_,d,rfl,e1,e2.symm⟩
  |_=>cases h
 |_=>cases h
theorem J3{f:Int->Int->Option D}(hp:prim p=cF f){C:Int->Int->Prop}{g:Int->Int->V}(hf:∀i j d,f i j=some d->C i j/\∀U H,Rep K cA U H d (g i j)):bD K cA p (r2 (rI C g)):=by
 intro U H ds vs Q zt rs o;rw[hp] at o;obtain⟨z,e⟩:=o.some';obtain⟨i,j,d,rfl,e1,rfl⟩:=zdk e;obtain⟨c,r⟩:=hf i j d e1;obtain⟨v,v',rfl,r1,r2⟩:=rs.two (ds:=[]);rw[r1.int,r2.int];exact⟨_,_,rfl,i,j,rfl,rfl,c,(o.of e).here (r U H)⟩
theorem Fz{f:Int->Int->D}(hp:prim p=cF λi j=>some (f i j)){g:Int->Int->V}(hf:∀i j U H,Rep K cA U H (f i j) (g i j)):bD K cA p (r2 (pB g)):=by
 intro U H ds vs Q zt rs o;obtain⟨x,y,e,i,j,a,b,_,q⟩:=J3 (K:=K) (cA:=cA) (C:=λ_ _=>True) hp (λi j d e=>⟨trivial,λU H=>by cases e;exact hf i j U H⟩) U H ds vs Q zt rs o;exact⟨x,y,e,i,j,a,b,q⟩
theorem J5{α:Type}{c:Prop}[Decidable c]{x y:α}(h:(if c then some x else none)=some y):c/\y=x:=by
 split at h
 ·rename_i z;cases h;exact⟨z,rfl⟩
 ·cases h
theorem zmH:bD K cA .aq (r2 (pB λi j=>.int (i-j))):=Fz (f:=λi j=>.int (i-j)) rfl λi j _ _=>.int _
theorem zlw:bD K cA .mul (r2 (rI wZ λi j=>.int (i*j))):=J3 rfl λi j d e=>by obtain⟨c,rfl⟩:=J5 e;exact⟨c,λ_ _=>.int _⟩
theorem zkc:bD K cA .fdiv (r2 (rI wY λi j=>.int (i/j))):=J3 rfl λi j d e=>by obtain⟨c,rfl⟩:=J5 e;exact⟨c,λ_ _=>.int _⟩
theorem zlY:bD K cA .mod (r2 (rI (λ_ j=>0<j) λi j=>.int (i%j))):=J3 rfl λi j d e=>by obtain⟨c,rfl⟩:=J5 e;exact⟨c,λ_ _=>.int _⟩
theorem zmz:bD K cA .pow (r2 (rI HJ λi j=>.int (i^j.toNat))):=J3 rfl λi j d e=>by obtain⟨c,rfl⟩:=J5 e;exact⟨c,λ_ _=>.int _⟩
theorem zpr:bD K cA .le (r2 (pB λi j=>.bl (decide (i<=j)))):=Fz (f:=λi j=>.bl (decide (i<=j))) rfl λi j _ _=>.bl _
theorem zpu:bD K cA .gt (r2 (pB λi j=>.bl (decide (j<i)))):=Fz (f:=λi j=>.bl (decide (j<i))) rfl λi j _ _=>.bl _
theorem zo9:bD K cA .ge (r2 (pB λi j=>.bl (decide (j<=i)))):=Fz (f:=λi j=>.bl (decide (j<=i))) rfl λi j _ _=>.bl _
theorem zmb:bD K cA .neg (λvs H Q=>∃x,vs=[x]/\rU (λi=>.int (-i)) x H Q):=by
 intro U H ds vs Q zt rs o;obtain⟨z,e⟩:=o.some';have e:qH (λi=>.int (-i)) ds=some z:=e;cases ds with
 |nil=>cases e
 |cons a t=>
 cases a with
 |int i=>
  cases t with
  |cons _ _=>cases e
  |nil=>
   cases e;obtain⟨v,rfl,r1⟩:=rs.one;exact⟨_,rfl,_,r1.int,bC.here (o.of rfl) (.int _)⟩
 |_=>cases e
theorem zpa:bD K cA .eq (r2 (xV K cA id)):=by
 intro U H ds vs Q zt rs o;obtain⟨z,e⟩:=o.some';have e:zc id ds=some z:=e;unfold zc at e;split at e
 ·obtain⟨b,e1,e2⟩:=jE.mp e;obtain⟨v,v',rfl,r1,r2⟩:=rs.two (ds:=[]);subst e2;exact⟨_,_,rfl,U,_,_,b,r1,r2,e1,(o.of e).here (.bl _)⟩
 ·cases e
theorem zoE:bD K cA .ne (r2 (xV K cA not)):=by
 intro U H ds vs Q zt rs o;obtain⟨z,e⟩:=o.some';have e:zc not ds=some z:=e;unfold zc at e;split at e
 ·obtain⟨b,e1,e2⟩:=jE.mp e;obtain⟨v,v',rfl,r1,r2⟩:=rs.two (ds:=[]);subst e2;exact⟨_,_,rfl,U,_,_,b,r1,r2,e1,(o.of e).here (.bl _)⟩
 ·cases e
theorem zjP{f:Bool->Bool}{ds:List D}{z:Rz}(h:Fq f ds=some z):∃a b xs k,ds=[a,b]/\jZ b=some xs/\memD a xs=some k/\z=.dat (.bl (f k)):=by
 unfold Fq at h;split at h
 ·obtain⟨k,e1,e2⟩:=jE.mp h;obtain⟨xs,e3,e4⟩:=tW.mp e1;exact⟨_,_,xs,k,rfl,e3,e4,e2.symm⟩
 ·cases h
theorem zpw:bD K cA .inn (r2 (J1 K cA id)):=by
 intro U H ds vs Q zt rs o;obtain⟨z,e⟩:=o.some';obtain⟨a,b,xs,k,rfl,e1,e2,rfl⟩:=zjP (show Fq id ds=some z from e);obtain⟨v,v',rfl,r1,r2⟩:=rs.two (ds:=[]);exact⟨_,_,rfl,U,_,_,xs,k,r1,r2,e1,e2,(o.of e).here (.bl _)⟩
theorem NQ:∀{xs:List D} {ns:List Int} {vs:List V},cD xs=some ns->aD K cA U H xs vs->vs=ns.map V.int
 |[],ns,vs,h,r=>by cases h;cases r;rfl
 |d::xs,ns,vs,h,r=>by
  cases d with
  |int i=>
   simp only[cD,jE] at h;obtain⟨ns',h1,rfl⟩:=h;cases r with
   |cons a r=>cases a;rw[NQ h1 r];rfl
  |_=>simp[cD] at h
theorem T9:∀(a b:List Int),ltI a b=HT.lexLt a b
 |_,[]=>by cases ‹List Int›<;>rfl
 |[],_::_=>rfl
 |x::xs,y::ys=>by
  unfold ltI;rw[T9 xs ys,HT.jU]
theorem zoT:bD K cA .lt (r2 λx y H Q=>pB (λi j=>.bl (decide (i<j))) x y H Q\/Ik K x y H Q):=by
 intro U H ds vs Q zt rs o;obtain⟨z,e⟩:=o.some';have e:Jp ds=some z:=e;unfold Jp at e;split at e
 ·cases e;obtain⟨v,v',rfl,r1,r2⟩:=rs.two (ds:=[]);exact⟨_,_,rfl,.inl ⟨_,_,r1.int,r2.int,bC.here (o.of rfl) (.bl _)⟩⟩
 ·split at e
  ·rename_i a b h1 h2;cases e;obtain⟨v,v',rfl,r1,r2⟩:=rs.two (ds:=[]);obtain⟨p,us,rfl,t1,q1⟩:=r1.tup;obtain⟨p',us',rfl,t2,q2⟩:=r2.tup;have o2:bC K cA U H (some (.dat (.bl (ltI a b)))) Q:=by
    have o3:bC K cA U H (Jp [.tup _,.tup _]) Q:=o;unfold Jp at o3;simp only[h1,h2] at o3;exact o3
   refine⟨_,_,rfl,.inr ⟨p,p',a,b,rfl,rfl,by rw[<-NQ h1 q1];exact t1.jh,by rw[<-NQ h2 q2];exact t2.jh,?_⟩⟩;rw[<-T9];exact o2.here (.bl _)
  ·cases e
 ·cases e
theorem zmu:bD K cA .add (r2 (qK K)):=by
 intro U H ds vs Q zt rs o;have o:bC K cA U H (Cg ds) Q:=o;cases ds with
 |nil=>exact False.elim o
 |cons a t=>
 cases a with
 |int i=>
  cases t with
  |nil=>exact False.elim o
  |cons b t=>
  cases b with
  |int j=>
   cases t with
   |cons _ _=>exact False.elim o
   |nil=>
    obtain⟨v,v',rfl,r1,r2⟩:=rs.two (ds:=[]);exact⟨_,_,rfl,.inl ⟨_,_,r1.int,r2.int,bC.here o (.int _)⟩⟩
  |_=>exact False.elim o
 |tup xs=>
  cases t with
  |nil=>exact False.elim o
  |cons b t=>
  cases b with
  |tup ys=>
   cases t with
   |cons _ _=>exact False.elim o
   |nil=>
    obtain⟨v,v',rfl,r1,r2⟩:=rs.two (ds:=[]);obtain⟨p,us,rfl,t1,q1⟩:=r1.tup;obtain⟨p',us',rfl,t2,q2⟩:=r2.tup;have o:bC K cA U H (if xs.length+ys.length<=sizeLine then some (.dat (.tup (xs++ys))) else none) Q:=o;by_cases hz:xs.length+ys.length<=sizeLine
    ·rw[if_pos hz] at o;refine⟨_,_,rfl,.inr (.inr (.inl ⟨p,p',us,us',rfl,rfl,t1.jh,t2.jh,by rw[<-q1.len,<-q2.len];exact hz,λe=>?_,λe=>?_,λa ha=>o.tup zt (q1.app q2) ha⟩))⟩
     ·subst e;cases q1;exact o.here (.tup t2 q2)
     ·subst e;cases q2;rw[wK] at o;exact o.here (.tup t1 q1)
    ·rw[if_neg hz] at o;exact o.elim
  |_=>exact False.elim o
 |fl xs=>
  cases t with
  |nil=>exact False.elim o
  |cons b t=>
  cases b with
  |fl ys=>
   cases t with
   |cons _ _=>exact False.elim o
   |nil=>
    obtain⟨v,v',rfl,⟨p,us,rfl,t1,q1⟩,⟨p',us',rfl,t2,q2⟩⟩:=rs.two (ds:=[]);have o:bC K cA U H (if xs.length+ys.length<=sizeLine then some (.nw (xs++ys)) else none) Q:=o;by_cases hz:xs.length+ys.length<=sizeLine
    ·rw[if_pos hz] at o;exact⟨_,_,rfl,.inr (.inl ⟨p,p',us,us',rfl,rfl,t1,t2,by rw[<-q1.len,<-q2.len];exact hz,λa ha=>o a _ ha (q1.app q2)⟩)⟩
    ·rw[if_neg hz] at o;exact o.elim
  |_=>exact False.elim o
 |str x=>
  cases t with
  |nil=>exact False.elim o
  |cons b t=>
  cases b with
  |str y=>
   cases t with
   |cons _ _=>exact False.elim o
   |nil=>
    obtain⟨v,v',rfl,r1,r2⟩:=rs.two (ds:=[]);have o:bC K cA U H (if x.length+y.length<=sizeLine then some (.dat (.str (x++y))) else none) Q:=o;by_cases hz:x.length+y.length<=sizeLine
    ·rw[if_pos hz] at o;exact⟨_,_,rfl,.inr (.inr (.inr ⟨_,_,r1.str,r2.str,hz,o.here (.str _)⟩))⟩
    ·rw[if_neg hz] at o;exact o.elim
  |_=>exact False.elim o
 |_=>exact False.elim o
theorem zmk:bD K cA .len (λxs H Q=>∃p ys,xs=[.ref p]/\(cQ K H p ys\/fU K H p ys)/\Q (.int ys.length) H):=by
 intro U H ds vs Q zt rs o;have o:bC K cA U H (rF (λxs=>some (.dat (.int xs.length))) ds) Q:=o;unfold rF at o;split at o
 ·obtain⟨v,rfl,r1⟩:=rs.one;obtain⟨z,e⟩:=o.some';obtain⟨xs,e1,e2⟩:=tW.mp e;obtain⟨a,us,rfl,sq,q⟩:=r1.sq e1;cases e2;refine⟨a,us,rfl,sq,?_⟩;rw[<-q.len];exact(o.of e).here (.int _)
 ·exact o.elim
theorem zkJ:bD K cA .list (λxs H Q=>∃p ys,xs=[.ref p]/\(cQ K H p ys\/fU K H p ys)/\∀l,H l=none->Q (.ref l) (upd H l (.lst ys))):=by
 intro U H ds vs Q zt rs o;have o:bC K cA U H (rF (λxs=>some (.nw xs)) ds) Q:=o;unfold rF at o;split at o
 ·obtain⟨v,rfl,r1⟩:=rs.one;obtain⟨z,e⟩:=o.some';obtain⟨xs,e1,e2⟩:=tW.mp e;obtain⟨a,us,rfl,sq,q⟩:=r1.sq e1;cases e2;exact⟨a,us,rfl,sq,λl hl=>(o.of e) l us hl q⟩
 ·exact o.elim
theorem zis:bD K cA .tuple (λxs H Q=>∃p ys,xs=[.ref p]/\((cQ K H p ys/\∀l,H l=none->Q (.ref l) (upd H l (.tup ys)))\/(fU K H p ys/\Q (.ref p) H))):=by
 intro U H ds vs Q zt rs o;have o:bC K cA U H (pL ds) Q:=o;unfold pL at o;split at o
 ·rename_i d _;obtain⟨v,rfl,r1⟩:=rs.one;cases d with
  |tup xs=>
   obtain⟨a,us,rfl,t,q⟩:=r1.tup;exact⟨a,us,rfl,.inr ⟨t.jh,bC.here o (.tup t q)⟩⟩
  |fl xs=>
   obtain⟨a,us,rfl,t,q⟩:=r1;exact⟨a,us,rfl,.inl ⟨t,λl hl=>bC.tup o zt q hl⟩⟩
  |_=>exact o.elim
 ·exact o.elim
theorem znk:bD K cA .abs (λxs H Q=>∃i,xs=[.int i]/\Q (.int (if i<0 then -i else i)) H):=by
 intro U H ds vs Q zt rs o;have o:bC K cA U H (qH (λi=>.int (if i<0 then -i else i)) ds) Q:=o;cases ds with
 |nil=>exact False.elim o
 |cons a t=>
 cases a with
 |int i=>
  cases t with
  |cons _ _=>exact False.elim o
  |nil=>
   obtain⟨v,rfl,r1⟩:=rs.one;rw[r1.int];exact⟨_,rfl,bC.here o (.int _)⟩
 |_=>exact False.elim o
theorem zkC:bD K cA .xK (λxs H Q=>(∃i,xs=[.int i]/\Q (.int i) H)\/∃k,xs=[.bl k]/\Q (.int (if k then 1 else 0)) H):=by
 intro U H ds vs Q zt rs o;have o:bC K cA U H (Jq ds) Q:=o;cases ds with
 |nil=>exact False.elim o
 |cons a t=>
 cases a with
 |int i=>
  cases t with
  |cons _ _=>exact False.elim o
  |nil=>
   obtain⟨v,rfl,r1⟩:=rs.one;rw[r1.int];exact .inl ⟨_,rfl,bC.here o (.int _)⟩
 |bl k=>
  cases t with
  |cons _ _=>exact False.elim o
  |nil=>
   obtain⟨v,rfl,r1⟩:=rs.one;rw[r1.bl];exact .inr ⟨_,rfl,bC.here o (.int _)⟩
 |_=>exact False.elim o
theorem zk5:bD K cA .max2 (λxs H Q=>∃i j,xs=[.int i,.int j]/\Q (.int (if j>i then j else i)) H):=by
 intro U H ds vs Q zt rs o;obtain⟨x,y,e,i,j,rfl,rfl,q⟩:=Fz (K:=K) (cA:=cA) (p:=.max2) (f:=λi j=>.int (if j>i then j else i)) rfl (λi j _ _=>.int _) U H ds vs Q zt rs o;exact⟨i,j,e,q⟩
theorem zka:bD K cA .min2 (λxs H Q=>∃i j,xs=[.int i,.int j]/\Q (.int (if j<i then j else i)) H):=by
 intro U H ds vs Q zt rs o;obtain⟨x,y,e,i,j,rfl,rfl,q⟩:=Fz (K:=K) (cA:=cA) (p:=.min2) (f:=λi j=>.int (if j<i then j else i)) rfl (λi j _ _=>.int _) U H ds vs Q zt rs o;exact⟨i,j,e,q⟩
theorem zf6:bD K cA .divmod (λxs H Q=>∃i j,xs=[.int i,.int j]/\wY i j/\∀p,H p=none->Q (.ref p) (upd H p (.tup [.int (i/j),.int (i%j)]))):=by
 intro U H ds vs Q zt rs o;have o:bC K cA U H (cF (λi j=>if 0<j/\j<1073741824 then some (.tup [.int (i/j),.int (i%j)]) else none) ds) Q:=o;obtain⟨z,e⟩:=o.some';obtain⟨i,j,d,rfl,e1,rfl⟩:=zdk e;obtain⟨c,rfl⟩:=J5 e1;obtain⟨v,v',rfl,r1,r2⟩:=rs.two (ds:=[]);rw[r1.int,r2.int];exact⟨i,j,rfl,c,λp hp=>(o.of e).tup zt (.cons (.int _) (.cons (.int _) .nil)) hp⟩
theorem T_:∀{xs:List D} {bs:List Bool} {vs:List V},fG xs=some bs->aD K cA U H xs vs->vs=bs.map V.bl
 |[],bs,vs,h,r=>by cases h;cases r;rfl
 |d::xs,bs,vs,h,r=>by
  cases d with
  |bl b=>
   simp only[fG,jE] at h;obtain⟨bs',h1,rfl⟩:=h;cases r with
   |cons q r=>cases q;rw[T_ h1 r];rfl
  |_=>simp[fG] at h
theorem zoZ:bD K cA .ix (r2 (RN K)):=by
 intro U H ds vs Q zt rs o;have o:bC K cA U H (Td ds) Q:=o;unfold Td at o;split at o
 ·rename_i d i _;obtain⟨v,v',rfl,r1,r2⟩:=rs.two (ds:=[]);obtain⟨z,e⟩:=o.some';obtain⟨y,e1,e2⟩:=jE.mp e;obtain⟨xs,e3,e4⟩:=tW.mp e1;obtain⟨a,us,rfl,sq,q⟩:=r1.sq e3;have key:∃w,L2.qy us i=some w/\Rep K cA U H y w:=by
   unfold L2.qy at *;rw[<-q.len];obtain⟨j,h1,h2⟩:=tW.mp e4;obtain⟨w,h3,h4⟩:=q.get h2;exact⟨w,by rw[h1];exact h3,h4⟩
  obtain⟨w,hw,mQ⟩:=key;subst e2;have q':=(o.of e).here mQ;rcases sq with sq|sq
  ·exact⟨_,_,rfl,.inl ⟨a,us,i,w,rfl,r2.int,sq,hw,q'⟩⟩
  ·exact⟨_,_,rfl,.inr (.inl ⟨a,us,i,w,rfl,r2.int,sq,hw,q'⟩)⟩
 ·exact o.elim
noncomputable def rSl(K:W.Frag):V->Option Int->Option Int->Hp->VK->Prop:=λx lo hi H Q=>Ir K x lo hi H Q\/zJ K x lo hi H Q
theorem zlE:xq X (rSl X.K):=xG.or zls
theorem zlg{d:D}{lo hi:Option Int}{v:V}(zt:Zt U H)(r:Rv K cA U H d v)(o:bC K cA U H (cutD d lo hi) Q):rSl K v lo hi H Q:=by
 cases d with
 |tup xs=>
  obtain⟨a,us,rfl,t,q⟩:=r.tup;refine .inr ⟨a,us,rfl,t.jh,λe=>?_,λp hp=>bC.tup o zt q.cut hp⟩;have hc:cut xs lo hi=xs:=by
   unfold cut;rw[q.len,e.1,e.2,List.drop_zero,Nat.sub_zero,<-q.len,Ak]
  have o:bC K cA U H (some (.dat (.tup (cut xs lo hi)))) Q:=o;rw[hc] at o;exact o.here (.tup t q)
 |fl xs=>
  obtain⟨a,us,rfl,t,q⟩:=r;exact .inl ⟨a,us,rfl,t,λp hp=>o p _ hp q.cut⟩
 |_=>exact o.elim
end
end Mi
namespace L2
open PySem PySem.Spec PyProof.Rows
section
variable {κ:Type}[DecidableEq κ]
noncomputable def putK(kvs:List (κ×V))(k:κ)(v:V):List (κ×V):=
 if (kvs.any λkv=>decide (kv.1=k))=true then kvs.map (λkv=>if kv.1=k then (kv.1,v) else kv) else kvs++[(k,v)]
theorem zdN(kvs:List (κ×V))(k:κ)(v:V):(putK kvs k v).length<=kvs.length+1:=by
 unfold putK
 split
 ·rw[bI];lia
 ·rw[h_,gD,Ao];lia
theorem KV.any(r:KV kvs vs)(k:κ):(kvs.any λkv=>decide (kv.1=k))=vs.any λkv=>decide (kv.1=k):=by
 unfold KV at r
 induction r with
 |nil=>rfl
 |cons h t ih=>rw[List.any_cons,List.any_cons,ih,h.1]
theorem KV.repl(r:KV kvs vs)(k:κ)(ry:RelV y u) :
  KV (kvs.map λkv=>if kv.1=k then (kv.1,y) else kv) (vs.map λkv=>if kv.1=k then (kv.1,u) else kv):=by
 unfold KV at r ⊢
 induction r with
 |nil=>exact .nil
 |@cons p q ps qs h t ih=>
  rw[iR,iR];refine .cons ?_ ih;obtain⟨h1,h2⟩:=h;by_cases e:p.1=k
  ·rw[if_pos e,if_pos (h1.symm.trans e)];exact⟨h1,ry⟩
  ·rw[if_neg e,if_neg (λz=>e (h1.trans z))];exact⟨h1,h2⟩
theorem KV.put(r:KV kvs vs)(k:κ)(ry:RelV y u):KV (putK kvs k y) (stored vs k u):=by
 unfold putK stored;rw[r.any k];by_cases e:(vs.any λkv=>decide (kv.1=k))=true
 ·rw[if_pos e,if_pos e];exact r.repl k ry
 ·rw[if_neg e,if_neg e];exact Paired.snoc r ⟨rfl,ry⟩
end
theorem zo2(r:RelV (kV k) u):(cB P w).is k u=true:=by
 cases k with
 |inl i=>obtain⟨t,e⟩:=(show ∃t,u=Value.int i t from r);subst e;exact zdS P w i t
 |inr x=>obtain⟨t,e⟩:=(show ∃t,u=Value.str x t from r);subst e;exact zdX P w x t
section
variable {P:Program}{w:World}{H:Hp}{h:Heap}{a:Addr}
theorem zpv(ok:gR P w H h)(e:Rd H a u):aP P w H h a u:=e.ok ok
theorem zpi(ok:gR P w H h)(e:Rd H a (.dK kvs)):kvs.length<=sizeLine/\(a==sysModules)=false/\∃vs,KV kvs vs/\h.DictOf (cB P w) a vs:=
 show aP P w H h a (.dK kvs) from zpv ok e
theorem zoH(ok:gR P w H h)(e:H a=some (.dK kvs)):kvs.length<=sizeLine/\(a==sysModules)=false/\∃vs,KV kvs vs/\h.DictOf (cB P w) a vs:=zpi ok (.inl e)
end
section
variable {X:Cx}{ao:List (Addr×Obj)}{Z:St}{H:Hp}{s:Shared}{a:Addr}{y v:V}{u r:Value}{o:Option V}{A:Around}{E:Value->Shared->Prop}
theorem Inv.big(I:Inv X ao Z H s):sysModules<s.heap.objs.size:=by
 have h:mainGlobals<s.heap.objs.size:=(I.mod.glob.keeps I.bk).lt;exact Nat.lt_trans Vu h
theorem zf7(I:Inv X ao Z H s)(mu:Ho (H a))(hs:Heap.SameBut a s.heap h')(he:∃q,h'.get? a=some q)(new:aP X.prog X.w (upd H a ob) h' a ob) :
  Inv X ao Z (upd H a ob) {s with heap:=h',toks:=t'}:=
 I.write (x:=a) (e:=a) mu (.inl rfl) (λb q hb z=>(hs.2 b hb).trans z) he new
theorem zlF(z:kvs.length<=sizeLine)(hd:(a==sysModules)=false)(rel:KV kvs vs)(dd:h'.DictOf (cB P w) a vs) :
  aP P w H' h' a (.dK kvs):=⟨z,hd,vs,rel,dd⟩
end
def Cz(i:Expr):Prop:=∀ov iv,subscripted i false ov iv=operate [ov,iv] (getItem ov iv)
theorem zlr{prog:Program}{w:World}{A:Around}{E:Value->Shared->Prop}{s:Shared}{env:Env}{value slice:Expr}{pos:Pos}{T id:String}{Q:Value->Shared->Prop}
  (hl:typeLookup (.type T) "__getitem__"=pure (some (.builtin id))) (hs:Cz slice)
  (h:wpAny (model prog w) A (eval value env) (λo s₁=>wpAny (model prog w) A (eval slice env) (λi s₂=>s₂.TypeIs o T/\wpAny (model prog w) A (getItem o i) Q E s₂) E s₁) E s) :
  wpAny (model prog w) A (eval (.Subscript value slice pos) env) Q E s:=by
 refine Subscript_ (lH h (λo s₁ h₁=>lH h₁ (λi s₂ h₂=>?_) λ_ _ x=>x) λ_ _ x=>x);obtain⟨hT,h₂⟩:=h₂;unfold subscriptTail;refine aB ?_;rw[getitemInPython_of_ne hT.not_modules];refine aB (Mh hT hl ?_);have fin:wpAny (model prog w) A (subscripted slice false o i) (λr s₃=>wpAny (model prog w) A (letTemporaryGo value o r >>= λ_=>pure r) Q E s₃) E s₂:=by
  rw[hs o i];exact wpAny_operating (lH h₂ (λr s₃ h₃=>aB (wpAny_letTemporaryGo (aZ h₃))) λ_ _ x=>x)
 first
  |exact aZ (aB fin)
  |exact aB (aZ (aB fin))
  |exact aB fin
theorem zix(h:Heap)(hb:sysModules<h.objs.size):aP P w H (h.push {cls:=.type "dict",data:=.dict #[]}) h.objs.size (.dK []):=
 ⟨vX _,Ag.mpr (Ne.symm (dX hb)),[],.nil,Heap.DictOf.new h⟩
noncomputable def pU:List (TE×TE)->St->Hp->(List (V×V)->Hp->Prop)->Prop
 |[],_,H,Q=>Q [] H
 |(tk,tv)::r,Z,H,Q=>tk Z H λx H1=>tv Z H1 λy H2=>pU r Z H2 λps H3=>Q ((x,y)::ps) H3
noncomputable abbrev VV:List (V×V)->List (Value×Value)->Prop:=Paired λp q=>RelV p.1 q.1/\RelV p.2 q.2
def NT(X:Cx)(pos:Pos)(keys:List (Option Expr))(values:List Expr)(CG:List (TE×TE)):Prop:=
 ∀(ao:List (Addr×Obj)) (s:Shared) (Z:St) (H:Hp) (Q:List (V×V)->Hp->Prop),Inv X ao Z H s->pU CG Z H Q->
  wpAny (model X.prog X.w) X.A (evalPairs (pairTrees keys values X.env pos)) (λvs s'=>∃ps H',Inv X ao Z H' s'/\VV ps vs/\Q ps H') X.xe s
theorem zkE:NT X pos [] [] []:=λao s Z H Q I h=>pairTrees_nil_walk ⟨[],H,I,.nil,h⟩
theorem ziJ(hk:PE X k tk)(hv:PE X v tv)(hr:NT X pos ks vs CG) :
  NT X pos (some k::ks) (v::vs) ((tk,tv)::CG):=λao s Z H Q I h=>
 pairTrees_cons_walk (bA (hk ao s Z H _ I h) λu s1 hx=>dY hx λx H1 I1 rx q1=>bA (hv ao s1 Z H1 _ I1 q1) λw2 s2 hx=>dY hx λy H2 I2 ry q2=>
  bA (hr ao s2 Z H2 _ I2 q2) λws s3 hx=>dY hx λps H3 I3 rel q3=>⟨(x,y)::ps,H3,I3,.cons ⟨rx,ry⟩ rel,q3⟩)
noncomputable def kh(kvs more:List (Key×V)):List (Key×V):=more.foldl (λacc kv=>putK acc kv.1 kv.2) kvs
theorem KV.merge:∀{more:List (Key×V)} {rs:List (Key×Value)} {kvs:List (Key×V)} {vs:List (Key×Value)},KV more rs->KV kvs vs->KV (kh kvs more) (merged vs rs):=by
 intro more rs kvs vs r;unfold KV at r
 induction r generalizing kvs vs with
 |nil=>intro q;exact q
 |@cons p q ps qs h t ih=>
  intro r0;have e:KV (putK kvs p.1 p.2) (stored vs q.1 q.2):=by
   have:=r0.put p.1 h.2;rw[<-h.1];exact this
  exact ih e
theorem zbf:∀(more kvs:List (Key×V)),(kh kvs more).length<=kvs.length+more.length
 |[],kvs=>by show kvs.length<=kvs.length+0;lia
 |p::r,kvs=>by
  have h1:=zbf r (putK kvs p.1 p.2);have h2:=zdN kvs p.1 p.2;show (kh (putK kvs p.1 p.2) r).length<=_;rw[gD];lia
theorem zco:∀{kvs:List (Key×V)} {ws:List (Value×Value)},VV (kvs.map λkv=>(kV kv.1,kv.2)) ws->∃rs,Carries (cB P w) ws rs/\KV kvs rs
 |[],_,r=>by rw[List.map_nil] at r;cases r;exact⟨[],True.intro,.nil⟩
 |p::kvs,_,r=>by
  rw[iR] at r;cases r with
  |@cons a b as bs h t=>
   obtain⟨rs,c,q⟩:=zco (P:=P) (w:=w) t;obtain⟨b1,b2⟩:=b;exact⟨(p.1,b2)::rs,⟨zo2 h.1,rfl,c⟩,.cons ⟨rfl,h.2⟩ q⟩
noncomputable def J6(CG:List (TE×TE)):TE:=λZ H Q=>∀p,H p=none->pU CG Z (upd H p (.dK [])) λps H2=>H2 p=some (.dK [])/\∃kvs:List (Key×V),ps=kvs.map (λkv=>(kV kv.1,kv.2))/\kvs.length<=15/\Q (.ref p) (upd H2 p (.dK (kh [] kvs)))
theorem zjC(h:NT X pos keys values CG)(mU:keys.all (·.isSome)=true)(hl:keys.length=values.length)(h0:keys≠[])
  (h15:keys.length<=15):PE X (.Dict keys values pos) (J6 CG):=by
 intro ao s Z H Q I q;have hn:=I.hok.fresh (bK s.heap.objs.size);have I1:=I.laid (a:=s.heap.objs.size) (o:=.dK []) (h':=s.heap.push {cls:=.type "dict",data:=.dict #[]}) (t':=s.toks) (λ_ _ q=>cN _ q) (bK _) (zix s.heap I.big);refine wpAny_Dict_walk (knd:=cB X.prog X.w) mU hl h0 h15 (bA (h ao _ Z _ _ I1 (q _ hn)) λws s2 hz=>?_);obtain⟨ps,H2,I2,rel,e,kvs,ep,lk,q2⟩:=hz;subst ep;obtain⟨rs,c,rk⟩:=zco (P:=X.prog) (w:=X.w) rel;obtain⟨z,hd,vs0,r0,dd⟩:=zoH I2.hok e;cases r0;refine⟨rs,c,dd,λh' IK hs=>⟨.ref s.heap.objs.size,_,?_,rfl,q2⟩⟩;have hz:(kh [] kvs).length<=sizeLine:=by
  have h1:=zbf kvs [];rw[Ao] at h1;rw[sY];lia
 have he:∃q,h'.get? s.heap.objs.size=some q:=let ⟨q,_,_,hq,_⟩:=IK;⟨q,hq⟩;exact zf7 I2 (by rw[e];exact True.intro) hs he (zlF hz hd (rk.merge .nil) IK)
end L2
namespace Mi
open PySem PySem.Spec PyProof.Rows L2
section
variable {X:Cx}{cA:Cl}{aq:Nat->Nat->Bool}{aj:Bool}{F:Fn}{EX:XS}{a b c d e o:Expr}{A B C Dd E' O:E}{pos pp p2 apos cpos:Pos}{es:List Expr}{Xs:Es}{fz:Bool}{p:Pr}{x:Str}{U:Ph}{H:Hp}{s:S}{lo hi:Option Expr}{Lo Hi:Eo}
def J7(X:Cx)(cA:Cl)(aq:Nat->Nat->Bool)(aj:Bool)(F:Fn)(EX:XS)(oe:Option Expr)(m:Eo):Prop:=
 PO X oe (λZ H Q=>∃U J s,bx X.K cA U H Z J/\aG X.K cA U H s/\Run X.K cA (xQ aq aj F m J) U H s (λi _ U' H'=>Q i H') (eX X.K cA EX Z))
theorem PO.weak{oe:Option Expr}{t t':TO}(h:PO X oe t)(f:∀Z H Q,t' Z H Q->t Z H Q):PO X oe t':=by
 intro ao s Z H Q I q;exact h ao s Z H Q I (f Z H Q q)
theorem zpA:J7 X cA aq aj F EX none .no:=PO.weak zlm λZ H Q hh=>un hh λU J s hL hS h=>h.bH hS
theorem znS(ha:SE X cA aq aj F EX a A):J7 X cA aq aj F EX (some a) (.yes A):=PO.weak (zkB ha) λZ H Q hh=>un hh λU J s hL hS h=>by
 refine bB hL hS h λx H1 U1 d1 s1 x1 hL1 aJ r1 h1=>?_;obtain⟨i,_,e,h3⟩:=Ft r1 h1;exact⟨i,e,h3.bH aJ⟩
theorem J8{β:Type}{Z:L2.St}{J:Vs}{m:Eo}{k:Option Int->M β}{P:β->S->Ph->Hp->Prop}(hL:bx X.K cA U H Z J)(hS:aG X.K cA U H s)(h:Run X.K cA (M.bd (xQ aq aj F m J) k) U H s P (eX X.K cA EX Z)){Q:Option Int->Hp->Prop}
  (f:∀i H1 U1 s1,Ext U H U1 H1->bx X.K cA U1 H1 Z J->aG X.K cA U1 H1 s1->Run X.K cA (k i) U1 H1 s1 P (eX X.K cA EX Z)->Q i H1) :
  ∃U J s,bx X.K cA U H Z J/\aG X.K cA U H s/\Run X.K cA (xQ aq aj F m J) U H s (λi _ U' H'=>Q i H') (eX X.K cA EX Z):=
 ⟨U,J,s,hL,hS,h.bd.imp λi s1 U1 H1 ⟨x1,r1,h1⟩=>f i H1 U1 s1 x1 (hL.mono x1 hS.lz) r1 h1⟩
theorem zpd(ha:SE X cA aq aj F EX a A)(hl:J7 X cA aq aj F EX lo Lo)(hh:J7 X cA aq aj F EX hi Hi):SE X cA aq aj F EX (.Subscript a (.Slice lo hi none p2) pos) (.sl fz A Lo Hi):=PE.weak (zhS zlE ha hl hh) λZ H Q hh=>un hh λU J s hL hS h=>by
 refine bB hL hS h λx H1 U1 d1 s1 x1 hL1 aJ r1 h1=>J8 hL1 aJ h1 λl H2 U2 s2 x2 hL2 aV h2=>J8 hL2 aV h2 λu H3 U3 s3 x3 xU lV h3=>?_;obtain⟨dd,rv,h4⟩:=JV lV ((r1.mono x2 aJ.lz).mono x3 aV.lz) h3;exact zlg lV.zs rv (rN lV h4)
theorem zdB:∀bs:List Bool,(List.range bs.length).all (λi=>(bs[i]?).getD false)=bs.all id
 |[]=>rfl
 |b::r=>by
  rw[gD,Qm,nQ,Em,nQ];have:=zdB r;simp only[Function.comp_def,Dz,List.getElem?_cons_zero,Option.getD_some,id];rw[this]
theorem zg8(hc:X.aj=true):cU X (.builtin "all") (λxs H Q=>∃(p:Addr) (bs:List Bool),xs=[.ref p]/\cQ X.K H p (bs.map V.bl)/\Q (.bl (bs.all id)) H):=by
 rintro ao s Z H xs us Q I r ⟨p,bs,e,hp,q⟩;subst e;obtain⟨u,rfl,ru⟩:=Vals.one r;cases (show u=Value.ref p from ru);obtain⟨its,rv,pl,hz⟩:=I.list hp;have hl:s.heap.IsList p its.toArray:=pl.isList;have hpn:p≠s.heap.objs.size:=by
  obtain⟨o,hg,_⟩:=hl;exact dX (cg hg)
 refine call_all_walk (LC hl ?_);refine⟨_,_,_,_,_,_,λi=>(bs[i]?).getD false,rfl,Walks.list (A:=X.A.in1) (I.ok.hd hc) _ p hpn its.toArray,⟨⟨_,fL _ rfl,rfl,rfl⟩,hl.push _⟩,?_,λh' tk hk=>?_⟩
 ·intro i v s' Q' E' hP hQ;have hi:its[i]?=some v:=by simpa using hP
  have hb:∃b,bs[i]?=some b:=by
   have dF:i<its.length:=(eY.mp hi).1;have z:=rv.length;rw[bI] at z;exact⟨_,cX gV⟩
  obtain⟨b,hb⟩:=hb;obtain⟨u,e1,e2⟩:=rv.get (i:=i) (x:=V.bl b) (by rw[gC,hb];rfl);rw[hi] at e1;cases e1;cases (show v=Value.bool b from e2);have hQ:Q' ((bs[i]?).getD false) s':=hQ;rw[hb] at hQ;exact vP hQ
 ·have ez:(List.range its.toArray.size).all (λi=>(bs[i]?).getD false)=bs.all id:=by
   have z:=rv.length;rw[bI] at z;rw[fQ,<-z];exact zdB bs
  rw[ez];refine⟨.bl (bs.all id),H,I.kept (h':=h') (t':=tk) (old_kept hk),rfl,q⟩
theorem zn8{K:W.Frag}:bD K cA .all (λxs H Q=>∃(p:Addr) (bs:List Bool),xs=[.ref p]/\cQ K H p (bs.map V.bl)/\Q (.bl (bs.all id)) H):=by
 intro U H ds vs Q zt rs o;have o:bC K cA U H (Cm ds) Q:=o;unfold Cm at o;split at o
 ·obtain⟨v,rfl,⟨ad,us,rfl,l,q⟩⟩:=rs.one;obtain⟨z,e⟩:=o.some';obtain⟨bs,e1,e2⟩:=jE.mp e;subst e2;exact⟨ad,bs,rfl,by rw[<-T_ e1 q];exact l,(o.of e).here (.bl _)⟩
 ·exact o.elim
noncomputable def zA(k:Bool):Value->Bool
 |.bool c=>c==k
 |_=>false
theorem zmA{A:Around}{sh:Shared}{k:Bool}{bs:List Bool}{its:List Value}(rv:Vals (bs.map V.bl) its):∀y,y∈its.toArray->SeqAt.EqAt A sh y (.bool k) (zA k y):=λy hy=>by
 have hy:y∈its:=by simpa using hy
 obtain⟨i,hi,e⟩:=sV hy;have hl:=rv.length;rw[bI] at hl;obtain⟨u,e1,e2⟩:=rv.get (i:=i) (x:=V.bl (bs[i]' gV)) (by rw[gC,cX gV];rfl);rw[cX hi,e] at e1;cases e1;cases e2;exact SeqAt.EqAt.bool_bool _ _
theorem zh9{h:Heap}{x:D}{e:Value->Bool}:∀{xs:List D} {us:List Value},iJ h xs us->(∀u∈us,∃d,Is h d u/\cL 50 d x=some (e u))->(∀d∈xs,∃k,cL 50 d x=some k)->us.countP e=rE x xs:=by
 intro xs
 induction xs with
 |nil=>intro us r _ _;cases r;rfl
 |cons d ds ih=>
  intro us r he hk;cases r with
  |@cons _ u _ us a r=>
   rw[Al,ih r (λu hu=>he u (g_ _ hu)) λd hd=>hk d (g_ _ hd)];obtain⟨d',q,Bh⟩:=he u kJ;obtain⟨k,J9⟩:=hk d kJ;have:=zgX 50 q a Bh J9;show _+_=rE x ds+(if cL 50 d x=some true then 1 else 0);rw[J9,this];cases k<;>rfl
def J_(K:W.Frag)(cA:Cl)(x:V)(xs:List V)(H:Hp)(Q:VK):Prop:=∃U ds d v b,xs=[v]/\Rv K cA U H (.fl ds) x/\Rv K cA U H d v/\memD d ds=some b/\Q (.int (rE d ds:Nat)) H
theorem zg2(hu:X.A.units+60<cLine):M_ X "list.count" (J_ X.K cA):=by
 rintro ao sh Z H x xs v us Q I rx r ⟨U,ds,d,y,b,e2,r1,r2,hm,q⟩;subst e2;obtain⟨u,rfl,ru⟩:=Vals.one r;have iy:X.A.in1.units+50<cLine:=by show X.A.units+1+50<cLine;lia
 have i1:=zdt I r2 ru;cases zdt I r1 rx with
 |@fl l _ its p rr=>
  obtain⟨e,he,_⟩:=T7 hm rr;obtain⟨⟨cls,dd,data,sl⟩,hg,hc,n,hd⟩:=p;simp only at hc hd;subst hc hd;refine Av PySem.F.slot_list_count ⟨_,hg,rfl⟩ PySem.F.entry_list_count (PySem.F.args_list_count_2 _ _) (SeqAt.list_countAt l _ n dd sl u e) ⟨hg,λw hw=>?_,?_⟩
  ·obtain⟨d',q1,q2⟩:=he w (by simpa using hw);exact Fy 50 iy q1 i1 q2
  ·refine⟨.int (rE d ds:Nat),H,I.tok _,?_,q⟩;rw[<-zh9 rr he (T6 hm)];exact⟨_,rfl⟩
 |oth k=>cases k
theorem zfZ:∀{bs:List Bool} {its:List Value} {j:Nat},Vals (bs.map V.bl) its->bs.idxOf? k=some j->∃hj:j<its.length,zA k its[j]=true/\∀m (hm:m<its.length),m<j->zA k its[m]=false
 |[],_,j,.nil,h=>by simp at h
 |b::bs,_,j,.cons r t,h=>by
  cases r;rw[List.idxOf?_cons] at h;by_cases hb:b=k
  ·subst hb;simp at h;subst h;exact⟨DY _,by simp[zA],λm hm z=>absurd z (Mf _)⟩
  ·have hb':(b==k)=false:=by simpa using hb
   rw[hb'] at h;simp at h;obtain⟨j',h1,h2⟩:=h;subst h2;obtain⟨hj,a1,a2⟩:=zfZ t h1;refine⟨by simpa using hj,by simpa using a1,λm hm z=>?_⟩;cases m with
   |zero=>simp[zA,hb']
   |succ m=>simpa using a2 m (by simpa using hm) gV
theorem zf5:M_ X "list.index" (λx xs H Q=>∃(l:Addr) (bs:List Bool) (b:Bool) (j:Nat),x=.ref l/\xs=[.bl b]/\cQ X.K H l (bs.map V.bl)/\bs.idxOf? b=some j/\Q (.int j) H):=by
 rintro ao sh Z H x xs v us Q I rx r ⟨l,bs,b,j,e1,e2,hl,hj,q⟩;subst e1 e2;cases (show v=Value.ref l from rx);obtain⟨u,rfl,ru⟩:=Vals.one r;cases (show u=Value.bool b from ru);obtain⟨its,rv,pl,hz⟩:=I.list hl;obtain⟨⟨cls,dd,data,sl⟩,hg,hc,n,hd⟩:=pl.isList;simp only at hc hd;subst hc hd;obtain⟨dF,h1,h2⟩:=zfZ rv hj;have hs:(j:Int)<2^63-1:=by
  have z:=rv.length;rw[sY] at hz
  lia
 refine Av PySem.F.slot_list_index ⟨_,hg,rfl⟩ PySem.F.entry_list_index (PySem.F.args_list_index_2 _ _) (SeqAt.list_indexAt l its.toArray n dd sl (.bool b) (zA b) j (by simpa using dF) hs (by simpa using h1) (λm hm z=>by simpa using h2 m (by simpa using hm) z)) ⟨hg,zmA rv,?_⟩;exact⟨.int j,H,I.tok _,⟨_,rfl⟩,q⟩
def Ua(K:W.Frag)(cA:Cl)(p:Pr)(r:V->List V->Hp->VK->Prop):Prop:=bD K cA p (λvs H Q=>∃x xs,vs=x::xs/\r x xs H Q)
theorem ziB{K:W.Frag}:Ua K cA .count (J_ K cA):=by
 intro U H ds vs Q zt rs o;have o:bC K cA U H (pN ds) Q:=o;unfold pN at o;split at o
 ·obtain⟨v,v',rfl,r1,r2⟩:=rs.two (ds:=[]);obtain⟨z,e⟩:=o.some';obtain⟨b,e1,e2⟩:=jE.mp e;subst e2;exact⟨_,_,rfl,U,_,_,_,b,rfl,r1,r2,e1,(o.of e).here (.int _)⟩
 ·exact o.elim
theorem zie{K:W.Frag}:Ua K cA .index (λx xs H Q=>∃(l:Addr) (bs:List Bool) (b:Bool) (j:Nat),x=.ref l/\xs=[.bl b]/\cQ K H l (bs.map V.bl)/\bs.idxOf? b=some j/\Q (.int j) H):=by
 intro U H ds vs Q zt rs o;have o:bC K cA U H (pO ds) Q:=o;unfold pO at o;split at o
 ·obtain⟨v,v',rfl,⟨ad,us,rfl,l,q⟩,r2⟩:=rs.two (ds:=[]);obtain⟨z,e⟩:=o.some';obtain⟨j,e1,e2⟩:=jE.mp e;obtain⟨bs,e3,e4⟩:=tW.mp e1;subst e2;exact⟨_,_,rfl,ad,bs,_,j,rfl,by rw[r2.bl],by rw[<-T_ e3 q];exact l,e4,(o.of e).here (.int _)⟩
 ·exact o.elim
noncomputable def kdT:Kd->String
 |.list=>"list"
 |.str=>"str"
 |.tuple=>"tuple"
 |_=>"dict"
theorem zkM{K:W.Frag}{k:Kd}{dd:D}{v:V}(h:pK k dd=true)(r:Rv K cA U H dd v):RP K (kdT k) v H:=by
 cases k<;>cases dd<;>first
  |(cases h;done)
  |(obtain⟨a,vs,rfl,l,_⟩:=r;exact .inl ⟨rfl,vs,l⟩)
  |(rw[r.str];exact rfl)
  |(cases (show Rep K cA U H (.fd _ _) v from r) with|@fd _ _ _ q n=>exact .inr (.inr (.inl ⟨rfl,.inl ⟨_,q⟩⟩)))
  |(cases (show Rep K cA U H (.tup _) v from r) with|tup l _=>exact .inr (.inl ⟨rfl,_,l.jh⟩))
theorem zfU{k:Kd}{id:String}{name:Str}{r:V->List V->Hp->VK->Prop}(pa:PlainAttrs (kdT k))(slot:Slot (kdT k) name id)(RQ:typeOf (.builtin id)=pure (.type "method_descriptor"))(hm:M_ X id r)(hr:Ua X.K cA p r)
  (ho:SE X cA aq aj F EX o O) (ha:SA X cA aq aj F EX (e::es) Xs)
  (fV:attributeBase o name X.env (eval o X.env)=eval o X.env:=by rfl)
  (mR:((backTo cpos (starEach (e::es) X.env)).all (λx=>!x.1)&&(backToKw cpos (keywordEach [] X.env)).all (λx=>x.1.isSome)
  &&decide ((e::es).length+([]:List Keyword).length+(if ([]:List Keyword).isEmpty then 0 else 1)<30))=true:=by rfl)
  (fW:(apos.endLine==cpos.line)=true:=by rfl) (hs:starEach (e::es) X.env=(false,eval e X.env)::starEach es X.env:=by rfl) (dD:(backTo cpos (starEach es X.env)).any (·.1)=false:=by rfl) :
  SE X cA aq aj F EX (.Call (.Attribute o name apos) (e::es) [] cpos) (.meth fz p k O Xs):=PE.weak (Za pa slot RQ hm ho ha fV mR fW hs dD) λZ H Q hh=>un hh λU J s hL hS h=>by
 refine bB hL hS h λx H1 U1 d1 s1 x1 hL1 aJ r1 h1=>?_;obtain⟨dd,rv,h2⟩:=JV aJ r1 h1;by_cases hk:pK k dd=true
 ·rw[if_pos hk] at h2;refine⟨zkM hk rv,m7 hL1 aJ h2 λys H2 U2 ds s2 x2 hL2 aV r2 h3=>?_⟩;obtain⟨ds,rs,h4⟩:=tL aV (.cons (r1.mono x2 aJ.lz) r2) h3;obtain⟨_,_,e,q⟩:=hr U2 H2 ds _ _ aV.zs rs (rN aV h4);cases e;exact q
 ·rw[if_neg hk] at h2;exact h2.elim
noncomputable def NZ:Kd->String->Bool
 |.int,"int"=>true
 |.int,"bool"=>true
 |.bool,"bool"=>true
 |.str,"str"=>true
 |.tuple,"tuple"=>true
 |.list,"list"=>true
 |.dict,"dict"=>true
 |_,_=>false
noncomputable def wg:Kd->Option Value
 |.int=>some (.type "int")
 |.bool=>some (.type "bool")
 |.str=>some (.type "str")
 |.tuple=>some (.type "tuple")
 |.list=>some (.type "list")
 |.dict=>some (.type "dict")
 |_=>none
theorem zma{K:W.Frag}{k:Kd}{cu:Value}(h:wg k=some cu){T:String}(hT:T∈["NoneType","bool","int","str","tuple","list","dict"]):PySem.W.kitOne K (.type T) cu=some (NZ k T):=by
 simp only[gF,List.mem_nil_iff,Aw] at hT;cases k<;>simp only[wg] at h<;>cases h<;>rcases hT with rfl|rfl|rfl|rfl|rfl|rfl|rfl<;>rfl
structure uW(K:W.Frag)(cA:Cl)(aq:Nat->Nat->Bool):Prop where
 xc:∀c,XC K (cA.a c)
 aq:∀c e,PySem.W.kitOne K (.ref (cA.a c)) (.ref (cA.a e))=some (aq c e)
 pI:∀c,PySem.W.kitOne K (.ref (cA.a c)) (.type "ValueError")=some true
noncomputable def FJ(cA:Cl):Kd->V
 |.cls e=>.ref (cA.a e)
 |.pI=>.ty "ValueError"
 |.int=>.ty "int"
 |.bool=>.ty "bool"
 |.str=>.ty "str"
 |.tuple=>.ty "tuple"
 |.list=>.ty "list"
 |.dict=>.ty "dict"
theorem zh4(Cs:wg k=none->uW X.K cA aq) :
  cU X (.builtin "isinstance") (λxs H Q=>∃U d v bb,xs=[v,FJ cA k]/\Rv X.K cA U H d v/\lO aq d k=some bb/\Q (.bl bb) H):=by
 rintro ao sh Z H xs us Q I r ⟨U,d,v,bb,e,rd,hi,q⟩;subst e;obtain⟨u,w,rfl,ru,Ub⟩:=Vals.two r;have uX:∀tk,EP X ao Z Q (.bool bb) {sh with toks:=tk}:=λtk=>⟨.bl bb,H,I.tok tk,rfl,q⟩;have bt:∀{T:String} {Hh:Heap->Prop},PySem.W.KitX X.K u (.type T) Hh->Hh sh.heap->T∈["NoneType","bool","int","str","tuple","list","dict"]->u≠Value.builtin "__main__.__loader__#opaque"->(∃cu,wg k=some cu/\w=cu/\NZ k T=bb)->wpAny (model X.prog X.w) X.A (PySem.call (.builtin "isinstance") [u,w]) (EP X ao Z Q) X.xe sh:=λ{T Hh} zzZ hh hT hx ⟨cu,h1,h2,h3⟩=>by
  subst h2 h3;exact PySem.W.kia_one zzZ I.nZ hh (zma h1 hT) hx uX
 have wv:∀cu,wg k=some cu->w=cu:=λcu h=>by
  cases k<;>simp only[wg] at h<;>cases h<;>exact Ub
 have fin:∀T,lO aq d k=(match wg k with|some _=>some (NZ k T)|none=>none)->∃cu,wg k=some cu/\w=cu/\NZ k T=bb:=λT h=>by
  rw[hi] at h;cases z:wg k with
  |none=>rw[z] at h;cases h
  |some cu=>rw[z] at h;cases h;exact⟨cu,rfl,wv cu z,rfl⟩
 cases d with
 |non=>
  cases (show Rep X.K cA U H .non v from rd);cases (show u=Value.none from ru);exact bt PySem.W.kitx_none trivial Zaa (λz=>nomatch z) (fin "NoneType" (by cases k<;>rfl))
 |bl b=>
  cases rd.bl;cases (show u=Value.bool b from ru);exact bt PySem.W.kitx_bool trivial Zaa (λz=>nomatch z) (fin "bool" (by cases k<;>rfl))
 |int i=>
  cases rd.int;obtain⟨t,z⟩:=(show ∃t,u=Value.int i t from ru);cases z;exact bt PySem.W.kitx_int trivial Zaa (λz=>nomatch z) (fin "int" (by cases k<;>rfl))
 |str y=>
  cases rd.str;obtain⟨t,z⟩:=(show ∃t,u=Value.str y t from ru);cases z;exact bt PySem.W.kitx_str trivial Zaa (λz=>nomatch z) (fin "str" (by cases k<;>rfl))
 |tup xs=>
  obtain⟨ad,vs,rfl,h1,h2⟩:=rd.tup;cases (show u=Value.ref ad from ru);obtain⟨its,_,ht,_⟩:=I.tuple h1.jh;obtain⟨o,q1,q2,_⟩:=ht;exact bt PySem.W.kitx_tuple ⟨o,q1,q2⟩ Zaa (λz=>nomatch z) (fin "tuple" (by cases k<;>rfl))
 |fl xs=>
  obtain⟨ad,vs,rfl,h1,h2⟩:=rd;cases (show u=Value.ref ad from ru);obtain⟨its,_,ht,_⟩:=I.list h1;obtain⟨o,q1,q2,_⟩:=ht.isList;exact bt PySem.W.kitx_list ⟨o,q1,q2⟩ Zaa (λz=>nomatch z) (fin "list" (by cases k<;>rfl))
 |fd ks vs=>
  cases (show Rep X.K cA U H (.fd ks vs) v from rd) with
  |@fd ad kk ii q1 n=>
   cases (show u=Value.ref ad from ru);obtain⟨_,_,vs,_,o,es',ep,g1,g2,_⟩:=(show aP X.prog X.w H sh.heap ad (.dK [(.inr kk,.int ii)]) from I.hok ad _ q1);exact bt PySem.W.kitx_dict ⟨o,g1,g2.1⟩ Zaa (λz=>nomatch z) (fin "dict" (by cases k<;>rfl))
 |ob c fs=>cases k<;>cases hi
 |any=>cases k<;>cases hi
 |exc c fs=>
  cases (show Rep X.K cA U H (.exc c fs) v from rd) with
  |@exc ad _ _ vs hx rs=>
   cases (show u=Value.ref ad from ru);have hI:∃ox od,PySem.W.InstAt sh.heap ad ox (cA.a c) od:=by
    obtain⟨_,⟨_,_,hx⟩|⟨dx,hx,_,hd,_⟩⟩:=hx
    ·obtain⟨⟨oe,vs,g1,g2,g3,g4⟩,_⟩:=(show aP X.prog X.w H sh.heap ad (jX ad (cA.a c) none) from I.hok ad _ hx);exact⟨oe,none,g1,g2,by unfold PySem.W.notCls;rw[g4],by rw[g3];trivial⟩
    ·obtain⟨⟨oe,vs,g1,g2,g3,g4⟩,_⟩:=(show aP X.prog X.w H sh.heap ad (jX ad (cA.a c) (some dx)) from I.hok ad _ hx);obtain⟨mA,⟨od,es,ep,e1,c1⟩,_⟩:=(show aP X.prog X.w H sh.heap dx (.xd _) from I.hok dx _ hd);exact⟨oe,some od,g1,g2,by unfold PySem.W.notCls;rw[g4],by rw[g3];exact e1⟩
   cases k with
   |cls e=>
    cases (show w=Value.ref (cA.a e) from Ub);have z:some (aq c e)=some bb:=hi;cases z;exact PySem.W.kia_one (Zr ((Cs rfl).xc c)) I.nZ hI ((Cs rfl).aq c e) (λz=>nomatch z) uX
   |pI=>
    cases (show w=Value.type "ValueError" from Ub);have z:some true=some bb:=hi;cases z;exact PySem.W.kia_one (Zr ((Cs rfl).xc c)) I.nZ hI ((Cs rfl).pI c) (λz=>nomatch z) uX
   |_=>cases hi
theorem znX(Cs:wg k=none->uW X.K cA aq)(hg:Gl X "isinstance")(hm:X.mg "isinstance"=none)(ha:SE X cA aq aj F EX a A)(hk:PE X kx (tC (FJ cA k)))(h1:starEach [a,kx] X.env=(false,eval a X.env)::starEach [kx] X.env:=by rfl)(h2:starEach [kx] X.env=(false,eval kx X.env)::starEach [] X.env:=by rfl)
  (hpl:(backTo pos (starEach [kx] X.env)).any (·.1)=false:=by rfl):SE X cA aq aj F EX (.Call (.Name "isinstance" pp) [a,kx] [] pos) (.iu A k):=PE.weak (Y4 (zh4 (cA:=cA) (k:=k) Cs) hg hm PyProof.Rows.boot_isinstance (uy ha (uy hk yV h2) h1) Vu Vu h1 hpl) λZ H Q hh=>un hh λU J s hL hS h=>
 bB hL hS h λv H1 U1 d s1 x1 hL1 aJ r1 h1=>by
  show ∃U d' v' bb,[v,FJ cA k]=[v',FJ cA k]/\_;obtain⟨dd,rv,h2⟩:=JV aJ r1 h1;obtain⟨bb,e,h3⟩:=Ny h2;exact⟨U1,dd,v,bb,rfl,rv,e,h3.bH aJ _ (.d (.bl bb))⟩
theorem zkV{j p1 j2 p3}:SE X cA aq aj F EX (.Dict [some (.Constant (.str k) j p1)] [.Constant (.int i) j2 p3] pos) (.uM k i):=PE.weak (zjC (ziJ Yu Yt zkE) rfl rfl Zaa (Nat.le_of_ble_eq_true rfl)) λZ H Q hh=>un hh λU J s hL hS h=>by
 intro p hp;refine⟨iY,[(.inr k,.int i)],rfl,Nat.le_of_ble_eq_true rfl,?_⟩;rw[Yk];exact h U _ (bf.new hp).ext (hS.grow (bf.new hp)) _ (.d (.fd iY (hS.nz hp)))
end
theorem ze0(n:Nat):∀is js:List Int,dU (cL n) (is.map .int) (js.map .int)=some (decide (is=js))
 |[],[]=>rfl
 |[],_::_=>rfl
 |_::_,[]=>rfl
 |i::is,j::js=>by
  have e:cL n (.int i) (.int j)=some (i==j):=by cases n<;>rfl
  simp only[iR,dU,ze0 n is js,e]
  congr 1
  by_cases h:i=j
  ·subst h;by_cases h2:is=js<;>simp[h2]
  ·simp[h]
theorem zlC{a b:Kx}:cL 2 (rM a) (rM b)=some (decide (a=b)):=by
 cases a with
 |non=>cases b<;>rfl
 |int i=>cases b with
  |int j=>
   show some (i==j)=_;by_cases h:i=j
   ·subst h;simp
   ·have hn:¬Kx.int i=Kx.int j:=λz=>h (by cases z;rfl);simp[h,hn]
  |_=>rfl
 |row is=>cases b with
  |row js=>
   show dU (cL 1) (is.map .int) (js.map .int)=_;rw[ze0];by_cases h:is=js
   ·subst h;simp
   ·have hn:¬Kx.row is=Kx.row js:=λz=>h (by cases z;rfl);simp[h,hn]
  |_=>rfl
theorem zfV{x y:List Kx}:cL 3 (jg x) (jg y)=some (decide (x=y)):=by
 show dU (cL 2) (x.map rM) (y.map rM)=_
 induction x generalizing y with
 |nil=>cases y<;>rfl
 |cons a x ih=>cases y with
  |nil=>rfl
  |cons b y=>
   simp only[iR,dU,ih,zlC]
   congr 1
   by_cases h:a=b
   ·subst h;by_cases h2:x=y<;>simp[h2]
   ·simp[h]
theorem zdH:∀{xs:List D} {is:List Int},cD xs=some is->xs=is.map .int
 |[],is,h=>by cases h;rfl
 |x::r,is,h=>by
  cases x with
  |int i=>
   simp only[cD,jE] at h;obtain⟨js,h1,rfl⟩:=h;rw[zdH h1];rfl
  |_=>cases h
theorem zle{d:D}{k:Kx}(h:uO d=some k):d=rM k:=by
 cases d with
 |non=>cases h;rfl
 |int i=>cases h;rfl
 |tup xs=>
  simp only[uO,jE] at h;obtain⟨js,h1,rfl⟩:=h;rw[zdH h1];rfl
 |_=>cases h
theorem zjg:∀{xs:List D} {k:List Kx},Cv xs=some k->xs=k.map rM
 |[],k,h=>by cases h;rfl
 |x::r,k,h=>by
  unfold Cv at h;cases e1:uO x with
  |none=>simp only[e1] at h;cases h
  |some a=>cases e2:Cv r with
   |none=>simp only[e1,e2] at h;cases h
   |some b=>
    simp only[e1,e2] at h;cases h;rw[zle e1,zjg e2];rfl
theorem znG{d:D}{k:List Kx}(h:kOf d=some k):d=jg k:=by
 cases d with
 |tup xs=>show D.tup xs=.tup _;rw[zjg h]
 |_=>cases h
noncomputable def kxT:Kx->Nat
 |.row is=>is.length+1
 |_=>1
noncomputable def uY:List Kx->Nat
 |[]=>0
 |x::r=>kxT x+uY r
section
variable {prog:Program}{w:World}{A:Around}{E:Value->Shared->Prop}{s:Shared}{h h':Heap}
theorem zef:∀{is:List Int} {us:List Value},iJ h (is.map .int) us->ItemsAre (intKind prog w) is us
 |[],us,r=>by cases r;exact .nil
 |i::is,us,r=>by
  cases r with
  |cons a r=>cases a with
   |int i t=>exact .cons (by simp[intKind,Value.isInt]) (zef r)
   |oth k=>cases k
theorem uZ{is:List Int}{a:Value}(x:Is h (.tup (is.map .int)) a):∃b,a=.ref b/\IsTupleKey (intKind prog w) h is b:=by
 cases x with
 |tup p r=>
  obtain⟨o,e,c,n,d⟩:=p;exact⟨_,rfl,o,_,n,e,c,d,by simpa using zef r⟩
 |oth k=>cases k
theorem zlb{x:Kx}{u:Value}{Q:Int->Shared->Prop}(hu:A.units<cLine)(hx:Is s.heap (rM x) u)(q:Q (TJ x) {s with toks:=s.toks+kxT x}):wpAny (model prog w) A (pyHash u) Q E s:=by
 cases x with
 |non=>
  cases hx with
  |non=>exact PySem.W.pyHash_slot (T:="NoneType") rfl F.slot_NoneType_hash F.entry_NoneType_hash (F.args_NoneType_hash_1 _) (beq_builtin_none _) (.inr hu) (aB (aZ (aB (wpAny_mkInt (aZ ⟨_,_,rfl,q⟩)))))
  |oth k=>cases k
 |int i=>
  cases hx with
  |int i t=>exact wpAny_pyHash_int q
  |oth k=>cases k
 |row is=>
  obtain⟨b,rfl,k⟩:=uZ (prog:=prog) (w:=w) hx;exact wpAny_pyHash_tuple hu k q
theorem zdj{k:List Kx}:∀{r:List Kx} {us:List Value} {b:Array Int} {s:Shared} {Q:Array Int->Shared->Prop},A.units<cLine->iJ s.heap (r.map rM) us->(∀b':Array Int,b'.toList=b.toList++r.map TJ->Q b' {s with toks:=s.toks+uY r})->
  wpAny (model prog w) A (forIn us b λx r=>do let h <-pyHash x;pure PUnit.unit;pure (ForInStep.yield (r.push h))) Q E s
 |[],us,b,s,Q,hu,x,q=>by cases x;exact aZ (q b Zaa)
 |a::r,us,b,s,Q,hu,x,q=>by
  cases x with
  |cons x1 x2=>
   rw[Ef];refine aB (aB (zlb hu x1 (aB (aZ (aZ ?_)))));refine zdj (k:=k) hu x2 λb' e=>?_;have:=q b' (by simp[e]);simpa [uY,Nat.add_assoc] using this
theorem zhG{k:List Kx}{a:Addr}{Q:Int->Shared->Prop}(hu:A.units+1<cLine)(hk:Is s.heap (jg k) (.ref a))(q:Q (qJ k) {s with toks:=s.toks+(uY k+1)}):wpAny (model prog w) A (pyHash (.ref a)) Q E s:=by
 cases hk with
 |oth k=>cases k
 |tup p r=>
  obtain⟨o,e,c,n,d⟩:=p;refine PySem.W.pyHash_slot (T:="tuple") ⟨_,e,c⟩ F.slot_tuple_hash F.entry_tuple_hash (F.args_tuple_hash_1 _) (beq_builtin_none _) (.inr gV) ?_;show wpAny _ _ (Builtin.Tuple.tupleItemsOf (.ref a) >>= _) _ _ s;refine aB (wpAny_tupleItemsOf e d (aB ?_));rw[<-Qy];refine zdj (A:=A.in1) (k:=k) (show A.units+1<cLine from hu) (by simpa using r) λb hb=>?_;show wpAny _ _ (retInt (Builtin.Tuple.tupleHashOf b.toList)) _ _ _;rw[hb];exact aB (wpAny_mkInt (aZ ⟨_,_,rfl,by simpa [Nat.add_assoc,qJ] using q⟩))
theorem zhX(ht:∀a xs,h.IsTuple a xs->h'.IsTuple a xs)(hl:∀a xs,h.IsList a xs->h'.IsList a xs){d:D}{u:Value}(x:Is h d u):Is h' d u:=
 Is.rec (motive_1:=λd u _=>Is h' d u) (motive_2:=λd u _=>iJ h' d u) .non .bl .int .str (λp _ r=>.tup (ht _ _ p) r) (λp _ r=>.fl (hl _ _ p) r) (λk=>.oth k) .nil (λ_ _ a r=>.cons a r) x
theorem zia:∀{n:Nat} {x:Kx} {u:Value} {Q:Bool->Shared->Prop},Is s.heap (rM x) u->Q true s->wpAny (model prog w) A (eqIsQuiet (n+1) u) Q E s:=by
 intro n x u Q hx q;cases x with
 |non=>
  cases hx with
  |non=>rw[eqIsQuiet_byValue _ rfl];exact aZ q
  |oth k=>cases k
 |int i=>
  cases hx with
  |int i t=>rw[eqIsQuiet_byValue _ rfl];exact aZ q
  |oth k=>cases k
 |row is=>
  obtain⟨b,rfl,k⟩:=uZ (prog:=prog) (w:=w) hx;have ty:=k.typeIs;obtain⟨o,items,m,ho,_,hd,hi⟩:=k;unfold eqIsQuiet;refine aB (Mh ty F.slot_tuple_eq.lookup ?_);show wpAny _ A (isInstance (.ref b) (.type "tuple") >>= _) Q E s;refine aB (L_ ty isSubtype_tuple_tuple ?_);simp only[Bool.not_true,yJ,sZ];refine aB (qW ho hd (aB ?_));show wpAny _ A (forIn items _ _) _ E s;rw[<-Qy];refine wpAny_forIn_list _ (λl r t=>r.1=none/\t=s/\∀v∈l,carriedByValue v=true) _ (λv l r t z=>?_) (λr t z=>?_) _ _ ⟨rfl,rfl,hi.byValue⟩
  ·obtain⟨_,rfl,mU⟩:=z;rw[eqIsQuiet_byValue _ (mU v kJ)];exact aB (aZ (aZ ⟨rfl,rfl,λy hy=>mU y (g_ _ hy)⟩))
  ·obtain⟨r1,r2⟩:=r;obtain⟨z1,rfl,_⟩:=z;cases z1;exact aZ q
theorem zg7{k:List Kx}{a:Addr}{Q:Bool->Shared->Prop}(hk:Is s.heap (jg k) (.ref a))(q:Q true s):wpAny (model prog w) A (eqIsQuiet 8 (.ref a)) Q E s:=by
 cases hk with
 |oth k=>cases k
 |@tup _ _ its p r=>
  obtain⟨o,ho,c,n,hd⟩:=p;unfold eqIsQuiet;refine aB (Mh ⟨_,ho,c⟩ F.slot_tuple_eq.lookup ?_);show wpAny _ A (isInstance (.ref a) (.type "tuple") >>= _) Q E s;refine aB (L_ ⟨_,ho,c⟩ isSubtype_tuple_tuple ?_);simp only[Bool.not_true,yJ,sZ];refine aB (qW ho hd (aB ?_));show wpAny _ A (forIn its.toArray _ _) _ E s;rw[<-Qy];refine wpAny_forIn_list _ (λl r t=>r.1=none/\t=s/\∀v∈l,∃x,Is s.heap (rM x) v) _ (λv l r t z=>?_) (λr t z=>?_) _ _ ⟨rfl,rfl,?_⟩
  ·obtain⟨_,rfl,mU⟩:=z;obtain⟨x,hx⟩:=mU v kJ;exact aB (zia (n:=6) hx (aZ ⟨rfl,rfl,λy hy=>mU y (g_ _ hy)⟩))
  ·obtain⟨r1,r2⟩:=r;obtain⟨z1,rfl,_⟩:=z;cases z1;exact aZ q
  ·intro v hv;have:∀{ks:List Kx} {us:List Value},iJ s.heap (ks.map rM) us->∀v∈us,∃x,Is s.heap (rM x) v:=λ{ks}=>by
    induction ks with
    |nil=>intro us r v hv;cases r;cases hv
    |cons y ks ih=>
     intro us r v hv;cases r with
     |cons a r=>
      rcases gF.mp hv with rfl|hv
      ·exact⟨y,a⟩
      ·exact ih r v hv
   exact this r v (by simpa using hv)
end
noncomputable def jK(prog:Program)(w:World):HeapKind prog w (List Kx) where
 is:=λh k a=>Is h (jg k) (.ref a)
 hash:=qJ
 draws:=λk=>uY k+1
 room:=λA=>A.units+4<cLine
 inj:=λx y=>fO (T4 3 x y zfV)
 keeps:=λ{h h' k a d o es ep} x ho hd hs=>zhX (λb xs ⟨q,e,c,n,z⟩=>⟨q,(hs.2 b λy=>by subst y;rw[ho] at e;cases e;rw[hd] at z;cases z).trans e,c,n,z⟩) (λb xs ⟨q,e,c,n,z⟩=>⟨q,(hs.2 b λy=>by subst y;rw[ho] at e;cases e;rw[hd] at z;cases z).trans e,c,n,z⟩) x
 pyHash:=λhu hk q=>zhG gV hk q
 eqBool:=λ{A E s x y a b Q} hu hx hy q=>Fy 3 (show A.units+3<cLine by lia) hx hy zfV _ _ _ _ q
 quiet:=λhk q=>zg7 hk q
section
variable {K:W.Frag}{cA:Cl}{U U':Ph}{H H':Hp}{s:S}
theorem TupAt.kj(e:∀a,U'.z a->U.z a){a:Addr}{vs:List V}(h:TupAt K U H a vs):TupAt K U' H a vs:=h.imp (λ⟨p,n⟩=>⟨p,λz=>n (e a z)⟩) id
theorem LstAt.kj(e:∀a,U'.z a->U.z a){a:Addr}{vs:List V}(h:LstAt K U H a vs):LstAt K U' H a vs:=h.imp (λ⟨p,n⟩=>⟨p,λz=>n (e a z)⟩) id
theorem ExcAt.kj(e:∀a,U'.z a->U.z a){a:Addr}{c:Nat}{vs:List V}(h:ExcAt cA U H a c vs):ExcAt cA U' H a c vs:=
 ⟨λz=>h.1 (e a z),h.2.imp id λ⟨dx,p,n,q,l⟩=>⟨dx,p,λz=>n (e dx z),q,l⟩⟩
theorem pR.kj(e:∀a,U'.z a->U.z a){a:Addr}{c:Nat}{vs:List V}(h:pR cA U H a c vs):pR cA U' H a c vs:=⟨λz=>h.1 (e a z),h.2⟩
theorem Rep.kj(e:∀a,U'.z a->U.z a){d:D}{v:V}(h:Rep K cA U H d v):Rep K cA U' H d v:=
 Rep.rec (motive_1:=λd v _=>Rep K cA U' H d v) (motive_2:=λd v _=>aD K cA U' H d v) .non .bl .int .str (λh _ i=>.tup (h.kj e) i) (λh _ i=>.fl (h.kj e) i) (λh n=>.fd h (λz=>n (e _ z))) (λh _ i=>.exc (h.kj e) i) (λh _ i=>.ob (h.kj e) i) .any .nil (λ_ _ i j=>.cons i j) h
theorem aD.kj(e:∀a,U'.z a->U.z a){d:List D}{v:List V}(h:aD K cA U H d v):aD K cA U' H d v:=
 aD.rec (motive_1:=λd v _=>Rep K cA U' H d v) (motive_2:=λd v _=>aD K cA U' H d v) .non .bl .int .str (λh _ i=>.tup (h.kj e) i) (λh _ i=>.fl (h.kj e) i) (λh n=>.fd h (λz=>n (e _ z))) (λh _ i=>.exc (h.kj e) i) (λh _ i=>.ob (h.kj e) i) .any .nil (λ_ _ i j=>.cons i j) h
theorem kY.kj(e:∀a,U'.z a->U.z a){a:Addr}{o:SO}(h:kY K cA U H a o):kY K cA U' H a o:=h.map (λ_ q=>q) λ_ _ r=>r.kj e
theorem Rep.zl{d:D}{v:V}(h:Rep K cA U H d v)(l:List Addr):Rep K cA ⟨U.z,l⟩ H d v:=Rep.kj (U:=U) (U':=⟨U.z,l⟩) (λ_ z=>z) h
theorem aD.zl{d:List D}{v:List V}(h:aD K cA U H d v)(l:List Addr):aD K cA ⟨U.z,l⟩ H d v:=aD.kj (U:=U) (U':=⟨U.z,l⟩) (λ_ z=>z) h
theorem kY.zl{a:Addr}{o:SO}(h:kY K cA U H a o)(l:List Addr):kY K cA ⟨U.z,l⟩ H a o:=kY.kj (U:=U) (U':=⟨U.z,l⟩) (λ_ z=>z) h
noncomputable def adr(l:List Addr):List Nat->List Addr
 |[]=>[]
 |n::r=>match l[n]? with
  |some a=>a::adr l r
  |none=>adr l r
theorem FN{l:List Addr}:∀{ns:List Nat} {a:Addr},a∈adr l ns->∃n∈ns,l[n]?=some a
 |[],a,h=>by cases h
 |n::r,a,h=>by
  unfold adr at h;cases e:l[n]? with
  |none=>
   simp only[e] at h;obtain⟨m,h1,h2⟩:=FN h;exact⟨m,g_ _ h1,h2⟩
  |some b=>
   simp only[e] at h;rcases gF.mp h with rfl|h
   ·exact⟨n,kJ,e⟩
   ·obtain⟨m,h1,h2⟩:=FN h;exact⟨m,g_ _ h1,h2⟩
theorem zeF{s:S}:∀{ns:List Nat} {s0:S} {i n:Nat},jf s ns=some s0->ns[i]?=some n->s0[i]?=s[n]?/\∃o,s[n]?=some o
 |[],s0,i,n,h,e=>by simp at e
 |m::r,s0,i,n,h,e=>by
  unfold jf at h;cases e1:s[m]? with
  |none=>simp only[e1] at h;cases h
  |some o=>
   cases e2:jf s r with
   |none=>simp only[e1,e2] at h;cases h
   |some q=>
    simp only[e1,e2] at h;cases h;cases i with
    |zero=>simp at e;subst e;exact⟨by simp[e1],o,e1⟩
    |succ i=>simpa using zeF e2 (by simpa using e)
theorem zeA{s:S}:∀{ns:List Nat} {s0:S},jf s ns=some s0->s0.length=ns.length
 |[],s0,h=>by cases h;rfl
 |m::r,s0,h=>by
  unfold jf at h;cases e1:s[m]? with
  |none=>simp only[e1] at h;cases h
  |some o=>
   cases e2:jf s r with
   |none=>simp only[e1,e2] at h;cases h
   |some q=>
    simp only[e1,e2] at h;cases h;rw[gD,gD,zeA e2]
theorem Ka{l:List Addr}:∀{ns:List Nat} {i n:Nat},(∀n∈ns,∃a,l[n]?=some a)->ns[i]?=some n->(adr l ns)[i]?=l[n]?
 |[],i,n,_,e=>by simp at e
 |m::r,i,n,h,e=>by
  obtain⟨a,ha⟩:=h m kJ;unfold adr;simp only[ha];cases i with
  |zero=>simp at e;subst e;simp[ha]
  |succ i=>simpa using Ka (λn hn=>h n (g_ _ hn)) (by simpa using e)
theorem Kc{l:List Addr}:∀{ns:List Nat},(∀n∈ns,∃a,l[n]?=some a)->(adr l ns).length=ns.length
 |[],_=>rfl
 |m::r,h=>by
  obtain⟨a,ha⟩:=h m kJ;unfold adr;simp only[ha];rw[gD,gD,Kc (λn hn=>h n (g_ _ hn))]
theorem zdl{l:List Addr}(hl:l.Nodup):∀{ns:List Nat},ns.Nodup->(∀n∈ns,∃a,l[n]?=some a)->(adr l ns).Nodup
 |[],_,_=>Aq
 |m::r,hn,h=>by
  obtain⟨a,ha⟩:=h m kJ;unfold adr;simp only[ha];obtain⟨h1,h2⟩:=yN.mp hn;refine yN.mpr ⟨λz=>?_,zdl hl h2 (λn hn=>h n (g_ _ hn))⟩;obtain⟨n,q1,q2⟩:=FN z;have:m=n:=(Qz (eY.mp ha).1 hl).mp (ha.trans q2.symm);exact h1 (this▸q1)
theorem FP{s:S}:∀{ns:List Nat} {s1:S},(cW s ns s1).length=s.length
 |[],s1=>by cases s1<;>rfl
 |n::r,[]=>rfl
 |n::r,o::q=>by
  show (cW (s.set n o) r q).length=_;rw[FP,lF]
theorem Uc{s:S}:∀{ns:List Nat} {s1:S} {m:Nat},m∉ns->(cW s ns s1)[m]?=s[m]?
 |[],s1,m,_=>by cases s1<;>rfl
 |n::r,[],m,_=>rfl
 |n::r,o::q,m,h=>by
  show (cW (s.set n o) r q)[m]?=_;rw[Uc (λz=>h (g_ _ z)),o_ (λz=>h (by rw[z];exact kJ))]
theorem ze1{s:S}:∀{ns:List Nat} {s1:S} {i m:Nat} {o:SO},ns.Nodup->ns[i]?=some m->s1[i]?=some o->m<s.length->(cW s ns s1)[m]?=some o
 |[],s1,i,m,o,_,e,_,_=>by simp at e
 |n::r,[],i,m,o,_,_,e,_=>by simp at e
 |n::r,q::qs,i,m,o,hn,e1,e2,hm=>by
  show (cW (s.set n q) r qs)[m]?=_;obtain⟨h1,h2⟩:=yN.mp hn;cases i with
  |zero=>
   simp at e1 e2;subst e1 e2;rw[Uc h1,vM hm]
  |succ i=>exact ze1 h2 (by simpa using e1) (by simpa using e2) (by rw[lF];exact hm)
theorem zgM:∀{xs:List Xv} {vs:List V} (l0:List Addr) (z:Addr->Prop) (k:Nat),aW K cA U H xs vs->U.z=z->(∀i n,(locs xs)[i]?=some n->l0[k+i]?=U.l[n]?)->aW K cA ⟨z,l0⟩ H (dG k xs) vs
 :=by
 intro xs vs l0 z k r0
 induction r0 generalizing k with
 |nil=>exact λ_ _=>.nil
 |@cons x v xs vs a q ih=>
  intro ez h;cases a with
  |d a=>exact .cons (.d (a.kj λb hb=>by rw[ez];exact hb)) (ih k ez h)
  |@l n a' a=>
   refine .cons (.l ?_) (ih (k+1) ez λi m e=>?_)
   ·have:=h 0 n rfl;rw[Nat.add_zero] at this;show l0[k]?=_;rw[this];exact a
   ·have:=h (i+1) m (by simpa [locs] using e);rw[<-this]
    congr 1
    lia
theorem zfo:∀{xs:List Xv} {vs:List V},aW K cA U H xs vs->∀n∈locs xs,∃a,U.l[n]?=some a
 :=by
 intro xs vs r0
 induction r0 with
 |nil=>exact λn h=>by cases h
 |cons a q ih=>
  intro n h;cases a with
  |d a=>exact ih n h
  |l a=>
   rcases gF.mp h with rfl|h
   ·exact⟨_,a⟩
   ·exact ih n h
theorem zda{xs:List Xv}{U1:Ph}{s0 s1:S}(hS:aG K cA U H s)(hn:(locs xs).Nodup)(ht:∀n∈locs xs,∃a,U.l[n]?=some a)(x:Ext ⟨U.z,adr U.l (locs xs)⟩ H U1 H')(r1:aG K cA U1 H' s1) :
  Ext U H ⟨U1.z,U.l⟩ H'/\aG K cA ⟨U1.z,U.l⟩ H' (cW s (locs xs) s1):=by
 have aq:∀a∈adr U.l (locs xs),a∈U.l:=λa ha=>by obtain⟨n,_,q⟩:=FN ha;exact fK q
 obtain⟨r,er,hr⟩:=x.more;have er:U1.l=adr U.l (locs xs)++r:=er;refine⟨⟨⟨[],by simp,by simp⟩,λa h=>x.tH a h,λa h=>x.m6 a h,λa o h n=>x.frame a o h λz=>n (aq a z),x.stay⟩,?_⟩;refine⟨by rw[FP];exact hS.len,λn o a e1 e2=>?_,hS.uniq,λa ha=>x.tH a (hS.lz a ha),r1.zt⟩;have e2:U.l[n]?=some a:=e2;by_cases iy:n∈locs xs
 ·obtain⟨i,hi,ei⟩:=sV iy;have ei:(locs xs)[i]?=some n:=by rw[cX hi,ei]
  have ha:(adr U.l (locs xs))[i]?=some a:=by rw[Ka ht ei];exact e2
  have ha1:U1.l[i]?=some a:=by rw[er,lD (eY.mp ha).1];exact ha
  have dF:i<s1.length:=by rw[<-r1.len];exact(eY.mp ha1).1
  have hb:=ze1 (s:=s) (s1:=s1) hn ei (cX dF) (by rw[<-hS.len];exact(eY.mp e2).1);rw[hb] at e1;cases e1;exact kY.zl (r1.obj i _ a (cX dF) ha1) _
 ·rw[Uc iy] at e1;have Ud:a∉adr U.l (locs xs):=λz=>by
   obtain⟨m,q1,q2⟩:=FN z;have:n=m:=(Qz (eY.mp e2).1 hS.uniq).mp (e2.trans q2.symm);exact iy (this▸q1)
  exact(hS.obj n o a e1 e2).map (λ_ q=>x.frame a _ q Ud) λ_ _ r=>Rep.zl ((Rep.zl r _).mono x λa ha=>hS.lz a (aq a ha)) _
theorem zeu{F:List Xv->M Xv}{xs:List Xv}{vs:List V}{Q:VK}{EE:Nat->List D->Ph->Hp->Prop}(hS:aG K cA U H s)(r:aW K cA U H xs vs)
  (hE:∀c fs U1 U2 H',U1.z=U2.z->EE c fs U1 H'->EE c fs U2 H')
  (h:Run K cA (bW F xs) U H s (λx _ U' H'=>∀v,bw K cA U' H' x v->Q v H') (λc fs _ U' H'=>EE c fs U' H')) :
  ∃U0 s0,aW K cA U0 H (dG 0 xs) vs/\aG K cA U0 H s0/\Run K cA (F (dG 0 xs)) U0 H s0 (λx _ U' H'=>∀v,bw K cA U' H' x v->Q v H') (λc fs _ U' H'=>EE c fs U' H'):=by
 unfold Run bW at h;by_cases hn:(locs xs).Nodup
 ·simp only[if_pos hn] at h;have ht:=zfo r;have aq:∀a∈adr U.l (locs xs),a∈U.l:=λa ha=>by obtain⟨n,_,q⟩:=FN ha;exact fK q
  cases e0:jf s (locs xs) with
  |none=>simp only[e0] at h
  |some s0=>
   simp only[e0] at h;refine⟨⟨U.z,adr U.l (locs xs)⟩,s0,zgM _ _ 0 r rfl (λi n e=>by rw[G5];exact Ka ht e),?_,?_⟩
   ·refine⟨by rw[zeA e0];exact Kc ht,λi o a e1 e2=>?_,zdl hS.uniq hn ht,λa ha=>hS.lz a (aq a ha),hS.zt⟩;have e2:(adr U.l (locs xs))[i]?=some a:=e2;have hi:i<(locs xs).length:=by rw[<-Kc ht];exact(eY.mp e2).1
    have ei:(locs xs)[i]?=some ((locs xs)[i]):=cX hi;rw[Ka ht ei] at e2;rw[(zeF e0 ei).1] at e1;exact kY.zl (hS.obj _ o a e1 e2) _
   ·unfold Run;cases e1:F (dG 0 xs) s0 with
    |none=>simp only[e1] at h
    |some q=>
     obtain⟨q,s1⟩:=q;simp only[e1] at h;cases q with
     |er c fs=>
      intro U1 H' x r1;obtain⟨x2,r2⟩:=zda (s0:=s0) hS hn ht x r1;exact hE c fs ⟨U1.z,U.l⟩ U1 H' rfl (h ⟨U1.z,U.l⟩ H' x2 r2)
     |ok y=>
      intro U1 H' x r1 v rv;obtain⟨x2,r2⟩:=zda (s0:=s0) hS hn ht x r1;cases y with
      |d w=>
       cases rv with
       |d rv=>exact h ⟨U1.z,U.l⟩ H' x2 r2 v (.d (Rep.zl rv _))
      |l n=>
       cases rv with
       |@l _ a hl=>
        obtain⟨rr,er,hr⟩:=x.more;have er:U1.l=adr U.l (locs xs)++rr:=er;cases em:(locs xs)[n]? with
        |some m=>
         simp only[em] at h;refine h _ H' x2 r2 _ (.l ?_);show U.l[m]?=some a;have ha:(adr U.l (locs xs))[n]?=U.l[m]?:=Ka ht em;have dF:n<(adr U.l (locs xs)).length:=by rw[Kc ht];exact(eY.mp em).1
         rw[er,lD dF] at hl;rw[<-ha];exact hl
        |none=>
         simp only[em] at h;have Ke:(adr U.l (locs xs)).length<=n:=by rw[Kc ht];exact o9.mp em
         have Nm:a∈rr:=by
          rw[er,nF Ke] at hl;exact fK hl
         have Ud:a∉U.l:=λz=>by
          obtain⟨o,eo⟩:=hS.zt a (hS.lz a z);rw[hr a Nm] at eo;cases eo
         cases eo:s1[n]? with
         |none=>simp only[eo] at h
         |some o=>
          simp only[eo] at h;have ho:=r1.obj n o a eo hl;refine h ⟨U1.z,U.l++[a]⟩ H' ⟨⟨[a],rfl,by simpa using hr a Nm⟩,x2.tH,x2.m6,x2.frame,x2.stay⟩ ?_ _ (.l (by show (U.l++[a])[s.length]?=_;rw[<-hS.len];simp));refine⟨by show (U.l++[a]).length=_;rw[h_,h_,FP,hS.len];rfl,λm o' a' e1 e2=>?_,?_,λb hb=>?_,r1.zt⟩
          ·have e2:(U.l++[a])[m]?=some a':=e2;by_cases hm:m<s.length
           ·rw[lD (by rw[FP];exact hm)] at e1;rw[lD (by rw[hS.len];exact hm)] at e2;exact kY.zl (r2.obj m o' a' e1 e2) _
           ·have uE:m=s.length:=by
             have z:=(eY.mp e2).1;rw[h_,hS.len] at z;simp at z
             lia
            subst uE;rw[nF (by rw[FP];exact bK _)] at e1;rw[nF (by rw[hS.len];exact bK _)] at e2;simp[FP] at e1;simp[hS.len] at e2;subst e1 e2;exact kY.zl ho _
          ·show (U.l++[a]).Nodup;rw[LQ];refine⟨hS.uniq,by simp,λb hb c hc e=>?_⟩;simp at hc;subst hc e;exact Ud hb
          ·have hb:b∈U.l++[a]:=hb;rcases kO.mp hb with z|z
           ·exact x2.tH b (hS.lz b z)
           ·simp at z;subst z;exact r1.lz _ (fK hl)
 ·simp only[if_neg hn] at h
end
section
variable {X:Cx}{cA:Cl}{aq:Nat->Nat->Bool}{aj:Bool}{F:Fn}{EX:XS}{a b c d e o:Expr}{A B C Dd E' O:E}{pos pp p2 apos cpos:Pos}{es:List Expr}{Xs:Es}{fz:Bool}{p:Pr}{x:Str}{U:Ph}{H:Hp}{s:S}
theorem Ue{K:W.Frag}{β:Type}{x:Xv}{v:V}{k:Nat×List D->M β}{P:β->S->Ph->Hp->Prop}{Ee:Nat->List D->S->Ph->Hp->Prop}(hS:aG K cA U H s)(r:bw K cA U H x v)(h:Run K cA (M.bd (cV x) k) U H s P Ee) :
  ∃n ad xs vs,x=.l n/\v=.ref ad/\s[n]?=some (.lst xs)/\U.l[n]?=some ad/\H ad=some (.lst vs)/\aD K cA U H xs vs/\Run K cA (k (n,xs)) U H s P Ee:=by
 cases r with
 |d _=>exact h.elim
 |@l n ad hl=>
  unfold Run M.bd cV at h;dsimp only at h;cases e:s[n]? with
  |none=>rw[e] at h;exact h.elim
  |some o=>
   rw[e] at h;cases o with
   |lst xs=>
    obtain⟨vs,q1,q2⟩:=hS.obj n _ _ e hl;exact⟨n,ad,xs,vs,rfl,rfl,e,hl,q1,q2,h⟩
   |_=>exact h.elim
theorem zjU(ho:SE X cA aq aj F EX o O)(ha:SE X cA aq aj F EX a A)
  (fV:attributeBase o "append" X.env (eval o X.env)=eval o X.env:=by rfl)
  (mR:((backTo cpos (starEach [a] X.env)).all (λx=>!x.1)&&(backToKw cpos (keywordEach [] X.env)).all (λx=>x.1.isSome)
  &&decide ([a].length+([]:List Keyword).length+(if ([]:List Keyword).isEmpty then 0 else 1)<30))=true:=by rfl)
  (fW:(apos.endLine==cpos.line)=true:=by rfl) (hs:starEach [a] X.env=(false,eval a X.env)::starEach [] X.env:=by rfl) (dD:(backTo cpos (starEach [] X.env)).any (·.1)=false:=by rfl) :
  SE X cA aq aj F EX (.Call (.Attribute o "append" apos) [a] [] cpos) (.push O A):=PE.weak (Za Qi PySem.F.slot_list_append PySem.F.type_list_append Zb ho (uy ha yV hs) fV mR fW hs dD) λZ H Q hh=>un hh λU J s hL hS h=>by
 refine bB hL hS h λx H1 U1 d1 s1 x1 hL1 aJ r1 h1=>?_;obtain⟨n,ad,xs,vs,rfl,rfl,e1,f1,g1,q1,h2⟩:=Ue aJ r1 h1;refine⟨.inl ⟨rfl,vs,cQ.of g1⟩,bB hL1 aJ h2 λy H2 U2 d2 s2 x2 hL2 aV r2 h3=>?_⟩;obtain⟨dd,_,rd,h4⟩:=Nz r2 h3;obtain⟨n',ad',ys,us,en,ea,e2,f2,g2,q2,h5⟩:=Ue aV (r1.mono x2 aJ.lz) h4;cases en;cases ea;by_cases hz:ys.length<sizeLine
 ·have h5:Run X.K cA (M.bd (putL n (ys++[dd])) λ_=>M.ret (Xv.d .non)) U2 H2 s2 (λd _ U' H'=>∀v,bw X.K cA U' H' d v->Q v H') (eX X.K cA EX Z):=by
   have h6:Run X.K cA (if ys.length<sizeLine then M.bd (putL n (ys++[dd])) λ_=>M.ret (Xv.d .non) else M.no) U2 H2 s2 (λd _ U' H'=>∀v,bw X.K cA U' H' d v->Q v H') (eX X.K cA EX Z):=h5;rw[if_pos hz] at h6;exact h6
  refine⟨ad,us,y,rfl,rfl,g2,by rw[<-q2.len];exact hz,?_⟩;exact h5 U2 _ (Ext.write f2 ⟨_,g2⟩) (aV.write e2 f2 (q2.app (.cons rd .nil))) _ (.d .non)
 ·have h6:Run X.K cA (if ys.length<sizeLine then M.bd (putL n (ys++[dd])) λ_=>M.ret (Xv.d .non) else M.no) U2 H2 s2 (λd _ U' H'=>∀v,bw X.K cA U' H' d v->Q v H') (eX X.K cA EX Z):=h5;rw[if_neg hz] at h6;exact h6.elim
noncomputable def lu(K:W.Frag)(cA:Cl)(m:List Xv->M Xv):Sp:=λvs H Q E=>∃U xs s,aW K cA U H xs vs/\aG K cA U H s/\Run K cA (m xs) U H s (λd _ U' H'=>∀v,bw K cA U' H' d v->Q v H') (λc fs _ U' H'=>∀dx,j_ K cA U' H' c fs dx->E (.ref (cA.a c)) dx H')
theorem zjJ{K:W.Frag}{U1 U2:Ph}{c:Nat}{fs:List D}{dx:Option Addr}(e:U1.z=U2.z)(h:j_ K cA U2 H c fs dx):j_ K cA U1 H c fs dx:=h.imp id λ⟨d,vs,a,b,c,l,r⟩=>⟨d,vs,a,by rw[e];exact b,c,l,r.kj λ_ z=>by rw[<-e];exact z⟩
theorem zjD{cm:Bool}{k f:Nat}{fa:Addr}{fd:FuncData}{ps:List Str}(Fo:cC X.prog X.w X.K X.mg X.base (gK X.prog X.w) cm k fa fd ps (lu X.K cA (F f)))(jz:cm=true->X.aj=true)(hr:bF k X.A)(hg:Gl X x)(hm:X.mg x=some (.ref fa))(hk:PySem.W.keepIn X.K (.ref fa)=true)(hb:Binds X.K fd ps [])(R:Raises X EX)
  (ha:SA X cA aq aj F EX (e::es) Xs) (k_:(x==("__debug__" : Str))=false:=by decide) (he:starEach (e::es) X.env=(false,eval e X.env)::starEach es X.env:=by rfl) (hpl:(backTo pos (starEach es X.env)).any (·.1)=false:=by rfl) :
  SE X cA aq aj F EX (.Call (.Name x pp) (e::es) [] pos) (.call f Xs):=PE.weak (ziP Fo jz hr hg hm hk hb R ha k_ he hpl) λZ H Q hh=>un hh λU J s hL hS h=>
 m7 hL hS h λvs H1 U1 ds s1 x1 hL1 aJ r1 h1=>by
  obtain⟨U0,s0,a1,a2,a3⟩:=zeu (EE:=λc fs U' H'=>∀dx,j_ X.K cA U' H' c fs dx->EX Z (.ref (cA.a c)) dx H') aJ r1 (λc fs U1 U2 H' ez z dx q=>z dx (zjJ ez q)) h1;exact⟨U0,_,s0,a1,a2,a3⟩
end
section
variable {K:W.Frag}{cA:Cl}{U U':Ph}{H H':Hp}{s:S}
def dH(U:Ph)(H H':Hp):Prop:=∀a o,H a=some o->¬U.z a->H' a=some o
theorem Rep.out(x:dH U H H'){d:D}{v:V}(h:Rep K cA U H d v):Rep K cA U H' d v:=
 Rep.rec (motive_1:=λd v _=>Rep K cA U H' d v) (motive_2:=λd v _=>aD K cA U H' d v) .non .bl .int .str
  (λh _ r=>.tup (h.imp (λz=>⟨z.1.imp (λq=>x _ _ q z.2) λw=>w.elim λo q=>⟨o,x _ _ q z.2⟩,z.2⟩) id) r)
  (λh _ r=>.fl (h.imp (λz=>⟨z.1.imp (λq=>x _ _ q z.2) λw=>w.elim λo q=>⟨o,x _ _ q z.2⟩,z.2⟩) id) r)
  (λh n=>.fd (x _ _ h n) n)
  (λh _ r=>.exc ⟨h.1,h.2.imp (λz=>z.elim λa z=>z.elim λb q=>⟨a,b,x _ _ q h.1⟩) λz=>z.elim λdx z=>⟨dx,x _ _ z.1 h.1,z.2.1,x _ _ z.2.2.1 z.2.1,z.2.2.2⟩⟩ r)
  (λh _ r=>.ob ⟨h.1,h.2.elim λdx z=>⟨dx,x _ _ z.1 h.1,z.2⟩⟩ r) .any .nil (λ_ _ a b=>.cons a b) h
theorem aD.out(x:dH U H H'){ds:List D}{vs:List V}(h:aD K cA U H ds vs):aD K cA U H' ds vs:=
 aD.rec (motive_1:=λ_ _ _=>True) (motive_2:=λd v _=>aD K cA U H' d v) trivial (λ_=>trivial) (λ_=>trivial) (λ_=>trivial) (λ_ _ _=>trivial) (λ_ _ _=>trivial) (λ_ _=>trivial) (λ_ _ _=>trivial) (λ_ _ _=>trivial) (λ_=>trivial) .nil (λh _ _ r=>.cons (h.out x) r) h
theorem bw.out(x:dH U H H'){d:Xv}{v:V}(h:bw K cA U H d v):bw K cA U H' d v:=by
 cases h with
 |d h=>exact .d (h.out x)
 |l h=>exact .l h
theorem bx.out(x:dH U H H')(h:bx K cA U H Z J):bx K cA U H' Z J:=⟨h.1,λi d e=>let ⟨v,a,b⟩:=h.2 i d e;⟨v,a,b.out x⟩⟩
theorem dH.refl:dH U H H:=λa o e _=>e
structure jC(K:W.Frag)(cA:Cl)(c:Src)(U:Ph)(H:Hp)(bO:L2.It):Prop where
 stop:∀U' H₁ H' s' i,Ext U H U' H₁->dH U' H₁ H'->aG K cA U' H' s'->c.at i s'=some none->bO.stop i H'
 go:∀U' H₁ H' s' i x,Ext U H U' H₁->dH U' H₁ H'->aG K cA U' H' s'->c.at i s'=some (some x)->bO.go i H'
 Bp:∀U' H₁ H' s' i x v H2,Ext U H U' H₁->dH U' H₁ H'->aG K cA U' H' s'->c.at i s'=some (some x)->bO.Bp i H' v H2->bf H' H2/\Rep K cA U' H2 x v
theorem LstAt.later(hz:∀a∈U.l,U.z a)(h:LstAt K U H a vs)(x:Ext U H U' H₁)(o:dH U' H₁ H'):LstAt K U' H' a vs:=
 (h.mono x hz).imp (λ⟨p,n⟩=>⟨p.imp (λq=>o _ _ q n) λ⟨w,q⟩=>⟨w,o _ _ q n⟩,n⟩) id
theorem TupAt.later(hz:∀a∈U.l,U.z a)(h:TupAt K U H a vs)(x:Ext U H U' H₁)(o:dH U' H₁ H'):TupAt K U' H' a vs:=
 (h.mono x hz).imp (λ⟨p,n⟩=>⟨p.imp (λq=>o _ _ q n) λ⟨w,q⟩=>⟨w,o _ _ q n⟩,n⟩) id
theorem jC.list(hz:∀a∈U.l,U.z a)(h:LstAt K U H a vs)(r:aD K cA U H xs vs):jC K cA (.fix xs) U H (MK K a):=by
 refine⟨λU' H₁ H' s' i x o hS e=>⟨vs,(h.later hz x o).tK,?_⟩,λU' H₁ H' s' i d x o hS e=>?_,λU' H₁ H' s' i d v H2 x o hS e y=>?_⟩
 ·have e:xs[i]?=none:=dz e;exact o9.mp ((r.mono x hz).none e)
 ·have e:xs[i]?=some d:=dz e;obtain⟨v,q,_⟩:=r.get e;exact⟨vs,v,(h.later hz x o).tK,q⟩
 ·have e:xs[i]?=some d:=dz e;obtain⟨rfl,y⟩:=y;obtain⟨w,q,mQ⟩:=((r.mono x hz).out o).get e;have:=y vs (h.later hz x o).tK;rw[q] at this;cases this;exact⟨bf.refl,mQ⟩
theorem jC.tuple(hz:∀a∈U.l,U.z a)(h:TupAt K U H a vs)(r:aD K cA U H xs vs):jC K cA (.fix xs) U H (Rm K a):=by
 refine⟨λU' H₁ H' s' i x o hS e=>⟨vs,(h.later hz x o).jh,?_⟩,λU' H₁ H' s' i d x o hS e=>?_,λU' H₁ H' s' i d v H2 x o hS e y=>?_⟩
 ·have e:xs[i]?=none:=dz e;exact o9.mp ((r.mono x hz).none e)
 ·have e:xs[i]?=some d:=dz e;obtain⟨v,q,_⟩:=r.get e;exact⟨vs,v,(h.later hz x o).jh,q⟩
 ·have e:xs[i]?=some d:=dz e;obtain⟨rfl,y⟩:=y;obtain⟨w,q,mQ⟩:=((r.mono x hz).out o).get e;have:=y vs (h.later hz x o).jh;rw[q] at this;cases this;exact⟨bf.refl,mQ⟩
theorem Ug(h:(Src.live n).at i s=some o):∃xs,s[n]?=some (.lst xs)/\xs[i]?=o:=by
 unfold Src.at at h;dsimp only at h;cases e:s[n]? with
 |none=>rw[e] at h;cases h
 |some ob=>
  rw[e] at h;cases ob with
  |lst xs=>exact⟨xs,rfl,dz h⟩
  |_=>cases h
theorem jC.live(h:U.l[n]?=some a):jC K cA (.live n) U H (MK K a):=by
 refine⟨λU' H₁ H' s' i x o hS e=>?_,λU' H₁ H' s' i d x o hS e=>?_,λU' H₁ H' s' i d v H2 x o hS e y=>?_⟩
 ·obtain⟨xs,e1,e2⟩:=Ug e;obtain⟨vs,q1,q2⟩:=hS.obj n _ a e1 (x.get h);exact⟨vs,cQ.of q1,o9.mp (q2.none e2)⟩
 ·obtain⟨xs,e1,e2⟩:=Ug e;obtain⟨vs,q1,q2⟩:=hS.obj n _ a e1 (x.get h);obtain⟨v,q3,_⟩:=q2.get e2;exact⟨vs,v,cQ.of q1,q3⟩
 ·obtain⟨xs,e1,e2⟩:=Ug e;obtain⟨vs,q1,q2⟩:=hS.obj n _ a e1 (x.get h);obtain⟨w,q3,mQ⟩:=q2.get e2;obtain⟨rfl,y⟩:=y;have:=y vs (cQ.of q1);rw[q3] at this;cases this;exact⟨bf.refl,mQ⟩
theorem N5:(gb a b)[i]?=if i<(b-a).toNat then some (.int (a+i)) else none:=by
 unfold gb;rw[gC,List.getElem?_range']
where
 List.getElem?_range' {n i:Nat}:Option.map (λ(i:Nat)=>D.int (a+i)) (List.range n)[i]?=if i<n then some (.int (a+i)) else none:=by
  by_cases h:i<n
  ·rw[if_pos h,Gz h];rfl
  ·rw[if_neg h,yH (by simp;lia)];rfl
theorem jC.range{a b:Int}:jC K cA (.fix (gb a b)) U H (Hz a (b-a).toNat):=by
 refine⟨λU' H₁ H' s' i x o hS e=>?_,λU' H₁ H' s' i d x o hS e=>?_,λU' H₁ H' s' i d v H2 x o hS e y=>?_⟩
 ·have e:(gb a b)[i]?=none:=dz e;rw[N5] at e;split at e
  ·cases e
  ·exact GQ (by assumption)
 ·have e:(gb a b)[i]?=some d:=dz e;rw[N5] at e;split at e
  ·assumption
  ·cases e
 ·have e:(gb a b)[i]?=some d:=dz e;rw[N5] at e;split at e
  ·cases e;obtain⟨rfl,rfl⟩:=y;exact⟨bf.refl,.int _⟩
  ·cases e
end
noncomputable def Uh(K:W.Frag)(te:TE):TI:=λZ H R=>te Z H λv H1=>∃a,v=.ref a/\(((∃xs,cQ K H1 a xs)/\R (MK K a) H1)\/((∃xs,fU K H1 a xs)/\R (Rm K a) H1))
theorem zl7(he:PE X l te):PI X tg l (Uh X.K te):=by
 intro ao s Z H R I h;refine bA (he ao s Z H _ I h) λv s1 hx=>QK hx λx H1 I1 r1 a e q=>?_;subst e;cases r1;rcases q with ⟨⟨xs,hq⟩,q⟩|⟨⟨xs,hq⟩,q⟩
 ·obtain⟨its,rv,p,hz⟩:=I1.list hq;refine LC p.isList ?_;refine⟨s1.heap.objs.size,[s1.heap.objs.size],_,_,H1,rfl,I1.kept (t':=s1.toks) λb o e=>cN _ e,zgs a _,⟨_,fL _ rfl,rfl,rfl⟩,λb hb=>?_,q⟩;have e:b=s1.heap.objs.size:=by simpa using hb
  subst e;exact I1.q_ (bK _) (I1.hok.fresh (bK _))
 ·obtain⟨its,rv,p,hz⟩:=I1.tuple hq;refine wpAny_pyIter_tuple (show s1.heap.IsTuple a its.toArray from p) ?_;refine⟨s1.heap.objs.size,[s1.heap.objs.size],_,_,H1,rfl,I1.kept (t':=s1.toks) λb o e=>cN _ e,zfd a _,⟨_,fL _ rfl,rfl,rfl⟩,λb hb=>?_,q⟩;have e:b=s1.heap.objs.size:=by simpa using hb
  subst e;exact I1.q_ (bK _) (I1.hok.fresh (bK _))
section
variable {X:Cx}{cA:Cl}{aq:Nat->Nat->Bool}{aj:Bool}{F:Fn}{EX:XS}{a b tg:Expr}{A B:E}{pos pp:Pos}
noncomputable def tI(K:W.Frag)(cA:Cl)(EX:XS)(m:Vs->M (Src×Nat)):TI:=λZ H R=>∃U J s,bx K cA U H Z J/\aG K cA U H s/\Run K cA (m J) U H s (λcn _ U1 H1=>∀bO,jC K cA cn.1 U1 H1 bO->R bO H1) (eX K cA EX Z)
def SI(X:Cx)(cA:Cl)(aq:Nat->Nat->Bool)(aj:Bool)(F:Fn)(EX:XS)(tg iter:Expr)(w:Wk):Prop:=PI X tg iter (tI X.K cA EX (mZ aq aj F w))
theorem PI.weak{iter:Expr}{t t':TI}(h:PI X tg iter t)(f:∀Z H Q,t' Z H Q->t Z H Q):PI X tg iter t':=λao s Z H Q I q=>h ao s Z H Q I (f Z H Q q)
theorem zlG(ha:SE X cA aq aj F EX a A):SI X cA aq aj F EX tg a (.seq A):=PI.weak (zl7 ha) λZ H R hh=>un hh λU J s hL hS h=>by
 refine bB hL hS h λv H1 U1 d s1 x1 hL1 aJ r1 h1=>?_;cases r1 with
 |@l n ad hl=>
  unfold Run src at h1;dsimp only at h1;cases e:s1[n]? with
  |none=>rw[e] at h1;exact h1.elim
  |some o=>
   rw[e] at h1;cases o with
   |lst xs=>
    obtain⟨vs,q1,q2⟩:=aJ.obj n _ _ e hl;exact⟨ad,rfl,.inl ⟨⟨vs,cQ.of q1⟩,h1 U1 H1 Ext.refl aJ _ (jC.live hl)⟩⟩
   |_=>exact h1.elim
 |d r1=>
  cases r1 with
  |tup q r=>exact⟨_,rfl,.inr ⟨⟨_,q.jh⟩,h1 U1 H1 Ext.refl aJ _ (jC.tuple aJ.lz q r)⟩⟩
  |fl q r=>exact⟨_,rfl,.inl ⟨⟨_,q.tK⟩,h1 U1 H1 Ext.refl aJ _ (jC.list aJ.lz q r)⟩⟩
  |_=>exact h1.elim
theorem Ui{i:Int}(h:fj i=true) : -(2^62)<=i/\i<2^62:=by
 unfold fj at h;rw[dJ,Ai,Ai] at h;exact⟨by lia,h.2⟩
theorem zju{K:W.Frag}{U:Ph}{H:Hp}{s:S}{i j:Int}{P:Src×Nat->S->Ph->Hp->Prop}{Ee:Nat->List D->S->Ph->Hp->Prop}(hS:aG K cA U H s)(h:Run K cA (if (fj i&&fj j)=true then M.ret (Src.fix (gb i j),(gb i j).length) else M.no) U H s P Ee):(-(2^62)<=i/\i<2^62/\-(2^62)<=j/\j<2^62)/\P (.fix (gb i j),(gb i j).length) s U H:=by
 by_cases hk:(fj i&&fj j)=true
 ·rw[if_pos hk] at h;rw[dJ] at hk;obtain⟨a,b⟩:=Ui hk.1;obtain⟨c,d⟩:=Ui hk.2;exact⟨⟨a,b,c,d⟩,h.bH hS⟩
 ·rw[if_neg hk] at h;exact h.elim
theorem zoS(jL:Gl X "range")(hmg:X.mg "range"=none)(ha:SE X cA aq aj F EX a A)(hb:SE X cA aq aj F EX b B)(h1:starEach [a,b] X.env=(false,eval a X.env)::starEach [b] X.env)(h2:starEach [b] X.env=(false,eval b X.env)::starEach [] X.env) :
  SI X cA aq aj F EX tg (.Call (.Name "range" pp) [a,b] [] pos) (.rg A B):=PI.weak (zhb jL hmg (uy ha (uy hb yV h2) h1) (by rw[h1,h2];rfl) (by rw[h2];rfl)) λZ H R hh=>un hh λU J s hL hS h=>by
 refine bB hL hS h λx H1 U1 d1 s1 x1 hL1 aJ r1 h1=>bB hL1 aJ h1 λy H2 U2 d2 s2 x2 hL2 aV r2 h2=>?_;obtain⟨i,_,e1,h3⟩:=Ft (r1.mono x2 aJ.lz) h2;obtain⟨j,_,e2,h4⟩:=Ft r2 h3;obtain⟨hz,q⟩:=zju aV h4;subst e1 e2;exact⟨i,j,rfl,hz,q _ jC.range⟩
theorem zmN(jL:Gl X "range")(hmg:X.mg "range"=none)(hb:SE X cA aq aj F EX b B)(h2:starEach [b] X.env=(false,eval b X.env)::starEach [] X.env) :
  SI X cA aq aj F EX tg (.Call (.Name "range" pp) [b] [] pos) (.rg (.c (.int 0)) B):=PI.weak (zg0 jL hmg (uy hb yV h2) (by rw[h2];rfl)) λZ H R hh=>un hh λU J s hL hS h=>by
 have h:Run X.K cA (M.bd (ev aq aj F B J) λy=>M.bd (int (.d (.int 0))) λi=>M.bd (int y) λj=>if (fj i&&fj j)=true then M.ret (Src.fix (gb i j),(gb i j).length) else M.no) U H s _ _:=h;refine bB hL hS h λy H2 U2 d2 s2 x2 hL2 aV r2 h2=>?_;obtain⟨j,_,e2,h4⟩:=Ft r2 (show Run X.K cA (M.bd (int d2) λj=>if (fj 0&&fj j)=true then M.ret (Src.fix (gb 0 j),(gb 0 j).length) else M.no) U2 H2 s2 _ _ from h2);obtain⟨hz,q⟩:=zju aV h4;subst e2;refine⟨j,rfl,hz.2.2.1,hz.2.2.2,q _ ?_⟩;have:=jC.range (K:=X.K) (cA:=cA) (U:=U2) (H:=H2) (a:=0) (b:=j);rw[Int.sub_zero] at this;exact this
end
section
variable {K:W.Frag}{cA:Cl}{U U' U0:Ph}{H H' H0:Hp}{s:S}
theorem Run.bd0(x:Ext U0 H0 U H)(h:Run K cA (M.bd m k) U0 H0 s P Ee) :
  Run K cA m U H s (λa s1 U1 H1=>Ext U H U1 H1/\aG K cA U1 H1 s1/\Run K cA (k a) U0 H0 s1 P Ee) Ee:=by
 unfold Run M.bd at *;cases e:m s with
 |none=>rw[e] at h;exact h
 |some r=>
  obtain⟨r,s1⟩:=r;rw[e] at h;cases r with
  |er c f=>exact λU1 H1 x1 r1=>h U1 H1 (x.trans x1) r1
  |ok a=>exact λU1 H1 x1 r1=>⟨x1,r1,h⟩
theorem zgG{α β:Type}{m:M α}{k:α->M β}{P:β->S->Ph->Hp->Prop}{Ee Ee':Nat->List D->S->Ph->Hp->Prop}(x:Ext U0 H0 U H)(h:Run K cA (M.bd (M.qt m) k) U0 H0 s P Ee) :
  Run K cA m U H s (λa s1 U1 H1=>Ext U H U1 H1/\aG K cA U1 H1 s1/\Run K cA (k a) U0 H0 s1 P Ee) Ee':=by
 have h2:=h.bd0 x;unfold Run at h2 ⊢;unfold M.qt at h2;cases e:m s with
 |none=>rw[e] at h2;exact h2
 |some r=>
  obtain⟨r,s1⟩:=r;rw[e] at h2;cases r with
  |ok a=>exact h2
  |er c f=>exact h2.elim
theorem zmX{α β:Type}{m m':M α}{k:α->M β}{P:β->S->Ph->Hp->Prop}{Ee:Nat->List D->S->Ph->Hp->Prop}(e:m s=m' s)(h:Run K cA (M.bd m k) U H s P Ee):Run K cA (M.bd m' k) U H s P Ee:=by
 unfold Run M.bd at *;rw[<-e];exact h
end
section
variable {X:Cx}{cA:Cl}{aq:Nat->Nat->Bool}{aj:Bool}{F:Fn}{EX:XS}{elt iter tg:Expr}{A B:E}{pos p:Pos}{ifs:List Expr}{scope:Scope}{N:List Str}{cond:Eo}{fr dM:List Nat}{many:Nat}{fz:Bool}{w:Wk}
def Kf(X:Cx)(cA:Cl)(aq:Nat->Nat->Bool)(aj:Bool)(F:Fn)(EX:XS)(ifs:List Expr)(m:Eo):Prop:=Ni X ifs (v9 X.K cA EX (rK aq aj F m))
theorem znp:Kf X cA aq aj F EX [] .no:=λao s Z H Q I ⟨U,J,st,hL,hS,h⟩=>zkX ao s Z H Q I (h.bH hS)
theorem zjQ(h:ST X cA aq aj F EX c C):Kf X cA aq aj F EX [c] (.yes C):=zjL h
structure m8(K:W.Frag)(cA:Cl)(g:TG)(dM:List Nat):Prop where
 run:∀(U:Ph) (H:Hp) (s:S) (Z:L2.St) (J J':Vs) (d:D) (v:V) (Q:L2.St->Hp->Prop),bx K cA U H Z J->aG K cA U H s->Rep K cA U H d v->iI dM d J=some J'->
  (∀Z',bx K cA U H Z' J'->Z'.length=Z.length->(∀i,i∉dM->Z'[i]?=Z[i]?)->Q Z' H)->g v Z H Q
theorem nG{K:W.Frag}(i:Nat):m8 K cA (eN i) [i] where
 run:=λU H s Z J J' d v Q hL hS r e k=>by
  cases e;exact k _ (hL.set (.d r)) (lF ..) λj hj=>o_ (by simpa using λz=>hj (by simp[z]))
theorem Kg{K:W.Frag}(i j:Nat):m8 K cA (ux K 2 (iD (eN i) (iD (eN j) uw))) [i,j] where
 run:=λU H s Z J J' d v Q hL hS r e k=>by
  have e:(lR d).bind (λds=>gY [i,j] (ds.map Xv.d) J)=some J':=e;obtain⟨ds,e1,e2⟩:=tW.mp e;cases r with
  |@tup ad xs vs h1 h2=>
   have e1:xs=ds:=dz e1;subst e1;cases h2 with
   |nil=>cases e2
   |cons r1 t1=>
    cases t1 with
    |nil=>cases e2
    |cons r2 t2=>
     cases t2 with
     |nil=>
      have e2:=dz e2;subst e2;refine⟨ad,_,rfl,h1.jh,rfl,_,_,rfl,_,_,rfl,rfl,k _ ((hL.set (.d r1)).set (.d r2)) (by rw[lF,lF]) λm hm=>?_⟩;rw[o_ (λz=>hm (by simp[z])),o_ (λz=>hm (by simp[z]))]
     |cons r3 t3=>cases e2
  |_=>cases e1
noncomputable def cT(many:Nat)(fr:List Nat)(Z:L2.St):L2.St:=List.replicate many none++fr.map λj=>(Z[j]?).join
theorem zkk{U:Ph}{H:Hp}{Z:L2.St}{J:Vs}(hL:bx X.K cA U H Z J){Z':L2.St}(hl:Z'.length=many+fr.length)(hf:∀(i:Nat) j v,fr[i]?=some j->Z[j]?=some (some v)->Z'[many+i]?=some (some v)):bx X.K cA U H Z' (blk many fr J):=by
 refine⟨by unfold blk;simp[hl],λi d e=>?_⟩;unfold blk at e;by_cases hi:i<many
 ·rw[lD (by simpa using hi),Ad,if_pos hi] at e;cases e
 ·rw[nF (by simpa using GQ hi),DG,gC] at e;cases z:fr[i-many]? with
  |none=>rw[z] at e;cases e
  |some j=>
   rw[z] at e;have e3:J[j]?.join=some d:=by simpa using e
   obtain⟨v,q1,q2⟩:=hL.2 j d (TX e3);refine⟨v,?_,q2⟩;have:=hf (i-many) j v z q1;rw[show many+(i-many)=i by omega] at this;exact this
structure fH(U:Ph)(H:Hp)(Dd:Addr)(o:HO):Prop where
 at_:H Dd=some o
 nl:Dd∉U.l
 z:U.z Dd
abbrev Keep(U:Ph)(H:Hp)(Dd:Addr)(vs:List V):Prop:=fH U H Dd (.lst vs)
theorem fH.mono{U U':Ph}{H H':Hp}{Dd:Addr}{o:HO}(x:Ext U H U' H')(k:fH U H Dd o):fH U' H' Dd o:=by
 refine⟨x.frame _ _ k.at_ k.nl,λz=>?_,x.tH _ k.z⟩;obtain⟨r,er,hr⟩:=x.more;rw[er] at z;rcases kO.mp z with z|z
 ·exact k.nl z
 ·have:=hr _ z;rw[k.at_] at this;cases this
theorem fH.ext{U:Ph}{H:Hp}{Dd:Addr}{o u:HO}(k:fH U H Dd o):(∀a o,H a=some o->¬U.z a->(upd H Dd u) a=some o)/\fH U (upd H Dd u) Dd u:=
 ⟨λa o e n=>by rw[cY (λz=>n (by rw[z];exact k.z))];exact e,iY,k.nl,k.z⟩
end
section
variable {K:W.Frag}{cA:Cl}{U U':Ph}{H H':Hp}
theorem aG.keep{s:S}{Dd:Addr}{o u:HO}(h:aG K cA U H s)(k:fH U H Dd o):aG K cA U (upd H Dd u) s:=by
 have x:dH U H (upd H Dd u):=k.ext.1;refine⟨h.len,λn o a e1 e2=>?_,h.uniq,h.lz,λa z=>?_⟩
 ·have na:a≠Dd:=λy=>k.nl (by rw[<-y];exact fK e2);exact(h.obj n o a e1 e2).map (λ_ q=>by rw[cY na];exact q) λ_ _ r=>r.out x
 ·by_cases e:a=Dd
  ·subst e;exact⟨_,iY⟩
  ·obtain⟨o,q⟩:=h.zt a z;exact⟨o,by rw[cY e];exact q⟩
theorem Ext.keep{U1:Ph}{H1:Hp}{Dd:Addr}{vs:List V}{u:HO}(x:Ext U1 H1 U H)(hD:H1 Dd=none):Ext U1 H1 U (upd H Dd u):=by
 refine⟨x.more,x.tH,x.m6,λa o h n=>?_,λa o h=>?_⟩
 ·rw[cY (λz=>by rw[z,hD] at h;cases h)];exact x.frame a o h n
 ·rw[cY (λz=>by rw[z,hD] at h;cases h)];exact x.stay a o h
theorem zgw{U1:Ph}{H1:Hp}{s':S}{fz:Bool}{acc:List D}{vs:List V}{Dd:Addr}{Q:VK}{Ee:Nat->List D->S->Ph->Hp->Prop}(h:Run K cA (newL fz acc) U1 H1 s' (λd _ U' H'=>∀v,bw K cA U' H' d v->Q v H') Ee)
  (x2:Ext U1 H1 U' H') (hD:H1 Dd=none) (nz:¬U1.z Dd) (aV:aG K cA U' H' s') (k:Keep U' H' Dd vs) (zL:aD K cA U' H' acc vs):Q (.ref Dd) H':=by
 cases fz with
 |true=>
  have zq:∀a,(λa=>U'.z a/\a≠Dd) a->U'.z a:=λa z=>z.1;refine h ⟨λa=>U'.z a/\a≠Dd,U'.l⟩ H' ⟨x2.more,λa z=>⟨x2.tH a z,λe=>nz (by rw[<-e];exact z)⟩,λa z=>x2.m6 a z.1,x2.frame,x2.stay⟩ ?_ _ (.d (.fl (.inl ⟨.inl k.at_,λz=>z.2 rfl⟩) (aD.kj (U:=U') zq zL)));refine⟨aV.len,λn o a e1 e2=>kY.kj (U:=U') zq (aV.obj n o a e1 e2),aV.uniq,λa ha=>⟨aV.lz a ha,λe=>k.nl (by rw[<-e];exact ha)⟩,λa z=>aV.zt a z.1⟩
 |false=>
  obtain⟨r,er,hr⟩:=x2.more;refine h ⟨U'.z,U'.l++[Dd]⟩ H' ⟨⟨r++[Dd],by show U'.l++[Dd]=_;rw[er,Ah],λb hb=>?_⟩,x2.tH,x2.m6,x2.frame,x2.stay⟩ ?_ _ (.l (by show (U'.l++[Dd])[s'.length]?=_;rw[<-aV.len];simp))
  ·rcases kO.mp hb with z|z
   ·exact hr b z
   ·simp at z;subst z;exact hD
  ·refine⟨by show (U'.l++[Dd]).length=_;rw[h_,h_,aV.len];rfl,λm o' a' e1 e2=>?_,?_,λb hb=>?_,aV.zt⟩
   ·have e2:(U'.l++[Dd])[m]?=some a':=e2;by_cases hm:m<s'.length
    ·rw[lD hm] at e1;rw[lD (by rw[aV.len];exact hm)] at e2;exact kY.zl (aV.obj m o' a' e1 e2) _
    ·have uE:m=s'.length:=by
      have z:=(eY.mp e2).1;rw[h_,aV.len] at z;simp at z;omega
     subst uE;rw[nF (bK _)] at e1;rw[nF (by rw[aV.len];exact bK _)] at e2;simp at e1;simp[aV.len] at e2;subst e1 e2;exact⟨vs,k.at_,aD.zl zL _⟩
   ·show (U'.l++[Dd]).Nodup;rw[LQ];refine⟨aV.uniq,by simp,λb hb c hc e=>?_⟩;simp at hc;subst hc e;exact k.nl hb
   ·have hb:b∈U'.l++[Dd]:=hb;rcases kO.mp hb with z|z
    ·exact aV.lz b z
    ·simp at z;subst z;exact k.z
noncomputable def Ph.mark(U:Ph)(p:Addr):Ph:=⟨λa=>U.z a\/a=p,U.l⟩
theorem zfp{s:S}{p:Addr}(hS:aG K cA U H s)(hp:H p=none):Ext U H (U.mark p) (upd H p (.lst []))/\aG K cA (U.mark p) (upd H p (.lst [])) s/\Keep (U.mark p) (upd H p (.lst [])) p []:=by
 have g:=bf.new (o:=.lst []) hp;have nz:=hS.nz hp;refine⟨⟨⟨[],by simp[Ph.mark],by simp⟩,λa z=>.inl z,λa z=>z.imp id λe=>by rw[e];exact hp,λa o h _=>g a o h,λa o h=>⟨o,g a o h⟩⟩,⟨hS.len,λn o a e1 e2=>?_,hS.uniq,λa ha=>.inl (hS.lz a ha),λa z=>?_⟩,iY,λz=>nz (hS.lz p z),.inr rfl⟩
 ·have x:Ext U H (U.mark p) (upd H p (.lst [])):=⟨⟨[],by simp[Ph.mark],by simp⟩,λa z=>.inl z,λa z=>z.imp id λe=>by rw[e];exact hp,λa o h _=>g a o h,λa o h=>⟨o,g a o h⟩⟩;exact(hS.obj n o a e1 e2).map (g _) λ_ _ r=>r.mono x hS.lz
 ·rcases z with z|z
  ·obtain⟨o,e⟩:=hS.zt a z;exact⟨o,g _ _ e⟩
  ·subst z;exact⟨_,iY⟩
end
section
variable {X:Cx}{cA:Cl}{aq:Nat->Nat->Bool}{aj:Bool}{F:Fn}{EX:XS}{elt iter tg:Expr}{A B:E}{pos p:Pos}{ifs:List Expr}{scope:Scope}{N:List Str}{cond:Eo}{fr dM:List Nat}{many:Nat}{fz:Bool}{w:Wk}
noncomputable abbrev gM(aq:Nat->Nat->Bool)(aj:Bool)(F:Fn)(B:E)(cond:Eo)(dM:List Nat)(Jb:Vs):D->List D->M (List D):=λd acc=>M.bd (M.opt (iI dM d Jb)) λJ'=>M.bd (M.qt (rK aq aj F cond J')) λok=>
    if ok=true then M.bd (M.qt (ev aq aj F B J')) λy=>M.bd (dat y) λe=>if acc.length<sizeLine then M.ret (acc++[e]) else M.no else M.ret acc
theorem zjy{H:Hp}{a:Addr}{o:HO}(h:H a=some o):upd H a o=H:=funext λb=>by
 by_cases z:b=a
 ·subst z;rw[iY,h]
 ·rw[cY z]
theorem ziR{K:W.Frag}{g:TG}{U1 U':Ph}{H1 H2:Hp}{s':S}{Z':L2.St}{Jb:Vs}{Dd:Addr}{acc:List D}{vs:List V}{xi:D}{v:V}{β:Type}{kk:List D->M β}{P:β->S->Ph->Hp->Prop}{Ee:Nat->List D->S->Ph->Hp->Prop}(hT:m8 K cA g dM)(iy:∀i∈dM,i<many)
  (hD:H1 Dd=none) (x2:Ext U1 H1 U' H2) (hL2:bx K cA U' H2 Z' Jb) (aV:aG K cA U' H2 s') (kp:Keep U' H2 Dd vs) (zL:aD K cA U' H2 acc vs) (rx:Rep K cA U' H2 xi v)
  (h:Run K cA (M.bd (gM aq aj F B cond dM Jb xi acc) kk) U1 H1 s' P Ee) {Nn:L2.St->Hp->Prop}
  (hN:∀Z3 H3 U3 s3 xX N6,Z3.length=Z'.length->(∀i,many<=i->Z3[i]?=Z'[i]?)->Ext U1 H1 U3 H3->Ext U' H2 U3 (upd H3 Dd (.lst vs))->aG K cA U3 H3 s3->Keep U3 H3 Dd N6->aD K cA U3 H3 xX N6->Run K cA (kk xX) U1 H1 s3 P Ee->Nn Z3 H3) :
  g v Z' H2 λZ3 H3=>v9 K cA (λ_ _ _ _=>False) (rK aq aj F cond) Z3 H3 λok H4=>
   if ok=true then tE K cA (λ_ _ _ _=>False) (ev aq aj F B) Z3 H4 λy H5=>∃ys,H5 Dd=some (.lst ys)/\ys.length<sizeLine/\Nn Z3 (upd H5 Dd (.lst (ys++[y]))) else Nn Z3 H4:=by
 unfold gM at h;rw[jJ] at h;obtain⟨J',e1,h1⟩:=Ny h;refine hT.run U' H2 s' Z' Jb J' xi v _ hL2 aV rx e1 λZ3 xU hl3 hf3=>?_;rw[jJ] at h1;have kf:∀i,many<=i->Z3[i]?=Z'[i]?:=λi hi=>hf3 i λz=>absurd (iy i z) (Nat.not_lt.mpr hi);refine⟨U',J',s',xU,aV,(zgG x2 h1).imp λok s4 U4 H4 ⟨x4,zF,h6⟩=>?_⟩;cases ok with
 |false=>
  refine iF (hN Z3 H4 U4 s4 acc vs hl3 kf (x2.trans x4) (by rw[zjy (kp.mono x4).at_];exact x4) zF (kp.mono x4) (zL.mono x4 aV.lz) ?_);rw[if_neg Vu] at h6;exact h6
 |true=>
  rw[if_pos rfl,jJ] at h6;refine iT ⟨U4,J',s4,xU.mono x4 aV.lz,zF,(zgG (x2.trans x4) h6).imp λy s5 U5 H5 ⟨x5,hS5,h7⟩ u ru=>?_⟩;rw[jJ] at h7;have k5:=(kp.mono x4).mono x5;have r5:=(zL.mono x4 aV.lz).mono x5 zF.lz;have x15:=(x2.trans x4).trans x5;obtain⟨dd,ey,rd,h8⟩ : ∃d,y=.d d/\Rep K cA U5 H5 d u/\Run K cA (M.bd (if acc.length<sizeLine then M.ret (acc++[d]) else M.no) kk) U1 H1 s5 P Ee:=by
   cases ru with
   |l _=>exact h7.elim
   |d r=>exact⟨_,rfl,r,h7⟩
  by_cases hz:acc.length<sizeLine
  ·rw[if_pos hz] at h8;refine⟨vs,k5.at_,by rw[<-r5.len];exact hz,?_⟩;have ox:dH U5 H5 (upd H5 Dd (.lst (vs++[u]))):=k5.ext.1;exact hN Z3 _ U5 s5 (acc++[dd]) (vs++[u]) hl3 kf (Ext.keep (vs:=vs) x15 hD) (by rw[Yk,zjy k5.at_];exact x4.trans x5) (hS5.keep k5) k5.ext.2 ((r5.app (.cons rd .nil)).out ox) h8
  ·rw[if_neg hz] at h8;exact h8.elim
theorem zde{g:TG}{iter':Expr}(hT:m8 X.K cA g dM)(iy:∀i∈dM,i<many){Z:L2.St}{H:Hp}{Q:VK}(hh:tE X.K cA EX (ev aq aj F (.comp fz B dM w fr many cond)) Z H Q) :
  uH (tI X.K cA EX (mZ aq aj F w)) (cT many fr) g (v9 X.K cA (λ_ _ _ _=>False) (rK aq aj F cond)) (tE X.K cA (λ_ _ _ _=>False) (ev aq aj F B)) Z H Q:=un hh λU J s hL hS h=>by
 by_cases dh:aj=true
 ·have h:Run X.K cA (if aj=true then M.bd (mZ aq aj F w J) λcn=>M.bd (walk cn.1 (gM aq aj F B cond dM (blk many fr J)) (cn.2+1) 0 []) λxs=>newL fz xs else M.no) U H s (λd _ U' H'=>∀v,bw X.K cA U' H' d v->Q v H') (eX X.K cA EX Z):=h;rw[if_pos dh] at h;refine⟨U,J,s,hL,hS,h.bd.imp λcn s1 U1 H1 ⟨x1,aJ,h1⟩ bO hJ=>?_⟩;have hL1:=hL.mono x1 hS.lz;obtain⟨c,n⟩:=cn;dsimp only at h1 hJ;intro Dd hD;obtain⟨x0,hS0,k0⟩:=zfp aJ hD;have Uj:∀{Z':L2.St},(Z'.length=many+fr.length/\∀i,many<=i->Z'[i]?=(cT many fr Z)[i]?)->∀{U' H'},Ext U1 H1 U' H'->bx X.K cA U' H' Z' (blk many fr J):=λ{Z'} hZ {U' H'} x=>zkk (hL1.mono x aJ.lz) hZ.1 λi j v e1 e2=>by
   rw[hZ.2 _ (by omega)];unfold cT;rw[nF Zaa,DG,gC,show many+i-many=i by omega,e1];simp[e2]
  refine⟨λi m Z' H'=>m=n+1-i/\(Z'.length=many+fr.length/\∀i,many<=i->Z'[i]?=(cT many fr Z)[i]?)/\∃U' s' acc vs,Ext U1 H1 U' H'/\aG X.K cA U' H' s'/\Keep U' H' Dd vs/\aD X.K cA U' H' acc vs /\
   Run X.K cA (M.bd (walk c (gM aq aj F B cond dM (blk many fr J)) (n+1-i) i acc) λxs=>newL fz xs) U1 H1 s' (λd _ U' H'=>∀v,bw X.K cA U' H' d v->Q v H') (eX X.K cA EX Z),⟨n+1,rfl,⟨by simp[cT],λi _=>rfl⟩,U1.mark Dd,s1,[],[],x0,hS0,k0,.nil,h1⟩,?_⟩
  rintro i m Z' H' ⟨rfl,hZ,U',s',acc,vs,x2,aV,kp,zL,h3⟩;have hL2:=Uj hZ x2;cases ek:n+1-i with
  |zero=>rw[ek] at h3;exact h3.elim
  |succ k=>
   rw[ek] at h3;cases ei:c.at i s' with
   |none=>
    exfalso
    unfold Run M.bd walk at h3;simp only[ei] at h3
   |some oi=>
    cases oi with
    |none=>
     refine .inl ⟨hJ.stop U' H' H' s' i x2 dH.refl aV ei,?_⟩;have h4:Run X.K cA (newL fz acc) U1 H1 s' (λd _ U' H'=>∀v,bw X.K cA U' H' d v->Q v H') (eX X.K cA EX Z):=by
      unfold Run M.bd walk at h3;simp only[ei] at h3;exact h3
     exact zgw h4 x2 hD (aJ.nz hD) aV kp zL
    |some xi=>
     refine .inr ⟨hJ.go U' H' H' s' i xi x2 dH.refl aV ei,λZ2 H2=>(Z2.length=many+fr.length/\∀i,many<=i->Z2[i]?=(cT many fr Z)[i]?)/\∃U' s' acc vs,Ext U1 H1 U' H2/\aG X.K cA U' H2 s'/\Keep U' H2 Dd vs/\aD X.K cA U' H2 acc vs /\
      Run X.K cA (M.bd (walk c (gM aq aj F B cond dM (blk many fr J)) k (i+1) acc) λxs=>newL fz xs) U1 H1 s' (λd _ U' H'=>∀v,bw X.K cA U' H' d v->Q v H') (eX X.K cA EX Z),λZ2 H2 hn=>⟨k,by omega,by omega,hn.1,?_⟩,λv H2 hy=>?_⟩
     ·have:n+1-(i+1)=k:=by omega
      rw[this];exact hn.2
     ·obtain⟨gr,rx⟩:=hJ.Bp U' H' H' s' i xi v H2 x2 dH.refl aV ei hy;have h4:Run X.K cA (M.bd (gM aq aj F B cond dM (blk many fr J) xi acc) λacc'=>M.bd (walk c (gM aq aj F B cond dM (blk many fr J)) k (i+1) acc') λxs=>newL fz xs) U1 H1 s' (λd _ U' H'=>∀v,bw X.K cA U' H' d v->Q v H') (eX X.K cA EX Z):=by
       have h5:=zmX (m':=M.bd (gM aq aj F B cond dM (blk many fr J) xi acc) λacc'=>walk c (gM aq aj F B cond dM (blk many fr J)) k (i+1) acc') (by rw[walk];simp only[ei]) h3;rw[jJ] at h5;exact h5
      exact ziR hT iy hD (x2.trans gr.ext) (hL2.mono gr.ext aV.lz) (aV.grow gr) (kp.mono gr.ext) (zL.mono gr.ext aV.lz) rx h4 λZ3 H3 U3 s3 xX N6 l3 f3 x3 _ lV k3 r3 h6=>⟨⟨l3.trans hZ.1,λi hi=>(f3 i hi).trans (hZ.2 i hi)⟩,U3,s3,xX,N6,x3,lV,k3,r3,h6⟩
 ·have h:Run X.K cA (if aj=true then M.bd (mZ aq aj F w J) λcn=>M.bd (walk cn.1 (gM aq aj F B cond dM (blk many fr J)) (cn.2+1) 0 []) λxs=>newL fz xs else M.no) U H s (λd _ U' H'=>∀v,bw X.K cA U' H' d v->Q v H') (eX X.K cA EX Z):=h;rw[if_neg dh] at h;exact h.elim
theorem zeG{XN:List Str}(tu:∀(i:Nat) (y:Str) (j:Nat),N[many+i]?=some y->fr[i]?=some j->scope.names.lookup y=some .free/\XN[j]?=some y)(Z:L2.St)(i:Nat)(x:Str)(v:V)(e1:N[i]?=some x)(e2:(cT many fr Z)[i]?=some (some v)):scope.names.lookup x=some .free/\∃j:Nat,XN[j]?=some x/\Z[j]?=some (some v):=by
 unfold cT at e2;by_cases hi:i<many
 ·rw[lD (by simpa using hi),Ad,if_pos hi] at e2;cases e2
 ·rw[nF (by simpa using GQ hi),DG,gC] at e2;cases z:fr[i-many]? with
  |none=>rw[z] at e2;cases e2
  |some j=>
   rw[z] at e2;have e3:(Z[j]?).join=some v:=by simpa using e2
   obtain⟨a1,a2⟩:=tu (i-many) x j (by rw[show many+(i-many)=i by omega];exact e1) z;exact⟨a1,j,a2,TX e3⟩
theorem zgF{g:TG}(hc:X.aj=true)(B':dO X.env.scope scope)(hi:SI X cA aq aj F EX tg iter w)(hN:N.length=many+fr.length)
  (tu:∀(i:Nat) (y:Str) (j:Nat),N[many+i]?=some y->fr[i]?=some j->scope.names.lookup y=some .free/\X.N[j]?=some y)
  (hg:∀cl C s3 H3 fp ao,PG (X.blk scope cl N C s3 H3 fp ao) tg g) (hT:m8 X.K cA g dM) (iy:∀i∈dM,i<many)
  (ht:∀cl C s3 H3 fp ao,Kf (X.blk scope cl N C s3 H3 fp ao) cA aq aj F (λ_ _ _ _=>False) ifs cond) (he:∀cl C s3 H3 fp ao,SE (X.blk scope cl N C s3 H3 fp ao) cA aq aj F (λ_ _ _ _=>False) elt B)
  (hs:∀x,foldedSetIterable iter X.env x=pure x:=by intro _;rfl):SE X cA aq aj F EX (.ListComp elt [⟨tg,iter,ifs,0⟩] scope pos) (.comp fz B dM w fr many cond):=
 PE.weak (zla hc B' hi (⟨hg,ht,he⟩ : Parts X elt tg ifs scope N g (v9 X.K cA (λ_ _ _ _=>False) (rK aq aj F cond)) (tE X.K cA (λ_ _ _ _=>False) (ev aq aj F B))) (ZY:=cT many fr) (λZ=>by simp[cT,hN]) (λZ i x v e1 e2=>zeG tu Z i x v e1 e2) hs) λZ H Q hh=>zde (iter':=iter) hT iy hh
end
section
variable (K:W.Frag)(cA:Cl)
def aO(m:MS)(U:Ph)(H:Hp)(s:S)(D:Ends)(EX:XS):Prop:=match m s with
 |some (.nx J,s')=>∀U' H' Z',Ext U H U' H'->aG K cA U' H' s'->bx K cA U' H' Z' J->D.nx Z' H'
 |some (.bk J,s')=>∀U' H' Z',Ext U H U' H'->aG K cA U' H' s'->bx K cA U' H' Z' J->D.bk Z' H'
 |some (.ct J,s')=>∀U' H' Z',Ext U H U' H'->aG K cA U' H' s'->bx K cA U' H' Z' J->D.ct Z' H'
 |some (.rt d,s')=>∀U' H' v,Ext U H U' H'->aG K cA U' H' s'->bw K cA U' H' d v->D.rt v H'
 |some (.er c fs J,s')=>∀U' H' Z',Ext U H U' H'->aG K cA U' H' s'->bx K cA U' H' Z' J->∀dx,j_ K cA U' H' c fs dx->EX Z' (.ref (cA.a c)) dx H'
 |none=>False
noncomputable def tS(EX:XS)(m:Vs->MS):TS:=λD Z H=>∃U J s,bx K cA U H Z J/\aG K cA U H s/\aO K cA (m J) U H s D EX
end
section
variable {K:W.Frag}{cA:Cl}{U U':Ph}{H H':Hp}{s:S}{Z:L2.St}{J:Vs}{EX:XS}{D:Ends}
theorem aO.ext{m:MS}(x:Ext U H U' H')(h:aO K cA m U H s D EX):aO K cA m U' H' s D EX:=by
 unfold aO at *;split at h<;>first
  |exact λU2 H2 a y r l=>h U2 H2 a (x.trans y) r l
  |exact h.elim
theorem aO.ofM{α:Type}{m:M α}{k:α->MS}(hL:bx K cA U H Z J)(hz:∀a∈U.l,U.z a)(h:aO K cA (ofM m J k) U H s D EX):Run K cA m U H s (λa s1 U1 H1=>Ext U H U1 H1/\aG K cA U1 H1 s1/\aO K cA (k a) U1 H1 s1 D EX) (eX K cA EX Z):=by
 unfold aO Mi.ofM at h;unfold Run;cases e:m s with
 |none=>rw[e] at h;exact h
 |some r=>
  obtain⟨r,s1⟩:=r;rw[e] at h;cases r with
  |er c fs=>exact λU1 H1 x r=>h U1 H1 Z x r (hL.mono x hz)
  |ok a=>
   intro U1 H1 x r;refine⟨x,r,?_⟩;have h2:aO K cA (k a) U H s1 D EX:=h;exact h2.ext x
theorem aO.then_(h:aO K cA (cH m k) U H s D EX):aO K cA m U H s {D with nx:=λZ' H'=>∃U' J' s',bx K cA U' H' Z' J'/\aG K cA U' H' s'/\aO K cA (k J') U' H' s' D EX} EX:=by
 unfold aO cH at h;unfold aO;cases e:m s with
 |none=>rw[e] at h;exact h
 |some r=>
  obtain⟨r,s1⟩:=r;rw[e] at h;cases r with
  |nx J=>
   intro U1 H1 Z1 x r l;have h2:aO K cA (k J) U H s1 D EX:=h;exact⟨U1,J,s1,l,r,h2.ext x⟩
  |bk J=>exact h
  |ct J=>exact h
  |rt d=>exact h
  |er c fs J=>exact h
end
section
variable (X:Cx)(cA:Cl)(aq:Nat->Nat->Bool)(aj:Bool)(F:Bool->Fn)(EX:XS)
def SS(st:Stmt)(m:St):Prop:=PS X st (tS X.K cA EX (ex aq aj F m))
def u5(st:List Stmt)(m:bL):Prop:=oX X st (tS X.K cA EX (exs aq aj F m))
end
section
variable {X:Cx}{cA:Cl}{aq:Nat->Nat->Bool}{aj:Bool}{F:Bool->Fn}{EX:XS}{a b c d e:Expr}{A B C:E}{pos p p2:Pos}{st:Stmt}{sts body orelse:List Stmt}{m:St}{ms mb me mh:bL}{es:List Expr}{Xs:Es}{x y n:Str}{i j:Nat}
theorem PS.weak{t t':TS}(h:PS X st t)(f:∀D Z H,t' D Z H->t D Z H):PS X st t':=λao s Z H D I q=>h ao s Z H D I (f D Z H q)
theorem oX.weak{t t':TS}(h:oX X sts t)(f:∀D Z H,t' D Z H->t D Z H):oX X sts t':=λao s Z H D I q=>h ao s Z H D I (f D Z H q)
theorem zow:SS X cA aq aj F EX st .no:=λ_ _ _ _ _ _ ⟨_,_,_,_,_,h⟩=>h.elim
theorem zlt:u5 X cA aq aj F EX [] .nil:=oX.weak Yz λD Z H hh=>un hh λU J s hL hS h=>h U H Z Ext.refl hS hL
theorem zhQ(h1:SS X cA aq aj F EX st m)(h2:u5 X cA aq aj F EX sts ms):u5 X cA aq aj F EX (st::sts) (.cons m ms):=oX.weak (YB h1 h2) λD Z H hh=>un hh λU J s hL hS h=>by
 have h:aO X.K cA (cH (ex aq aj F m J) λJ'=>exs aq aj F ms J') U H s D EX:=h;exact⟨U,J,s,hL,hS,h.then_⟩
theorem zps(ha:SE X cA aq aj (F aj) EX a A)(hs:swapsWith a none pos.line X.env=pure false:=by rfl):SS X cA aq aj F EX (.Expr a pos) (.ex A):=PS.weak (zkf ha hs) λD Z H hh=>un hh λU J s hL hS h=>
 ⟨U,J,s,hL,hS,(aO.ofM hL hS.lz h).imp λd s1 U1 H1 ⟨x1,aJ,h1⟩ v rv=>h1 U1 H1 Z Ext.refl aJ (hL.mono x1 hS.lz)⟩
theorem znA(ha:SE X cA aq aj (F aj) EX a A):SS X cA aq aj F EX (.Return (some a) pos) (.ret A):=PS.weak (zn6 ha) λD Z H hh=>un hh λU J s hL hS h=>
 ⟨U,J,s,hL,hS,(aO.ofM hL hS.lz h).imp λd s1 U1 H1 ⟨x1,aJ,h1⟩ v rv=>h1 U1 H1 v Ext.refl aJ rv⟩
theorem zmL(hN:X.N.Nodup)(hi:X.N[i]?=some x)(hx:Loc X.env.scope x)(ha:SE X cA aq aj (F aj) EX a A)(hs:swapsWith a (some (.Name x p)) pos.line X.env=pure false:=by rfl)(hf:X.fn x=true\/X.env.scope.names.lookup x=some .local:=by first|exact .inl rfl|exact .inr rfl) :
  SS X cA aq aj F EX (.Assign [.Name x p] a pos) (.asg (.nm i) A):=PS.weak (zn2 hN hi hx ha hs hf) λD Z H hh=>un hh λU J s hL hS h=>
 ⟨U,J,s,hL,hS,(aO.ofM hL hS.lz h).imp λd s1 U1 H1 ⟨x1,aJ,h1⟩ v rv=>h1 U1 H1 _ Ext.refl aJ ((hL.mono x1 hS.lz).set rv)⟩
theorem Uk{k}(hc:X.aj=true)(hN:X.N.Nodup)(hi:X.N[i]?=some x)(hj:X.N[j]?=some y)(hx:Loc X.env.scope x)(hy:Loc X.env.scope y)(xY:X.fn x=true\/X.env.scope.names.lookup x=some .local)(xZ:X.fn y=true\/X.env.scope.names.lookup y=some .local) :
  PG X (.Tuple [.Name x px,.Name y py] k pos) (ux X.K 2 (iD (eN i) (iD (eN j) uw))):=zl5 hc (YC (MF hN hi hx xY) (YC (MF hN hj hy xZ) zlq))
theorem zdC{K:W.Frag}{U:Ph}{H:Hp}{s:S}{J:Vs}{Z:L2.St}{D:Ends}{d:Xv}{v:V}(dh:aj=true)(hL:bx K cA U H Z J)(hS:aG K cA U H s)(rv:bw K cA U H d v)(h:aO K cA (store aq aj (F aj) (.tp [i,j]) d J) U H s D EX):ux K 2 (iD (eN i) (iD (eN j) uw)) v Z H D.nx:=by
 have h:aO K cA (if aj=true then ofM (M.bd (dat d) λd=>M.opt ((lR d).bind λds=>gY [i,j] (ds.map Xv.d) J)) J (λJ' s=>some (Out.nx J',s)) else λ_=>none) U H s D EX:=h;rw[if_pos dh] at h;obtain⟨dd,e0,rd,h1⟩:=Nz rv (aO.ofM hL hS.lz h);obtain⟨J',e,_,aJ,h2⟩:=Run.opt hS h1;refine(Kg i j).run U H s Z J J' dd v _ hL hS rd e λZ' hL' _ _=>h2 U H Z' Ext.refl hS hL'
theorem zkG{k}(hc:X.aj=true)(dh:aj=true)(hN:X.N.Nodup)(hi:X.N[i]?=some x)(hj:X.N[j]?=some y)(hx:Loc X.env.scope x)(hy:Loc X.env.scope y)(xY:X.fn x=true\/X.env.scope.names.lookup x=some .local)(xZ:X.fn y=true\/X.env.scope.names.lookup y=some .local)(ha:SE X cA aq aj (F aj) EX a A)
  (hs:swapsWithSole [.Tuple [.Name x px,.Name y py] k pt] a pos.line X.env=pure false:=by rfl) (hw:swappedStores [.Tuple [.Name x px,.Name y py] k pt] a X.env=pure none:=by rfl)
  (h1:(assignEach [.Tuple [.Name x px,.Name y py] k pt] X.env).map (·.2)=[assign (.Tuple [.Name x px,.Name y py] k pt) X.env]:=by rfl) :
  SS X cA aq aj F EX (.Assign [.Tuple [.Name x px,.Name y py] k pt] a pos) (.asg (.tp [i,j]) A):=PS.weak (YD ha (Uk hc hN hi hj hx hy xY xZ) hs hw h1) λD Z H hh=>un hh λU J s hL hS h=>
 ⟨U,J,s,hL,hS,(aO.ofM hL hS.lz h).imp λd s1 U1 H1 ⟨x1,aJ,h1⟩ v rv=>zdC dh (hL.mono x1 hS.lz) aJ rv h1⟩
theorem znh(hO:SE X cA aq aj (F aj) EX oo O)(hI:SE X cA aq aj (F aj) EX ii I')(ha:SE X cA aq aj (F aj) EX a A)
  (Ul:∀v,assign (.Subscript oo ii p) X.env v=(do
   let ov <-holding [v] (eval oo X.env)
   let iv <-holding [v,ov] (eval ii X.env)
   standAt p
   holding [v,ov,iv] (setItem ov iv v)
   release [v,ov,iv] []):=by intro _;rfl) (hs:swapsWithSole [.Subscript oo ii p] a pos.line X.env=pure false:=by rfl) (hw:swappedStores [.Subscript oo ii p] a X.env=pure none:=by rfl)
  (h1:(assignEach [.Subscript oo ii p] X.env).map (·.2)=[assign (.Subscript oo ii p) X.env]:=by rfl) :
  SS X cA aq aj F EX (.Assign [.Subscript oo ii p] a pos) (.asg (.aq O I') A):=PS.weak (YD ha (zmQ hO hI zhC Ul) hs hw h1) λD Z H hh=>un hh λU J s hL hS h=>by
 refine⟨U,J,s,hL,hS,(aO.ofM hL hS.lz h).imp λd s1 U1 H1 ⟨x1,aJ,h1⟩ v rv=>?_⟩;obtain⟨dd,e0,rd,h2⟩:=Nz rv (aO.ofM (hL.mono x1 hS.lz) aJ.lz h1);refine bB (hL.mono x1 hS.lz) aJ h2 λxo H2 U2 d2 s2 x2 hL2 aV r2 h3=>bB hL2 aV h3 λyi H3 U3 d3 s3 x3 xU lV r3 h4=>?_;obtain⟨k,_,ek,h5⟩:=Ft r3 h4;obtain⟨n,ad,xs,vs,_,ea,e1,f1,g1,q1,h6⟩:=Ue lV (r2.mono x3 aV.lz) h5;subst ek ea;cases ej:L2.rz xs.length k with
 |none=>simp only[ej] at h6;exact h6.elim
 |some jj=>
  simp only[ej] at h6;refine⟨ad,vs,k,jj,rfl,rfl,g1,by rw[<-q1.len];exact ej,?_⟩;have rv3:=(rd.mono x2 aJ.lz).mono x3 aV.lz;have zF:=lV.write e1 f1 (q1.set rv3 jj);have x4:Ext U3 H3 U3 (upd H3 ad (.lst (vs.set jj v))):=Ext.write f1 ⟨_,g1⟩;obtain⟨_,_,h8⟩:=h6 U3 _ x4 zF;exact h8 U3 _ Z Ext.refl zF (xU.mono x4 lV.lz)
theorem zoG(hc:ST X cA aq aj (F aj) EX c C)(ht:u5 X cA aq aj F EX body mb)(he:u5 X cA aq aj F EX orelse me):SS X cA aq aj F EX (.If c body orelse pos) (.iff C mb me):=PS.weak (zpl hc ht he) λD Z H hh=>un hh λU J s hL hS h=>by
 refine⟨U,J,s,hL,hS,(aO.ofM hL hS.lz h).imp λk s1 U1 H1 ⟨x1,aJ,h1⟩=>?_⟩;cases k with
 |true=>exact iT ⟨U1,J,s1,hL.mono x1 hS.lz,aJ,h1⟩
 |false=>exact iF ⟨U1,J,s1,hL.mono x1 hS.lz,aJ,h1⟩
theorem zhB{cc:Nat}{B' Bn newId nid initId inN:String}{bmB bmN:List Value}{apos:Pos}(hf:cA.f cc=[])(Fn':ExcBaseFacts Bn newId inN bmN)(R7:bmB.contains (.type Bn)=true)(FB:ExcBaseFacts B' nid initId bmB)(hc:X.aj=true)(dh:aj=true)(hX:mz X.K (cA.a cc) bmB newId none=true)(hg:Gl X x)(hm:X.mg x=some (.ref (cA.a cc)))
  (R:Raises X EX) (ha:SA X cA aq aj (F aj) EX (e::es) Xs) (hz:Es.len Xs<=sizeLine) (k_:(x==("__debug__" : Str))=false:=by decide) (he:starEach (e::es) X.env=(false,eval e X.env)::starEach es X.env:=by rfl) (hpl:(backTo apos (starEach es X.env)).any (·.1)=false:=by rfl) :
  SS X cA aq aj F EX (.Raise (some (.Call (.Name x p) (e::es) [] apos)) none pos) (.rise cc false Xs):=PS.weak (zit Fn' R7 FB hc hX hg hm R ha k_ he hpl) λD Z H hh=>un hh λU J s hL hS h=>by
 have h:aO X.K cA (if aj=true then ofM (M.bd (evs aq aj (F aj) Xs J) bY) J (λds s=>some (.er cc (if false=true then ds else []) J,s)) else λ_=>none) U H s D EX:=h;rw[if_pos dh] at h;refine Cw hL hS (aO.ofM hL hS.lz h) λvs H1 U1 xs s1 hl x1 hL1 aJ rv h1=>?_;have h1:Run X.K cA (M.bd (bY xs) M.ret) U1 H1 s1 (λa s1 U1 H1=>Ext U H U1 H1/\aG X.K cA U1 H1 s1/\aO X.K cA (λs=>some (.er cc (if false=true then a else []) J,s)) U1 H1 s1 D EX) (eX X.K cA EX Z):=by
  unfold Run at h1 ⊢;unfold M.bd;cases e1:bY xs s1 with
  |none=>rw[e1] at h1;exact h1
  |some r=>
   obtain⟨r,s2⟩:=r;rw[e1] at h1;cases r with
   |er c f=>exact h1
   |ok ds=>exact h1
 obtain⟨ds,e1,rs,h2⟩:=NK rv h1;obtain⟨_,_,h3⟩:=h2.bH aJ;exact⟨by rw[<-rv.len,hl];exact hz,h3 U1 H1 Z Ext.refl aJ hL1 none (.inl ⟨hf,rfl,rfl⟩)⟩
theorem zlf{g:TG}{elt iter tg:Expr}{ifs:List Expr}{scope:Scope}{N:List Str}{cond:Eo}{fr dM:List Nat}{many:Nat}{fz:Bool}{w:Wk}{spos py:Pos}(hc:X.aj=true)(yc:X.N.Nodup)(Jd:X.N[i]?=some y)(hx:Loc X.env.scope y)(hf:X.fn y=true\/X.env.scope.names.lookup y=some .local)(B':dO X.env.scope scope)(hi:SI X cA aq aj (F aj) EX tg iter w)(hN:N.length=many+fr.length)
  (tu:∀(i:Nat) (y:Str) (j:Nat),N[many+i]?=some y->fr[i]?=some j->scope.names.lookup y=some .free/\X.N[j]?=some y)
  (hg:∀cl C s3 H3 fp ao,PG (X.blk scope cl N C s3 H3 fp ao) tg g) (hT:m8 X.K cA g dM) (iy:∀i∈dM,i<many)
  (ht:∀cl C s3 H3 fp ao,Kf (X.blk scope cl N C s3 H3 fp ao) cA aq aj (F aj) (λ_ _ _ _=>False) ifs cond) (he:∀cl C s3 H3 fp ao,SE (X.blk scope cl N C s3 H3 fp ao) cA aq aj (F aj) (λ_ _ _ _=>False) elt B)
  (Je:swapsWith (.ListComp elt [⟨tg,iter,ifs,0⟩] scope pos) (some (.Name y py)) spos.line X.env=pure true) (hs:∀x,foldedSetIterable iter X.env x=pure x:=by intro _;rfl) :
  SS X cA aq aj F EX (.Assign [.Name y py] (.ListComp elt [⟨tg,iter,ifs,0⟩] scope pos) spos) (.asg (.nm i) (.comp fz B dM w fr many cond)):=
 PS.weak (zfu hc yc Jd hx hf B' hi (⟨hg,ht,he⟩ : Parts X elt tg ifs scope N g (v9 X.K cA (λ_ _ _ _=>False) (rK aq aj (F aj) cond)) (tE X.K cA (λ_ _ _ _=>False) (ev aq aj (F aj) B))) (ZY:=cT many fr) (λZ=>by simp[cT,hN]) (λZ i x v e1 e2=>zeG tu Z i x v e1 e2) Je hs) λD Z H hh=>un hh λU J s hL hS h=>
  zde (iter':=iter) hT iy ⟨U,J,s,hL,hS,(aO.ofM hL hS.lz h).imp λd s1 U1 H1 ⟨x1,aJ,h1⟩ v rv=>h1 U1 H1 _ Ext.refl aJ ((hL.mono x1 hS.lz).set rv)⟩
noncomputable def qL(m:MS)(kN:Vs->MS):MS:=λs=>match m s with
 |some (.nx J',s')=>kN J' s'
 |some (.ct J',s')=>kN J' s'
 |some (.bk J',s')=>some (.nx J',s')
 |r=>r
theorem Kai{K:W.Frag}{U:Ph}{H:Hp}{s:S}{D:Ends}{m:MS}{kN:Vs->MS}{N:L2.St->Hp->Prop}(hN:∀U' J' s' Z' H',Ext U H U' H'->bx K cA U' H' Z' J'->aG K cA U' H' s'->aO K cA (kN J') U' H' s' D EX->N Z' H')(h:aO K cA (qL m kN) U H s D EX) :
  aO K cA m U H s {D with nx:=N,ct:=N,bk:=D.nx} EX:=by
 unfold aO qL at h;unfold aO;cases e:m s with
 |none=>rw[e] at h;exact h
 |some r=>
  obtain⟨r,s1⟩:=r;rw[e] at h;cases r with
  |nx J'=>
   intro U1 H1 Z1 x r l;have h2:aO K cA (kN J') U H s1 D EX:=h;exact hN U1 J' s1 Z1 H1 x l r (h2.ext x)
  |ct J'=>
   intro U1 H1 Z1 x r l;have h2:aO K cA (kN J') U H s1 D EX:=h;exact hN U1 J' s1 Z1 H1 x l r (h2.ext x)
  |bk J'=>exact h
  |rt d=>exact h
  |er c fs J'=>exact h
def SG(X:Cx)(cA:Cl)(aq:Nat->Nat->Bool)(aj:Bool)(F:Bool->Fn)(EX:XS)(tg:Expr)(t:Tg):Prop:=∃g:TG,PG X tg g/\∀(U:Ph) (H:Hp) (s:S) (Z:L2.St) (J:Vs) (d:Xv) (v:V) (D:Ends),bx X.K cA U H Z J->aG X.K cA U H s->bw X.K cA U H d v->
 aO X.K cA (store aq aj (F aj) t d J) U H s D EX->g v Z H D.nx
theorem zlh(hN:X.N.Nodup)(hi:X.N[i]?=some x)(hx:Loc X.env.scope x)(hf:X.fn x=true\/X.env.scope.names.lookup x=some .local:=by first|exact .inl rfl|exact .inr rfl):SG X cA aq aj F EX (.Name x pos) (.nm i):=
 ⟨_,MF hN hi hx hf,λU H s Z J d v D hL hS r h=>h U H _ Ext.refl hS (hL.set r)⟩
theorem zj7{k}(hc:X.aj=true)(dh:aj=true)(hN:X.N.Nodup)(hi:X.N[i]?=some x)(hj:X.N[j]?=some y)(hx:Loc X.env.scope x)(hy:Loc X.env.scope y)(xY:X.fn x=true\/X.env.scope.names.lookup x=some .local)(xZ:X.fn y=true\/X.env.scope.names.lookup y=some .local) :
  SG X cA aq aj F EX (.Tuple [.Name x px,.Name y py] k pos) (.tp [i,j]):=
 ⟨_,Uk hc hN hi hj hx hy xY xZ,λU H s Z J d v D hL hS r h=>zdC dh hL hS r h⟩
theorem zlV(hp:PassesOwn (model X.prog X.w) X.A X.env X.xe)(hc:X.aj=true)(dh:aj=true)(ha:SI X cA aq aj (F aj) EX tg a w)(hg:SG X cA aq aj F EX tg t)(hb:u5 X cA aq aj F EX body mb)
  (hs:∀x,foldedSetIterable a X.env x=pure x:=by intro _;rfl):SS X cA aq aj F EX (.For tg a body [] pos) (.fr t w mb):=by
 obtain⟨g,hG,hg⟩:=hg;refine PS.weak (znJ hp hc ha hG hb hs) λD Z H hh=>un hh λU J s hL hS h=>?_;have h:aO X.K cA (if aj=true then ofM (mZ aq aj (F aj) w J) J λcn=>cR cn.1 (λd J=>cH (store aq aj (F aj) t (.d d) J) λJ'=>exs aq aj F mb J') (cn.2+1) 0 J else λ_=>none) U H s D EX:=h;rw[if_pos dh] at h;refine⟨U,J,s,hL,hS,(aO.ofM hL hS.lz h).imp λcn s1 U1 H1 ⟨x1,aJ,h1⟩ bO hJ=>?_⟩;have hL1:=hL.mono x1 hS.lz;obtain⟨c,n⟩:=cn;dsimp only at h1 hJ;refine⟨λi m Z' H'=>∃U' J' s',Ext U1 H1 U' H'/\bx X.K cA U' H' Z' J'/\aG X.K cA U' H' s'/\aO X.K cA (cR c (λd J=>cH (store aq aj (F aj) t (.d d) J) λJ'=>exs aq aj F mb J') m i J') U' H' s' D EX,⟨n+1,U1,J,s1,Ext.refl,hL1,aJ,h1⟩,?_⟩;rintro i m Z' H' ⟨U',J',s',x2,hL2,aV,h4⟩;cases m with
 |zero=>exact h4.elim
 |succ m=>
  cases ei:c.at i s' with
  |none=>
   exfalso
   unfold aO cR at h4;simp only[ei] at h4
  |some oi=>
   cases oi with
   |none=>
    refine .inl ⟨hJ.stop U' H' H' s' i x2 dH.refl aV ei,?_⟩;unfold aO cR at h4;simp only[ei] at h4;exact h4 U' H' Z' Ext.refl aV hL2
   |some xi=>
    refine .inr ⟨hJ.go U' H' H' s' i xi x2 dH.refl aV ei,_,λZ3 H3 z=>⟨m,LR m,z⟩,λv H3 hy=>?_⟩;obtain⟨gr,rx⟩:=hJ.Bp U' H' H' s' i xi v H3 x2 dH.refl aV ei hy;have h5:aO X.K cA (qL (cH (store aq aj (F aj) t (.d xi) J') λJ'=>exs aq aj F mb J') (cR c (λd J=>cH (store aq aj (F aj) t (.d d) J) λJ'=>exs aq aj F mb J') m (i+1))) U' H' s' D EX:=by
     unfold aO at h4 ⊢;have e:cR c (λd J=>cH (store aq aj (F aj) t (.d d) J) λJ'=>exs aq aj F mb J') (m+1) i J' s'=qL (cH (store aq aj (F aj) t (.d xi) J') λJ'=>exs aq aj F mb J') (cR c (λd J=>cH (store aq aj (F aj) t (.d d) J) λJ'=>exs aq aj F mb J') m (i+1)) s':=by
      rw[cR];simp only[ei];rfl
     rw[e] at h4;exact h4
    exact hg U' H3 s' Z' J' (.d xi) v _ (hL2.mono gr.ext aV.lz) (aV.grow gr) (.d rx) (aO.then_ (Kai (λU4 J4 s4 Z4 H4 x4 l4 r4 q4=>⟨U4,J4,s4,(x2.trans gr.ext).trans x4,l4,r4,q4⟩) (h5.ext gr.ext)))
theorem zl3(dh:aj=true)(hex:X.ex=[])(oY:X.stack=X.env::X.outer/\X.env.frame=some X.env.locals)(hg:Gl X x)(hm:X.mg x=some (.ref (cA.a dc)))(hN:X.N.Nodup)(hi:X.N[i]?=some n)(hl:X.env.scope.names.lookup n=some .local)
  (hsub:∀c,aq c dc=true->subIn X.K (cA.a c) (cA.a dc)=true)
  (hb:∀(pn:List (Addr×Obj)) (E':Value->Shared->Prop) (tD:XS),Raises (X.seen X.A X.aj pn E') tD->PassesOwn (model X.prog X.w) X.A X.env E'->u5 (X.seen X.A X.aj pn E') cA aq aj F tD body mb)
  (hh:∀e:Value,u5 (X.seen (X.A.mark (some e)) false X.pn (λ_ _=>False)) cA aq false F (λ_ _ _ _=>False) (b₀::suite) mh) (k_:(x==("__debug__" : Str))=false:=by decide) :
  SS X cA aq aj F EX (.Try body [.ExceptHandler (some (.Name x np)) (some n) (b₀::suite) uG] [] [] pos) (.rD mb dc i mh):=by
 refine PS.weak (znR (tb:=λtD=>tS X.K cA tD (exs aq aj F mb)) (th:=tS X.K cA (λ_ _ _ _=>False) (exs aq false F mh)) hex oY hg hm hN hi hl hb hh k_) λD Z H hh=>un hh λU J s hL hS h=>?_;refine⟨U,J,s,hL,hS,?_⟩;have h:aO X.K cA (if aj=true then λs=>match exs aq aj F mb J s with
   |some (.er c fs J',s')=>if aq c dc=true then (match exs aq false F mh (J'.set i (some (.d (.exc c fs)))) s' with
    |some (r,s'')=>(match r with
     |.er _ _ _=>none
     |r=>some (goes i r,s''))
    |none=>none) else none
   |r=>r
  else λ_=>none) U H s D EX:=h
 rw[if_pos dh] at h;unfold aO at h ⊢;cases e:exs aq aj F mb J s with
 |none=>simp only[e] at h
 |some r=>
  obtain⟨r,s1⟩:=r;simp only[e] at h;cases r with
  |nx J'=>exact h
  |ct J'=>exact h
  |bk J'=>exact h
  |rt d=>exact h
  |er c fs J'=>
   intro U1 H1 Z1 x1 r1 l1 dx yW;by_cases Um:aq c dc=true
   ·simp only[if_pos Um] at h;refine⟨cA.a c,rfl,hsub c Um,λad hn=>?_⟩;have gr:bf H1 (upd H1 ad (jX ad (cA.a c) dx)):=bf.new hn;have xe:Ext U1 H1 U1 (upd H1 ad (jX ad (cA.a c) dx)):=gr.ext;have rx:Rep X.K cA U1 (upd H1 ad (jX ad (cA.a c) dx)) (.exc c fs) (.ref ad):=by
     rcases yW with ⟨e1,e2,e3⟩|⟨d,vs,e3,nz,hd,hl,rs⟩
     ·subst e2 e3;exact .exc ⟨r1.nz hn,.inl ⟨e1,rfl,iY⟩⟩ .nil
     ·subst e3;exact .exc ⟨r1.nz hn,.inr ⟨d,iY,nz,gr _ _ hd,hl⟩⟩ (rs.mono xe r1.lz)
    refine⟨U1,J'.set i (some (.d (.exc c fs))),s1,(l1.mono xe r1.lz).set (.d rx),r1.grow gr,?_⟩;unfold aO;cases e2:exs aq false F mh (J'.set i (some (.d (.exc c fs)))) s1 with
    |none=>rw[e2] at h;exact h
    |some q=>
     obtain⟨q,s2⟩:=q;rw[e2] at h;cases q with
     |er c2 f2 J2=>exact h.elim
     |nx J2=>exact λU2 H2 Z2 x2 r2 l2=>h U2 H2 _ ((x1.trans xe).trans x2) r2 l2.unset
     |bk J2=>exact λU2 H2 Z2 x2 r2 l2=>h U2 H2 _ ((x1.trans xe).trans x2) r2 l2.unset
     |ct J2=>exact λU2 H2 Z2 x2 r2 l2=>h U2 H2 _ ((x1.trans xe).trans x2) r2 l2.unset
     |rt dd=>exact λU2 H2 v x2 r2 rv=>h U2 H2 v ((x1.trans xe).trans x2) r2 rv
   ·simp only[if_neg Um] at h
end
end Mi
namespace L2
open PySem PySem.Spec PyProof.Rows
structure oJ(K:W.Frag)(x qual:Str)(st:Stmt)(f:Addr)(fd:FuncData):Prop where
 ex:∃(oc:Value) (od:Option Addr) (kV doc pm:Value) (an:Option Addr) (cdv ct:Value) (osl:Array (Option Value)),
  fd=PySem.W.fnOf x qual (aQ st) (aL st) (au st) .none kV doc pm an cdv ct/\K.lookup f=some ⟨oc,od,.func fd,osl⟩/\PySem.W.codeIn K cdv qual=true
 kp:PySem.W.keepIn K (.ref f)=true
end L2
namespace Mi
open PySem PySem.Spec PyProof.Rows L2
section
variable {P:Program}{w:World}{K:W.Frag}{mg:Str->Option Value}{base:Heap}{cA:Cl}{aq:Nat->Nat->Bool}{T:Nat->Option Df}
theorem zcA{U:Ph}{H:Hp}{N:List Str}{ds:List Xv}{vs:List V}{m p:Nat}(r:aW K cA U H ds vs)(hp:p=ds.length)(hm:m=N.length):bx K cA U H (L2.start N vs) (ds.map some++List.replicate (m-p) none):=by
 subst hp hm;unfold L2.start;have hl:=r.len;refine⟨by simp[hl],λi d e=>?_⟩;by_cases hi:i<ds.length
 ·rw[lD (by simpa using hi),gC] at e;cases z:ds[i]? with
  |none=>rw[z] at e;cases e
  |some x=>
   rw[z] at e;cases e;obtain⟨v,a,b⟩:=r.get z;exact⟨v,by rw[lD (by simp;lia),gC,a];rfl,b⟩
 ·rw[nF (by simpa using hi),Ad] at e;split at e<;>cases e
theorem zer{U:Ph}{H:Hp}{s:S}{ds:List Xv}{k n:Nat}{cm:Bool}{df:Df}{Q:VK}{E:XK}(hT:T n=some df)
  (h:Run K cA (call aq T (k+1) cm n ds) U H s (λd _ U' H'=>∀v,bw K cA U' H' d v->Q v H') (λc fs _ U' H'=>∀dx,j_ K cA U' H' c fs dx->E (.ref (cA.a c)) dx H')) :
  ds.length=df.gH/\aO K cA (exs aq cm (λc=>call aq T k c) df.body (ds.map some++List.replicate (df.many-df.gH) none)) U H s {nx:=λ_ H'=>Q .non H',rt:=Q} (λ_ C dx H'=>E C dx H'):=by
 unfold call at h;simp only[hT] at h;by_cases hl:ds.length=df.gH
 ·refine⟨hl,?_⟩;rw[if_pos hl] at h;unfold Run at h;unfold aO;cases e:exs aq cm (λc=>call aq T k c) df.body (ds.map some++List.replicate (df.many-df.gH) none) s with
  |none=>simp only[e] at h
  |some r=>
   obtain⟨r,s1⟩:=r;simp only[e] at h;cases r with
   |nx J=>exact λU' H' Z' x r l=>h U' H' x r _ (.d .non)
   |rt d=>exact λU' H' v x r rv=>h U' H' x r v rv
   |er c fs J=>exact λU' H' Z' x r l=>h U' H' x r
   |bk J=>exact h.elim
   |ct J=>exact h.elim
 ·rw[if_neg hl] at h;exact h.elim
theorem dw{cm:Bool}{n:Nat}{f:Addr}{fd:FuncData}{ps:List Str}:cC P w K mg base (gK P w) cm 0 f fd ps (lu K cA (call aq T 0 cm n)):=by
 have no:∀vs H Q E,lu K cA (call aq T 0 cm n) vs H Q E->False:=by
  rintro vs H Q E ⟨_,_,_,_,_,h⟩;exact h.elim
 exact⟨λvs H Q E h=>(no _ _ _ _ h).elim,λA outer s H args us vs Q E _ _ _ _ _ h=>(no _ _ _ _ h).elim⟩
theorem zi1{x qual:Str}{st:Stmt}{f:Addr}{fd:FuncData}{N ps:List Str}{k n:Nat}{cm:Bool}{df:Df}(F:oJ K x qual st f fd)(S:cZ N ps (au st))(hT:T n=some df)(hp:df.gH=ps.length)(hm:df.many=N.length)
  (hb:∀(cdv:Value) (A:Around) (outer:List Env) (s:Shared) (H:Hp) (E:XK),bF (k+1) A->
   u5 (gG (gK P w) P w K mg base N qual (au st) f cdv A outer s H E cm) cA aq cm (λc=>call aq T k c) (λ_ C dx H'=>E C dx H') (aL st) df.body) :
  cC P w K mg base (gK P w) cm (k+1) f fd ps (lu K cA (call aq T (k+1) cm n)):=by
 obtain⟨oc,od,kV,doc,pm,an,cdv,ct,osl,rfl,lk,kW⟩:=F.ex;refine Y0 lk kW S (λvs H Q E hz=>?_) λA outer s H vs Q E hr hz=>?_
 ·obtain⟨U,ds,s,r,hS,h⟩:=hz;rw[<-r.len,(zer hT h).1,hp]
 ·obtain⟨U,ds,st',r,hS,h⟩:=hz;obtain⟨hl,h2⟩:=zer hT h;exact⟨_,hb cdv A outer s H E hr,U,_,st',zcA r hl.symm hm,hS,h2⟩
theorem znu{x qual:Str}{st:Stmt}{f:Addr}{fd:FuncData}{N ps:List Str}{k n:Nat}{cm:Bool}{df:Df}(F:oJ K x qual st f fd)(S:cZ N ps (au st))(hT:T n=some df)(hp:df.gH=ps.length)(hm:df.many=N.length)
  (hb:∀(cdv:Value) (A:Around) (outer:List Env) (s:Shared) (H:Hp) (E:XK),bF k (A.deeper (envOfC qual (au st) s.heap.objs.size f cdv))->
   u5 (gG (gK P w) P w K mg base N qual (au st) f cdv A outer s H E cm) cA aq cm (λc=>call aq T k c) (λ_ C dx H'=>E C dx H') (aL st) df.body) :
  cC P w K mg base (gK P w) cm (k+1) f fd ps (lu K cA (call aq T (k+1) cm n)):=zi1 F S hT hp hm λcdv A outer s H E hr=>hb cdv A outer s H E (hr.deeper _)
end
theorem znZ{K:W.Frag}{cA:Cl}{m:List Xv->M Xv}{H:Hp}{a:Addr}{ns:List Int}(hq:cQ K H a (ns.map V.int))(hm:∃s',m [.d (.fl (ns.map D.int))] []=some (.ok (.d (.bl true)),s')) :
  lu K cA m [.ref a] H (λv _=>v=.bl true) λ_ _ _=>False:=by
 have rs:∀(l:List Int) U,aD K cA U H (l.map D.int) (l.map V.int):=λl U=>by
  induction l with
  |nil=>exact .nil
  |cons i l ih=>exact .cons (.int i) ih
 have hl:LstAt K ⟨λ_=>False,[]⟩ H a (ns.map V.int):=by
  rcases hq with h|h
  ·exact .inl ⟨h,λz=>z⟩
  ·exact .inr (.inr h)
 refine⟨⟨λ_=>False,[]⟩,[.d (.fl (ns.map D.int))],[],.cons (.d (.fl hl (rs ns _))) .nil,⟨rfl,(λn o b e1 e2=>by simp at e1),Aq,(λb hb=>by cases hb),(λb z=>False.elim z)⟩,?_⟩;obtain⟨s',e⟩:=hm;unfold Run;rw[e];intro U' H' _ _ v rv;cases rv with
 |d rv=>cases rv;rfl
theorem zgQ:Raises X (λ_ _ _ _=>False):=λ_ _ _ _ _ _ _ _ _ _ _ _ _ z=>z.elim
theorem zgZ(r:bF k A):bF k (A.mark o):=⟨r.dp,r.un,r.gd⟩
theorem yd(r:bF k A):A.units+60<cLine:=by have:=r.un;lia
noncomputable def aC:Expr->Bool
 |.Starred _ _=>false
 |_=>true
theorem aY(h:aC e=true):starEach (e::es) env=(false,eval e env)::starEach es env:=by
 cases e<;>first|rfl|cases h
theorem aR:∀{es:List Expr} {env:Env} {pos:Pos},es.all aC=true->(backTo pos (starEach es env)).any (·.1)=false
 |[],_,_,_=>rfl
 |e::es,env,pos,h=>by
  rw[nQ,dJ] at h;rw[aY h.1];show (false||(backTo pos (starEach es env)).any (·.1))=false;rw[aR h.2];rfl
theorem qM:∀{es:List Expr} {env:Env} {pos:Pos},es.all aC=true->(backTo pos (starEach es env)).all (λx=>!x.1)=true
 |[],_,_,_=>rfl
 |e::es,env,pos,h=>by
  rw[nQ,dJ] at h;rw[aY h.1];show (true&&(backTo pos (starEach es env)).all (λx=>!x.1))=true;rw[qM h.2];rfl
theorem m9(h1:aC e=true)(h2:es.all aC=true)(h3:decide (es.length<28)=true):((backTo pos (starEach (e::es) env)).all (λx=>!x.1)&&(backToKw pos (keywordEach [] env)).all (λx=>x.1.isSome)&&decide ((e::es).length+([]:List Keyword).length+(if ([]:List Keyword).isEmpty then 0 else 1)<30))=true:=by
 rw[qM (es:=e::es) (by rw[nQ,h1,h2];rfl)];have:=fO h3;have z:(e::es).length+([]:List Keyword).length+(if ([]:List Keyword).isEmpty then 0 else 1)<30:=by
  show es.length+1+0+0<30
  lia
 rw[dB z];rfl
noncomputable def u6(sc scope:Scope):Bool:=(match scope.kind with|.function=>true|_=>false)&&scope.names.all λy=>match y.2 with
 |.cell=>(match scope.names.lookup y.1 with|some .cell=>true|_=>false)
 |.free=>(match sc.names.lookup y.1 with|some .cell=>true|some .free=>true|_=>false)
 |.local=>(match scope.names.lookup y.1 with|some .local=>true|_=>false)
 |_=>true
theorem dO.of(h:u6 sc scope=true):dO sc scope:=by
 unfold u6 at h;rw[dJ,dZ] at h;obtain⟨h1,h2⟩:=h;refine⟨?_,λy hy z=>?_,λy hy z=>?_,λy hy z=>?_⟩
 ·split at h1
  ·assumption
  ·cases h1
 ·have:=h2 y hy;rw[z] at this;dsimp only at this;split at this
  ·assumption
  ·cases this
 ·have:=h2 y hy;rw[z] at this;dsimp only at this;split at this
  ·exact .inl (by assumption)
  ·exact .inr (by assumption)
  ·cases this
 ·have:=h2 y hy;rw[z] at this;dsimp only at this;split at this
  ·assumption
  ·cases this
noncomputable def frB(scope:Scope)(XN:List Str):List Str->List Nat->Bool
 |y::N,j::fr=>(match scope.names.lookup y with|some .free=>true|_=>false)&&decide (XN[j]?=some y)&&frB scope XN N fr
 |[],[]=>true
 |_,_=>false
theorem zi8:∀{N:List Str} {fr:List Nat},frB scope XN N fr=true->N.length=fr.length/\∀(i:Nat) (y:Str) (j:Nat),N[i]?=some y->fr[i]?=some j->scope.names.lookup y=some .free/\XN[j]?=some y
 |[],[],_=>⟨rfl,λi y j h=>by simp at h⟩
 |[],_::_,h=>by cases h
 |_::_,[],h=>by cases h
 |y::N,j::fr,h=>by
  unfold frB at h;rw[dJ,dJ,Ai] at h;obtain⟨⟨h1,h2⟩,h3⟩:=h;obtain⟨l,q⟩:=zi8 h3;refine⟨by simp[l],λi z m e1 e2=>?_⟩;cases i with
  |zero=>
   simp at e1 e2;subst e1 e2;refine⟨?_,h2⟩;split at h1
   ·assumption
   ·cases h1
  |succ i=>exact q i z m (by simpa using e1) (by simpa using e2)
noncomputable def okN(x:Str):Bool:=!(x==("__debug__" : Str)) && !(x==("__classdict__" : Str)) && !decide (x="__name__")
theorem qN(h:okN x=true):(x==("__debug__" : Str))=false/\(x==("__classdict__" : Str))=false/\x≠"__name__":=by
 unfold okN at h;simp only[dJ,Bool.not_eq_true',decide_eq_false_iff_not] at h;exact⟨h.1.1,h.1.2,h.2⟩
theorem N7{env:Env}{k:NameKind}(hk:k≠.free):∀{names:List (Str×NameKind)} {x:Str},names.lookup x=some k->
  (names.map λ(n,k)=>if (k==NameKind.free&&env.scope.kind==.function&&env.kindOf n==some .cell) then (n,NameKind.cell) else (n,k)).lookup x=some k
 |[],x,h=>by simp at h
 |(n,q)::r,x,h=>by
  rw[pq] at h;rw[iR,pq];have hd:∀c:Bool,(if c=true then (n,NameKind.cell) else (n,q)).1=n:=λc=>by cases c<;>rfl
  rw[hd];by_cases z:x=n
  ·subst z;simp only[D_] at h ⊢;cases h
   split
   ·rename_i y;simp only[dJ,nR] at y;exact absurd y.1.1 hk
   ·rfl
  ·have z':(x==n)=false:=by simpa using z
   simp only[z'] at h ⊢;exact N7 hk h
theorem znD{K:W.Frag}{C:Addr}(h:Mp K C=true):XC K C:=by
 unfold Mp at h;simp only[dJ,nR] at h;obtain⟨⟨⟨⟨⟨⟨⟨h1,h2⟩,h3⟩,h4⟩,h5⟩,h6⟩,h7⟩,h8⟩:=h;exact⟨h1,h2,h3,h4,h5,h6,h7,h8⟩
theorem Uo{n c:Nat}(hn:0<n):oW n c<n:=by unfold oW;split<;>lia
theorem Uq{n c:Nat}(hn:0<n):oW n (oW n c)=oW n c:=by unfold oW;split<;>simp_all
theorem zkb{n c e:Nat}(hn:0<n):jP n (oW n c) (oW n e)=jP n c e:=by unfold jP;rw[Uq hn,Uq hn]
theorem zkP{K:W.Frag}{L:List Addr}{f g:Nat->List Str}{b:Nat->Addr}(hL:0<L.length)(h:ql K L=true):uW K ⟨eE L,f,b,g⟩ (jP L.length):=by
 unfold ql at h;rw[dZ] at h;have key:∀c,Mp K (eE L c)=true/\PySem.W.kitOne K (.ref (eE L c)) (.type "ValueError")=some true/\∀e,PySem.W.kitOne K (.ref (eE L c)) (.ref (eE L e))=some (jP L.length c e):=λc=>by
  have z:=h (oW L.length c) (tY.mpr (Uo hL));simp only[dJ,nR,dZ] at z;obtain⟨⟨z1,z2⟩,z3⟩:=z;refine⟨z1,z2,λe=>?_⟩;have y:=z3 (oW L.length e) (tY.mpr (Uo hL));rw[zkb hL] at y;exact y
 exact⟨λc=>znD (key c).1,λc e=>(key c).2.2 e,λc=>(key c).2.1⟩
theorem zk7{K:W.Frag}{L:List Addr}{d:Nat}(hL:0<L.length)(h:subB K L d=true):∀c,jP L.length c d=true->L2.subIn K (eE L c) (eE L d)=true:=λc hc=>by
 unfold subB at h;rw[dZ] at h;have z:=h (oW L.length c) (tY.mpr (Uo hL));have y:jP L.length (oW L.length c) d=true:=by
  unfold jP at hc ⊢;rw[Uq hL];exact hc
 rw[y] at z;exact z
noncomputable def u9(K:W.Frag):Sp:=λvs H Q _=>∃(a:Addr) (ns:List Int),vs=[.ref a]/\cQ K H a (ns.map V.int)/\ns.length<=63/\Only H/\∀H',Q (.bl true) H'
theorem zk0{K:W.Frag}{cA:Cl}{m:List Xv->M Xv}(hm:∀ns:List Int,ns.length<=63->∃s',m [.d (.fl (ns.map D.int))] []=some (.ok (.d (.bl true)),s'))(vs:List V)(H:Hp)(Q:VK)(E:XK)(h:u9 K vs H Q E):lu K cA m vs H Q E:=by
 obtain⟨a,ns,rfl,hq,hl,hO,k⟩:=h;obtain⟨U,ds,s,r1,r2,h⟩:=znZ (cA:=cA) (m:=m) hq (hm ns hl);refine⟨U,ds,s,r1,r2,?_⟩;unfold Run at h ⊢;split at h
 ·intro U' H' x r v rv;rw[h U' H' x r v rv];exact k H'
 ·exact λU' H' x r dx q=>(h U' H' x r dx q).elim
 ·exact h
theorem CJ{K:W.Frag}{fd:FuncData}{p:Str}(h:∀a,bindArgs fd ⟨[a],[]⟩=pure [(p,a)]):Binds K fd [p] []:=.all λus hl=>by
 cases us with
 |nil=>cases hl
 |cons a r=>cases r with
  |nil=>exact h a
  |cons b r=>cases hl
theorem u_{K:W.Frag}{fd:FuncData}{p q:Str}(h:∀a b,bindArgs fd ⟨[a,b],[]⟩=pure [(p,a),(q,b)]):Binds K fd [p,q] []:=.all λus hl=>by
 cases us with
 |nil=>cases hl
 |cons a r=>cases r with
  |nil=>cases hl
  |cons b r=>cases r with
   |nil=>exact h a b
   |cons c r=>cases hl
theorem vd{K:W.Frag}{fd:FuncData}{p q t:Str}(h:∀a b c,bindArgs fd ⟨[a,b,c],[]⟩=pure [(p,a),(q,b),(t,c)]):Binds K fd [p,q,t] []:=.all λus hl=>by
 cases us with
 |nil=>cases hl
 |cons a r=>cases r with
  |nil=>cases hl
  |cons b r=>cases r with
   |nil=>cases hl
   |cons c r=>cases r with
    |nil=>exact h a b c
    |cons d r=>cases hl
theorem vf{K:W.Frag}{fd:FuncData}{p q t u:Str}(h:∀a b c d,bindArgs fd ⟨[a,b,c,d],[]⟩=pure [(p,a),(q,b),(t,c),(u,d)]):Binds K fd [p,q,t,u] []:=.all λus hl=>by
 cases us with
 |nil=>cases hl
 |cons a r=>cases r with
  |nil=>cases hl
  |cons b r=>cases r with
   |nil=>cases hl
   |cons c r=>cases r with
    |nil=>cases hl
    |cons d r=>cases r with
     |nil=>exact h a b c d
     |cons e r=>cases hl
theorem zjn:bootBuiltins "int"=some (.type "int"):=by decide +kernel
theorem zf3:bootBuiltins "bool"=some (.type "bool"):=by decide +kernel
theorem FQ:bootBuiltins "tuple"=some (.type "tuple"):=by decide +kernel
theorem zg9:bootBuiltins "list"=some (.type "list"):=by decide +kernel
theorem zc2:bootBuiltins "ValueError"=some (.type "ValueError"):=by decide +kernel
structure JE(X:Cx)(cA:Cl)(aq:Nat->Nat->Bool)(aj:Bool)(F:Fn)(EX:XS)(e:Expr)(m:E):Prop where
 o:SE X cA aq aj F EX e m
structure JA(X:Cx)(cA:Cl)(aq:Nat->Nat->Bool)(aj:Bool)(F:Fn)(EX:XS)(e:List Expr)(m:Es):Prop where
 o:SA X cA aq aj F EX e m
structure JT(X:Cx)(cA:Cl)(aq:Nat->Nat->Bool)(aj:Bool)(F:Fn)(EX:XS)(e:Expr)(m:E):Prop where
 o:ST X cA aq aj F EX e m
structure JW(X:Cx)(cA:Cl)(aq:Nat->Nat->Bool)(aj:Bool)(F:Fn)(EX:XS)(e:Expr)(m:E):Prop where
 o:SW X cA aq aj F EX e m
structure JC(X:Cx)(cA:Cl)(aq:Nat->Nat->Bool)(aj:Bool)(F:Fn)(EX:XS)(e:List Expr)(m:Eo):Prop where
 o:Kf X cA aq aj F EX e m
structure JO(X:Cx)(cA:Cl)(aq:Nat->Nat->Bool)(aj:Bool)(F:Fn)(EX:XS)(e:Option Expr)(m:Eo):Prop where
 o:J7 X cA aq aj F EX e m
structure JI(X:Cx)(cA:Cl)(aq:Nat->Nat->Bool)(aj:Bool)(F:Fn)(EX:XS)(tg e:Expr)(m:Wk):Prop where
 o:SI X cA aq aj F EX tg e m
structure JG(X:Cx)(cA:Cl)(aq:Nat->Nat->Bool)(aj:Bool)(F:Bool->Fn)(EX:XS)(e:Expr)(m:Tg):Prop where
 o:SG X cA aq aj F EX e m
structure JS(X:Cx)(cA:Cl)(aq:Nat->Nat->Bool)(aj:Bool)(F:Bool->Fn)(EX:XS)(e:Stmt)(m:St):Prop where
 o:SS X cA aq aj F EX e m
structure JB(X:Cx)(cA:Cl)(aq:Nat->Nat->Bool)(aj:Bool)(F:Bool->Fn)(EX:XS)(e:List Stmt)(m:bL):Prop where
 o:u5 X cA aq aj F EX e m
structure JK(X:Cx)(x:Str)(k:NameKind):Prop where
 o:X.env.scope.names.lookup x=some k
structure JP(X:Cx)(cA:Cl)(op:CmpOp)(p:Pr):Prop where
 o:∃r,fD X (compareOp op) r/\bD X.K cA p (r2 r)
structure JQ(X:Cx)(cA:Cl)(op:Operator)(p:Pr):Prop where
 o:∃r,fD X (binaryOp op) r/\bD X.K cA p (r2 r)
structure JN(X:Cx)(cA:Cl)(kx:Expr)(k:Kd):Prop where
 o:PE X kx (tC (FJ cA k))
structure JR(X:Cx)(EX:XS):Prop where
 o:Raises X EX
structure JH(X:Cx):Prop where
 o:PassesOwn (model X.prog X.w) X.A X.env X.xe
structure JY(X:Cx)(tg:Expr)(g:TG):Prop where
 o:PG X tg g
noncomputable def oK:NameKind->Bool
 |.local=>true
 |.cell=>true
 |_=>false
noncomputable def CK:NameKind->Bool
 |.local=>true
 |.cell=>true
 |.free=>true
 |_=>false
section
variable {X:Cx}{cA:Cl}{aq:Nat->Nat->Bool}{aj:Bool}{F:Fn}{EX:XS}{a b c d e:Expr}{A B C Dd E':E}{pos p p2 apos:Pos}{es:List Expr}{Xs:Es}{x y:Str}{k k':NameKind}{q q1 q2 q3:Pr}{fz:Bool}
theorem zqc(h:scope.names.lookup x=some k)(hk:(match k with|.free=>false|_=>true)=true):JK (X.blk scope cl N Cc s3 H3 fp ao) x k:=
 ⟨N7 (by intro z;subst z;cases hk) h⟩
theorem g_v(i:Nat)(hN:X.N[i]?=some x)(h:JK X x k)(hv:CK k=true)(hd:okN x=true):JE X cA aq aj F EX (.Name x pos) (.v i):=
 ⟨ZS i hN (by cases k<;>first|exact .inl h.o|exact .inr (.inl h.o)|exact .inr (.inr h.o)|cases hv) (qN hd).1 (qN hd).2.1⟩
theorem zqf(i:Nat)(hN:N[i]?=some x)(h:scope.names.lookup x=some .free)(hd:okN x=true):JE (X.blk scope cl N Cc s3 H3 fp ao) cA aq aj F EX (.Name x pos) (.v i):=
 ⟨ZS i hN (.inr (Nh h)) (qN hd).1 (qN hd).2.1⟩
theorem aM{i j p}:JE X cA aq aj F EX (.Constant (.int i) j p) (.c (.int i)):=⟨zmi⟩
theorem lW{i j p}:JE X cA aq aj F EX (.Constant (.bool i) j p) (.c (.bl i)):=⟨zpp⟩
theorem rP{j p}:JE X cA aq aj F EX (.Constant .none j p) (.c .non):=⟨zl1⟩
theorem nJ{i j p}:JE X cA aq aj F EX (.Constant (.str i) j p) (.c (.str i)):=⟨zlT⟩
theorem zpM(h:∃t,X.mg x=some (.int i t))(hg:JK X x .globalImplicit)(hd:okN x=true):JE X cA aq aj F EX (.Name x pos) (.c (.int i)):=by
 obtain⟨t,h⟩:=h;exact⟨zjN hg.o h (qN hd).1⟩
theorem iz:JQ X cA .Add .add:=⟨_,zgP,zmu⟩
theorem yg:JQ X cA .Sub .aq:=⟨_,zms,zmH⟩
theorem Ur:JQ X cA .Mult .mul:=⟨_,zns,zlw⟩
theorem zmg:JQ X cA .FloorDiv .fdiv:=⟨_,zko,zkc⟩
theorem Kh:JQ X cA .Mod .mod:=⟨_,zmV,zlY⟩
theorem znN:JQ X cA .Pow .pow:=⟨_,zmd,zmz⟩
theorem cP(h:JQ X cA op q)(ha:JE X cA aq aj F EX a A)(hb:JE X cA aq aj F EX b B):JE X cA aq aj F EX (.BinOp a op b pos) (.pr fz q (.cons A (.cons B .nil))):=by
 obtain⟨r,h1,h2⟩:=h.o;exact⟨zmt h1 h2 ha.o hb.o⟩
theorem N_(ha:JE X cA aq aj F EX a A):JE X cA aq aj F EX (.UnaryOp .USub a pos) (.pr true .neg (.cons A .nil)):=⟨zoP zn5 zmb ha.o⟩
theorem znt(ha:JE X cA aq aj F EX a A):JE X cA aq aj F EX (.UnaryOp .Not a pos) (.not A):=⟨zm4 ha.o⟩
theorem tO{op}(ha:JE X cA aq aj F EX a A):JE X cA aq aj F EX (.BoolOp op [a] pos) A:=⟨zmc ha.o⟩
theorem rQ{rest:List Expr}(ha:JE X cA aq aj F EX a A)(hb:JE X cA aq aj F EX (.BoolOp .And (b::rest) pos) B):JE X cA aq aj F EX (.BoolOp .And (a::b::rest) pos) (.and A B):=⟨zmy ha.o hb.o⟩
theorem zqp{rest:List Expr}(ha:JE X cA aq aj F EX a A)(hb:JE X cA aq aj F EX (.BoolOp .Or (b::rest) pos) B):JE X cA aq aj F EX (.BoolOp .Or (a::b::rest) pos) (.or A B):=⟨zpC ha.o hb.o⟩
theorem zM{k:Nat}(hr:bF k X.A):JP X cA .Eq .eq:=⟨_,zlU (yd hr),zpa⟩
theorem Oa{k:Nat}(hr:bF k X.A):JP X cA .NotEq .ne:=⟨_,znF (yd hr),zoE⟩
theorem zN{k:Nat}(hr:bF k X.A):JP X cA .Lt .lt:=⟨_,HN.or (zmF (by have:=yd hr;lia)),zoT⟩
theorem Us:JP X cA .LtE .le:=⟨_,zoX,zpr⟩
theorem zqo:JP X cA .Gt .gt:=⟨_,zoF,zpu⟩
theorem zpP:JP X cA .GtE .ge:=⟨_,zo4,zo9⟩
theorem zpI{k:Nat}(hr:bF k X.A):JP X cA .In .inn:=⟨_,znM (yd hr),zpw⟩
noncomputable def oM:Expr->Bool
 |.Set _ _ _=>false
 |_=>true
theorem yh(h:oM b=true):behindInMarks op b=false:=by cases b<;>first|rfl|cases h
theorem zO(ho:JP X cA op q)(ha:JE X cA aq aj F EX a A)(hb:JE X cA aq aj F EX b B)(h1:oM b=true:=by rfl):JE X cA aq aj F EX (.Compare a [op] [b] pos) (.pr true q (.cons A (.cons B .nil))):=by
 obtain⟨r,h2,h3⟩:=ho.o;exact⟨zmf h2 h3 ha.o hb.o (yh h1)⟩
theorem oZ(ho:JP X cA op q)(ha:JE X cA aq aj F EX a A)(hb:JE X cA aq aj F EX b B)(h1:oM b=true:=by rfl):JT X cA aq aj F EX (.Compare a [op] [b] pos) (.pr true q (.cons A (.cons B .nil))):=by
 obtain⟨r,h2,h3⟩:=ho.o;exact⟨zob h2 h3 ha.o hb.o (yh h1)⟩
theorem zm5(h1:JP X cA op q1)(h2:JP X cA op' q2)(ha:JE X cA aq aj F EX a A)(hb:JE X cA aq aj F EX b B)(hc:JE X cA aq aj F EX c C)(hm:oM c=true:=by rfl):JE X cA aq aj F EX (.Compare a [op,op'] [b,c] pos) (.v8 q1 q2 A B C):=by
 obtain⟨r,h3,h4⟩:=h1.o;obtain⟨r',h5,h6⟩:=h2.o;exact⟨zlX h3 h4 h5 h6 ha.o hb.o hc.o (yh hm)⟩
theorem Ut{j p}(ha:JE X cA aq aj F EX a A):JE X cA aq aj F EX (.Compare a [.Is] [.Constant .none j p] pos) (.pr true .tG (.cons A .nil)):=⟨zlA ha.o⟩
theorem zmB{j p}(ha:JE X cA aq aj F EX a A):JE X cA aq aj F EX (.Compare a [.IsNot] [.Constant .none j p] pos) (.pr true .rA (.cons A .nil)):=⟨zj5 ha.o⟩
theorem zmY{j p}(ha:JE X cA aq aj F EX a A):JT X cA aq aj F EX (.Compare a [.Is] [.Constant .none j p] pos) (.pr true .tG (.cons A .nil)):=⟨znB ha.o⟩
theorem Kl{j p}(ha:JE X cA aq aj F EX a A):JT X cA aq aj F EX (.Compare a [.IsNot] [.Constant .none j p] pos) (.pr true .rA (.cons A .nil)):=⟨zkN ha.o⟩
noncomputable def zP:Expr->Bool
 |.Call _ _ _ _=>true
 |.Name _ _=>true
 |.Subscript _ _ _=>true
 |.Attribute _ _ _=>true
 |_=>false
theorem m_(ha:JE X cA aq aj F EX a A)(he:zP a=true:=by rfl):JT X cA aq aj F EX a A:=⟨znc ha.o (by cases a<;>first|(intro _;rfl)|cases he)⟩
theorem pW(ha:JT X cA aq aj F EX a A):JT X cA aq aj F EX (.UnaryOp .Not a pos) (.not A):=⟨zmj ha.o⟩
theorem Uu(ha:JT X cA aq aj F EX a A):JW X cA aq aj F EX (.BoolOp .And [a] pos) A:=⟨zk4 ha.o⟩
theorem Uv(ha:JT X cA aq aj F EX a A):JW X cA aq aj F EX (.BoolOp .Or [a] pos) A:=⟨zl6 ha.o⟩
theorem Uw{rest:List Expr}(ha:JT X cA aq aj F EX a A)(hb:JW X cA aq aj F EX (.BoolOp .And (b::rest) pos) B):JW X cA aq aj F EX (.BoolOp .And (a::b::rest) pos) (.and A B):=⟨zl8 ha.o hb.o⟩
theorem Ux{rest:List Expr}(ha:JT X cA aq aj F EX a A)(hb:JW X cA aq aj F EX (.BoolOp .Or (b::rest) pos) B):JW X cA aq aj F EX (.BoolOp .Or (a::b::rest) pos) (.or A B):=⟨zoQ ha.o hb.o⟩
theorem FT(h:JW X cA aq aj F EX a A):JT X cA aq aj F EX a A:=⟨zqm h.o⟩
theorem Uy(hc:JT X cA aq aj F EX c C)(ha:JE X cA aq aj F EX a A)(hb:JE X cA aq aj F EX b B):JE X cA aq aj F EX (.IfExp c a b pos) (.ite C A B):=⟨zml hc.o ha.o hb.o⟩
theorem aF:JA X cA aq aj F EX [] .nil:=⟨zlP⟩
theorem aA(ha:JE X cA aq aj F EX a A)(hr:JA X cA aq aj F EX es Xs)(hs:aC a=true:=by rfl):JA X cA aq aj F EX (a::es) (.cons A Xs):=⟨zk1 ha.o hr.o (aY hs)⟩
theorem gB{k}(ha:JA X cA aq aj F EX es Xs)(hz:decide (Es.len Xs<=sizeLine)=true:=by rfl):JE X cA aq aj F EX (.Tuple es k pos) (.tup Xs):=⟨zm1 ha.o (fO hz)⟩
theorem iV(ha:JA X cA aq aj F EX es Xs)(hz:decide (Es.len Xs<=sizeLine)=true:=by rfl):JE X cA aq aj F EX (.List es pos) (.lst fz Xs):=⟨zn3 ha.o (fO hz)⟩
theorem zmU{j p1 j2 p3}{k:Str}{i:Int}:JE X cA aq aj F EX (.Dict [some (.Constant (.str k) j p1)] [.Constant (.int i) j2 p3] pos) (.uM k i):=⟨zkV⟩
noncomputable def vg:Expr->Bool
 |.Constant _ _ _=>true
 |.Name _ _=>true
 |.Call _ _ _ _=>true
 |.BinOp _ _ _ _=>true
 |.UnaryOp _ _ _=>true
 |.Subscript _ _ _=>true
 |.IfExp _ _ _ _=>true
 |.Attribute _ _ _=>true
 |.Compare _ _ _ _=>true
 |.BoolOp _ _ _=>true
 |_=>false
theorem cJ(ha:JE X cA aq aj F EX a A)(hb:JE X cA aq aj F EX b B)(hs:vg b=true:=by rfl):JE X cA aq aj F EX (.Subscript a b pos) (.pr true .ix (.cons A (.cons B .nil))):=⟨zoI zoZ ha.o hb.o (by cases b<;>first|(intro _ _;rfl)|cases hs)⟩
theorem CP:JO X cA aq aj F EX none .no:=⟨zpA⟩
theorem yj(ha:JE X cA aq aj F EX a A):JO X cA aq aj F EX (some a) (.yes A):=⟨znS ha.o⟩
theorem zQ{lo hi:Option Expr}{Lo Hi:Eo}(ha:JE X cA aq aj F EX a A)(hl:JO X cA aq aj F EX lo Lo)(hh:JO X cA aq aj F EX hi Hi):JE X cA aq aj F EX (.Subscript a (.Slice lo hi none p2) pos) (.sl fz A Lo Hi):=⟨zpd ha.o hl.o hh.o⟩
theorem zny(f:Nat){cm:Bool}{k:Nat}{fa:Addr}{fd:FuncData}{ps:List Str}(Fo:cC X.prog X.w X.K X.mg X.base (gK X.prog X.w) cm k fa fd ps (lu X.K cA (F f)))(jz:cm=true->X.aj=true)(hr:bF k X.A)(hm:X.mg x=some (.ref fa))(hk:PySem.W.keepIn X.K (.ref fa)=true)(hb:Binds X.K fd ps [])(R:JR X EX)(hg:JK X x .globalImplicit)
  (ha:JA X cA aq aj F EX (e::es) Xs) (hd:okN x=true) (he:aC e=true:=by rfl) (hpl:es.all aC=true:=by rfl) :
  JE X cA aq aj F EX (.Call (.Name x p) (e::es) [] pos) (.call f Xs):=⟨zjD Fo jz hr hg.o hm hk hb R.o ha.o (qN hd).1 (aY he) (aR hpl)⟩
theorem vh{c:Nat}(hm:X.mg x=some (.ref (cA.a c)))(hg:JK X x .globalImplicit)(hd:okN x=true):JN X cA (.Name x pos) (.cls c):=⟨Yv hg.o hm rfl (qN hd).1⟩
theorem yp(hv:FJ cA kd=.ty T)(hm:X.mg x=none)(hb:bootBuiltins x=some (.type T))(hg:JK X x .globalImplicit)(hd:okN x=true):JN X cA (.Name x pos) kd:=⟨λao s Z H Q I h=>by
 rw[hv] at h;exact qZ I hg.o hm hb ⟨.ty T,H,I,rfl,h⟩ (qN hd).2.2 (qN hd).1⟩
theorem lX(Cs:uW X.K cA aq)(hm:X.mg "isinstance"=none)(hg:JK X "isinstance" .globalImplicit)(ha:JE X cA aq aj F EX a A)(hk:JN X cA kx kd)(h1:aC a=true:=by rfl)(h2:aC kx=true:=by rfl):JE X cA aq aj F EX (.Call (.Name "isinstance" p) [a,kx] [] pos) (.iu A kd):=
 ⟨znX (λ_=>Cs) hg.o hm ha.o hk.o (aY h1) (aY h2) (aR (by rw[nQ,h2];rfl))⟩
theorem vm(hm:X.mg "len"=none)(hg:JK X "len" .globalImplicit)(ha:JA X cA aq aj F EX (e::es) Xs)(he:aC e=true:=by rfl)(hpl:es.all aC=true:=by rfl):JE X cA aq aj F EX (.Call (.Name "len" p) (e::es) [] pos) (.pr fz .len Xs):=⟨zG zdD zmk hg.o hm PySem.boot_len ha.o Vu Vu (aY he) (aR hpl)⟩
theorem zl9(hm:X.mg "abs"=none)(hg:JK X "abs" .globalImplicit)(ha:JA X cA aq aj F EX (e::es) Xs)(he:aC e=true:=by rfl)(hpl:es.all aC=true:=by rfl):JE X cA aq aj F EX (.Call (.Name "abs" p) (e::es) [] pos) (.pr fz .abs Xs):=⟨zG zif znk hg.o hm PyProof.Rows.boot_abs ha.o Vu Vu (aY he) (aR hpl)⟩
theorem zlJ(hc:X.aj=true)(hm:X.mg "max"=none)(hg:JK X "max" .globalImplicit)(ha:JA X cA aq aj F EX (e::es) Xs)(he:aC e=true:=by rfl)(hpl:es.all aC=true:=by rfl):JE X cA aq aj F EX (.Call (.Name "max" p) (e::es) [] pos) (.pr fz .max2 Xs):=⟨zG (zgb hc) zk5 hg.o hm PyProof.Rows.boot_max ha.o Vu Vu (aY he) (aR hpl)⟩
theorem Km(hc:X.aj=true)(hm:X.mg "min"=none)(hg:JK X "min" .globalImplicit)(ha:JA X cA aq aj F EX (e::es) Xs)(he:aC e=true:=by rfl)(hpl:es.all aC=true:=by rfl):JE X cA aq aj F EX (.Call (.Name "min" p) (e::es) [] pos) (.pr fz .min2 Xs):=⟨zG (zfE hc) zka hg.o hm PyProof.Rows.boot_min ha.o Vu Vu (aY he) (aR hpl)⟩
theorem zog(hm:X.mg "int"=none)(hg:JK X "int" .globalImplicit)(ha:JA X cA aq aj F EX (e::es) Xs)(he:aC e=true:=by rfl)(hpl:es.all aC=true:=by rfl):JE X cA aq aj F EX (.Call (.Name "int" p) (e::es) [] pos) (.pr fz .xK Xs):=⟨TY zgY zkC hg.o hm PyProof.Rows.boot_int ha.o Vu Vu (aY he) (aR hpl)⟩
theorem zh0(hm:X.mg "divmod"=none)(hg:JK X "divmod" .globalImplicit)(ha:JA X cA aq aj F EX (e::es) Xs)(he:aC e=true:=by rfl)(hpl:es.all aC=true:=by rfl):JE X cA aq aj F EX (.Call (.Name "divmod" p) (e::es) [] pos) (.pr fz .divmod Xs):=⟨zG zd1 zf6 hg.o hm PyProof.Rows.boot_divmod ha.o Vu Vu (aY he) (aR hpl)⟩
theorem FW(hc:X.aj=true)(hm:X.mg "all"=none)(hg:JK X "all" .globalImplicit)(ha:JA X cA aq aj F EX (e::es) Xs)(he:aC e=true:=by rfl)(hpl:es.all aC=true:=by rfl):JE X cA aq aj F EX (.Call (.Name "all" p) (e::es) [] pos) (.pr fz .all Xs):=⟨zG (zg8 hc) zn8 hg.o hm PyProof.Rows.boot_all ha.o Vu Vu (aY he) (aR hpl)⟩
theorem zjq(hm:X.mg "list"=none)(hg:JK X "list" .globalImplicit)(ha:JA X cA aq aj F EX (e::es) Xs)(he:aC e=true:=by rfl)(hpl:es.all aC=true:=by rfl):JE X cA aq aj F EX (.Call (.Name "list" p) (e::es) [] pos) (.pr fz .list Xs):=⟨TY zc6 zkJ hg.o hm zg9 ha.o Vu Vu (aY he) (aR hpl)⟩
theorem CQ(hm:X.mg "tuple"=none)(hg:JK X "tuple" .globalImplicit)(ha:JA X cA aq aj F EX (e::es) Xs)(he:aC e=true:=by rfl)(hpl:es.all aC=true:=by rfl):JE X cA aq aj F EX (.Call (.Name "tuple" p) (e::es) [] pos) (.pr fz .tuple Xs):=⟨TY zcN zis hg.o hm FQ ha.o Vu Vu (aY he) (aR hpl)⟩
theorem zj9{k:Nat}(hr:bF k X.A)(ho:JE X cA aq aj F EX a A)(ha:JA X cA aq aj F EX (e::es) Xs)(fV:attributeBase a "count" X.env (eval a X.env)=eval a X.env:=by rfl)(mR:decide (es.length<28)=true:=by rfl)(fW:(apos.endLine==pos.line)=true:=by rfl)(hs:aC e=true:=by rfl)(dD:es.all aC=true:=by rfl) :
  JE X cA aq aj F EX (.Call (.Attribute a "count" apos) (e::es) [] pos) (.meth true .count .list A Xs):=⟨zfU (k:=.list) Qi PySem.F.slot_list_count PySem.F.type_list_count (zg2 (by have:=hr.un;lia)) ziB ho.o ha.o fV (m9 hs dD mR) fW (aY hs) (aR dD)⟩
theorem zk2(ho:JE X cA aq aj F EX a A)(ha:JA X cA aq aj F EX (e::es) Xs)(fV:attributeBase a "index" X.env (eval a X.env)=eval a X.env:=by rfl)(mR:decide (es.length<28)=true:=by rfl)(fW:(apos.endLine==pos.line)=true:=by rfl)(hs:aC e=true:=by rfl)(dD:es.all aC=true:=by rfl) :
  JE X cA aq aj F EX (.Call (.Attribute a "index" apos) (e::es) [] pos) (.meth true .index .list A Xs):=⟨zfU (k:=.list) Qi PySem.F.slot_list_index PySem.F.type_list_index zf5 zie ho.o ha.o fV (m9 hs dD mR) fW (aY hs) (aR dD)⟩
theorem Uz(ho:JE X cA aq aj F EX a A)(hb:JE X cA aq aj F EX b B)(fV:attributeBase a "append" X.env (eval a X.env)=eval a X.env:=by rfl)(fW:(apos.endLine==pos.line)=true:=by rfl)(hs:aC b=true:=by rfl) :
  JE X cA aq aj F EX (.Call (.Attribute a "append" apos) [b] [] pos) (.push A B):=⟨zjU ho.o hb.o fV (m9 hs rfl rfl) fW (aY hs) rfl⟩
theorem pX:JC X cA aq aj F EX [] .no:=⟨znp⟩
theorem CT(h:JT X cA aq aj F EX c C):JC X cA aq aj F EX [c] (.yes C):=⟨zjQ h.o⟩
theorem nj(ha:JE X cA aq aj F EX a A):JI X cA aq aj F EX tg a (.seq A):=⟨zlG ha.o⟩
theorem zp1(hmg:X.mg "range"=none)(jL:JK X "range" .globalImplicit)(ha:JE X cA aq aj F EX a A)(hb:JE X cA aq aj F EX b B)(h1:aC a=true:=by rfl)(h2:aC b=true:=by rfl):JI X cA aq aj F EX tg (.Call (.Name "range" p) [a,b] [] pos) (.rg A B):=⟨zoS jL.o hmg ha.o hb.o (aY h1) (aY h2)⟩
theorem wj(hmg:X.mg "range"=none)(jL:JK X "range" .globalImplicit)(hb:JE X cA aq aj F EX b B)(h2:aC b=true:=by rfl):JI X cA aq aj F EX tg (.Call (.Name "range" p) [b] [] pos) (.rg (.c (.int 0)) B):=⟨zmN jL.o hmg hb.o (aY h2)⟩
noncomputable def Ko(scope:Scope)(x:Str):Bool:=match scope.names.lookup x with
 |some .local=>true
 |some .cell=>true
 |_=>false
theorem FZ(h:Ko scope x=true):Loc (X.blk scope cl N Cc s3 H3 fp ao).env.scope x/\((X.blk scope cl N Cc s3 H3 fp ao).fn x=true\/(X.blk scope cl N Cc s3 H3 fp ao).env.scope.names.lookup x=some .local):=by
 unfold Ko at h;split at h
 ·rename_i z;exact⟨.inl (lookup_relabel_local z),.inr (lookup_relabel_local z)⟩
 ·rename_i z;exact⟨.inr (N7 (by intro y;cases y) z),.inl (by show (scope.names.lookup x==some NameKind.cell)=true;rw[z];rfl)⟩
 ·cases h
theorem nM(i:Nat)(UG:N.Nodup)(hi:N[i]?=some x)(hl:Ko scope x=true):JY (X.blk scope cl N Cc s3 H3 fp ao) (.Name x tp) (eN i):=
 ⟨MF UG hi (FZ hl).1 (FZ hl).2⟩
theorem Ob(i j:Nat)(hc:X.aj=true)(UG:N.Nodup)(hi:N[i]?=some x)(hj:N[j]?=some y)(hl:Ko scope x=true)(uE:Ko scope y=true):JY (X.blk scope cl N Cc s3 H3 fp ao) (.Tuple [.Name x px,.Name y py] kt tp) (ux X.K 2 (iD (eN i) (iD (eN j) uw))):=
 ⟨Uk (X:=X.blk scope cl N Cc s3 H3 fp ao) hc UG hi hj (FZ hl).1 (FZ uE).1 (FZ hl).2 (FZ uE).2⟩
theorem Ga{scope:Scope}{XN:List Str}{M0 N:List Str}{fr:List Nat}(h:frB scope XN N fr=true):(M0++N).length=M0.length+fr.length/\∀(i:Nat) (y:Str) (j:Nat),(M0++N)[M0.length+i]?=some y->fr[i]?=some j->scope.names.lookup y=some .free/\XN[j]?=some y:=by
 obtain⟨l,q⟩:=zi8 h;refine⟨by rw[h_,l],λi y j e1 e2=>q i y j ?_ e2⟩;rw[nF gV] at e1;rw[show M0.length+i-M0.length=i by lia] at e1;exact e1
theorem oN{elt iter tg:Expr}{ifs:List Expr}{scope:Scope}{cond:Eo}{dM:List Nat}{g:TG}{w:Wk}(sc:Scope)(XN M0 N:List Str)(fr:List Nat)(hc:X.aj=true)(UJ:X.env.scope=sc)(yc:X.N=XN)(hB:u6 sc scope=true)(hf:frB scope XN N fr=true)(hT:m8 X.K cA g dM)(iy:dM.all (λi=>decide (i<M0.length))=true)
  (hi:JI X cA aq aj F EX tg iter w) (hg:∀cl C s3 H3 fp ao,JY (X.blk scope cl (M0++N) C s3 H3 fp ao) tg g)
  (ht:∀cl C s3 H3 fp ao,JC (X.blk scope cl (M0++N) C s3 H3 fp ao) cA aq aj F (λ_ _ _ _=>False) ifs cond) (he:∀cl C s3 H3 fp ao,JE (X.blk scope cl (M0++N) C s3 H3 fp ao) cA aq aj F (λ_ _ _ _=>False) elt B)
  (hs:∀x,foldedSetIterable iter X.env x=pure x:=by intro _;rfl):JE X cA aq aj F EX (.ListComp elt [⟨tg,iter,ifs,0⟩] scope pos) (.comp fz B dM w fr M0.length cond):=
 ⟨zgF hc (dO.of (UJ▸hB)) hi.o (Ga (yc▸hf)).1 (Ga (yc▸hf)).2 (λa b c d e f=>(hg a b c d e f).o) hT (λi hi=>fO (dZ.mp iy i hi)) (λa b c d e f=>(ht a b c d e f).o) (λa b c d e f=>(he a b c d e f).o) hs⟩
theorem Kaa{scope fu:Scope}{env:Env}(h:dO scope fu):dO (relabel scope env) fu:=⟨h.kind,h.Zu,λy hy z=>by
 rcases h.free y hy z with q|q
 ·exact .inl (N7 (by intro y;cases y) q)
 ·exact Nh q,h.loc⟩
theorem zkv{elt iter tg:Expr}{ifs:List Expr}{scope fu:Scope}{cond:Eo}{dM:List Nat}{g:TG}{w:Wk}{cl:List (Str×Addr)}{zR:List Str}{Cc:Addr}{s3:Shared}{H3:Hp}{fp:List Addr}{ao:List (Addr×Obj)}(XN M0 N:List Str)(fr:List Nat)(hc:X.aj=true)(yc:zR=XN)(hB:u6 scope fu=true)(hf:frB fu XN N fr=true)(hT:m8 X.K cA g dM)(iy:dM.all (λi=>decide (i<M0.length))=true)
  (hi:JI (X.blk scope cl zR Cc s3 H3 fp ao) cA aq aj F EX tg iter w) (hg:∀cl2 C s3' Kp fp' iC,JY ((X.blk scope cl zR Cc s3 H3 fp ao).blk fu cl2 (M0++N) C s3' Kp fp' iC) tg g)
  (ht:∀cl2 C s3' Kp fp' iC,JC ((X.blk scope cl zR Cc s3 H3 fp ao).blk fu cl2 (M0++N) C s3' Kp fp' iC) cA aq aj F (λ_ _ _ _=>False) ifs cond) (he:∀cl2 C s3' Kp fp' iC,JE ((X.blk scope cl zR Cc s3 H3 fp ao).blk fu cl2 (M0++N) C s3' Kp fp' iC) cA aq aj F (λ_ _ _ _=>False) elt B)
  (hs:∀x,foldedSetIterable iter (X.blk scope cl zR Cc s3 H3 fp ao).env x=pure x:=by intro _;rfl):JE (X.blk scope cl zR Cc s3 H3 fp ao) cA aq aj F EX (.ListComp elt [⟨tg,iter,ifs,0⟩] fu pos) (.comp fz B dM w fr M0.length cond):=by
 subst yc;exact⟨zgF (X:=X.blk scope cl zR Cc s3 H3 fp ao) hc (Kaa (dO.of hB)) hi.o (Ga hf).1 (Ga hf).2 (λa b c d e f=>(hg a b c d e f).o) hT (λi hi=>fO (dZ.mp iy i hi)) (λa b c d e f=>(ht a b c d e f).o) (λa b c d e f=>(he a b c d e f).o) hs⟩
theorem wu:JR X (λ_ _ _ _=>False):=⟨zgQ⟩
theorem cj{P:Program}{w:World}{K:W.Frag}{mg:Str->Option Value}{base:Heap}{N:List Str}{qual:Str}{scope:Scope}{f:Addr}{cd:Value}{A:Around}{outer:List Env}{s:Shared}{H:Hp}{E:XK}{cm:Bool} :
  JR (gG (gK P w) P w K mg base N qual scope f cd A outer s H E cm) (λ_ C dx H'=>E C dx H'):=⟨zfC⟩
theorem rR{CX:rm}{P:Program}{w:World}{K:W.Frag}{mg:Str->Option Value}{base:Heap}{N:List Str}{qual:Str}{scope:Scope}{f:Addr}{cd:Value}{A:Around}{outer:List Env}{s:Shared}{H:Hp}{E:XK}{cm:Bool} :
  JH (gG CX P w K mg base N qual scope f cd A outer s H E cm):=⟨PassesOwn.leaving⟩
end
section
variable {X:Cx}{cA:Cl}{aq:Nat->Nat->Bool}{aj:Bool}{F:Bool->Fn}{EX:XS}{a b c d e:Expr}{A B C:E}{pos p p2:Pos}{st:Stmt}{sts body orelse:List Stmt}{m:St}{ms mb me mh:bL}{es:List Expr}{Xs:Es}{x y n:Str}{k k':NameKind}
theorem CV(h:JK X x k)(hv:oK k=true):Loc X.env.scope x:=by cases k<;>first|exact .inl h.o|exact .inr h.o|cases hv
theorem CW(h:JK X x k)(hv:X.fn x=true\/k=.local):X.fn x=true\/X.env.scope.names.lookup x=some .local:=by
 rcases hv with hv|hv
 ·exact .inl hv
 ·subst hv;exact .inr h.o
theorem aN:JB X cA aq aj F EX [] .nil:=⟨zlt⟩
theorem aH(h1:JS X cA aq aj F EX st m)(h2:JB X cA aq aj F EX sts ms):JB X cA aq aj F EX (st::sts) (.cons m ms):=⟨zhQ h1.o h2.o⟩
theorem zpY:JS X cA aq aj F EX st .no:=⟨zow⟩
theorem zT(ha:JE X cA aq aj (F aj) EX a A)(hs:swapsWith a none pos.line X.env=pure false:=by rfl):JS X cA aq aj F EX (.Expr a pos) (.ex A):=⟨zps ha.o hs⟩
theorem bU(ha:JE X cA aq aj (F aj) EX a A):JS X cA aq aj F EX (.Return (some a) pos) (.ret A):=⟨znA ha.o⟩
theorem fB(i:Nat)(hN:X.N.Nodup)(hi:X.N[i]?=some x)(hx:JK X x k)(hl:oK k=true)(ha:JE X cA aq aj (F aj) EX a A)(hs:swapsWith a (some (.Name x p)) pos.line X.env=pure false:=by rfl)(hf:X.fn x=true\/k=.local:=by first|exact .inl rfl|exact .inr rfl):JS X cA aq aj F EX (.Assign [.Name x p] a pos) (.asg (.nm i) A):=
 ⟨zmL hN hi (CV hx hl) ha.o hs (CW hx hf)⟩
theorem Oc{elt iter tg:Expr}{ifs:List Expr}{scope:Scope}{cond:Eo}{dM:List Nat}{g:TG}{w:Wk}{fz:Bool}{py spos:Pos}(i:Nat)(sc:Scope)(XN M0 N:List Str)(fr:List Nat)(hN:X.N.Nodup)(Jd:X.N[i]?=some y)(hx:JK X y k)(hl:oK k=true)(hc:X.aj=true)(UJ:X.env.scope=sc)(yc:X.N=XN)(hB:u6 sc scope=true)(hf:frB scope XN N fr=true)(hT:m8 X.K cA g dM)(iy:dM.all (λi=>decide (i<M0.length))=true)
  (hi:JI X cA aq aj (F aj) EX tg iter w) (hg:∀cl C s3 H3 fp ao,JY (X.blk scope cl (M0++N) C s3 H3 fp ao) tg g)
  (ht:∀cl C s3 H3 fp ao,JC (X.blk scope cl (M0++N) C s3 H3 fp ao) cA aq aj (F aj) (λ_ _ _ _=>False) ifs cond) (he:∀cl C s3 H3 fp ao,JE (X.blk scope cl (M0++N) C s3 H3 fp ao) cA aq aj (F aj) (λ_ _ _ _=>False) elt B)
  (Je:swapsWith (.ListComp elt [⟨tg,iter,ifs,0⟩] scope pos) (some (.Name y py)) spos.line X.env=pure true:=by rfl) (hff:X.fn y=true\/k=.local:=by first|exact .inl rfl|exact .inr rfl) (hs:∀x,foldedSetIterable iter X.env x=pure x:=by intro _;rfl) :
  JS X cA aq aj F EX (.Assign [.Name y py] (.ListComp elt [⟨tg,iter,ifs,0⟩] scope pos) spos) (.asg (.nm i) (.comp fz B dM w fr M0.length cond)):=
 ⟨zlf hc hN Jd (CV hx hl) (CW hx hff) (dO.of (UJ▸hB)) hi.o (Ga (yc▸hf)).1 (Ga (yc▸hf)).2 (λa b c d e f=>(hg a b c d e f).o) hT (λi hi=>fO (dZ.mp iy i hi)) (λa b c d e f=>(ht a b c d e f).o) (λa b c d e f=>(he a b c d e f).o) Je hs⟩
theorem Kq(i j:Nat){k0}(hc:X.aj=true)(dh:aj=true)(hN:X.N.Nodup)(hi:X.N[i]?=some x)(hj:X.N[j]?=some y)(hx:JK X x k)(hy:JK X y k')(UL:oK k=true)(UW:oK k'=true)(ha:JE X cA aq aj (F aj) EX a A)
  (xY:X.fn x=true\/k=.local:=by first|exact .inl rfl|exact .inr rfl) (xZ:X.fn y=true\/k'=.local:=by first|exact .inl rfl|exact .inr rfl)
  (hs:swapsWithSole [.Tuple [.Name x px,.Name y py] k0 pt] a pos.line X.env=pure false:=by rfl) (hw:swappedStores [.Tuple [.Name x px,.Name y py] k0 pt] a X.env=pure none:=by rfl) (h1:(assignEach [.Tuple [.Name x px,.Name y py] k0 pt] X.env).map (·.2)=[assign (.Tuple [.Name x px,.Name y py] k0 pt) X.env]:=by rfl) :
  JS X cA aq aj F EX (.Assign [.Tuple [.Name x px,.Name y py] k0 pt] a pos) (.asg (.tp [i,j]) A):=⟨zkG hc dh hN hi hj (CV hx UL) (CV hy UW) (CW hx xY) (CW hy xZ) ha.o hs hw h1⟩
theorem Od(hO:JE X cA aq aj (F aj) EX oo O)(hI:JE X cA aq aj (F aj) EX ii I')(ha:JE X cA aq aj (F aj) EX a A)
  (Ul:∀v,assign (.Subscript oo ii p) X.env v=(do
   let obj <-holding [v] (eval oo X.env)
   let at_ <-holding [v,obj] (eval ii X.env)
   standAt p
   holding [v,obj,at_] (setItem obj at_ v)
   release [v,obj,at_] []):=by intro _;rfl) (hs:swapsWithSole [.Subscript oo ii p] a pos.line X.env=pure false:=by rfl) (hw:swappedStores [.Subscript oo ii p] a X.env=pure none:=by rfl)
  (h1:(assignEach [.Subscript oo ii p] X.env).map (·.2)=[assign (.Subscript oo ii p) X.env]:=by rfl):JS X cA aq aj F EX (.Assign [.Subscript oo ii p] a pos) (.asg (.aq O I') A):=⟨znh hO.o hI.o ha.o Ul hs hw h1⟩
theorem iW(hc:JT X cA aq aj (F aj) EX c C)(ht:JB X cA aq aj F EX body mb)(he:JB X cA aq aj F EX orelse me):JS X cA aq aj F EX (.If c body orelse pos) (.iff C mb me):=⟨zoG hc.o ht.o he.o⟩
theorem vo(i:Nat)(hN:X.N.Nodup)(hi:X.N[i]?=some x)(hx:JK X x k)(hl:oK k=true)(hf:X.fn x=true\/k=.local:=by first|exact .inl rfl|exact .inr rfl):JG X cA aq aj F EX (.Name x pos) (.nm i):=⟨zlh hN hi (CV hx hl) (CW hx hf)⟩
theorem zjl(i j:Nat){k0}(hc:X.aj=true)(dh:aj=true)(hN:X.N.Nodup)(hi:X.N[i]?=some x)(hj:X.N[j]?=some y)(hx:JK X x k)(hy:JK X y k')(UL:oK k=true)(UW:oK k'=true)(xY:X.fn x=true\/k=.local:=by first|exact .inl rfl|exact .inr rfl)(xZ:X.fn y=true\/k'=.local:=by first|exact .inl rfl|exact .inr rfl) :
  JG X cA aq aj F EX (.Tuple [.Name x px,.Name y py] k0 pos) (.tp [i,j]):=⟨zj7 hc dh hN hi hj (CV hx UL) (CV hy UW) (CW hx xY) (CW hy xZ)⟩
theorem rT(hp:JH X)(hc:X.aj=true)(dh:aj=true)(ha:JI X cA aq aj (F aj) EX tg a w)(hg:JG X cA aq aj F EX tg t)(hb:JB X cA aq aj F EX body mb)(hs:∀x,foldedSetIterable a X.env x=pure x:=by intro _;rfl):JS X cA aq aj F EX (.For tg a body [] pos) (.fr t w mb):=
 ⟨zlV hp.o hc dh ha.o hg.o hb.o hs⟩
theorem zky{cc:Nat}{apos:Pos}(hf:cA.f cc=[])(hc:X.aj=true)(dh:aj=true)(hX:mz X.K (cA.a cc) [.type "ValueError",.type "Exception",.type "BaseException",.type "object"] "ValueError.__new__" none=true)(hm:X.mg x=some (.ref (cA.a cc)))(hg:JK X x .globalImplicit)
  (R:JR X EX) (ha:JA X cA aq aj (F aj) EX (e::es) Xs) (hd:okN x=true) (hz:decide (Es.len Xs<=sizeLine)=true:=by rfl) (he:aC e=true:=by rfl) (hpl:es.all aC=true:=by rfl) :
  JS X cA aq aj F EX (.Raise (some (.Call (.Name x p) (e::es) [] apos)) none pos) (.rise cc false Xs):=⟨zhB hf PySem.F.excBase_ValueError J0 PySem.F.excBase_ValueError hc dh hX hg.o hm R.o ha.o (fO hz) (qN hd).1 (aY he) (aR hpl)⟩
theorem zoo(i:Nat)(dh:aj=true)(hex:X.ex=[])(oY:X.stack=X.env::X.outer/\X.env.frame=some X.env.locals)(hg:JK X x .globalImplicit)(hm:X.mg x=some (.ref (cA.a dc)))(hN:X.N.Nodup)(hi:X.N[i]?=some n)(hl:JK X n .local)
  (hsub:∀c,aq c dc=true->subIn X.K (cA.a c) (cA.a dc)=true)
  (hb:∀(pn:List (Addr×Obj)) (E':Value->Shared->Prop) (tD:XS),JR (X.seen X.A X.aj pn E') tD->JH (X.seen X.A X.aj pn E')->JB (X.seen X.A X.aj pn E') cA aq aj F tD body mb)
  (hh:∀e:Value,JB (X.seen (X.A.mark (some e)) false X.pn (λ_ _=>False)) cA aq false F (λ_ _ _ _=>False) (b₀::suite) mh) (hd:okN x=true) :
  JS X cA aq aj F EX (.Try body [.ExceptHandler (some (.Name x np)) (some n) (b₀::suite) uG] [] [] pos) (.rD mb dc i mh):=
 ⟨zl3 dh hex oY hg.o hm hN hi hl.o hsub (λpn E' tD R H=>(hb pn E' tD ⟨R⟩ ⟨H⟩).o) (λe=>(hh e).o) (qN hd).1⟩
end
theorem zji{P:Program}{w:World}{K:W.Frag}{mg:Str->Option Value}{base:Heap}{cA:Cl}{aq:Nat->Nat->Bool}{T:Nat->Option Df}{x qual:Str}{st:Stmt}{f:Addr}{fd:FuncData}{N ps:List Str}{k n:Nat}{cm:Bool}{df:Df}(F:oJ K x qual st f fd)(S:cZ N ps (au st))(hT:T n=some df)(hp:df.gH=ps.length)(hm:df.many=N.length)
  (hb:∀(cdv:Value) (A:Around) (outer:List Env) (s:Shared) (H:Hp) (E:XK),bF k (A.deeper (envOfC qual (au st) s.heap.objs.size f cdv))->
   JB (gG (gK P w) P w K mg base N qual (au st) f cdv A outer s H E cm) cA aq cm (λc=>call aq T k c) (λ_ C dx H'=>E C dx H') (aL st) df.body) :
  cC P w K mg base (gK P w) cm (k+1) f fd ps (lu K cA (call aq T (k+1) cm n)):=znu F S hT hp hm λcdv A outer s H E hr=>(hb cdv A outer s H E hr).o
section
variable {K:W.Frag}{cA:Cl}{U:Ph}{H:Hp}{kvs:iU}{xs:m5}{k:List Kx}
theorem jq.len(r:jq K cA U H kvs xs):kvs.length=xs.length:=by
 induction r with
 |nil=>rfl
 |cons _ _ _ _ ih=>rw[gD,gD,ih]
theorem zjB{j:List Kx}{a:Addr}{u:Value}{r:m5}:atKey ((j,a,u)::r) k=if j=k then some (a,u) else atKey r k:=by
 unfold atKey;rw[List.find?_cons];by_cases e:j=k
 ·simp[e]
 ·simp[e]
theorem jq.at(r:jq K cA U H kvs xs):(bZ k kvs=none/\atKey xs k=none)\/∃d p v,bZ k kvs=some d/\atKey xs k=some p/\RelV v p.2/\Rep K cA U H d v:=by
 induction r with
 |nil=>exact .inl ⟨rfl,rfl⟩
 |@cons j d ka u v r xs hk hu hv q ih=>
  rw[zjB];unfold bZ;by_cases e:j=k
  ·rw[if_pos e,if_pos e];exact .inr ⟨d,(ka,u),v,rfl,rfl,hu,hv⟩
  ·rw[if_neg e,if_neg e];exact ih
theorem jq.isSome(r:jq K cA U H kvs xs):(atKey xs k).isSome=(bZ k kvs).isSome:=by
 rcases r.at (k:=k) with ⟨a,b⟩|⟨d,p,v,a,b,_⟩<;>rw[a,b]<;>rfl
theorem jq.app{kvs':iU}{xs':m5}(r:jq K cA U H kvs xs)(r':jq K cA U H kvs' xs'):jq K cA U H (kvs++kvs') (xs++xs'):=by
 induction r with
 |nil=>exact r'
 |cons a b c _ ih=>exact .cons a b c ih
theorem jq.put{ka:Addr}{u:Value}{v:V}{d:D}(r:jq K cA U H kvs xs)(hk:Rep K cA U H (jg k) (.ref ka))(hu:RelV v u)(hv:Rep K cA U H d v):jq K cA U H (jB k d kvs) (storedH xs k ka u):=by
 unfold jB storedH;rw[r.isSome];by_cases e:(bZ k kvs).isSome=true
 ·rw[if_pos e,if_pos e];clear e
  induction r with
  |nil=>exact .nil
  |@cons j d' ka' u' v' r xs J9 hu' Rq q ih=>
   rw[iR,iR];show jq K cA U H ((if j=k then (j,d) else (j,d'))::_) ((if j=k then (j,ka',u) else (j,ka',u'))::_);by_cases e:j=k
   ·rw[if_pos e,if_pos e];exact .cons J9 hu hv ih
   ·rw[if_neg e,if_neg e];exact .cons J9 hu' Rq ih
 ·rw[if_neg e,if_neg e];exact r.app (.cons hk hu hv .nil)
end
section
variable {X:Cx}{cA:Cl}{ao:List (Addr×Obj)}{Z:L2.St}{H:Hp}{s:Shared}{U:Ph}{a:Addr}{kvs:iU}{xs:m5}{k:List Kx}{y v:V}{u:Value}{A:Around}{E:Value->Shared->Prop}
theorem U6(I:Inv X ao Z H s)(e:H a=some (uP a xs))(r:jq X.K cA U H kvs xs):(a==sysModules)=false/\xs.length<=sizeLine/\s.heap.DictOfH (jK X.prog X.w) a xs:=by
 have z:=(I.hok a _ e).1;obtain⟨h1,h2,o,es,ep,h3,h4,h5,h6,h7⟩:=z;refine⟨h1,h2,o,es,ep,h3,h4,h5,h6,?_,h7⟩;clear h2 h6 h7 e
 induction r with
 |nil=>exact λx hx=>nomatch hx
 |cons hk hu hv q ih=>exact List.forall_mem_cons.mpr ⟨rO I hk rfl,ih⟩
theorem U7{d:D}(hk:Rep X.K cA U H (jg k) y):∃b,y=.ref b:=by cases hk;exact⟨_,rfl⟩
noncomputable def tGx(K:W.Frag)(cA:Cl)(td ty:TE):TE:=λZ H Q=>td Z H λx H1=>ty Z H1 λy H2=>∃a U kvs xs k d,x=.ref a/\H2 a=some (uP a xs)/\jq K cA U H2 kvs xs/\Rep K cA U H2 (jg k) y/\bZ k kvs=some d/\∀v,Rep K cA U H2 d v->Q v H2
noncomputable def tIx(K:W.Frag)(cA:Cl)(f:Bool->Bool)(ty td:TE):TE:=λZ H Q=>ty Z H λy H1=>td Z H1 λx H2=>∃a U kvs xs k,x=.ref a/\H2 a=some (uP a xs)/\jq K cA U H2 kvs xs/\Rep K cA U H2 (jg k) y/\Q (.bl (f (bZ k kvs).isSome)) H2
noncomputable def sPx(K:W.Frag)(cA:Cl)(td ty tv:TE):TS:=λD Z H=>tv Z H λv H1=>td Z H1 λx H2=>ty Z H2 λy H3=>∃a b U kvs xs k d,x=.ref a/\H3 a=some (uP a xs)/\jq K cA U H3 kvs xs/\y=.ref b/\Rep K cA U H3 (jg k) y/\Rep K cA U H3 d v/\kvs.length<sizeLine /\
 ∀u,RelV v u->D.nx Z (upd H3 a (uP a (storedH xs k b u)))
variable {o i value:Expr}{pos pos':Pos}{td ty tv:TE}
theorem zol(hu:X.A.units+5<cLine)(ho:PE X o td)(hi:PE X i ty)(hs:Cz i):PE X (.Subscript o i pos) (tGx X.K cA td ty):=by
 intro ao s Z H Q I h;refine zlr PySem.F.slot_dict_getitem.lookup hs (bA (ho ao s Z H _ I h) λu s1 hx=>dY hx λx H1 I1 rx q1=>bA (hi ao s1 Z H1 _ I1 q1) λiv s2 hz=>?_);obtain⟨y,H2,I2,ry,a,U,kvs,xs,k,d,ex,ea,rr,rk,g,q2⟩:=hz;subst ex;obtain rfl:u=Value.ref a:=rx;obtain⟨b,rfl⟩:=U7 (d:=d) rk;obtain rfl:iv=Value.ref b:=ry;obtain⟨z1,z2,dd⟩:=U6 I2 ea rr;rcases rr.at (k:=k) with ⟨z,_⟩|⟨d',p,v,z,hp,rv,rd⟩
 ·rw[g] at z;cases z
 ·rw[g] at z;cases z;exact⟨dd.typeIs,wpAny_getItem_heap (knd:=jK X.prog X.w) (show X.A.units+1+4<cLine by lia) (rO I2 rk rfl) dd hp ⟨v,H2,I2.tok _,rv,q2 v rd⟩⟩
theorem zmq(hu:X.A.units+5<cLine)(hi:PE X i ty)(ho:PE X o td):PC X .NotIn i o (tIx X.K cA not ty td):=by
 intro ao s Z H Q I h;refine bA (hi ao s Z H _ I h) λiv s1 hx=>dY hx λy H1 I1 ry q1=>bA (ho ao s1 Z H1 _ I1 q1) λu s2 hz=>?_;obtain⟨x,H2,I2,rx,a,U,kvs,xs,k,ex,ea,rr,rk,q2⟩:=hz;subst ex;obtain rfl:u=Value.ref a:=rx;obtain⟨b,rfl⟩:=U7 (d:=.non) rk;obtain rfl:iv=Value.ref b:=ry;obtain⟨z1,z2,dd⟩:=U6 I2 ea rr;exact wpAny_notIn_heap (knd:=jK X.prog X.w) (show X.A.units+1+4<cLine by lia) (rO I2 rk rfl) z1 dd ⟨_,H2,I2.tok _,by rw[rr.isSome];rfl,q2⟩
theorem ze8{xs:m5}{b:Addr}{u:Value}:(storedH xs k b u).length<=xs.length+1:=by
 unfold storedH
 split
 ·rw[bI];lia
 ·simp
theorem zo0(hu:X.A.units+5<cLine)(ho:PE X o td)(hi:PE X i ty)(hv:PE X value tv)(hs:swapsWith value (some (.Subscript o i pos')) pos.line X.env=pure false):PS X (.Assign [.Subscript o i pos'] value pos) (sPx X.K cA td ty tv):=by
 intro ao s Z H D I h;refine wpAny_Assign_Subscript (bA (hv ao s Z H _ I h) λr s1 hx=>dY hx λv H1 I1 rv q1=>bA (ho ao s1 Z H1 _ I1 q1) λu s2 hx=>dY hx λx H2 I2 rx q2=>bA (hi ao s2 Z H2 _ I2 q2) λiv s3 hz=>?_) hs;obtain⟨y,H3,I3,ry,a,b,U,kvs,xs,k,d,ex,ea,rr,ey,rk,rd,hl,q3⟩:=hz;subst ex ey;obtain rfl:u=Value.ref a:=rx;obtain rfl:iv=Value.ref b:=ry;obtain⟨z1,z2,dd⟩:=U6 I3 ea rr;have uE:xs.length+1<=sizeLine:=by rw[<-rr.len];exact hl
 refine wpAny_setItem_heap (knd:=jK X.prog X.w) (hsz:=z2) (show X.A.units+1+4<cLine by lia) (rO I3 rk rfl) dd λh' IK hs'=>⟨Z,_,?_,q3 r rv⟩;obtain⟨q,es,ep,hq,h2,h3,h4,_,h5⟩:=IK;exact zf7 I3 (by rw[ea];exact True.intro) hs' ⟨q,hq⟩ ⟨⟨z1,jo ze8 uE,q,es,ep,hq,h2,h3,h4,h5⟩,⟨q,hq⟩,λh1 h2 ⟨a1,a2,o,es,ep,a3,a4⟩ kp=>⟨a1,a2,o,es,ep,kp o a3,a4⟩⟩
theorem zpB:PE X (.Dict [] [] pos) (λ_ H Q=>∀p,H p=none->Q (.ref p) (upd H p (uP p []))):=λao s Z H Q I h=>
 wpAny_Dict_empty ⟨.ref s.heap.objs.size,_,I.laid (a:=s.heap.objs.size) (o:=uP s.heap.objs.size []) (t':=s.toks) (λ_ _ q=>cN _ q) (bK _)
  ⟨⟨Ag.mpr (Ne.symm (dX I.big)),vX _,_,#[],0,fL _ rfl,⟨rfl,rfl,rfl⟩,rfl,rfl,Aq⟩,⟨_,fL _ rfl⟩,λh1 h2 ⟨a1,a2,o,es,ep,a3,a4⟩ kp=>⟨a1,a2,o,es,ep,kp o a3,a4⟩⟩,rfl,h _ (I.hok.fresh (bK _))⟩
end
section
variable {X:Cx}{cA:Cl}{aq:Nat->Nat->Bool}{aj:Bool}{F:Fn}{EX:XS}{a b:Expr}{A B:E}{pos p:Pos}{K:W.Frag}{U:Ph}{H:Hp}{s:S}
theorem U8{β:Type}{x:Xv}{v:V}{k:List Kx->M β}{P:β->S->Ph->Hp->Prop}{Ee:Nat->List D->S->Ph->Hp->Prop}(r:bw K cA U H x v)(h:Run K cA (M.bd (key x) k) U H s P Ee):∃kx,Rep K cA U H (jg kx) v/\Run K cA (k kx) U H s P Ee:=by
 cases r with
 |l _=>exact h.elim
 |@d y _ r=>
  obtain⟨kx,e,h2⟩:=Ny (o:=kOf y) h;rw[znG e] at r;exact⟨kx,r,h2⟩
theorem U9{β:Type}{x:Xv}{v:V}{k:Nat×iU->M β}{P:β->S->Ph->Hp->Prop}{Ee:Nat->List D->S->Ph->Hp->Prop}(hS:aG K cA U H s)(r:bw K cA U H x v)(h:Run K cA (M.bd (f9 x) k) U H s P Ee) :
  ∃n ad kvs xs,x=.l n/\v=.ref ad/\s[n]?=some (.dct kvs)/\U.l[n]?=some ad/\H ad=some (uP ad xs)/\jq K cA U H kvs xs/\Run K cA (k (n,kvs)) U H s P Ee:=by
 cases r with
 |d _=>exact h.elim
 |@l n ad hl=>
  unfold Run M.bd f9 at h;dsimp only at h;cases e:s[n]? with
  |none=>rw[e] at h;exact h.elim
  |some o=>
   rw[e] at h;cases o with
   |dct kvs=>
    obtain⟨xs,q1,q2⟩:=hS.obj n _ _ e hl;exact⟨n,ad,kvs,xs,rfl,rfl,e,hl,q1,q2,h⟩
   |_=>exact h.elim
theorem zn0{k:Nat}(hr:bF k X.A)(ha:JE X cA aq aj F EX a A)(hb:JE X cA aq aj F EX b B)(hs:Cz b:=by exact λ_ _=>rfl):JE X cA aq aj F EX (.Subscript a b pos) (.pJ A B):=⟨PE.weak (zol (cA:=cA) (by have:=hr.un;lia) ha.o hb.o hs) λZ H Q hh=>un hh λU J s hL hS h=>by
 refine bB hL hS h λx H1 U1 d1 s1 x1 hL1 aJ r1 h1=>bB hL1 aJ h1 λy H2 U2 d2 s2 x2 hL2 aV r2 h2=>?_;obtain⟨kx,rk,h3⟩:=U8 r2 h2;obtain⟨n,ad,kvs,xs,_,rfl,e1,e2,e3,rr,h4⟩:=U9 aV (r1.mono x2 aJ.lz) h3;have h4:Run X.K cA (M.opt ((bZ kx kvs).map Xv.d)) U2 H2 s2 (λd _ U' H'=>∀v,bw X.K cA U' H' d v->Q v H') (eX X.K cA EX Z):=h4;cases e:bZ kx kvs with
 |none=>rw[e] at h4;exact h4.elim
 |some d=>
  rw[e] at h4;exact⟨ad,U2,kvs,xs,kx,d,rfl,e3,rr,rk,e,λv rv=>h4.bH aV v (.d rv)⟩⟩
theorem zki{b':Bool}{Z:L2.St}{Q:VK}(f:Bool->Bool)(hf:∀c,f c=(c==b'))(hh:tE X.K cA EX (ev aq aj F (.Ce b' A B)) Z H Q):tIx X.K cA f (tE X.K cA EX (ev aq aj F A)) (tE X.K cA EX (ev aq aj F B)) Z H Q:=un hh λU J s hL hS h=>by
 refine bB hL hS h λx H1 U1 d1 s1 x1 hL1 aJ r1 h1=>bB hL1 aJ h1 λy H2 U2 d2 s2 x2 hL2 aV r2 h2=>?_;obtain⟨kx,rk,h3⟩:=U8 (r1.mono x2 aJ.lz) h2;obtain⟨n,ad,kvs,xs,_,rfl,e1,e2,e3,rr,h4⟩:=U9 aV r2 h3;refine⟨ad,U2,kvs,xs,kx,rfl,e3,rr,rk,?_⟩;rw[hf];exact h4.bH aV _ (.d (.bl _))
theorem zgn{m:Vs->M Xv}{Z:L2.St}{Q:Bool->Hp->Prop}(hh:v9 K cA EX (λJ=>M.bd (m J) bool) Z H Q):tE K cA EX m Z H λx H1=>∃c,x=.bl c/\Q c H1:=un hh λU J s hL hS h=>
 ⟨U,J,s,hL,hS,h.bd.imp λd s1 U1 H1 ⟨_,r1,h1⟩ v rv=>zhJ r1 rv h1⟩
theorem zlL{k:Nat}(hr:bF k X.A)(ha:JE X cA aq aj F EX a A)(hb:JE X cA aq aj F EX b B)(h1:oM b=true:=by rfl):JT X cA aq aj F EX (.Compare a [.NotIn] [b] pos) (.Ce false A B):=⟨PT.weak (Q8 (zmq (cA:=cA) (by have:=hr.un;lia) ha.o hb.o) (yh h1)) λZ H Q hh=>zki not (λc=>by cases c<;>rfl) (zgn hh)⟩
theorem zlB:JE X cA aq aj F EX (.Dict [] [] pos) .rC:=⟨PE.weak zpB λZ H Q hh=>un hh λU J s hL hS h p hp=>
 h (U.add p) _ (Ext.add hp) (hS.JL hp ⟨[],iY,.nil⟩) _ (.l (by show (U.l++[p])[s.length]?=_;rw[<-hS.len];simp))⟩
end
section
variable {X:Cx}{cA:Cl}{aq:Nat->Nat->Bool}{aj:Bool}{F:Bool->Fn}{EX:XS}{a oo ii:Expr}{A O I':E}{pos p:Pos}
theorem znH{k:Nat}(hr:bF k X.A)(hO:JE X cA aq aj (F aj) EX oo O)(hI:JE X cA aq aj (F aj) EX ii I')(ha:JE X cA aq aj (F aj) EX a A)(hs:swapsWith a (some (.Subscript oo ii p)) pos.line X.env=pure false:=by rfl) :
  JS X cA aq aj F EX (.Assign [.Subscript oo ii p] a pos) (.dput O I' A):=⟨PS.weak (zo0 (cA:=cA) (by have:=hr.un;lia) hO.o hI.o ha.o hs) λD Z H hh=>un hh λU J s hL hS h=>by
 refine bB hL hS (aO.ofM hL hS.lz h) λz H1 U1 d1 s1 x1 hL1 aJ r1 h1=>?_;obtain⟨w,_,mQ,h2⟩:=Nz r1 h1;refine bB hL1 aJ h2 λx H2 U2 d2 s2 x2 hL2 aV r2 h3=>bB hL2 aV h3 λy H3 U3 d3 s3 x3 xU lV r3 h4=>?_;obtain⟨kx,rk,h5⟩:=U8 r3 h4;obtain⟨n,ad,kvs,xs,_,rfl,e1,e2,e3,rr,h6⟩:=U9 lV (r2.mono x3 aV.lz) h5;obtain⟨b,rfl⟩:=U7 (X:=X) (d:=.non) rk;have rw3:=(mQ.mono x2 aJ.lz).mono x3 aV.lz;by_cases hz:kvs.length<sizeLine
 ·refine⟨ad,b,U3,kvs,xs,kx,w,rfl,e3,rr,rfl,rk,rw3,hz,λu ru=>?_⟩;have h6:Run X.K cA (if kvs.length<sizeLine then putD n (jB kx w kvs) else M.no) U3 H3 s3 _ _:=h6;rw[if_pos hz] at h6;have x4:Ext U3 H3 U3 (upd H3 ad (uP ad (storedH xs kx b u))):=Ext.write e2 ⟨_,e3⟩;have rS:=lV.uQ (so:=.dct (jB kx w kvs)) (ho:=uP ad (storedH xs kx b u)) (eY.mp e1).1 e2 ⟨_,iY,(rr.put rk ru rw3).map λ_ _ r=>r.mono x4 lV.lz⟩;obtain⟨x5,r5,h7⟩:=h6 U3 _ x4 rS;exact h7 U3 _ Z Ext.refl rS (xU.mono x4 lV.lz)
 ·have h6:Run X.K cA (if kvs.length<sizeLine then putD n (jB kx w kvs) else M.no) U3 H3 s3 _ _:=h6;rw[if_neg hz] at h6;exact h6.elim⟩
end
end Mi
namespace Mi
open PySem PySem.Spec PyProof.Rows L2 PySem.W
theorem znq{fd:FuncData}{x:Str}{st:Stmt}(h:nU fd=vZ x st):fd=fnOf x x (aQ st) (aL st) (au st) .none fd.kwdefaults fd.doc fd.pyModule fd.annotations fd.code fd.closureTuple:=by
 cases fd;unfold nU vZ at h;cases h;rfl
noncomputable def iK(K:Frag)(x:Str):Addr:=match Ay K x with
 |some p=>p.1
 |none=>0
noncomputable def fdOf(K:Frag)(x:Str)(st:Stmt):FuncData:=match Ay K x with
 |some p=>p.2
 |none=>vZ x st
structure FnAt(K:Frag)(x:Str)(st:Stmt):Prop where
 ns:nsIn K mainGlobals x=some (some (.ref (iK K x)))
 fn:oJ K x x st (iK K x) (fdOf K x st)
theorem zom{K:Frag}{x:Str}{st:Stmt}(h:(Ay K x).map (λp=>nU p.2)=some (vZ x st)):FnAt K x st:=by
 cases e:Ay K x with
 |none=>rw[e] at h;cases h
 |some p=>
  rw[e] at h;have hp:nU p.2=vZ x st:=dz h;have h1:iK K x=p.1:=by unfold iK;rw[e]
  have h2:fdOf K x st=p.2:=by unfold fdOf;rw[e]
  unfold Ay at e;split at e
  ·rename_i f hf;split at e
   ·rename_i oc od fd sl hl;split at e
    ·rename_i hc;cases e;rw[dJ] at hc;refine⟨by rw[h1];exact hf,?_⟩;rw[h1,h2];exact⟨⟨oc,od,_,_,_,_,_,_,sl,znq hp,hl,hc.1⟩,hc.2⟩
    ·cases e
   ·cases e
  ·cases e
theorem FnAt.m{K:Frag}{x:Str}{st:Stmt}(F:FnAt K x st){h:Heap}{mg:Str->Option Value}(X:K.In h)(G:h.Ns mainGlobals mg):mg x=some (.ref (iK K x)):=mg_of X G F.ns
theorem rW{K:Frag}{x:Str}(h:ud K x=true){hp:Heap}{mg:Str->Option Value}(X:K.In hp)(G:hp.Ns mainGlobals mg):mg x=some (.ref (eG K x)):=by
 refine mg_of X G ?_;unfold ud at h;unfold eG;split at h
 ·rename_i C e;rw[e]
 ·cases h
theorem zje{K:Frag}{x:Str}{i:Int}(h:mC K (x,i)=true){hp:Heap}{mg:Str->Option Value}(X:K.In hp)(G:hp.Ns mainGlobals mg):∃t,mg x=some (.int i t):=by
 unfold mC at h;split at h
 ·rename_i j t e;rw[Ai] at h;subst h;exact⟨t,mg_of X G e⟩
 ·cases h
theorem oO{K:Frag}{x:Str}(h:qm K x=true){hp:Heap}{mg:Str->Option Value}(X:K.In hp)(G:hp.Ns mainGlobals mg):mg x=none:=by
 refine mg_none_of X G ?_;unfold qm at h;split at h
 ·rename_i e;exact e
 ·cases h
structure zU(l:Lk)(K:Frag):Prop where
 cl:∀x∈l.G9,ud K x=true
 cs:l.G9.isEmpty=true\/ql K (l.L K)=true
 ra:∀k∈l.Yd,G8 K (eE (l.L K) k)=true
 ca:∀k∈l.Ye,subB K (l.L K) k=true
 it:∀p∈l.wN,mC K p=true
 no:∀x∈l.Yc,qm K x=true
 st:∀p∈l.Yg,uf K p=true
theorem Kac{l:Lk}{K:Frag}(h:l.good K=true):zU l K:=by
 unfold Lk.good at h;simp only[dJ,Bool.or_eq_true,dZ] at h;obtain⟨⟨⟨⟨⟨⟨h1,h2⟩,h3⟩,h4⟩,h5⟩,h6⟩,h7⟩:=h;exact⟨h1,h2,h3,h4,h5,h6,h7⟩
theorem yq{K:Frag}{x:Str}{st:Stmt}{f:Addr}{fd:FuncData}{p:Str}(F:oJ K x x st f fd)(h:∀(kV doc pm:Value) (an:Option Addr) (cdv ct a:Value),bindArgs (fnOf x x (aQ st) (aL st) (au st) .none kV doc pm an cdv ct) ⟨[a],[]⟩=pure [(p,a)]):Binds K fd [p] []:=by
 obtain⟨oc,od,kV,doc,pm,an,cdv,ct,osl,rfl,lk,kW⟩:=F.ex;exact CJ (h kV doc pm an cdv ct)
theorem yr{K:Frag}{x:Str}{st:Stmt}{f:Addr}{fd:FuncData}{p q:Str}(F:oJ K x x st f fd)(h:∀(kV doc pm:Value) (an:Option Addr) (cdv ct a b:Value),bindArgs (fnOf x x (aQ st) (aL st) (au st) .none kV doc pm an cdv ct) ⟨[a,b],[]⟩=pure [(p,a),(q,b)]):Binds K fd [p,q] []:=by
 obtain⟨oc,od,kV,doc,pm,an,cdv,ct,osl,rfl,lk,kW⟩:=F.ex;exact u_ (h kV doc pm an cdv ct)
theorem yt{K:Frag}{x:Str}{st:Stmt}{f:Addr}{fd:FuncData}{p q t:Str}(F:oJ K x x st f fd)(h:∀(kV doc pm:Value) (an:Option Addr) (cdv ct a b c:Value),bindArgs (fnOf x x (aQ st) (aL st) (au st) .none kV doc pm an cdv ct) ⟨[a,b,c],[]⟩=pure [(p,a),(q,b),(t,c)]):Binds K fd [p,q,t] []:=by
 obtain⟨oc,od,kV,doc,pm,an,cdv,ct,osl,rfl,lk,kW⟩:=F.ex;exact vd (h kV doc pm an cdv ct)
theorem yu{K:Frag}{x:Str}{st:Stmt}{f:Addr}{fd:FuncData}{p q t u:Str}(F:oJ K x x st f fd)(h:∀(kV doc pm:Value) (an:Option Addr) (cdv ct a b c d:Value),bindArgs (fnOf x x (aQ st) (aL st) (au st) .none kV doc pm an cdv ct) ⟨[a,b,c,d],[]⟩=pure [(p,a),(q,b),(t,c),(u,d)]):Binds K fd [p,q,t,u] []:=by
 obtain⟨oc,od,kV,doc,pm,an,cdv,ct,osl,rfl,lk,kW⟩:=F.ex;exact vf (h kV doc pm an cdv ct)
theorem CZ{K:Frag}{x:Str}{st:Stmt}{f:Addr}{fd:FuncData}{p:Str}(F:oJ K x x st f fd)(h:∀(kV doc pm:Value) (an:Option Addr) (cdv ct a:Value),bindArgs (fnOf x x (aQ st) (aL st) (au st) .none kV doc pm an cdv ct) ⟨[a],[]⟩=pure [(p,a)]):∀(s:Shared) (u:Value),BindsTo s fd ⟨[u],[]⟩ [(p,u)]:=by
 obtain⟨oc,od,kV,doc,pm,an,cdv,ct,osl,rfl,lk,kW⟩:=F.ex;exact λs u=>.of_eq (h kV doc pm an cdv ct u)
end Mi
namespace Mi
open PySem PySem.Spec PyProof.Rows L2
section
variable {K:W.Frag}{cA:Cl}{U:Ph}{H:Hp}
theorem aD.Kr(r:aD K cA U H xs ys):∀l:List Nat,aD K cA U H (l.map λi=>xs.getD i .non) (l.map λi=>ys.getD i .non)
 |[]=>.nil
 |i::l=>by
  refine .cons ?_ (aD.Kr r l);show Rep K cA U H (xs.getD i .non) (ys.getD i .non);cases e:xs[i]? with
  |some x=>
   obtain⟨u,e1,e2⟩:=r.get e;rw[nP,nP,e,e1];exact e2
  |none=>
   have e1:ys[i]?=Option.none:=r.none e;rw[nP,nP,e,e1];exact .non
theorem aD.mem(r:aD K cA U H xs ys):∀v∈ys,∃d∈xs,Rep K cA U H d v:=by
 intro v hv;obtain⟨i,hi,e⟩:=sV hv;have e':ys[i]?=some v:=by rw[cX hi,e]
 cases ex:xs[i]? with
 |none=>rw[r.none ex] at e';cases e'
 |some d=>
  obtain⟨u,e1,e2⟩:=r.get ex;rw[e1] at e';cases e';exact⟨d,fK ex,e2⟩
theorem zgl:∀{us ws:List D} {xs ys:List V},aD K cA U H us xs->aD K cA U H ws ys->∀{b:Bool},rH us ws=some b->lg xs ys=some b
 |[],ws,_,ys,r1,r2,b,h=>by
  cases r1;unfold rH at h;unfold lg;rw[<-r2.len];exact h
 |_::_,[],_,_,r1,r2,b,h=>by
  cases r2;cases r1;unfold rH at h;unfold lg;exact h
 |x::us,y::ws,_,_,r1,r2,b,h=>by
  cases r1 with
  |cons a1 b1=>
   cases r2 with
   |cons a2 b2=>
    unfold rH at h;split at h
    ·rename_i z;cases z
    ·rename_i z;cases z
    ·rename_i p ps q qs e1 e2;cases e1;cases e2;cases a1;cases a2;unfold lg;by_cases e:p=q
     ·rw[if_pos e] at h ⊢;exact zgl b1 b2 h
     ·rw[if_neg e] at h ⊢;exact h
    ·cases h
theorem zhN(r:aD K cA U H xs ys)(h:(xs.all j9||xs.all je)=true):uJ K H ys (zm xs):=by
 rw[Bool.or_eq_true] at h;rcases h with h|h
 ·left
  rw[dZ] at h;refine⟨λv hv=>?_,λi j b e=>?_⟩
  ·obtain⟨d,hd,q⟩:=r.mem v hv;have:=h d hd;cases q<;>first|exact⟨_,rfl⟩|cases this
  ·unfold zm at e;cases e1:xs[i]? with
   |none=>rw[e1] at e;cases e
   |some d1=>
    cases e2:xs[j]? with
    |none=>rw[e1,e2] at e;cases d1<;>cases e
    |some d2=>
     have h1:=h d1 (fK e1);have h2:=h d2 (fK e2);rw[e1,e2] at e;obtain⟨v1,a1,b1⟩:=r.get e1;obtain⟨v2,a2,b2⟩:=r.get e2;cases d1<;>first|cases h1|skip
     cases d2<;>first|cases h2|skip
     cases b1;cases b2;cases e;exact⟨_,_,a1,a2,rfl⟩
 ·right
  rw[dZ] at h;refine⟨λv hv=>?_,λi j b e=>?_⟩
  ·obtain⟨d,hd,q⟩:=r.mem v hv;have:=h d hd;unfold je at this;split at this
   ·cases q with
    |tup t r'=>
     cases r' with
     |cons a1 b1=>
      cases a1;exact⟨_,_,_,rfl,t.jh⟩
   ·cases this
  ·unfold zm at e;cases e1:xs[i]? with
   |none=>rw[e1] at e;cases e
   |some d1=>
    cases e2:xs[j]? with
    |none=>rw[e1,e2] at e;cases d1<;>cases e
    |some d2=>
     have h1:=h d1 (fK e1);have h2:=h d2 (fK e2);rw[e1,e2] at e;obtain⟨v1,a1,b1⟩:=r.get e1;obtain⟨v2,a2,b2⟩:=r.get e2;unfold je at h1 h2;split at h1
     ·split at h2
      ·cases b1 with
       |tup t1 r1=>
        cases b2 with
        |tup t2 r2=>exact⟨_,_,_,_,a1,a2,t1.jh,t2.jh,zgl r1 r2 e⟩
      ·cases h2
     ·cases h1
theorem zgB:bD K cA .sorted (λxs H Q=>∃l ys lt p,xs=[.ref l]/\cQ K H l ys/\ys.length<64/\(2<=ys.length->uJ K H ys lt/\bT lt (PySem.W.kas_sort ys.length)=some p/\p.size=ys.length)/\∀r,H r=none->Q (.ref r) (upd H r (.lst (lq ys p)))):=by
 intro U H ds vs Q zt rs o;have o:bC K cA U H (mY ds) Q:=o;unfold mY at o;split at o
 ·rename_i xs _;obtain⟨v,rfl,r1⟩:=rs.one;obtain⟨z,e⟩:=o.some';obtain⟨zs,e1,e2⟩:=jE.mp e;subst e2;obtain⟨a,us,rfl,sq,q⟩ : ∃a us,v=.ref a/\cQ K H a us/\aD K cA U H xs us:=r1;have hl:=q.len;unfold zp at e1;by_cases hk:(xs.all j9||xs.all je)=true
  ·rw[if_pos hk] at e1;unfold qI at e1;by_cases h2:xs.length<2
   ·rw[if_pos h2] at e1;cases e1;refine⟨a,us,λ_ _=>none,#[],rfl,sq,by lia,λz=>absurd z gV,λr hr=>?_⟩;have:lq us #[]=us:=by unfold lq;rw[if_pos gV]
    rw[this];exact(o.of e) r us hr q
   ·rw[if_neg h2] at e1;by_cases uI:xs.length<64
    ·rw[if_pos uI] at e1;cases ek:bT (zm xs) (PySem.W.kas_sort xs.length) with
     |none=>rw[ek] at e1;cases e1
     |some p=>
      rw[ek] at e1;dsimp only at e1;by_cases hp:p.size=xs.length
      ·rw[if_pos hp] at e1;cases e1;refine⟨a,us,zm xs,p,rfl,sq,by lia,λ_=>⟨zhN q hk,by rw[<-hl];exact ek,by lia⟩,λr hr=>?_⟩;have:lq us p=p.toList.map λi=>us.getD i .non:=by unfold lq;rw[if_neg gV]
       rw[this];exact(o.of e) r _ hr (q.Kr p.toList)
      ·rw[if_neg hp] at e1;cases e1
    ·rw[if_neg uI] at e1;cases e1
  ·rw[if_neg hk] at e1;cases e1
 ·exact o.elim
end
section
variable {X:Cx}{cA:Cl}{aq:Nat->Nat->Bool}{aj:Bool}{F:Fn}{EX:XS}{e:Expr}{pos p:Pos}{es:List Expr}{Xs:Es}{fz:Bool}
theorem zd9:bootBuiltins "sorted"=some (.builtin "sorted"):=by decide +kernel
theorem zii(hm:X.mg "sorted"=none)(hg:JK X "sorted" .globalImplicit)(ha:JA X cA aq aj F EX (e::es) Xs)(he:aC e=true:=by rfl)(hpl:es.all aC=true:=by rfl):JE X cA aq aj F EX (.Call (.Name "sorted" p) (e::es) [] pos) (.pr fz .sorted Xs):=⟨zG zdL zgB hg.o hm zd9 ha.o Vu Vu (aY he) (aR hpl)⟩
end
section
variable {K:W.Frag}{cA:Cl}{U:Ph}{H:Hp}
theorem Oe:∀{xs:List D} {k i:Nat},(enumFrom k xs)[i]?=(xs[i]?).map λd=>.tup [.int ((k+i:Nat):Int),d]
 |[],k,i=>by simp[enumFrom]
 |x::r,k,0=>by simp[enumFrom]
 |x::r,k,i+1=>by
  unfold enumFrom;rw[Dz,Dz,Oe]
  congr 1
  funext d
  rw[show k+1+i=k+(i+1) by lia]
noncomputable def rY(K:W.Frag)(U:Ph)(H:Hp):Bool->Addr->List V->Prop
 |true,a,vs=>LstAt K U H a vs
 |false,a,vs=>TupAt K U H a vs
theorem rY.sk{kd:Bool}{a:Addr}{vs:List V}(h:rY K U H kd a vs):Sk kd K H a vs:=by
 cases kd
 ·exact TupAt.jh h
 ·exact LstAt.tK h
theorem rY.later{U':Ph}{H₁ H':Hp}{kd:Bool}{a:Addr}{vs:List V}(hz:∀a∈U.l,U.z a)(h:rY K U H kd a vs)(x:Ext U H U' H₁)(o:dH U' H₁ H'):rY K U' H' kd a vs:=by
 cases kd
 ·exact TupAt.later hz h x o
 ·exact LstAt.later hz h x o
theorem jC.enum{kd:Bool}{l:Addr}{xs:List D}{vs:List V}(hz:∀a∈U.l,U.z a)(h:rY K U H kd l vs)(r:aD K cA U H xs vs):jC K cA (.fix (enumFrom 0 xs)) U H (Ite K kd l):=by
 refine⟨λU' H₁ H' s' i x o hS e=>⟨vs,(h.later hz x o).sk,?_⟩,λU' H₁ H' s' i d x o hS e=>?_,λU' H₁ H' s' i d v H2 x o hS e y=>?_⟩
 ·have e:(enumFrom 0 xs)[i]?=none:=dz e;rw[Oe,Option.map_eq_none_iff] at e;exact o9.mp ((r.mono x hz).none e)
 ·have e:(enumFrom 0 xs)[i]?=some d:=dz e;rw[Oe] at e;obtain⟨d',e',_⟩:=jE.mp e;obtain⟨v,q,_⟩:=r.get e';exact⟨vs,v,(h.later hz x o).sk,q⟩
 ·have e:(enumFrom 0 xs)[i]?=some d:=dz e;rw[Oe] at e;obtain⟨d',e',rfl⟩:=jE.mp e;obtain⟨a,u,hn,rfl,rfl,hu⟩:=y;obtain⟨w,q,mQ⟩:=((r.mono x hz).out o).get e';have:=hu vs (h.later hz x o).sk;rw[q] at this;cases this;have g:bf H' (upd H' a (.tup [.int i,u])):=bf.new hn;refine⟨g,?_⟩;rw[show ((0+i:Nat):Int)=(i:Int) by simp];exact .tup (.inl ⟨.inl iY,hS.nz hn⟩) (.cons (.int _) (.cons (mQ.mono g.ext hS.lz) .nil))
theorem U_(h:(Src.lQ n).at i s=some o):∃xs,s[n]?=some (.lst xs)/\(xs[i]?.map λx=>D.tup [.int i,x])=o:=by
 unfold Src.at at h;dsimp only at h;cases e:s[n]? with
 |none=>rw[e] at h;cases h
 |some ob=>
  rw[e] at h;cases ob with
  |lst xs=>exact⟨xs,rfl,dz h⟩
  |_=>cases h
theorem jC.lQ{a:Addr}{n:Nat}(h:U.l[n]?=some a):jC K cA (.lQ n) U H (Ite K true a):=by
 refine⟨λU' H₁ H' s' i x o hS e=>?_,λU' H₁ H' s' i d x o hS e=>?_,λU' H₁ H' s' i d v H2 x o hS e y=>?_⟩
 ·obtain⟨xs,e1,e2⟩:=U_ e;rw[Option.map_eq_none_iff] at e2;obtain⟨vs,q1,q2⟩:=hS.obj n _ a e1 (x.get h);exact⟨vs,cQ.of q1,o9.mp (q2.none e2)⟩
 ·obtain⟨xs,e1,e2⟩:=U_ e;obtain⟨d',e',_⟩:=jE.mp e2;obtain⟨vs,q1,q2⟩:=hS.obj n _ a e1 (x.get h);obtain⟨v,q3,_⟩:=q2.get e';exact⟨vs,v,cQ.of q1,q3⟩
 ·obtain⟨xs,e1,e2⟩:=U_ e;obtain⟨d',e',rfl⟩:=jE.mp e2;obtain⟨vs,q1,q2⟩:=hS.obj n _ a e1 (x.get h);obtain⟨w,q3,mQ⟩:=q2.get e';obtain⟨b,u,hn,rfl,rfl,hu⟩:=y;have:=hu vs (cQ.of q1);rw[q3] at this;cases this;have g:bf H' (upd H' b (.tup [.int i,w])):=bf.new hn;exact⟨g,.tup (.inl ⟨.inl iY,hS.nz hn⟩) (.cons (.int _) (.cons (mQ.mono g.ext hS.lz) .nil))⟩
end
section
variable {X:Cx}{cA:Cl}{aq:Nat->Nat->Bool}{aj:Bool}{F:Fn}{EX:XS}{a b:Expr}{A B:E}{pos pp tpos:Pos}{elts:List Expr}{kk:Nat}
theorem zke(jL:Gl X "enumerate")(hmg:X.mg "enumerate"=none)(hb:SE X cA aq aj F EX b B)(h2:starEach [b] X.env=(false,eval b X.env)::starEach [] X.env) :
  SI X cA aq aj F EX (.Tuple elts kk tpos) (.Call (.Name "enumerate" pp) [b] [] pos) (.enum B):=PI.weak (zkK jL hmg (uy hb yV h2) (by rw[h2];rfl)) λZ H R hh=>un hh λU J s hL hS h=>by
 refine bB hL hS h λy H2 U2 d2 s2 x2 hL2 aV r2 h2=>?_;cases r2 with
 |@l n ad hl=>
  unfold Run oH at h2;dsimp only at h2;cases e:s2[n]? with
  |none=>rw[e] at h2;exact h2.elim
  |some o=>
   rw[e] at h2;cases o with
   |lst xs=>
    obtain⟨vs,q1,q2⟩:=aV.obj n _ _ e hl;exact⟨true,_,_,rfl,cQ.of q1,h2 U2 H2 Ext.refl aV _ (jC.lQ hl)⟩
   |_=>exact h2.elim
 |d r2=>
  cases r2 with
  |fl q r=>exact⟨true,_,_,rfl,q.tK,h2 U2 H2 Ext.refl aV _ (jC.enum (kd:=true) aV.lz q r)⟩
  |tup q r=>exact⟨false,_,_,rfl,q.jh,h2 U2 H2 Ext.refl aV _ (jC.enum (kd:=false) aV.lz q r)⟩
  |_=>exact h2.elim
theorem zf0:∀(ns:List Str) (vs:List V),((ns.zip vs).map (·.1)).Sublist ns
 |[],vs=>by simp
 |n::ns,[]=>by simp
 |n::ns,v::vs=>by
  rw[GC,iR];exact(zf0 ns vs).cons₂ n
theorem zfA:∀{ns:List Str} {vs:List V} {i:Nat} {x:Str} {v:V},ns.Nodup->ns[i]?=some x->vs[i]?=some v->(ns.zip vs).lookup x=some v
 |ns,vs,i,x,v,hn,h1,h2=>by
  refine ZG ?_ (zkZ h1 h2);exact List.Sublist.nodup (zf0 ns vs) hn
end
section
variable {X:Cx}{cA:Cl}{aq:Nat->Nat->Bool}{aj:Bool}{F:Fn}{EX:XS}{a b:Expr}{A B:E}{pos p tpos:Pos}{elts:List Expr}{kk:Nat}
theorem zjm(hmg:X.mg "enumerate"=none)(jL:JK X "enumerate" .globalImplicit)(hb:JE X cA aq aj F EX b B)(h2:aC b=true:=by rfl):JI X cA aq aj F EX (.Tuple elts kk tpos) (.Call (.Name "enumerate" p) [b] [] pos) (.enum B):=⟨zke jL.o hmg hb.o (aY h2)⟩
end
end Mi
namespace Mi
open PySem PySem.Spec PyProof.Rows L2 PySem.W
theorem zkp{fd:FuncData}{q:Str}{st:Stmt}(h:nU fd=Az q st):fd=fnOf "__init__" q (aQ st) (aL st) (au st) .none fd.kwdefaults fd.doc fd.pyModule fd.annotations fd.code fd.closureTuple:=by
 cases fd;unfold nU Az at h;cases h;rfl
structure Ks(K:Frag)(C:Addr)(q:Str)(st:Stmt):Prop where
 ex:∃(fI:Addr) (od:Option Addr) (kV doc pm:Value) (an:Option Addr) (cdv ct:Value) (osl:Array (Option Value)) (cd:ClassData),
  K.lookup fI=some ⟨.type "function",od,.func (fnOf "__init__" q (aQ st) (aL st) (au st) .none kV doc pm an cdv ct),osl⟩/\codeIn K cdv q=true/\uc K C fI=true/\clsIn K C=some cd/\t_ cd.mro=true/\cd.hasDict=true
theorem zon{K:Frag}{C:Addr}{q:Str}{st:Stmt}(h:(G_ K C).map nU=some (Az q st)):Ks K C q st:=by
 cases e:G_ K C with
 |none=>rw[e] at h;cases h
 |some fd=>
  rw[e] at h;have hp:nU fd=Az q st:=dz h;unfold G_ at e;split at e
  ·rename_i cd kW;split at e
   ·rename_i f hf;split at e
    ·rename_i od fd' sl hl;split at e
     ·rename_i hc;cases e;simp only[dJ] at hc;obtain⟨⟨⟨c1,c2⟩,c3⟩,c4⟩:=hc;have eq:=zkp hp;have qn:fd.qualname=q:=by rw[eq]
      refine⟨⟨f,od,fd.kwdefaults,fd.doc,fd.pyModule,fd.annotations,fd.code,fd.closureTuple,sl,cd,?_,by rw[<-qn];exact c1,c2,kW,c3,c4⟩⟩;rw[<-eq];exact hl
     ·cases e
    ·cases e
   ·cases e
  ·cases e
theorem zoW{K:Frag}{C:Addr}{f:Str}(h:Mq K C f=true):XF K C f:=by
 unfold Mq at h;simp only[dJ,nR] at h;obtain⟨⟨⟨⟨h1,h2⟩,h3⟩,h4⟩,h5⟩:=h;exact⟨h1,h2,h3,h4,h5⟩
structure oR(fs:List (Str×Stmt))(ms:List ug)(xs:List (Nat×Str))(l:Lk)(K:Frag):Prop where
 fn:∀p∈fs,FnAt K p.1 p.2
 gd:zU l K
 mi:∀m∈ms,Ks K (eE (l.L K) m.c) m.q m.st
 se:∀m∈ms,setB K (eE (l.L K) m.c) m.fs=true
 xf:∀x∈xs,XF K (eE (l.L K) x.1) x.2
theorem Va{a:Nat}{o:Obj}:∀{l:List Obj} {i:Nat},((a:Addr),o)∈Hg i l->i<=a/\l[a-i]?=some o/\o.isFreed=false
 |[],i,h=>by cases h
 |p::r,i,h=>by
  unfold Hg at h;split at h
  ·obtain⟨h1,h2,h3⟩:=Va h;refine⟨by lia,?_,h3⟩;rw[show a-i=(a-(i+1))+1 by lia];exact h2
  ·rename_i hf;rcases gF.mp h with e|h
   ·cases e;exact⟨bK _,by simp,hf⟩
   ·obtain⟨h1,h2,h3⟩:=Va h;refine⟨by lia,?_,h3⟩;rw[show a-i=(a-(i+1))+1 by lia];exact h2
theorem zcm:∀{K:Frag},K.lookup a=some o->(a,o)∈K
 |[],h=>by cases h
 |(b,p)::r,h=>by
  rw[pq] at h;by_cases e:a=b
  ·subst e;simp only[D_] at h;cases h;exact kJ
  ·rw[show (a==b)=false by simpa using e] at h;exact g_ _ (zcm h)
theorem zhZ:(bN h).In h:=λa o e=>by
 have hm:=zcm e;unfold bN at hm;rcases kO.mp hm with z|z
 ·unfold qp at z;split at z
  ·rename_i p hp;rcases gF.mp z with e|z
   ·cases e;exact hp
   ·cases z
  ·cases z
 ·obtain⟨_,h2,h3⟩:=Va (List.mem_reverse.mp z);rw[Heap.get?_some_iff];refine⟨?_,h3⟩;have:h.objs.toList[a]?=some o:=by simpa using h2
  simpa using this
end Mi
namespace Mi
open PySem PySem.Spec PyProof.Rows L2
section
variable {K:W.Frag}{cA:Cl}{U:Ph}{H:Hp}
noncomputable def jr(K:W.Frag)(U:Ph)(H:Hp):Bool->Addr->List V->Prop
 |true,a,vs=>LstAt K U H a vs
 |false,a,vs=>TupAt K U H a vs
theorem jr.sk{kd:Bool}{a:Addr}{vs:List V}(h:jr K U H kd a vs):Sk kd K H a vs:=by
 cases kd
 ·exact TupAt.jh h
 ·exact LstAt.tK h
theorem jr.later{kd:Bool}{a:Addr}{vs:List V}{U':Ph}{H₁ H':Hp}(hz:∀a∈U.l,U.z a)(h:jr K U H kd a vs)(x:Ext U H U' H₁)(o:dH U' H₁ H'):jr K U' H' kd a vs:=by
 cases kd
 ·exact TupAt.later hz h x o
 ·exact LstAt.later hz h x o
theorem Vb{xs ys:List D}{i:Nat}:(List.zipWith (λp q=>D.tup [p,q]) xs ys)[i]?=match xs[i]?,ys[i]? with
  |some p,some q=>some (.tup [p,q])
  |_,_=>none:=by
 rw[List.getElem?_zipWith];cases xs[i]?<;>cases ys[i]?<;>rfl
theorem jC.zip{k1 k2:Bool}{l1 l2:Addr}{xs ys:List D}{us vs:List V}(hz:∀a∈U.l,U.z a)(h1:jr K U H k1 l1 us)(h2:jr K U H k2 l2 vs)(r1:aD K cA U H xs us)(r2:aD K cA U H ys vs):jC K cA (.fix (List.zipWith (λp q=>D.tup [p,q]) xs ys)) U H (S5 K k1 k2 l1 l2):=by
 refine⟨λU' H₁ H' s' i x o hS e=>?_,λU' H₁ H' s' i d x o hS e=>?_,λU' H₁ H' s' i d v H2 x o hS e y=>?_⟩
 ·have e:(List.zipWith (λp q=>D.tup [p,q]) xs ys)[i]?=none:=dz e;rw[Vb] at e;refine⟨us,vs,(h1.later hz x o).sk,(h2.later hz x o).sk,?_⟩;cases ex:xs[i]? with
  |none=>exact .inl (o9.mp (r1.none ex))
  |some p=>
   cases ey:ys[i]? with
   |none=>exact .inr (o9.mp (r2.none ey))
   |some q=>rw[ex,ey] at e;cases e
 ·have e:(List.zipWith (λp q=>D.tup [p,q]) xs ys)[i]?=some d:=dz e;rw[Vb] at e;cases ex:xs[i]? with
  |none=>rw[ex] at e;cases e
  |some p=>
   cases ey:ys[i]? with
   |none=>rw[ex,ey] at e;cases e
   |some q=>
    obtain⟨u,q1,_⟩:=r1.get ex;obtain⟨v,q2,_⟩:=r2.get ey;exact⟨us,vs,u,v,(h1.later hz x o).sk,(h2.later hz x o).sk,q1,q2⟩
 ·have e:(List.zipWith (λp q=>D.tup [p,q]) xs ys)[i]?=some d:=dz e;rw[Vb] at e;cases ex:xs[i]? with
  |none=>rw[ex] at e;cases e
  |some p=>
   cases ey:ys[i]? with
   |none=>rw[ex,ey] at e;cases e
   |some q=>
    rw[ex,ey] at e;cases e;obtain⟨a,u,w,hn,rfl,rfl,hu,hw⟩:=y;obtain⟨u',q1,ru⟩:=((r1.mono x hz).out o).get ex;obtain⟨w',q2,mQ⟩:=((r2.mono x hz).out o).get ey;have e1:=hu us (h1.later hz x o).sk;have e2:=hw vs (h2.later hz x o).sk;rw[q1] at e1;rw[q2] at e2;cases e1;cases e2;have g:bf H' (upd H' a (.tup [u,w])):=bf.new hn;exact⟨g,.tup (.inl ⟨.inl iY,hS.nz hn⟩) (.cons (ru.mono g.ext hS.lz) (.cons (mQ.mono g.ext hS.lz) .nil))⟩
theorem zew(r:bw K cA U H x v)(h:Run K cA (M.bd (pP x) k) U H s P Ee) :
  ∃xs kd a vs,v=.ref a/\jr K U H kd a vs/\aD K cA U H xs vs/\Run K cA (k xs) U H s P Ee:=by
 cases r with
 |l _=>exact h.elim
 |d r=>
  cases r with
  |tup q r=>exact⟨_,false,_,_,rfl,q,r,h⟩
  |fl q r=>exact⟨_,true,_,_,rfl,q,r,h⟩
  |_=>exact h.elim
end
section
variable {X:Cx}{cA:Cl}{aq:Nat->Nat->Bool}{aj:Bool}{F:Fn}{EX:XS}{a b:Expr}{A B:E}{pos pp tpos:Pos}{elts:List Expr}{kk:Nat}
theorem zlN(jL:Gl X "zip")(hmg:X.mg "zip"=none)(ha:SE X cA aq aj F EX a A)(hb:SE X cA aq aj F EX b B)(h1:starEach [a,b] X.env=(false,eval a X.env)::starEach [b] X.env)(h2:starEach [b] X.env=(false,eval b X.env)::starEach [] X.env) :
  SI X cA aq aj F EX (.Tuple elts kk tpos) (.Call (.Name "zip" pp) [a,b] [] pos) (.zip A B):=PI.weak (znC jL hmg (uy ha (uy hb yV h2) h1) (by rw[h1,h2];rfl) (by rw[h2];rfl)) λZ H R hh=>un hh λU J s hL hS h=>by
 refine bB hL hS h λx H1 U1 d1 s1 x1 hL1 aJ r1 h1=>bB hL1 aJ h1 λy H2 U2 d2 s2 x2 hL2 aV r2 h2=>?_;obtain⟨xs,k1,l1,us,e1,q1,p1,h3⟩:=zew (r1.mono x2 aJ.lz) h2;obtain⟨ys,k2,l2,vs,e2,q2,p2,h4⟩:=zew r2 h3;subst e1 e2;exact⟨k1,k2,l1,l2,us,vs,rfl,q1.sk,q2.sk,(h4.bH aV) _ (jC.zip aV.lz q1 q2 p1 p2)⟩
theorem zo3(hmg:X.mg "zip"=none)(jL:JK X "zip" .globalImplicit)(ha:JE X cA aq aj F EX a A)(hb:JE X cA aq aj F EX b B)(h1:aC a=true:=by rfl)(h2:aC b=true:=by rfl):JI X cA aq aj F EX (.Tuple elts kk tpos) (.Call (.Name "zip" p) [a,b] [] pos) (.zip A B):=⟨zlN jL.o hmg ha.o hb.o (aY h1) (aY h2)⟩
end
noncomputable def tQ(i:Int)(n:Nat):List V:=(List.range n).map λk=>.int (i+(k:Nat))
def Ku(vs:List V)(H:Hp)(Q:VK):Prop:=∃i j:Int,(vs=[.int j]/\i=0\/vs=[.int i,.int j])/\okR i j=true/\∀l,H l=none->Q (.ref l) (upd H l (.lst (tQ i (j-i).toNat)))
theorem zfJ{i:Int}{acc:Array Value}:∀{n m:Nat},(∀k v,acc.toList[k]?=some (v:Value)->∃t,v=Value.int (i+((m+k:Nat):Int)) t)->acc.toList.length=n->Vals ((List.range n).map λk=>V.int (i+((m+k:Nat):Int))) acc.toList:=by
 generalize acc.toList=l
 induction l with
 |nil=>intro n m _ e;subst e;exact .nil
 |cons v l ih=>
  intro n m h e;subst e;rw[gD,Qm,iR,En];refine .cons (h 0 v rfl) ?_;have:=ih (n:=l.length) (m:=m+1) (λk v e=>by
   have:=h (k+1) v e;rw[show m+1+k=m+(k+1) by lia];exact this) rfl
  have e:((λk=>V.int (i+((m+k:Nat):Int)))∘Nat.succ)=λk=>V.int (i+((m+1+k:Nat):Int)):=by
   funext k
   show V.int (i+((m+(k+1):Nat):Int))=_;rw[show m+(k+1)=m+1+k by lia]
  rw[e];exact this
section
variable {X:Cx}
theorem zbh{ao:List (Addr×Obj)}{Z:L2.St}{H:Hp}{s:Shared}{Q:VK}{lo hi:Int}{t u v:Tok}{tk:Nat}(hc:X.aj=true)(I:Inv X ao Z H s)(hk:okR lo hi=true)
  (q:∀l,H l=none->Q (.ref l) (upd H l (.lst (tQ lo (hi-lo).toNat)))) :
  wpAny (model X.prog X.w) X.A (PySem.call (.type "list") [.ref s.heap.objs.size]) (EP X ao Z Q) X.xe {s with heap:=s.heap.push {cls:=.type "range",data:=.fields #[.int lo t,.int hi u,.int 1 v]},toks:=tk}:=by
 obtain⟨h1,h2,h3,h4,h5⟩:=fO hk;have en:Builtin.Range.rangeSize lo hi 1=((hi-lo).toNat:Nat):=by rw[zs1];split<;>lia
 refine call_list_range (I.ok.hd hc) (IsRange.new ..) (small_one h1 h2 h3 h4) en gV λh' tk' acc c' kp e ⟨z1,z2⟩=>?_;have hs:(s.heap.push {cls:=.type "range",data:=.fields #[.int lo t,.int hi u,.int 1 v]}).objs.size=s.heap.objs.size+1:=tZ ..;have hv:Vals (tQ lo (hi-lo).toNat) acc.toList:=by
  have:=zfJ (i:=lo) (acc:=acc) (n:=(hi-lo).toNat) (m:=0) (λk v e=>by
   obtain⟨t,e⟩:=z2 k v (by simpa using e);exact⟨t,by rw[e,Int.mul_one,G5]⟩) (by rw[vO];exact z1)
  simpa [tQ] using this
 have I':=I.laid (a:=s.heap.objs.size+1) (o:=.lst (tQ lo (hi-lo).toNat)) (h':=h') (t':=tk') (λb u q=>kp b u (cN _ q)) (Ep _) (show aP X.prog X.w _ h' _ (.lst (tQ lo (hi-lo).toNat)) from ⟨by
  rw[hv.length,vO,z1];exact jo h5 Vu,acc.toList,c',hv,by rw[Qs,<-hs];exact e⟩)
 refine⟨.ref (s.heap.objs.size+1),_,I',?_,q _ (I.hok.fresh (Ep _))⟩;show Value.ref _=Value.ref _;rw[hs]
theorem znL(hc:X.aj=true)(hg:Gl X "list")(hm:X.mg "list"=none)(rZ:Gl X "range")(yw:X.mg "range"=none)(ha:PA X (e::es) t)
  (he:starEach (e::es) X.env=(false,eval e X.env)::starEach es X.env:=by rfl) (hpl:(backTo pos' (starEach es X.env)).any (·.1)=false:=by rfl) :
  PE X (.Call (.Name "list" p) [.Call (.Name "range" p') (e::es) [] pos'] [] pos) (M7 Ku t):=by
 intro ao s Z H Q I h;refine yI (qZ I hg hm zg9 ?_);refine tV ?_ rfl rfl;show wpAny _ _ (spliced ((false,eval (.Call (.Name "range" p') (e::es) [] pos') X.env)::backTo pos (starEach [] X.env))) _ _ s;refine Lx ?_;refine yI (qZ I rZ yw boot_range ?_);refine tV (bA (ha pos' ao s Z H _ I h) λus s1 hz=>?_) he hpl;obtain⟨vs,H1,I1,r1,q1⟩:=hz;obtain⟨i,j,ev,hk,q⟩:=q1;rcases ev with ⟨rfl,rfl⟩|rfl
 ·cases r1 with
  |cons r rr=>
   cases rr;obtain⟨t,rfl⟩:=r;exact call_range_1 (GJ (zbh hc I1 hk q))
 ·cases r1 with
  |cons r rr=>
   cases rr with
   |cons r' rr=>
    cases rr;obtain⟨t,rfl⟩:=r;obtain⟨t',rfl⟩:=r';exact call_range_2 (GJ (zbh hc I1 hk q))
end
section
variable {K:W.Frag}{cA:Cl}{U:Ph}{H:Hp}
theorem Og:∀l:List Nat,aD K cA U H (l.map λk=>D.int (i+(k:Nat))) (l.map λk=>V.int (i+(k:Nat)))
 |[]=>.nil
 |_::l=>.cons (.int _) (Og l)
theorem znl:bD K cA .xM Ku:=by
 intro U H ds vs Q zt rs o;have o:bC K cA U H (Cp ds) Q:=o;unfold Cp at o;split at o
 ·rename_i j _;obtain⟨v,rfl,r1⟩:=rs.one;cases r1;by_cases hk:okR 0 j=true
  ·rw[if_pos hk] at o;exact⟨0,j,.inl ⟨rfl,rfl⟩,hk,λl hl=>(o.of rfl) l _ hl (Og _)⟩
  ·rw[if_neg hk] at o;exact o.elim
 ·rename_i i j _;obtain⟨v,v',rfl,r1,r2⟩:=rs.two (ds:=[]);cases r1;cases r2;by_cases hk:okR i j=true
  ·rw[if_pos hk] at o;exact⟨i,j,.inr rfl,hk,λl hl=>(o.of rfl) l _ hl (Og _)⟩
  ·rw[if_neg hk] at o;exact o.elim
 ·exact o.elim
end
section
variable {X:Cx}{cA:Cl}{aq:Nat->Nat->Bool}{aj:Bool}{F:Fn}{EX:XS}{e:Expr}{pos pos' p p':Pos}{es:List Expr}{Xs:Es}{fz:Bool}
theorem zmn(hc:X.aj=true)(hg:Gl X "list")(hm:X.mg "list"=none)(rZ:Gl X "range")(yw:X.mg "range"=none)(ha:SA X cA aq aj F EX (e::es) Xs)
  (he:starEach (e::es) X.env=(false,eval e X.env)::starEach es X.env) (hpl:(backTo pos' (starEach es X.env)).any (·.1)=false):SE X cA aq aj F EX (.Call (.Name "list" p) [.Call (.Name "range" p') (e::es) [] pos'] [] pos) (.pr fz .xM Xs):=PE.weak (znL hc hg hm rZ yw ha he hpl) λZ H Q hh=>un hh λU J s hL hS h=>
 m7 hL hS h λvs H1 U1 ds s1 x1 hL1 aJ r1 h1=>by
  obtain⟨ds,rs,h3⟩:=tL aJ r1 h1;exact znl U1 H1 ds _ _ aJ.zs rs (rN aJ h3)
theorem zmR(hc:X.aj=true)(hm:X.mg "list"=none)(hg:JK X "list" .globalImplicit)(yw:X.mg "range"=none)(rZ:JK X "range" .globalImplicit)(ha:JA X cA aq aj F EX (e::es) Xs)(he:aC e=true:=by rfl)(hpl:es.all aC=true:=by rfl):JE X cA aq aj F EX (.Call (.Name "list" p) [.Call (.Name "range" p') (e::es) [] pos'] [] pos) (.pr fz .xM Xs):=⟨zmn hc hg.o hm rZ.o yw ha.o (aY he) (aR hpl)⟩
end
end Mi
namespace Mi
open PySem PySem.Spec PyProof.Rows L2 PySem.W
structure D3(K:Frag)(mg:Str->Option Value)(x:Str)(st:Stmt)(ps:List Str):Prop where
 f:oJ K x x st (iK K x) (fdOf K x st)
 m:mg x=some (.ref (iK K x))
 b:Binds K (fdOf K x st) ps []
theorem dk{p:Prop}(h:p:=by decide +kernel):p:=h
section
variable {fs:List (Str×Stmt)}{ms:List ug}{xs:List (Nat×Str)}{lk:Lk}{K:Frag}{h:Heap}{mg:Str->Option Value}{x:Str}{st:Stmt}
theorem su(S:oR fs ms xs lk K)(X:K.In h)(G:h.Ns mainGlobals mg)(j:Nat)(hj:fs[j]?=some (x,st):=by rfl)(hb:∀(kV doc pm:Value) (an:Option Addr) (cdv ct a:Value),bindArgs (fnOf x x (aQ st) (aL st) (au st) .none kV doc pm an cdv ct) ⟨[a],[]⟩=pure [(p,a)]:=by intros;rfl):D3 K mg x st [p]:=have F:=S.fn (x,st) (fK hj);⟨F.fn,F.m X G,yq F.fn hb⟩
theorem sy(S:oR fs ms xs lk K)(X:K.In h)(G:h.Ns mainGlobals mg)(j:Nat)(hj:fs[j]?=some (x,st):=by rfl)(hb:∀(kV doc pm:Value) (an:Option Addr) (cdv ct a b:Value),bindArgs (fnOf x x (aQ st) (aL st) (au st) .none kV doc pm an cdv ct) ⟨[a,b],[]⟩=pure [(p,a),(q,b)]:=by intros;rfl):D3 K mg x st [p,q]:=have F:=S.fn (x,st) (fK hj);⟨F.fn,F.m X G,yr F.fn hb⟩
theorem pY(S:oR fs ms xs lk K)(X:K.In h)(G:h.Ns mainGlobals mg)(j:Nat)(hj:fs[j]?=some (x,st):=by rfl)(hb:∀(kV doc pm:Value) (an:Option Addr) (cdv ct a b c:Value),bindArgs (fnOf x x (aQ st) (aL st) (au st) .none kV doc pm an cdv ct) ⟨[a,b,c],[]⟩=pure [(p,a),(q,b),(t,c)]:=by intros;rfl):D3 K mg x st [p,q,t]:=have F:=S.fn (x,st) (fK hj);⟨F.fn,F.m X G,yt F.fn hb⟩
theorem zqn(S:oR fs ms xs lk K)(X:K.In h)(G:h.Ns mainGlobals mg)(j:Nat)(hj:fs[j]?=some (x,st):=by rfl)(hb:∀(kV doc pm:Value) (an:Option Addr) (cdv ct a b c d:Value),bindArgs (fnOf x x (aQ st) (aL st) (au st) .none kV doc pm an cdv ct) ⟨[a,b,c,d],[]⟩=pure [(p,a),(q,b),(t,c),(u,d)]:=by intros;rfl):D3 K mg x st [p,q,t,u]:=have F:=S.fn (x,st) (fK hj);⟨F.fn,F.m X G,yu F.fn hb⟩
theorem mG{α:Type}{l:List α}{a:α}(j:Nat)(h:l[j]?=some a:=by rfl):a∈l:=fK h
end
end Mi
namespace L2
open PySem PySem.Spec PyProof.Rows
noncomputable def Vc(hi:Int)(n:Nat):It:=⟨λi _=>i<n,λi H x H'=>H'=H/\x=.int (hi-i),λi _=>n<=i⟩
theorem zgS{P:Program}{w:World}{K:W.Frag}{tg:Expr}(it:Addr)(hi:Int)(n:Nat):Turn P w K tg (Vc hi n) [it] it (λi h=>IsRangeIter h it (hi+(i:Nat)*(-1)) ((n:Int)-(i:Nat)) (-1)) where
 mem:=by simp
 obj:=λi h st b hb=>by
  have e:b=it:=by simpa using hb
  subst e;exact⟨_,st,λv z=>by
   have z':Data.fields _=Data.cell v:=z;cases z'⟩
 keep:=λi h h' st k=>k it Zaa _ st
 item:=by
  intro X hP hw hK hc i ao s Z H E I hf st hg;subst hP hw hK;obtain⟨f0,f1,f2,f3,f4,f5⟩:=hf it Zaa;have W:=Walks.range (prog:=X.prog) (w:=X.w) (I.ok.hd hc) it hi (-1) n;refine W.item i s _ _ hg st λv h' tk hv st' kk=>?_;obtain⟨t,rfl⟩:=hv;have I1:Inv X ao Z H {s with heap:=h',toks:=tk}:=I.turned (λb o hb e=>kk b o (by simpa using hb) e) f0 f1 f3 f4 f5;refine⟨_,rfl,MJ (s:={s with heap:=h',toks:=tk}) (n:="range_iterator") st' rfl rfl Vu ⟨.int (hi-i),H,I1,⟨t,?_⟩,⟨rfl,rfl⟩,st',λb hb=>(hf b hb).1⟩⟩;rw[show hi+(i:Int)*(-1)=hi-i by lia]
 done:=by
  intro X hP hw hK hc i ao s Z H E I hf st hg;subst hP hw hK;obtain⟨f0,f1,f2,f3,f4,f5⟩:=hf it Zaa;exact wpAny_pyNext_range_end (I.ok.hd hc) st (by have:n<=i:=hg;lia) λh' eb=>⟨rfl,I.turned (t':=s.toks) (λb o hb e=>eb b o hb e) f0 f1 f3 f4 f5⟩
 self:=λ_ _ _ _ _ st h=>Qj st h
section
variable {prog:Program}{w:World}{A:Around}{E:Value->Shared->Prop}{s:Shared}
noncomputable def vp(a b c:Int):Bool:=Builtin.Range.rangeFitsLong a&&Builtin.Range.rangeFitsLong b&&Builtin.Range.rangeFitsLong c&&Builtin.Range.rangeFitsLong (-c)&&Builtin.Range.rangeFitsLong (a-c)&&Builtin.Range.rangeFitsLong (Builtin.Range.rangeSize a b c)
theorem zlc{a:Int}(h1 : -(2^62)<=a)(h2:a<2^62):vp 0 a 1=true:=by
 unfold vp;rw[zs1];simp only[Builtin.Range.rangeFitsLong,dJ,Ai]
 split<;>lia
theorem zfN(r:Addr)(a b c:Int)(t u v:Tok)(hc0:¬(!vp a b c)=true) :
  Meets (Builtin.«range.__reversed__» ⟨[.ref r],[]⟩) (λ_ R s=>s.heap.get? r=some {cls:=.type "range",dict:=none,data:=.fields #[.int a t,.int b u,.int c v],slots:=#[]} /\
   R (.ok (.ret (Value.ref s.heap.objs.size))) {s with heap:=s.heap.push {cls:=Value.type (if vp a b c=true then "range_iterator" else "longrange_iterator"),dict:=none,data:=.fields #[rawInt (a+(Builtin.Range.rangeSize a b c-1)*c),rawInt (Builtin.Range.rangeSize a b c),rawInt (-c)],slots:=#[]}}):=
 .of_wp λprog w A R s h=>by
  unfold vp at *;obtain⟨hp,g,d,tk,os⟩:=s;obtain⟨hl,h⟩:=h
  wp_walk
  exact⟨_,rfl,h⟩
theorem ziQ{r:Addr}{a:Int}{t u v:Tok}{Q:Value->Shared->Prop}(hr:IsRange s.heap r 0 a 1 t u v)(h1 : -(2^62)<=a)(h2:a<2^62)
  (h:Q (.ref s.heap.objs.size) {s with heap:=s.heap.push {cls:=.type "range_iterator",data:=.fields #[rawInt ((a.toNat:Int)-1),rawInt (a.toNat:Int),rawInt (-1)]}}):wpAny (model prog w) A (call (.builtin "range.__reversed__") [.ref r]) Q E s:=by
 have hT:s.TypeIs (.ref r) "range":=⟨_,hr,rfl⟩;have hf:=zlc h1 h2;refine Av Qo hT F.entry_range_reversed (F.args_range_reversed_1 _) (zfN r 0 a 1 t u v (by rw[hf];decide)) ⟨hr,?_⟩;rw[hf,if_pos rfl];have e:Builtin.Range.rangeSize 0 a 1=(a.toNat:Int):=by rw[zs1];split<;>lia
 rw[e,show (0:Int)+((a.toNat:Int)-1)*1=(a.toNat:Int)-1 by lia];exact h
theorem zhU{r:Addr}{a:Int}{t u v:Tok}{Q₁:Value->Shared->Prop}(hr:IsRange s.heap r 0 a 1 t u v)(h1 : -(2^62)<=a)(h2:a<2^62)
  (h:Q₁ (.ref s.heap.objs.size) {s with heap:=s.heap.push {cls:=.type "range_iterator",data:=.fields #[rawInt ((a.toNat:Int)-1),rawInt (a.toNat:Int),rawInt (-1)]}}) :
  codeAny (model prog w) A (.call (.builtin "reversed.__new__") ⟨[.type "reversed",.ref r],[]⟩) (wants Q₁ E) s:=by
 have hT:s.TypeIs (.ref r) "range":=⟨_,hr,rfl⟩;refine codeAny_of_tree (aB (vY (F.newCall_reversed_1 _) (aZ ⟨Ek F.plain_reversed_new _,Eh F.entry_reversed_new ?_⟩)));rw[DK F.plain_reversed_new _];unfold Builtin.«reversed.__new__»;refine aB (vY (newClass_reversed _) ?_);dsimp only;refine aB (vY (a:=()) rfl (aB (vY (a:=()) rfl ?_)));refine aB (Mh hT Qo.lookup ?_);refine aB (vY (Qo.bind _) ?_);show wpAny _ _ (if (Value.builtin "range.__reversed__"==Value.none)=true then _ else _) _ _ _;rw[if_neg (show ¬((Value.builtin "range.__reversed__"==Value.none)=true) from Lw)];refine aB (wpAny_rule (aB (m:=runValue (.call (.builtin "range.__reversed__") ⟨[.ref r],[]⟩)) (show wpAny _ _ (call (.builtin "range.__reversed__") [.ref r]) _ _ _ from ziQ hr h1 h2 ?_)))
 first
  |exact aZ h
  |exact aB (aZ (aZ h))
theorem znW:isSubtype (.type "range_iterator") (.type "reversed")=pure false:=by rw[isSubtype_type];kernel_rfl
theorem zhu{r:Addr}{a:Int}{t u v:Tok}{Q:Value->Shared->Prop}(hr:IsRange s.heap r 0 a 1 t u v)(h1 : -(2^62)<=a)(h2:a<2^62)
  (h:Q (.ref s.heap.objs.size) {s with heap:=s.heap.push {cls:=.type "range_iterator",data:=.fields #[rawInt ((a.toNat:Int)-1),rawInt (a.toNat:Int),rawInt (-1)]}}):wpAny (model prog w) A (call (.type "reversed") [.ref r]) Q E s:=by
 refine callType_other (Q₁:=λx y=>x=.ref s.heap.objs.size/\y={s with heap:=s.heap.push {cls:=.type "range_iterator",data:=.fields #[rawInt ((a.toNat:Int)-1),rawInt (a.toNat:Int),rawInt (-1)]}}) J0 F.create_reversed ⟨_,_,F.mro_reversed⟩ F.made_reversed znW (F.typeCall_reversed_1 _) (zhU hr h1 h2 ⟨rfl,rfl⟩) λx y z=>?_;obtain⟨rfl,rfl⟩:=z;exact⟨⟨_,fL _ rfl,rfl⟩,h⟩
end
section
variable {X:Cx}{tg:Expr}
noncomputable def Vd(ta:TA):TI:=λZ H R=>ta Z H λvs H1=>∃j:Int,vs=[.int j]/\-(2^62)<=j/\j<2^62/\R (Vc ((j.toNat:Int)-1) j.toNat) H1
theorem zlQ{a:Expr}{ta:TA}{p pos p2 pos2:Pos}(hg:Gl X "range")(hm:X.mg "range"=none)(hg2:Gl X "reversed")(yX:X.mg "reversed"=none)(ha:PA X [a] ta)(hs:starEach [a] X.env=[(false,eval a X.env)]:=by rfl) :
  PI X tg (.Call (.Name "reversed" p2) [.Call (.Name "range" p) [a] [] pos] [] pos2) (Vd ta):=by
 intro ao s Z H R I h;refine Call_ (qZ I hg2 yX boot_reversed (tV ?_ rfl rfl));show wpAny _ _ (spliced [(false,_)]) _ _ s;refine Lx (Call_ (qZ I hg hm boot_range (tV (bA (ha pos ao s Z H _ I h) λus s1 hx=>dY hx λvs H1 I1 r1 q1=>?_) hs rfl)));obtain⟨j,e,q1,q2,q⟩:=q1;subst e;cases r1 with
 |cons r rr=>
  cases rr;obtain⟨t,rfl⟩:=r;refine call_range_1 (GJ (zhu (IsRange.new ..) q1 q2 ?_));have I2:Inv X ao Z H1 {s1 with heap:=s1.heap.push {cls:=.type "range",data:=.fields #[.int 0 s1.toks,.int j t,.int 1 (s1.toks+1)]},toks:=s1.toks+1+1}:=I1.kept λb o e=>cN _ e;generalize {s1 with heap:=s1.heap.push {cls:=.type "range",data:=.fields #[.int 0 s1.toks,.int j t,.int 1 (s1.toks+1)]},toks:=s1.toks+1+1}=s2 at I2;have st:IsRangeIter (s2.heap.push {cls:=.type "range_iterator",data:=.fields #[rawInt ((j.toNat:Int)-1),rawInt (j.toNat:Int),rawInt (-1)]}) s2.heap.objs.size ((j.toNat:Int)-1) (j.toNat:Int) (-1):=fL _ rfl;refine Qj st ?_;refine⟨s2.heap.objs.size,[s2.heap.objs.size],_,_,H1,rfl,I2.kept (t':=s2.toks) λb o e=>cN _ e,zgS _ ((j.toNat:Int)-1) j.toNat,?_,λb hb=>?_,q⟩
  ·show IsRangeIter _ _ ((j.toNat:Int)-1+((0:Nat):Int)*(-1)) ((j.toNat:Int)-((0:Nat):Int)) (-1);rw[show (j.toNat:Int)-1+((0:Nat):Int)*(-1)=(j.toNat:Int)-1 by lia,show (j.toNat:Int)-((0:Nat):Int)=j.toNat by lia];exact st
  ·have e:b=s2.heap.objs.size:=by simpa using hb
   subst e;exact I2.q_ (bK _) (I2.hok.fresh (bK _))
end
end L2
namespace Mi
open PySem PySem.Spec PyProof.Rows L2
section
variable {K:W.Frag}{cA:Cl}{U:Ph}{H:Hp}
theorem Oh{b:Int}{i:Nat}:(gb 0 b).reverse[i]?=if i<b.toNat then some (.int ((b.toNat:Int)-1-i)) else none:=by
 have hl:(gb 0 b).length=b.toNat:=by unfold gb;simp
 by_cases h:i<b.toNat
 ·rw[if_pos h,List.getElem?_reverse gV,hl,N5,if_pos gV]
  congr 2
  lia
 ·rw[if_neg h,yH (by rw[Qw];lia)]
theorem Kab{b:Int}:jC K cA (.fix (gb 0 b).reverse) U H (Vc ((b.toNat:Int)-1) b.toNat):=by
 refine⟨λU' H₁ H' s' i x o hS e=>?_,λU' H₁ H' s' i d x o hS e=>?_,λU' H₁ H' s' i d v H2 x o hS e y=>?_⟩
 ·have e:(gb 0 b).reverse[i]?=none:=dz e;rw[Oh] at e;split at e
  ·cases e
  ·exact GQ (by assumption)
 ·have e:(gb 0 b).reverse[i]?=some d:=dz e;rw[Oh] at e;split at e
  ·assumption
  ·cases e
 ·have e:(gb 0 b).reverse[i]?=some d:=dz e;rw[Oh] at e;split at e
  ·cases e;obtain⟨rfl,rfl⟩:=y;exact⟨bf.refl,.int _⟩
  ·cases e
end
section
variable {X:Cx}{cA:Cl}{aq:Nat->Nat->Bool}{aj:Bool}{F:Fn}{EX:XS}{b:Expr}{B:E}{p pos p2 pos2:Pos}
theorem znn{tg:Expr}(jL:Gl X "range")(hmg:X.mg "range"=none)(C_:Gl X "reversed")(Dg:X.mg "reversed"=none)(hb:SE X cA aq aj F EX b B)(h2:starEach [b] X.env=(false,eval b X.env)::starEach [] X.env) :
  SI X cA aq aj F EX tg (.Call (.Name "reversed" p2) [.Call (.Name "range" p) [b] [] pos] [] pos2) (.Jo B):=PI.weak (zlQ jL hmg C_ Dg (uy hb yV h2) (by rw[h2];rfl)) λZ H R hh=>un hh λU J s hL hS h=>by
 refine bB hL hS h λy H2 U2 d2 s2 x2 hL2 aV r2 h2=>?_;obtain⟨j,_,e2,h4⟩:=Ft r2 h2;subst e2;by_cases hk:fj j=true
 ·rw[if_pos hk] at h4;have hz:=Ui hk;have q:=h4.bH aV;exact⟨j,rfl,hz.1,hz.2,q _ Kab⟩
 ·rw[if_neg hk] at h4;exact h4.elim
theorem zo1{tg:Expr}(hmg:X.mg "range"=none)(jL:JK X "range" .globalImplicit)(Dg:X.mg "reversed"=none)(C_:JK X "reversed" .globalImplicit)(hb:JE X cA aq aj F EX b B)(h2:aC b=true:=by rfl):JI X cA aq aj F EX tg (.Call (.Name "reversed" p2) [.Call (.Name "range" p) [b] [] pos] [] pos2) (.Jo B):=⟨znn jL.o hmg C_.o Dg hb.o (aY h2)⟩
end
end Mi
namespace Mi
open PySem
def W{α:Type}(m:M α)(s:S)(P:α->S->Prop):Prop:=∃a s',m s=some (.ok a,s')/\P a s'
def WS(m:MS)(s:S)(Q:Out->S->Prop):Prop:=∃o s',m s=some (o,s')/\Q o s'
section
variable {α β:Type}{m:M α}{k:α->M β}{s:S}{P:α->S->Prop}{R:β->S->Prop}
theorem W.bd(h:W m s λa s'=>W (k a) s' R):W (M.bd m k) s R:=by
 obtain⟨a,s',e,b,s2,e2,r⟩:=h;exact⟨b,s2,by unfold M.bd;rw[e];exact e2,r⟩
theorem W.ret{a:α}(h:P a s):W (M.ret a) s P:=⟨a,s,rfl,h⟩
theorem W.qt(h:W m s P):W (M.qt m) s P:=by
 obtain⟨a,s',e,p⟩:=h;exact⟨a,s',by unfold M.qt;rw[e],p⟩
theorem W.opt(e:o=some a)(h:P a s):W (M.opt o) s P:=by subst e;exact⟨a,s,rfl,h⟩
theorem W.imp{P':α->S->Prop}(h:W m s P)(f:∀a s',P a s'->P' a s'):W m s P':=let ⟨a,s',e,p⟩:=h;⟨a,s',e,f a s' p⟩
theorem W.eq(e:m s=some (.ok a,s'))(p:P a s'):W m s P:=⟨a,s',e,p⟩
theorem Gb{d:D}{P:D->S->Prop}(h:P d s):W (rd (.d d)) s P:=⟨d,s,rfl,h⟩
theorem yx{n:Nat}{xs:List D}{P:D->S->Prop}(e:s[n]?=some (.lst xs))(h:P (.fl xs) s):W (rd (.l n)) s P:=⟨.fl xs,s,by unfold rd;simp only[e],h⟩
theorem Kv{P:List D->S->Prop}(h:P [] s):W (gW []) s P:=⟨[],s,rfl,h⟩
theorem Gd{x:Xv}{r:List Xv}{P:List D->S->Prop}(h:W (rd x) s λd s1=>W (gW r) s1 λds s2=>P (d::ds) s2):W (gW (x::r)) s P:=W.bd (h.imp λd s1 h1=>W.bd (h1.imp λds s2 h2=>W.ret h2))
theorem Kay{P:List D->S->Prop}(h:P [] s):W (bY []) s P:=⟨[],s,rfl,h⟩
theorem Kax{d:D}{r:List Xv}{P:List D->S->Prop}(h:W (bY r) s λds s2=>P (d::ds) s2):W (bY (.d d::r)) s P:=W.bd (W.ret (W.bd (h.imp λds s2 h2=>W.ret h2)))
theorem W.dat{x:D}{P:D->S->Prop}(h:P x s):W (dat (.d x)) s P:=⟨x,s,rfl,h⟩
theorem W.bool{b:Bool}{P:Bool->S->Prop}(h:P b s):W (bool (.d (.bl b))) s P:=⟨b,s,rfl,h⟩
theorem W.int{b:Int}{P:Int->S->Prop}(h:P b s):W (int (.d (.int b))) s P:=⟨b,s,rfl,h⟩
theorem cM{fz:Bool}{o:Option Rz}{d:D}{P:Xv->S->Prop}(e:o=some (.dat d))(h:P (.d d) s):W (cG fz o) s P:=by subst e;exact⟨_,s,rfl,h⟩
theorem sE{o:Option Rz}{xs:List D}{P:Xv->S->Prop}(e:o=some (.nw xs))(h:P (.d (.fl xs)) s):W (cG true o) s P:=by subst e;exact⟨_,s,rfl,h⟩
theorem KaV{xs:List D}{P:Xv->S->Prop}(h:P (.d (.fl xs)) s):W (newL true xs) s P:=⟨_,s,rfl,h⟩
theorem KaU{xs:List D}{P:Xv->S->Prop}(h:P (.l s.length) (s++[.lst xs])):W (newL false xs) s P:=⟨_,_,rfl,h⟩
theorem W.bR{F:List Xv->M Xv}{xs:List Xv}{P:Xv->S->Prop}(hl:locs xs=[])(h:W (F (dG 0 xs)) [] λv _=>∃d,v=.d d/\P (.d d) s):W (bW F xs) s P:=by
 obtain⟨v,s1,e,d,rfl,p⟩:=h;refine⟨.d d,s,?_,p⟩;unfold bW;rw[hl,if_pos Aq];simp only[jf,e,cW]
theorem Kap{F:List Xv->M Xv}{xs:List Xv}{P:Xv->S->Prop}(hl:locs xs=[])(h:W (F (dG 0 xs)) [] λv s1=>∃n o,v=.l n/\s1[n]?=some o/\P (.l s.length) (s++[o])):W (bW F xs) s P:=by
 obtain⟨v,s1,e,n,o,rfl,eo,p⟩:=h;refine⟨.l s.length,s++[o],?_,p⟩;unfold bW;rw[hl,if_pos Aq];simp only[jf,e,cW,List.getElem?_nil,eo]
theorem Ve{F:List Xv->M Xv}{xs:List Xv}{n:Nat}{o:SO}{P:Xv->S->Prop}(hl:locs xs=[n])(ho:s[n]?=some o)(h:W (F (dG 0 xs)) [o] λv s1=>∃d o',v=.d d/\s1=[o']/\P (.d d) (s.set n o')):W (bW F xs) s P:=by
 obtain⟨v,s1,e,d,o',rfl,rfl,p⟩:=h;refine⟨.d d,s.set n o',?_,p⟩;unfold bW;rw[hl,if_pos Zaa];simp only[jf,ho,e,cW]
end
section
variable {s:S}{Q:Out->S->Prop}
theorem WS.ofM(h:W m s λa s'=>WS (k a) s' Q):WS (Mi.ofM m J k) s Q:=by
 obtain⟨a,s',e,o,s2,e2,q⟩:=h;exact⟨o,s2,by unfold Mi.ofM;rw[e];exact e2,q⟩
theorem WS.nx(h:Q (.nx J) s):WS (λs=>some (.nx J,s)) s Q:=⟨_,s,rfl,h⟩
theorem WS.rt(h:Q (.rt x) s):WS (λs=>some (.rt x,s)) s Q:=⟨_,s,rfl,h⟩
theorem WS.imp(h:WS m s Q)(f:∀o s',Q o s'->Q' o s'):WS m s Q':=let ⟨a,s',e,p⟩:=h;⟨a,s',e,f a s' p⟩
end
theorem W.call(hT:T f=some d)(hl:xs.length=d.gH)
  (h:WS (exs aq aj (λc=>Mi.call aq T k c) d.body (xs.map some++List.replicate (d.many-d.gH) none)) s λo s'=>match o with|.nx _=>P (.d .non) s'|.rt v=>P v s'|_=>False):W (Mi.call aq T (k+1) aj f xs) s P:=by
 obtain⟨o,s',e,q⟩:=h;unfold Mi.call;simp only[hT,if_pos hl];unfold W;simp only[e];cases o with
 |nx J=>exact⟨_,_,rfl,q⟩
 |rt v=>exact⟨_,_,rfl,q⟩
 |bk J=>exact q.elim
 |ct J=>exact q.elim
 |er c fs J=>exact q.elim
theorem wz(I:Nat->Vs->S->Prop)(h0:I 0 J s)(hb:∀i x J s,c[i]?=some x->I i J s->WS (b x J) s λo s'=>∃J',o=.nx J'/\I (i+1) J' s')
  (he:∀J s,I c.length J s->Q (.nx J) s):WS (cR (.fix c) b (c.length+1) 0 J) s Q:=by
 have key:∀n i J s,i+n=c.length->I i J s->WS (cR (.fix c) b (n+1) i J) s Q:=by
  intro n
  induction n with
  |zero=>
   intro i J s hi hI;have e:c[i]?=none:=by rw[o9];lia
   have:i=c.length:=by lia
   subst this;refine⟨_,s,?_,he J s hI⟩;unfold cR;simp only[Src.at,e]
  |succ n ih=>
   intro i J s hi hI;have dF:i<c.length:=by lia
   have e:c[i]?=some c[i]:=cX dF;obtain⟨o,s',eb,J',rfl,Dh⟩:=hb i c[i] J s e hI;obtain⟨o2,s2,e2,q⟩:=ih (i+1) J' s' gV Dh;refine⟨o2,s2,?_,q⟩;unfold cR;simp only[Src.at,e,eb];exact e2
 exact key c.length 0 J s gV h0
theorem zoB{i j:Int}(h:(-(2^64)<i/\i<2^64)\/(-(2^64)<j/\j<2^64)):prim .mul [.int i,.int j]=some (.dat (.int (i*j))):=by
 show Option.map _ (if _ then _ else _)=_;rw[if_pos h];rfl
theorem zoY{i j:Int}(h:0<j):prim .mod [.int i,.int j]=some (.dat (.int (i%j))):=by
 show Option.map _ (if _ then _ else _)=_;rw[if_pos h];rfl
theorem znm{i j:Int}(h:0<j/\j<1073741824):prim .fdiv [.int i,.int j]=some (.dat (.int (i/j))):=by
 show Option.map _ (if _ then _ else _)=_;rw[if_pos h];rfl
theorem zhP{i j:Int}(h:0<j/\j<1073741824):prim .divmod [.int i,.int j]=some (.dat (.tup [.int (i/j),.int (i%j)])):=by
 show Option.map _ (if _ then _ else _)=_;rw[if_pos h];rfl
theorem zoV{i j:Int}(h:0<=j/\j<=1000000/\i.natAbs<2^64):prim .pow [.int i,.int j]=some (.dat (.int (i^j.toNat))):=by
 show Option.map _ (if _ then _ else _)=_;rw[if_pos h];rfl
theorem Gf{xs:List D}{i:Nat}{x:D}(h:xs[i]?=some x):prim .ix [.fl xs,.int i]=some (.dat x):=by
 show Option.map Rz.dat (L2.qy xs i)=_;have:L2.qy xs (i:Int)=some x:=by
  unfold L2.qy L2.rz;have hl:i<xs.length:=(eY.mp h).1;simp[hl];exact(eY.mp h).2
 rw[this];rfl
theorem yC(h:xs.length+ys.length<=sizeLine):prim .add [.fl xs,.fl ys]=some (.nw (xs++ys)):=by
 show (if _ then _ else _)=_;rw[if_pos h]
theorem W.ite[Decidable c](h1:c->W m1 s P)(h2:¬c->W m2 s P):W (if c then m1 else m2) s P:=by
 by_cases h:c
 ·rw[if_pos h];exact h1 h
 ·rw[if_neg h];exact h2 h
theorem WS.ite[Decidable c](h1:c->WS m1 s P)(h2:¬c->WS m2 s P):WS (if c then m1 else m2) s P:=by
 by_cases h:c
 ·rw[if_pos h];exact h1 h
 ·rw[if_neg h];exact h2 h
theorem Vf{n:Nat}{xs:List D}{s:S}{P:Unit->S->Prop}(h:P () (s.set n (.lst xs))):W (putL n xs) s P:=⟨_,_,rfl,h⟩
theorem W.cV{n:Nat}{xs:List D}{s:S}{P:Nat×List D->S->Prop}(e:s[n]?=some (.lst xs))(h:P (n,xs) s):W (cV (.l n)) s P:=⟨_,s,by unfold Mi.cV;simp only[e],h⟩
theorem Kba{xs:List D}{s:S}{P:Src×Nat->S->Prop}(h:P (.fix xs,xs.length) s):W (src (.d (.tup xs))) s P:=⟨_,s,rfl,h⟩
theorem Ka9{xs:List D}{s:S}{P:Src×Nat->S->Prop}(h:P (.fix xs,xs.length) s):W (src (.d (.fl xs))) s P:=⟨_,s,rfl,h⟩
theorem WS.nil{aq:Nat->Nat->Bool}{aj:Bool}{F:Bool->Fn}{J:Vs}{s:S}{Q:Out->S->Prop}(h:Q (.nx J) s):WS (exs aq aj F .nil J) s Q:=⟨_,s,rfl,h⟩
theorem WS.cons{aq:Nat->Nat->Bool}{aj:Bool}{F:Bool->Fn}{a:St}{r:bL}{J:Vs}{s:S}{Q:Out->S->Prop}(h:WS (ex aq aj F a J) s λo s'=>match o with|.nx J'=>WS (exs aq aj F r J') s' Q|.rt x=>Q (.rt x) s'|_=>False):WS (exs aq aj F (.cons a r) J) s Q:=by
 obtain⟨o,s',e,q⟩:=h;unfold WS exs Mi.cH;rw[e];cases o with
 |nx J'=>exact q
 |rt x=>exact⟨_,_,rfl,q⟩
 |bk _=>exact q.elim
 |ct _=>exact q.elim
 |er _ _ _=>exact q.elim
def wA{α:Type}(o:Option α)(P:α->Prop):Prop:=∃a,o=some a/\P a
theorem wA.mk{α:Type}{o:Option α}{P:α->Prop}{a:α}(e:o=some a)(h:P a):wA o P:=⟨a,e,h⟩
section
variable {aq:Nat->Nat->Bool}{aj:Bool}{F:Fn}{J:Vs}{s:S}{P:Xv->S->Prop}
theorem W.eC{d:D}(h:P (.d d) s):W (ev aq aj F (.c d) J) s P:=W.ret h
theorem W.eV{i:Nat}{x:Xv}(e:J[i]?.join=some x)(h:P x s):W (ev aq aj F (.v i) J) s P:=W.opt e h
theorem KaK{fz:Bool}{p:Pr}{xs:Es}(h:W (evs aq aj F xs J) s λvs s1=>W (gW vs) s1 λds s2=>W (cG fz (prim p ds)) s2 P):W (ev aq aj F (.pr fz p xs) J) s P:=W.bd (h.imp λ_ _ h=>W.bd h)
theorem KaB{a b:E}(h:W (ev aq aj F a J) s λx s1=>W (Mi.bool x) s1 λk s2=>W (if k=true then ev aq aj F b J else M.ret (.d (.bl false))) s2 P):W (ev aq aj F (.and a b) J) s P:=W.bd (h.imp λ_ _ h=>W.bd h)
theorem KaJ{a b:E}(h:W (ev aq aj F a J) s λx s1=>W (Mi.bool x) s1 λk s2=>W (if k=true then M.ret (.d (.bl true)) else ev aq aj F b J) s2 P):W (ev aq aj F (.or a b) J) s P:=W.bd (h.imp λ_ _ h=>W.bd h)
theorem KaI{a:E}(h:W (ev aq aj F a J) s λx s1=>W (Mi.bool x) s1 λk s2=>P (.d (.bl (!k))) s2):W (ev aq aj F (.not a) J) s P:=W.bd (h.imp λ_ _ h=>W.bd (h.imp λ_ _ h=>W.ret h))
theorem KaM{xs:Es}(h:W (evs aq aj F xs J) s λvs s1=>W (bY vs) s1 λds s2=>P (.d (.tup ds)) s2):W (ev aq aj F (.tup xs) J) s P:=W.bd (h.imp λ_ _ h=>W.bd (h.imp λ_ _ h=>W.ret h))
theorem KaH{fz:Bool}{xs:Es}(h:W (evs aq aj F xs J) s λvs s1=>W (bY vs) s1 λds s2=>W (newL fz ds) s2 P):W (ev aq aj F (.lst fz xs) J) s P:=W.bd (h.imp λ_ _ h=>W.bd h)
theorem KaE{k:Str}{i:Int}(h:P (.d (.fd [.str k] [.int i])) s):W (ev aq aj F (.uM k i) J) s P:=W.ret h
theorem KaC{f:Nat}{xs:Es}(h:W (evs aq aj F xs J) s λvs s1=>W (bW (F f) vs) s1 P):W (ev aq aj F (.call f xs) J) s P:=W.bd h
theorem KaL{fz:Bool}{a:E}{lo hi:Eo}(h:W (ev aq aj F a J) s λx s1=>W (xQ aq aj F lo J) s1 λl s2=>W (xQ aq aj F hi J) s2 λu s3=>W (rd x) s3 λd s4=>W (cG fz (cutD d l u)) s4 P):W (ev aq aj F (.sl fz a lo hi) J) s P:=W.bd (h.imp λ_ _ h=>W.bd (h.imp λ_ _ h=>W.bd (h.imp λ_ _ h=>W.bd h)))
theorem KaW{P:Option Int->S->Prop}(h:P none s):W (xQ aq aj F .no J) s P:=W.ret h
theorem KaX{a:E}{P:Option Int->S->Prop}(h:W (ev aq aj F a J) s λx s1=>W (Mi.int x) s1 λi s2=>P (some i) s2):W (xQ aq aj F (.yes a) J) s P:=W.bd (h.imp λ_ _ h=>W.bd (h.imp λ_ _ h=>W.ret h))
theorem Vg{P:List Xv->S->Prop}(h:P [] s):W (evs aq aj F .nil J) s P:=W.ret h
theorem Kal{a:E}{r:Es}{P:List Xv->S->Prop}(h:W (ev aq aj F a J) s λx s1=>W (evs aq aj F r J) s1 λxs s2=>P (x::xs) s2):W (evs aq aj F (.cons a r) J) s P:=W.bd (h.imp λ_ _ h=>W.bd (h.imp λ_ _ h=>W.ret h))
theorem KaS{a:E}{P:Src×Nat->S->Prop}(h:W (ev aq aj F a J) s λx s1=>W (src x) s1 P):W (mZ aq aj F (.seq a) J) s P:=W.bd h
end
section
variable {aq:Nat->Nat->Bool}{aj:Bool}{F:Bool->Fn}{J:Vs}{s:S}{Q:Out->S->Prop}
theorem WS.Vh{b:Bool}{m1 m2:MS}(e:b=true)(h:WS m1 s Q):WS (if b=true then m1 else m2) s Q:=by rw[if_pos e];exact h
theorem WS.Vi{b:Bool}{m1 m2:MS}(e:b=false)(h:WS m2 s Q):WS (if b=true then m1 else m2) s Q:=by rw[if_neg (by rw[e];decide)];exact h
theorem WS.yD{m1 m2:MS}(h:WS m1 s Q):WS (if true=true then m1 else m2) s Q:=by rw[if_pos rfl];exact h
theorem WS.Vj{m1 m2:MS}(h:WS m2 s Q):WS (if false=true then m1 else m2) s Q:=by rw[if_neg Vu];exact h
theorem Kbn{e:E}(h:W (ev aq aj (F aj) e J) s λ_ s1=>Q (.nx J) s1):WS (ex aq aj F (.ex e) J) s Q:=WS.ofM (h.imp λ_ _ h=>WS.nx h)
theorem Kbq{i:Nat}{e:E}(h:W (ev aq aj (F aj) e J) s λx s1=>Q (.nx (J.set i (some x))) s1):WS (ex aq aj F (.asg (.nm i) e) J) s Q:=WS.ofM (h.imp λ_ _ h=>WS.nx h)
theorem Kbv{is:List Nat}{e:E}(h:W (ev aq true (F true) e J) s λx s1=>W (dat x) s1 λd s2=>wA ((lR d).bind λds=>gY is (ds.map .d) J) λJ'=>Q (.nx J') s2):WS (ex aq true F (.asg (.tp is) e) J) s Q:=by
 refine WS.ofM (h.imp λx s1 h=>?_);exact WS.yD (m2:=λ_=>none) (WS.ofM (W.bd (h.imp λd s2 ⟨J',e,q⟩=>W.opt e (WS.nx q))))
theorem Kbu{o i e:E}(h:W (ev aq aj (F aj) e J) s λx s1=>W (dat x) s1 λd s2=>W (ev aq aj (F aj) o J) s2 λy s3=>W (ev aq aj (F aj) i J) s3 λz s4=>W (Mi.int z) s4 λj s5=>W (cV y) s5 λnx s6=>wA (L2.rz nx.2.length j) λq=>Q (.nx J) (s6.set nx.1 (.lst (nx.2.set q d)))):WS (ex aq aj F (.asg (.aq o i) e) J) s Q:=by
 refine WS.ofM (h.imp λx s1 h=>WS.ofM (W.bd (h.imp λd s2 h=>W.bd (h.imp λy s3 h=>W.bd (h.imp λz s4 h=>W.bd (h.imp λj s5 h=>W.bd (h.imp λnx s6 h=>?_)))))));obtain⟨q,e,h⟩:=h;simp only[e];exact Vf (WS.nx h)
theorem Kbr{i j:Nat}{a b:E}(h:W (ev aq true (F true) a J) s λx s1=>W (ev aq true (F true) b J) s1 λy s2=>Q (.nx ((J.set i (some x)).set j (some y))) s2):WS (ex aq true F (.par i j a b) J) s Q:=by
 exact WS.yD (m2:=λ_=>none) (WS.ofM (W.bd (h.imp λx s1 h=>W.bd (h.imp λy s2 h=>W.ret (WS.nx h)))))
theorem Kbs{e:E}(h:W (ev aq aj (F aj) e J) s λx s1=>Q (.rt x) s1):WS (ex aq aj F (.ret e) J) s Q:=WS.ofM (h.imp λ_ _ h=>WS.rt h)
theorem Kbp{c:E}{t e:bL}(h:W (ev aq aj (F aj) c J) s λx s1=>W (Mi.bool x) s1 λb s2=>WS (if b=true then exs aq aj F t J else exs aq aj F e J) s2 Q):WS (ex aq aj F (.iff c t e) J) s Q:=WS.ofM (W.bd h)
theorem Kbo{t:Tg}{w:Wk}{b:bL}(h:W (mZ aq true (F true) w J) s λcn s1=>WS (cR cn.1 (λd J=>Mi.cH (store aq true (F true) t (.d d) J) λJ'=>exs aq true F b J') (cn.2+1) 0 J) s1 Q):WS (ex aq true F (.fr t w b) J) s Q:=by
 exact WS.yD (m2:=λ_=>none) (WS.ofM h)
end
theorem W.Vh{α:Type}{b:Bool}{m1 m2:M α}{s:S}{P:α->S->Prop}(e:b=true)(h:W m1 s P):W (if b=true then m1 else m2) s P:=by rw[if_pos e];exact h
theorem W.Vi{α:Type}{b:Bool}{m1 m2:M α}{s:S}{P:α->S->Prop}(e:b=false)(h:W m2 s P):W (if b=true then m1 else m2) s P:=by rw[if_neg (by rw[e];decide)];exact h
theorem W.yD{α:Type}{m1 m2:M α}{s:S}{P:α->S->Prop}(h:W m1 s P):W (if true=true then m1 else m2) s P:=by rw[if_pos rfl];exact h
theorem W.Vj{α:Type}{m1 m2:M α}{s:S}{P:α->S->Prop}(h:W m2 s P):W (if false=true then m1 else m2) s P:=by rw[if_neg Vu];exact h
structure Bx(R:Prop):Prop where
 o:R
end Mi
namespace Mi
open PySem PySem.W PyProof.Rows L2
def sG{α:Type}(lt:Nat->Nat->Option Bool)(t:KasT α)(P:α->Prop):Prop:=∃a,bT lt t=some a/\P a
section
variable {α β:Type}{lt:Nat->Nat->Option Bool}{n:Nat}
theorem sG.ret(h:P a):sG lt (.ret a) P:=⟨a,rfl,h⟩
theorem sG.bind(hf:∀a,P a->sG lt (f a) R):∀{t:KasT α},sG lt t P->sG lt (t.bind f) R
 |.ret a,⟨a',e,h⟩=>by cases e;exact hf _ h
 |.ask i j k,⟨a',e,h⟩=>by
  unfold bT at e;cases el:lt i j with
  |none=>rw[el] at e;cases e
  |some b=>
   rw[el] at e;obtain⟨c,e1,h1⟩:=sG.bind hf (t:=k b) ⟨a',e,h⟩;refine⟨c,?_,h1⟩;show bT lt (.ask i j λb=>(k b).bind f)=some c;unfold bT;rw[el];exact e1
def Tot(n:Nat)(lt:Nat->Nat->Option Bool):Prop:=∀i j,i<n->j<n->∃b,lt i j=some b
variable (ht:Tot n lt)(hn:0<n)
include ht hn
end
section
variable {lt:Nat->Nat->Option Bool}{n:Nat}
theorem zf2(h:∀k,1<=k->k<n->lt (p.getD k 0) (p.getD (k-1) 0)=some false):∀f k,1<=k->k+f=n->sG lt (kas_asc p f k) λr=>r=n
 |0,k,h1,e=>.ret gV
 |f+1,k,h1,e=>by
  obtain⟨a,e1,e2⟩:=zf2 h f (k+1) gV gV;refine⟨a,?_,e2⟩;unfold kas_asc bT;rw[h k h1 gV];exact e1
theorem zev(hk:k<n):(List.range n).toArray.getD k 0=k:=by
 simp[Array.getD,hk]
theorem zfF(hn:0<n)(h:∀k,k+1<n->lt (k+1) k=some false):bT lt (kas_sort n)=some (List.range n).toArray:=by
 have h1:sG lt (kas_asc (List.range n).toArray (n-1) 1) λr=>r=n:=zf2 (λk a b=>by
  rw[zev b,zev gV];have:=h (k-1) gV
  rwa [show k-1+1=k by lia] at this) _ _ (bK _) gV
 have h2:sG lt (kas_count n (List.range n).toArray) λr=>r=(n,(List.range n).toArray):=by
  refine sG.bind (λr hr=>?_) h1;subst hr;rw[if_pos Zaa];exact .ret rfl
 have h3:sG lt (kas_sort n) λr=>r=(List.range n).toArray:=by
  refine sG.bind (λr hr=>?_) h2;subst hr;rw[if_neg (qj _)];exact .ret rfl
 obtain⟨a,e,rfl⟩:=h3;exact e
end
theorem ziC(hk:(xs.all j9||xs.all je)=true)(uI:xs.length<64)(h:∀k,k+1<xs.length->zm xs (k+1) k=some false):zp xs=some xs:=by
 unfold zp;rw[if_pos hk];unfold qI;by_cases h2:xs.length<2
 ·rw[if_pos h2]
 ·rw[if_neg h2,if_pos uI,zfF gV h];dsimp only;rw[if_pos Zaa]
  congr 1
  apply List.ext_getElem
  ·simp
  ·intro i a b;simp[nP,b]
noncomputable def dj(p:Int×Int):D:=.tup [.int p.1,.int p.2]
end Mi
namespace Mi
open PySem
theorem W.walk{c:List D}{f:D->List D->M (List D)}{s:S}{acc:List D}{P:List D->S->Prop}(I:Nat->List D->S->Prop)(h0:I 0 acc s)(hb:∀i x acc s,c[i]?=some x->I i acc s->W (f x acc) s λa s'=>I (i+1) a s')
  (he:∀acc s,I c.length acc s->P acc s):W (Mi.walk (.fix c) f (c.length+1) 0 acc) s P:=by
 have key:∀n i acc s,i+n=c.length->I i acc s->W (Mi.walk (.fix c) f (n+1) i acc) s P:=by
  intro n
  induction n with
  |zero=>
   intro i acc s hi hI;have e:c[i]?=none:=by rw[o9];lia
   have:i=c.length:=by lia
   subst this;refine⟨acc,s,?_,he acc s hI⟩;unfold Mi.walk;simp only[Src.at,e]
  |succ n ih=>
   intro i acc s hi hI;have dF:i<c.length:=by lia
   have e:c[i]?=some c[i]:=cX dF;obtain⟨a,s',eb,Dh⟩:=hb i c[i] acc s e hI;obtain⟨a2,s2,e2,q⟩:=ih (i+1) a s' gV Dh;refine⟨a2,s2,?_,q⟩;unfold Mi.walk;simp only[Src.at,e,M.bd,eb];exact e2
 exact key c.length 0 acc s gV h0
section
variable {aq:Nat->Nat->Bool}{F:Fn}{J:Vs}{s:S}{P:Xv->S->Prop}
theorem Kat{fz:Bool}{elt:E}{tg:List Nat}{it:Wk}{fr:List Nat}{many:Nat}{cond:Eo}{c:List D}(g:D->Option D)(hc:c.length<=sizeLine)
  (hw:W (mZ aq true F it J) s λcn s1=>cn=(.fix c,c.length)/\s1=s)
  (hb:∀x∈c,∃J',iI tg x (blk many fr J)=some J'/\W (rK aq true F cond J') s λb s1=>s1=s/\(if b=true then W (ev aq true F elt J') s λy s2=>s2=s/\∃d,y=.d d/\g x=some d else g x=none))
  (h:W (newL fz (c.filterMap g)) s P):W (ev aq true F (.comp fz elt tg it fr many cond) J) s P:=by
 change W (_root_.ite (true=true) _ _) s P
 rw[if_pos rfl];refine W.bd (hw.imp λcn s1=>?_);rintro⟨rfl,rfl⟩;refine W.bd ?_;refine W.walk (c:=c) (λi acc s'=>s'=s1/\acc=(c.take i).filterMap g) ⟨rfl,rfl⟩ (λi x acc s' e hI=>?_) (λacc s' hI=>?_)
 ·obtain⟨rfl,rfl⟩:=hI;have hi:i<c.length:=(eY.mp e).1;have ht:c.take (i+1)=c.take i++[x]:=by rw[G3,e];rfl
  have hl:((c.take i).filterMap g).length<sizeLine:=Nat.lt_of_le_of_lt (Qg _ _) (by rw[vU];lia);obtain⟨J',e1,h1⟩:=hb x (fK e);refine W.bd (W.opt e1 ?_);refine W.bd (W.qt (h1.imp λb s2=>?_));rintro⟨rfl,h2⟩;rw[ht,List.filterMap_append];cases b
  ·rw[if_neg Vu] at h2 ⊢;refine W.ret ⟨rfl,?_⟩;simp[h2]
  ·rw[if_pos rfl] at h2 ⊢;refine W.bd (W.qt (h2.imp λy s3=>?_));rintro⟨rfl,d,rfl,eg⟩;refine W.bd (W.dat ?_);rw[if_pos hl];refine W.ret ⟨rfl,?_⟩;simp[eg]
 ·obtain⟨rfl,rfl⟩:=hI;rw[Ak];exact h
end
section
variable {aq:Nat->Nat->Bool}{aj:Bool}{F:Fn}{J:Vs}{s:S}{P:Xv->S->Prop}
theorem KaF(h:W (ev aq aj F a J) s λx s1=>W (rd x) s1 λd s2=>∃b,lO aq d k=some b/\P (.d (.bl b)) s2):W (ev aq aj F (.iu a k) J) s P:=
 W.bd (h.imp λ_ _ h=>W.bd (h.imp λ_ _ ⟨_,e,h⟩=>W.bd (W.opt e (W.ret h))))
theorem KaD(h:W (ev aq aj F a J) s λx s1=>W (ev aq aj F b J) s1 λy s2=>W (gW [x,y]) s2 λds s3=>W (cG true (prim p ds)) s3 λt s4=>W (Mi.bool t) s4 λk s5=>
  W (if k=true then M.bd (ev aq aj F c J) λz=>M.bd (gW [y,z]) λds=>cG true (prim q ds) else M.ret (.d (.bl false))) s5 P):W (ev aq aj F (.v8 p q a b c) J) s P:=
 W.bd (h.imp λ_ _ h=>W.bd (h.imp λ_ _ h=>W.bd (h.imp λ_ _ h=>W.bd (h.imp λ_ _ h=>W.bd h))))
end
noncomputable def Kw(fz:Bool):Option Rz->Option Xv
 |some (.dat d)=>some (.d d)
 |some (.nw ys)=>match fz with
  |true=>some (.d (.fl ys))
  |false=>none
 |none=>none
noncomputable def addQ:D->D->Option Rz
 |.int i,.int j=>some (.dat (.int (i+j)))
 |_,_=>none
noncomputable def zV:List D->Option Rz
 |a::r=>match r with
  |b::r=>match r with
   |[]=>addQ a b
   |_::_=>none
  |[]=>none
 |[]=>none
noncomputable def quick:Pr->Bool
 |.rB=>false|.Fl=>false|.mul=>false|.fdiv=>false|.mod=>false|.pow=>false|.divmod=>false|.sorted=>false|.qG=>false|.Jj=>false|.mult=>false|.yZ=>false|.repr=>false|.str1=>false|.xM=>false|.Jh=>false|.Ji=>false|.shl=>false|.shr=>false|.band=>false|.uL=>false
 |_=>true
noncomputable def qO(p:Pr)(ds:List D):Option Rz:=match p with
 |.add=>zV ds
 |p=>match quick p with
  |true=>prim p ds
  |false=>none
theorem Ky{ds:List D}{r:Rz}(h:zV ds=some r):Cg ds=some r:=by
 cases ds with
 |nil=>cases h
 |cons a t=>cases t with
  |nil=>cases h
  |cons b t=>cases t with
   |cons _ _=>cases h
   |nil=>cases a with
    |int i=>cases b with
     |int j=>exact h
     |_=>cases h
    |_=>cases h
theorem Di{p:Pr}{ds:List D}{r:Rz}(h:qO p ds=some r):prim p ds=some r:=by
 cases p with
 |add=>exact Ky h
 |_=>first|exact h|cases h
noncomputable def Vk(fz:Bool)(ds:List D):Option Xv:=match fz with
 |true=>some (.d (.fl ds))
 |false=>none
noncomputable def Kz:Xv->Option D
 |.d x=>some x
 |.l _=>none
noncomputable def obP(c:Nat):Xv->Option (List D)
 |.d (.ob e fs)=>if e=c then some fs else none
 |_=>none
noncomputable def notP:Xv->Option Xv
 |.d (.bl b)=>some (.d (.bl (!b)))
 |_=>none
noncomputable def Vl(r:Option Xv):Xv->Option Xv
 |.d (.bl true)=>r
 |.d (.bl false)=>some (.d (.bl false))
 |_=>none
noncomputable def orP(r:Option Xv):Xv->Option Xv
 |.d (.bl true)=>some (.d (.bl true))
 |.d (.bl false)=>r
 |_=>none
section
variable (aq:Nat->Nat->Bool)
mutual
noncomputable def dN:E->Vs->Option Xv
 |.c d,_=>some (.d d)
 |.v i,J=>J[i]?.join
 |.pr fz p xs,J=>(pZ xs J).bind λds=>Kw fz (qO p ds)
 |.tup xs,J=>(pZ xs J).bind λds=>some (.d (.tup ds))
 |.lst fz xs,J=>(pZ xs J).bind λds=>Vk fz ds
 |.not a,J=>(dN a J).bind notP
 |.and a b,J=>(dN a J).bind (Vl (dN b J))
 |.or a b,J=>(dN a J).bind (orP (dN b J))
 |.iu a k,J=>(dN a J).bind λx=>(Kz x).bind λd=>(lO aq d k).bind λb=>some (.d (.bl b))
 |.of o c i,J=>(dN o J).bind λx=>(obP c x).bind λfs=>fs[i]?.map .d
 |_,_=>none
noncomputable def pZ:Es->Vs->Option (List D)
 |.nil,_=>some []
 |.cons a r,J=>(dN a J).bind λx=>(Kz x).bind λd=>(pZ r J).bind λds=>some (d::ds)
end
noncomputable def oU:Es->Vs->Option (List Xv)
 |.nil,_=>some []
 |.cons a r,J=>(dN aq a J).bind λx=>(oU r J).bind λxs=>some (x::xs)
end
theorem nq{α β:Type}{o:Option α}{f:α->Option β}{b:β}(h:o.bind f=some b):∃a,o=some a/\f a=some b:=tW.mp h
theorem jt{α β:Type}{m:M α}{k:α->M β}{s s':S}{a:α}(e:m s=some (.ok a,s')):M.bd m k s=k a s':=by
 show (match m s with|some (.ok a,s')=>k a s'|some (.er c f,s')=>some (.er c f,s')|none=>none)=_;rw[e]
theorem Dj(s:S):∀ds:List D,gW (ds.map .d) s=some (.ok ds,s)
 |[]=>rfl
 |d::r=>(jt (s':=s) (a:=d) rfl).trans ((jt (Dj s r)).trans rfl)
theorem vq(s:S):∀ds:List D,bY (ds.map .d) s=some (.ok ds,s)
 |[]=>rfl
 |d::r=>(jt (s':=s) (a:=d) rfl).trans ((jt (vq s r)).trans rfl)
theorem Vm{fz:Bool}{p:Pr}{ds:List D}{x:Xv}{s:S}(h:Kw fz (qO p ds)=some x):cG fz (prim p ds) s=some (.ok x,s):=by
 cases o:qO p ds with
 |none=>rw[o] at h;cases h
 |some r=>
  rw[o] at h;rw[Di o];cases r with
  |dat d=>cases h;rfl
  |nw ys=>cases fz with
   |true=>cases h;rfl
   |false=>cases h
section
variable {aq:Nat->Nat->Bool}{aj:Bool}{F:Fn}{J:Vs}{s:S}
theorem gO(e:E):∀x:Xv,dN aq e J=some x->ev aq aj F e J s=some (.ok x,s):=by
 refine E.rec (motive_1:=λe=>∀x:Xv,dN aq e J=some x->ev aq aj F e J s=some (.ok x,s)) (motive_2:=λ_=>True) (motive_3:=λxs=>∀ds:List D,pZ aq xs J=some ds->evs aq aj F xs J s=some (.ok (ds.map .d),s)) (motive_4:=λ_=>True)
  ?c ?v ?pr (λ_ _ _ _ _ _ _ _ _ h=>nomatch h) (λ_ _ _ _ _ _ _ _ _ _ _ _ h=>nomatch h) ?and ?or ?not (λ_ _ _ _ _ _ _ h=>nomatch h) ?tup ?lst (λ_ _ _ h=>nomatch h) (λ_ _ _ _ h=>nomatch h) ?iu (λ_ _ _ _ _ _ _ _ h=>nomatch h) (λ_ _ _ _ _ _ _ _ h=>nomatch h) (λ_ _ _ _ _ h=>nomatch h) (λ_ _ _ h=>nomatch h)
  (λ_ _ _ _ _ _ _ _ _ _ _ h=>nomatch h) (λ_ _ _ _ _ _ _ _ _ _ _ _ _ _ h=>nomatch h) (λ_ _ _ _ _ h=>nomatch h) ?of (λ_ _ _ _ _ h=>nomatch h) (λ_ _ _ _ _ _ _ h=>nomatch h) (λ_ h=>nomatch h) (λ_ _ _ _ _ _ h=>nomatch h) (λ_ _ _ _ _ h=>nomatch h) (λ_ _ _ h=>nomatch h) (λ_ _ _ _ _ _ h=>nomatch h) (λ_ _ _ _ _ h=>nomatch h) (λ_ _ _ _ _ _ _ h=>nomatch h) (λ_ h=>nomatch h)
  (λ_ _=>trivial) (λ_ _ _ _=>trivial) (λ_ _ _ _=>trivial) (λ_ _=>trivial) (λ_ _=>trivial) ?nil ?cons trivial (λ_ _=>trivial) e
 case c=>intro d x h;cases h;rfl
 case v=>intro i x h;exact(show M.opt (J[i]?.join) s=_ from by rw[show J[i]?.join=some x from h];rfl)
 case pr=>
  intro fz p xs ih x h;obtain⟨ds,e1,e2⟩:=nq h;exact(jt (ih _ e1)).trans ((jt (Dj s ds)).trans (Vm e2))
 case tup=>
  intro xs ih x h;obtain⟨ds,e1,e2⟩:=nq h;cases e2;exact(jt (ih _ e1)).trans ((jt (vq s ds)).trans rfl)
 case lst=>
  intro fz xs ih x h;obtain⟨ds,e1,e2⟩:=nq h;cases fz with
  |false=>cases e2
  |true=>cases e2;exact(jt (ih _ e1)).trans ((jt (vq s ds)).trans rfl)
 case not=>
  intro a ih x h;obtain⟨y,e1,e2⟩:=nq h;cases y with
  |l n=>cases e2
  |d y=>cases y with
   |bl b=>cases e2;exact(jt (ih _ e1)).trans rfl
   |_=>cases e2
 case and=>
  intro a b ih ih2 x h;obtain⟨y,e1,e2⟩:=nq h;cases y with
  |l n=>cases e2
  |d y=>cases y with
   |bl b=>cases b with
    |true=>exact(jt (ih _ e1)).trans (ih2 _ e2)
    |false=>cases e2;exact(jt (ih _ e1)).trans rfl
   |_=>cases e2
 case or=>
  intro a b ih ih2 x h;obtain⟨y,e1,e2⟩:=nq h;cases y with
  |l n=>cases e2
  |d y=>cases y with
   |bl b=>cases b with
    |true=>cases e2;exact(jt (ih _ e1)).trans rfl
    |false=>exact(jt (ih _ e1)).trans (ih2 _ e2)
   |_=>cases e2
 case iu=>
  intro a k ih x h;obtain⟨y,e1,e2⟩:=nq h;cases y with
  |l n=>cases e2
  |d y=>
   obtain⟨d,e3,e4⟩:=nq e2;cases e3;obtain⟨b,e5,e6⟩:=nq e4;cases e6;refine(jt (ih _ e1)).trans ((jt (s':=s) (a:=y) rfl).trans ((jt (s':=s) (a:=b) ?_).trans rfl));rw[e5];rfl
 case of=>
  intro o c i ih x h;obtain⟨y,e1,e2⟩:=nq h;obtain⟨fs,e3,e4⟩:=nq e2;refine(jt (ih _ e1)).trans ((jt (s':=s) (a:=fs) ?_).trans ?_)
  ·cases y with
   |l n=>cases e3
   |d y=>cases y with
    |ob e gs=>
     have e3:(if e=c then some gs else none)=some fs:=e3;show (if e=c then M.ret gs else M.no) s=_;split at e3
     ·rename_i h;cases e3;rw[if_pos h];rfl
     ·cases e3
    |_=>cases e3
  ·show M.opt (fs[i]?.map Xv.d) s=_;rw[e4];rfl
 case nil=>intro ds h;cases h;rfl
 case cons=>
  intro a r ih ih2 ds h;obtain⟨y,e1,e2⟩:=nq h;cases y with
  |l n=>cases e2
  |d y=>
   obtain⟨d,e3,e4⟩:=nq e2;cases e3;obtain⟨rs,e5,e6⟩:=nq e4;cases e6;exact(jt (ih _ e1)).trans ((jt (ih2 _ e5)).trans rfl)
theorem vA:∀(xs:Es) (ds:List D),pZ aq xs J=some ds->evs aq aj F xs J s=some (.ok (ds.map .d),s)
 |.nil,ds,h=>by cases h;rfl
 |.cons a r,ds,h=>by
  obtain⟨y,e1,e2⟩:=nq h;cases y with
  |l n=>cases e2
  |d y=>
   obtain⟨d,e3,e4⟩:=nq e2;cases e3;obtain⟨rs,e5,e6⟩:=nq e4;cases e6;exact(jt (gO a _ e1)).trans ((jt (vA r _ e5)).trans rfl)
theorem jM:∀(xs:Es) {vs:List Xv},oU aq xs J=some vs->evs aq aj F xs J s=some (.ok vs,s)
 |.nil,vs,h=>by cases h;rfl
 |.cons a r,vs,h=>by
  obtain⟨y,e1,e2⟩:=nq h;obtain⟨ys,e3,e4⟩:=nq e2;cases e4;exact(jt (gO a _ e1)).trans ((jt (jM r e3)).trans rfl)
variable {P:Xv->S->Prop}
theorem W.pv{e:E}{x:Xv}(h:dN aq e J=some x)(k:P x s):W (ev aq aj F e J) s P:=W.eq (gO e _ h) k
theorem Ka3{f:Nat}{xs:Es}{vs:List Xv}(h:oU aq xs J=some vs)(k:W (bW (F f) vs) s P):W (ev aq aj F (.call f xs) J) s P:=KaC (W.eq (jM xs h) k)
theorem Ka4{fz:Bool}{p:Pr}{xs:Es}{ds:List D}(h:pZ aq xs J=some ds)(k:W (cG fz (prim p ds)) s P):W (ev aq aj F (.pr fz p xs) J) s P:=KaK (W.eq (vA xs _ h) (W.eq (Dj s ds) k))
theorem Ka2{xs:Es}{vs:List Xv}{P:List Xv->S->Prop}(h:oU aq xs J=some vs)(k:P vs s):W (evs aq aj F xs J) s P:=W.eq (jM xs h) k
end
section
variable {aq:Nat->Nat->Bool}{aj:Bool}{F:Bool->Fn}{J:Vs}{s:S}{Q:Out->S->Prop}{e:E}{r:bL}
theorem Kbk{i:Nat}{x:Xv}(h:dN aq e J=some x)(k:WS (exs aq aj F r (J.set i (some x))) s Q):WS (exs aq aj F (.cons (.asg (.nm i) e) r) J) s Q:=WS.cons (Kbq (W.pv h k))
theorem Kbl{x:Xv}(h:dN aq e J=some x)(k:Q (.rt x) s):WS (exs aq aj F (.cons (.ret e) r) J) s Q:=WS.cons (Kbs (W.pv h k))
theorem Kbj{b:Bool}{t u:bL}(h:dN aq e J=some (.d (.bl b)))(k:WS (if b=true then exs aq aj F t J else exs aq aj F u J) s λo s'=>match o with|.nx J'=>WS (exs aq aj F r J') s' Q|.rt x=>Q (.rt x) s'|_=>False):WS (exs aq aj F (.cons (.iff e t u) r) J) s Q:=WS.cons (Kbp (W.pv h (W.bool k)))
end
def WR{α:Type}(m:M α)(s:S)(c:Nat)(fs:List D):Prop:=∃s',m s=some (.er c fs,s')
section
variable {α β:Type}{m:M α}{k:α->M β}{s:S}{c:Nat}{fs:List D}
theorem Kbc(h:W m s λa s'=>WR (k a) s' c fs):WR (M.bd m k) s c fs:=by
 obtain⟨a,s',e,s2,e2⟩:=h;exact⟨s2,by unfold M.bd;rw[e];exact e2⟩
theorem WR.bR(hl:locs xs=[])(h:WR (F (dG 0 xs)) [] c fs):WR (bW F xs) s c fs:=by
 obtain⟨s1,e⟩:=h;refine⟨s,?_⟩;unfold bW;rw[hl,if_pos Aq];simp only[jf,e,cW]
end
theorem WR.call(hT:T f=some d)(hl:xs.length=d.gH)
  (h:WS (exs aq aj (λc=>Mi.call aq T k c) d.body (xs.map some++List.replicate (d.many-d.gH) none)) s λo _=>∃J,o=.er c fs J):WR (Mi.call aq T (k+1) aj f xs) s c fs:=by
 obtain⟨o,s',e,J,rfl⟩:=h;unfold Mi.call;simp only[hT,if_pos hl];unfold WR;simp only[e];exact⟨_,rfl⟩
section
variable {aq:Nat->Nat->Bool}{aj:Bool}{F:Bool->Fn}{J:Vs}{s:S}{Q:Out->S->Prop}{c:Nat}{fs:List D}
theorem Kbi(h:WR m s c fs)(q:∀s',Q (.er c fs J) s'):WS (Mi.ofM m J k) s Q:=by
 obtain⟨s',e⟩:=h;exact⟨_,s',by unfold Mi.ofM;rw[e],q s'⟩
theorem Oi(h:WS (ex aq aj F a J) s λo s'=>(∃c fs J',o=.er c fs J')/\Q o s'):WS (exs aq aj F (.cons a r) J) s Q:=by
 obtain⟨o,s',e,⟨c,fs,J',rfl⟩,q⟩:=h;exact⟨_,s',by unfold exs Mi.cH;rw[e],q⟩
theorem Kbe(h:WR (ev aq aj (F aj) e J) s c fs)(q:∀s',Q (.er c fs J) s'):WS (ex aq aj F (.ex e) J) s Q:=Kbi h q
theorem Kbm(h:WR (ev aq aj (F aj) e J) s c fs)(q:∀s',Q (.er c fs J) s'):WS (ex aq aj F (.ret e) J) s Q:=Kbi h q
theorem Kbt{c:Nat}{kp:Bool}{xs:Es}(h:W (evs aq true (F true) xs J) s λvs s1=>W (bY vs) s1 λds s2=>Q (.er c (if kp=true then ds else []) J) s2):WS (ex aq true F (.rise c kp xs) J) s Q:=by
 refine WS.yD (m2:=λ_=>none) (WS.ofM (W.bd (h.imp λvs s1 h=>h.imp λds s2 h=>?_)));exact⟨_,s2,rfl,h⟩
theorem Oj{m:MS}{k:Vs->MS}(h:WS m s λo s'=>match o with|.nx J'=>WS (k J') s' Q|.rt x=>Q (.rt x) s'|_=>False):WS (Mi.cH m k) s Q:=by
 obtain⟨o,s',e,q⟩:=h;unfold WS Mi.cH;rw[e];cases o with
 |nx J'=>exact q
 |rt x=>exact⟨_,_,rfl,q⟩
 |bk _=>exact q.elim
 |ct _=>exact q.elim
 |er _ _ _=>exact q.elim
theorem Ol{F:Fn}{i:Nat}{x:Xv}(h:Q (.nx (J.set i (some x))) s):WS (store aq aj F (.nm i) x J) s Q:=⟨_,s,rfl,h⟩
theorem Kbx{F:Fn}{is:List Nat}{d:D}(h:wA ((lR d).bind λds=>gY is (ds.map .d) J) λJ'=>Q (.nx J') s):WS (store aq true F (.tp is) (.d d) J) s Q:=by
 obtain⟨J',e,q⟩:=h;exact WS.yD (m2:=λ_=>none) (WS.ofM (W.bd (W.dat (W.opt e (WS.nx q)))))
theorem Kbz(hb:WS (exs aq true F b J) s λo s'=>(∃x,o=.rt x)/\Q o s'):WS (ex aq true F (.rD b d i h) J) s Q:=by
 obtain⟨o,s',e,⟨x,rfl⟩,q⟩:=hb;exact⟨_,s',by unfold ex;rw[if_pos rfl];simp only[e],q⟩
theorem KbA(hb:WS (exs aq true F b J) s λo s'=>∃c fs J',o=.er c fs J'/\aq c d=true/\WS (exs aq false F h (J'.set i (some (.d (.exc c fs))))) s' λr s2=>(∃x,r=.rt x)/\Q r s2):WS (ex aq true F (.rD b d i h) J) s Q:=by
 obtain⟨o,s',e,c,fs,J',rfl,hs,r,s2,e2,⟨x,rfl⟩,q⟩:=hb;exact⟨_,s2,by unfold ex;rw[if_pos rfl];simp only[e,hs,if_true,e2];rfl,q⟩
end
section
variable {aq:Nat->Nat->Bool}{aj:Bool}{F:Fn}{J:Vs}{s:S}{P:Xv->S->Prop}
theorem W.iu{a:E}{k:Kd}(h:W (ev aq aj F a J) s λx s1=>W (rd x) s1 λd s2=>wA (lO aq d k) λb=>P (.d (.bl b)) s2):W (ev aq aj F (.iu a k) J) s P:=KaF h
theorem W.v8{p q:Pr}{a b c:E}(h:W (ev aq aj F a J) s λx s1=>W (ev aq aj F b J) s1 λy s2=>W (gW [x,y]) s2 λds s3=>W (cG true (prim p ds)) s3 λt s4=>W (Mi.bool t) s4 λk s5=>
  W (if k=true then M.bd (ev aq aj F c J) λz=>M.bd (gW [y,z]) λds=>cG true (prim q ds) else M.ret (.d (.bl false))) s5 P):W (ev aq aj F (.v8 p q a b c) J) s P:=KaD h
theorem KaG{c a b:E}(h:W (ev aq aj F c J) s λx s1=>W (Mi.bool x) s1 λk s2=>W (if k=true then ev aq aj F a J else ev aq aj F b J) s2 P):W (ev aq aj F (.ite c a b) J) s P:=W.bd (h.imp λ_ _ h=>W.bd h)
theorem KaP{a:E}{P:Src×Nat->S->Prop}(h:W (ev aq aj F a J) s λx s1=>W (oH x) s1 P):W (mZ aq aj F (.enum a) J) s P:=W.bd h
theorem KaN{xs:List D}{P:Src×Nat->S->Prop}(h:P (.fix (enumFrom 0 xs),(enumFrom 0 xs).length) s):W (oH (.d (.fl xs))) s P:=⟨_,s,rfl,h⟩
theorem KaQ{a b:E}{P:Src×Nat->S->Prop}(h:W (ev aq aj F a J) s λx s1=>W (ev aq aj F b J) s1 λy s2=>W (Mi.int x) s2 λi s3=>W (Mi.int y) s3 λj s4=>(fj i&&fj j)=true/\P (.fix (gb i j),(gb i j).length) s4):W (mZ aq aj F (.rg a b) J) s P:=by
 refine W.bd (h.imp λx s1 h=>W.bd (h.imp λy s2 h=>W.bd (h.imp λi s3 h=>W.bd (h.imp λj s4 h=>?_))));rw[if_pos h.1];exact W.ret h.2
theorem KaT{a b:E}{P:Src×Nat->S->Prop}(h:W (ev aq aj F a J) s λx s1=>W (ev aq aj F b J) s1 λy s2=>W (pP x) s2 λxs s3=>W (pP y) s3 λys s4=>P (.fix (List.zipWith (λp q=>.tup [p,q]) xs ys),(List.zipWith (λ(p q:D)=>D.tup [p,q]) xs ys).length) s4):W (mZ aq aj F (.zip a b) J) s P:=
 W.bd (h.imp λx s1 h=>W.bd (h.imp λy s2 h=>W.bd (h.imp λxs s3 h=>W.bd (h.imp λys s4 h=>W.ret h))))
theorem W.jh{xs:List D}{P:List D->S->Prop}(h:P xs s):W (pP (.d (.tup xs))) s P:=W.ret h
theorem W.tK{xs:List D}{P:List D->S->Prop}(h:P xs s):W (pP (.d (.fl xs))) s P:=W.ret h
theorem Kan{P:Bool->S->Prop}(h:P true s):W (rK aq aj F .no J) s P:=W.ret h
theorem Kao{a:E}{P:Bool->S->Prop}(h:W (ev aq aj F a J) s λx s1=>W (Mi.bool x) s1 P):W (rK aq aj F (.yes a) J) s P:=W.bd h
theorem Kav(g:D->D)(hc:c.length<=sizeLine)
  (hw:W (mZ aq true F it J) s λcn s1=>cn=(.fix c,c.length)/\s1=s)
  (hb:∀x∈c,wA (iI tg x (blk many fr J)) λJ'=>W (ev aq true F elt J') s λy s2=>s2=s/\y=.d (g x))
  (h:W (newL fz (c.map g)) s P):W (ev aq true F (.comp fz elt tg it fr many .no) J) s P:=by
 refine Kat (c:=c) (λx=>some (g x)) hc hw (λx hx=>?_) ?_
 ·obtain⟨J',e,h1⟩:=hb x hx;refine⟨J',e,W.ret ⟨rfl,?_⟩⟩;rw[if_pos rfl];exact h1.imp λy s2 ⟨a,b⟩=>⟨a,_,b,rfl⟩
 ·rw[show c.filterMap (λx=>some (g x))=c.map g by rw[<-List.filterMap_eq_map];rfl];exact h
theorem lY{α:Type}{f:α->D}{l:List α}{fz:Bool}{elt:E}{tg:List Nat}{it:Wk}{fr:List Nat}{many:Nat}{cond:Eo}(g:α->Option D)(hc:l.length<=sizeLine)
  (hw:W (mZ aq true F it J) s λcn s1=>cn=(.fix (l.map f),(l.map f).length)/\s1=s)
  (hb:∀x∈l,wA (iI tg (f x) (blk many fr J)) λJ'=>W (rK aq true F cond J') s λb s1=>s1=s/\(b=true->W (ev aq true F elt J') s λy s2=>s2=s/\∃d,y=.d d/\g x=some d)/\(b=false->g x=none))
  (h:W (newL fz (l.filterMap g)) s P):W (ev aq true F (.comp fz elt tg it fr many cond) J) s P:=by
 change W (_root_.ite (true=true) _ _) s P
 rw[if_pos rfl];refine W.bd (hw.imp λcn s1=>?_);rintro⟨rfl,rfl⟩;refine W.bd ?_;refine W.walk (c:=l.map f) (λi acc s'=>s'=s1/\acc=(l.take i).filterMap g) ⟨rfl,rfl⟩ (λi x acc s' e hI=>?_) (λacc s' hI=>?_)
 ·obtain⟨rfl,rfl⟩:=hI;rw[gC] at e;cases el:l[i]? with
  |none=>rw[el] at e;cases e
  |some y=>
   rw[el] at e;cases e;have hi:i<l.length:=(eY.mp el).1;have ht:l.take (i+1)=l.take i++[y]:=by rw[G3,el];rfl
   have hl:((l.take i).filterMap g).length<sizeLine:=Nat.lt_of_le_of_lt (Qg _ _) (by rw[vU];lia);obtain⟨J',e1,h1⟩:=hb y (fK el);refine W.bd (W.opt e1 ?_);refine W.bd (W.qt (h1.imp λb s2=>?_));rintro⟨rfl,h2,h3⟩;rw[ht,List.filterMap_append];cases b
   ·rw[if_neg Vu];refine W.ret ⟨rfl,?_⟩;simp[h3 rfl]
   ·rw[if_pos rfl];refine W.bd (W.qt ((h2 rfl).imp λy s3=>?_));rintro⟨rfl,d,rfl,eg⟩;refine W.bd (W.dat ?_);rw[if_pos hl];refine W.ret ⟨rfl,?_⟩;simp[eg]
 ·obtain⟨rfl,rfl⟩:=hI;rw[bI,Ak];exact h
theorem Kau{c:List D}{fz:Bool}{elt:E}{tg:List Nat}{it:Wk}{fr:List Nat}{many:Nat}{cond:Eo}(I:Nat->List D->S->Prop)
  (hw:W (mZ aq true F it J) s λcn s1=>cn=(.fix c,c.length)/\I 0 [] s1)
  (hb:∀i x acc s,c[i]?=some x->I i acc s->wA (iI tg x (blk many fr J)) λJ'=>W (rK aq true F cond J') s λb s1=>(b=true->W (ev aq true F elt J') s1 λy s2=>∃d,y=.d d/\acc.length<sizeLine/\I (i+1) (acc++[d]) s2)/\(b=false->I (i+1) acc s1))
  (h:∀acc s,I c.length acc s->W (newL fz acc) s P):W (ev aq true F (.comp fz elt tg it fr many cond) J) s P:=by
 change W (_root_.ite (true=true) _ _) s P
 rw[if_pos rfl];refine W.bd (hw.imp λcn s1=>?_);rintro⟨rfl,h0⟩;refine W.bd ?_;refine W.walk (c:=c) I h0 (λi x acc s' e hI=>?_) (λacc s' hI=>h acc s' hI);obtain⟨J',e1,h1⟩:=hb i x acc s' e hI;refine W.bd (W.opt e1 ?_);refine W.bd (W.qt (h1.imp λb s2=>?_));rintro⟨h2,h3⟩;cases b
 ·rw[if_neg Vu];exact W.ret (h3 rfl)
 ·rw[if_pos rfl];refine W.bd (W.qt ((h2 rfl).imp λy s3=>?_));rintro⟨d,rfl,hl,hi⟩;refine W.bd (W.dat ?_);rw[if_pos hl];exact W.ret hi
theorem W.push{o a:E}(h:W (ev aq aj F o J) s λx s1=>W (Mi.cV x) s1 λ_ s2=>W (ev aq aj F a J) s2 λy s3=>W (Mi.dat y) s3 λd s4=>W (Mi.cV x) s4 λnx s5=>nx.2.length<sizeLine/\P (.d .non) (s5.set nx.1 (.lst (nx.2++[d])))):W (ev aq aj F (.push o a) J) s P:=by
 refine W.bd (h.imp λx s1 h=>W.bd (h.imp λ_ s2 h=>W.bd (h.imp λy s3 h=>W.bd (h.imp λd s4 h=>W.bd (h.imp λnx s5 h=>?_)))));rw[if_pos h.1];exact W.bd (Vf (W.ret h.2))
end
theorem Om{s:S}{o:SO}:(s++[o])[s.length]?=some o:=by simp
theorem zhF:(s++[o]).set s.length o'=s++[o']:=by simp
theorem Y{P R:Prop}(k:R)(h:Bx R->P:=by
 intro k
 repeat (first|with_reducible first
   |refine Kbk (by with_unfolding_all rfl) ?_|refine Kbl (by with_unfolding_all rfl) ?_|refine Kbj (by with_unfolding_all rfl) ?_|refine W.pv (by with_unfolding_all rfl) ?_|refine Ka4 (by with_unfolding_all rfl) ?_|refine Ka3 (by with_unfolding_all rfl) ?_|refine Ka2 (by with_unfolding_all rfl) ?_
   |refine WS.cons ?_|refine WS.nil ?_|refine Oj ?_|refine Ol ?_|refine Kbx ?_|refine Kbq ?_|refine Kbs ?_|refine Kbp ?_|refine Kbv ?_|refine Kbu ?_|refine Kbr ?_|refine Kbn ?_|refine Kbo ?_|refine Kbt ?_|refine WS.yD ?_|refine WS.Vj ?_|refine WS.Vh (by with_unfolding_all rfl) ?_|refine WS.Vi (by with_unfolding_all rfl) ?_|refine wA.mk (by with_unfolding_all rfl) ?_
   |refine Kal ?_|refine Vg ?_|refine W.eC ?_|refine W.eV (by with_unfolding_all rfl) ?_|refine KaK ?_|refine KaC ?_|refine KaM ?_|refine KaH ?_|refine KaI ?_|refine KaB ?_|refine KaJ ?_|refine KaG ?_|refine W.iu ?_|refine W.v8 ?_|refine W.push ?_|refine KaL ?_|refine KaE ?_|refine KaW ?_|refine KaX ?_|refine KaS ?_|refine KaQ ?_|refine KaT ?_|refine KaP ?_|refine Kan ?_|refine Kao ?_|refine W.yD ?_|refine W.Vj ?_|refine W.Vh (by with_unfolding_all rfl) ?_|refine W.Vi (by with_unfolding_all rfl) ?_
   |refine Gd ?_|refine Kv ?_|refine Gb ?_|refine yx (by with_unfolding_all rfl) ?_|refine yx Om ?_|refine Kax ?_|refine Kay ?_|refine W.dat ?_|refine W.bool ?_|refine W.int ?_|refine W.cV (by with_unfolding_all rfl) ?_|refine W.cV Om ?_|refine Vf ?_|refine Kba ?_|refine KaN ?_|refine W.jh ?_|refine W.tK ?_|refine Ka9 ?_|refine KaV ?_|refine KaU ?_
   |refine cM (by first|(with_unfolding_all rfl)|exact zoB (by first|(left;constructor<;>lia)|(right;constructor<;>lia))|exact zoY gV|exact znm gV|exact zhP gV|exact zoV Vu) ?_|refine sE (by with_unfolding_all rfl) ?_
   |refine W.ret ?_|refine W.bd ?_
   | (dsimp only))
 all_goals exact k.o):P:=h ⟨k⟩
def lx(p q:Int×Int):Prop:=p.1<q.1\/p.1=q.1/\p.2<q.2
noncomputable def bG(n:Int)(ps:List (Int×Int)):D:=.tup [.int n,.tup (ps.map dj)]
structure Web(n:Int)(ps:List (Int×Int)):Prop where
 h1:1<=n
 h8:n<=8
 tie:∀p∈ps,0<=p.1/\p.1<p.2/\p.2<n
 inc:ps.Pairwise lx
 len:(ps.length:Int)<=7*n
theorem zjM(h:∀x∈xs,x=.bl true):fG xs=some (List.replicate xs.length true):=by
 induction xs with
 |nil=>rfl
 |cons x r ih=>
  rw[h x Zaa];show Option.map _ (fG r)=_;rw[ih λy hy=>h y (by simp[hy])];rfl
theorem Vn(h:∀x∈xs,x=.bl true):prim .all [.fl xs]=some (.dat (.bl true)):=by
 show Option.map _ (fG xs)=_;rw[zjM h];simp
theorem zoD(h:lx p q):ltI [p.1,p.2] [q.1,q.2]=true:=by
 simp only[ltI];rcases h with h|⟨h,h2⟩
 ·rw[if_neg gV];simp[h]
 ·rw[if_pos h,if_neg gV];simp[h2]
theorem KC(xs:List D):cut xs (some 1) none=xs.drop 1:=by
 unfold cut;rw[HT.jW];rw[show (some 1:Option Int)=some ((1:Nat):Int) from rfl,HT.mK];cases xs with
 |nil=>rfl
 |cons x r=>simp
theorem zjf:∀{ps:List (Int×Int)},ps.Pairwise lx->∀x∈List.zipWith (λ(p q:D)=>D.tup [p,q]) (ps.map dj) ((ps.map dj).drop 1),∃p q,x=.tup [dj p,dj q]/\lx p q
 |[],_,x,hx=>by simp at hx
 |[p],_,x,hx=>by simp at hx
 |p::q::r,h,x,hx=>by
  rw[show (List.map dj (p::q::r)).drop 1=List.map dj (q::r) from rfl] at hx;have e:List.zipWith (λ(p q:D)=>D.tup [p,q]) (List.map dj (p::q::r)) (List.map dj (q::r))=.tup [dj p,dj q]::List.zipWith (λ(p q:D)=>D.tup [p,q]) (List.map dj (q::r)) (List.map dj r):=rfl;rw[e,gF] at hx;rcases hx with rfl|hx
  ·exact⟨p,q,rfl,(yK.mp h).1 q Zaa⟩
  ·exact zjf (ps:=q::r) (yK.mp h).2 x hx
theorem zgh:∀(xs:List D) (j i:Nat),(enumFrom j xs)[i]?=xs[i]?.map λx=>.tup [.int ((j+i:Nat):Int),x]
 |[],j,i=>by simp[enumFrom]
 |x::r,j,0=>by simp[enumFrom]
 |x::r,j,i+1=>by
  simp only[enumFrom,Dz,zgh r (j+1) i];rw[show j+1+i=j+(i+1) by lia]
theorem zeM:∀(xs:List D) (j:Nat),(enumFrom j xs).length=xs.length
 |[],j=>rfl
 |x::r,j=>by simp[enumFrom,zeM r (j+1)]
theorem zga(h:zp xs=some ys):prim .sorted [.fl xs]=some (.nw ys):=by
 show Option.map Rz.nw (zp xs)=_;rw[h];rfl
theorem ziG{es:List Int}(uI:es.length<64)(h:es.Pairwise (·<·)):zp (es.map D.int)=some (es.map D.int):=by
 refine ziC ?_ (by rw[bI];exact uI) λk hk=>?_
 ·rw[Bool.or_eq_true]
  left
  rw[Em,dZ];intro x _;rfl
 ·rw[bI] at hk;unfold zm;rw[gC,gC,cX hk,cX (show k<es.length by lia)];have:=Qd.mp h k (k+1) gV hk gV;simp only[Option.map_some]
  congr 1
  apply gQ
  lia
noncomputable def endOf(i:Int)(p:Int×Int):Option Int:=if p.1=i then some p.2 else if p.2=i then some p.1 else none
noncomputable def aU(i:Int)(ps:List (Int×Int)):List Int:=ps.filterMap (endOf i)
theorem zex(h:Web n ps)(i:Int):(aU i ps).Pairwise (·<·):=by
 have ht:=h.tie;have hi:=h.inc;clear h;unfold aU
 induction ps with
 |nil=>simp
 |cons p r ih=>
  obtain⟨hp,hr⟩:=yK.mp hi;have ih:=ih (λq hq=>ht q (by simp[hq])) hr;rw[DN]
  split
  ·exact ih
  ·rename_i b eb;refine yK.mpr ⟨λc hc=>?_,ih⟩;obtain⟨q,hq,eq⟩:=DR.mp hc;have l:=hp q hq;have tp:=ht p Zaa;have tq:=ht q (by simp[hq]);unfold endOf at eb eq;unfold lx at l;split at eb
   ·cases eb;split at eq
    ·cases eq;lia
    ·split at eq
     ·cases eq;lia
     ·cases eq
   ·split at eb
    ·cases eb;split at eq
     ·cases eq;lia
     ·split at eq
      ·cases eq;lia
      ·cases eq
    ·cases eb
theorem zei(h:Web n ps)(he:e∈aU i ps):0<=e/\e<n:=by
 obtain⟨q,hq,eq⟩:=DR.mp he;have tq:=h.tie q hq;unfold endOf at eq;split at eq
 ·cases eq;lia
 ·split at eq
  ·cases eq;lia
  ·cases eq
theorem Vo:∀{es:List Int} {a n:Int},es.Pairwise (·<·)->(∀e∈es,a<=e/\e<n)->a<=n->(es.length:Int)<=n-a
 |[],a,n,_,_,h=>by simp;lia
 |e::r,a,n,h,hb,ha=>by
  obtain⟨h1,h2⟩:=yK.mp h;have he:=hb e Zaa;have:=Vo (es:=r) (a:=e+1) (n:=n) h2 (λx hx=>⟨by have:=h1 x hx;lia,(hb x (by simp[hx])).2⟩) gV;rw[gD]
  lia
theorem Vp{a b:Int}{i:Nat}{x:D}(h:(gb a b)[i]?=some x):x=.int (a+i)/\a+i<b:=by
 unfold gb at h;rw[gC] at h;cases e:(List.range (b-a).toNat)[i]? with
 |none=>rw[e] at h;cases h
 |some j=>
  rw[e] at h;cases h;obtain⟨hl,rfl⟩:=eY.mp e;rw[lE] at hl;rw[DX];exact⟨rfl,by lia⟩
theorem Oo:(gb a b).length=(b-a).toNat:=by unfold gb;simp
theorem kE(h1 : -1000<=a)(h2:a<=1000):fj a=true:=by
 unfold fj;rw[dB gV,dB gV];rfl
theorem zlx(h:okR 0 j=true):prim .xM [.int j]=some (.nw (rG 0 (j-0).toNat)):=by
 show (if okR 0 j=true then some (Rz.nw (rG 0 (j-0).toNat)) else none)=_;rw[if_pos h]
theorem zn1(h:okR i j=true):prim .xM [.int i,.int j]=some (.nw (rG i (j-i).toNat)):=by
 show (if okR i j=true then some (Rz.nw (rG i (j-i).toNat)) else none)=_;rw[if_pos h]
theorem vB(hl:locs xs=[s.length])(h:W (F (dG 0 xs)) [o] λv s1=>∃d o',v=.d d/\s1=[o']/\P (.d d) (s++[o'])):W (bW F xs) (s++[o]) P:=by
 refine Ve (n:=s.length) (o:=o) hl Zaa (h.imp λv s1=>?_);rintro⟨d,o',rfl,rfl,hp⟩;exact⟨d,o',rfl,rfl,by rw[show (s++[o]).set s.length o'=s++[o'] by simp];exact hp⟩
theorem zkO{ns:List Int}{lo hi:Option Int}{x:D}(h:x∈cut (ns.map D.int) lo hi):∃n,x=.int n:=by
 have:=List.mem_of_mem_drop (Qu h);obtain⟨n,_,rfl⟩:=jO.mp this;exact⟨n,rfl⟩
theorem zkh{ns:List Int}{lo hi:Option Int}:(cut (ns.map D.int) lo hi).length<=ns.length:=by
 unfold cut;rw[vU,Aj,bI]
 lia
theorem ze5(fs:List Int):dW (fs.map D.int)=some fs:=by
 induction fs with
 |nil=>rfl
 |cons a r ih=>
  show Option.map _ (dW (r.map D.int))=_;rw[ih];rfl
noncomputable def at'(fs:List Int)(j:Int):Int:=fs.getD j.toNat 0
theorem Vq{fs:List Int}{j:Int}(h0:0<=j)(h:j<fs.length):∃(i:Nat) (hi:i<fs.length),j=i/\at' fs j=fs[i]:=by
 obtain⟨i,rfl⟩:=wH h0;have hi:i<fs.length:=by lia
 refine⟨i,hi,rfl,?_⟩;unfold at';rw[oV,nP,cX hi];rfl
theorem Gg{fs:List Int}{j:Int}(h0:0<=j)(h:j<fs.length):at' fs j∈fs:=by
 obtain⟨i,hi,_,e⟩:=Vq h0 h;rw[e];exact vV _
theorem zqj{fs:List Int}{j:Int}(h0:0<=j)(h:j<fs.length):(fs.map D.int)[j.toNat]?=some (.int (at' fs j)):=by
 obtain⟨i,hi,rfl,e⟩:=Vq h0 h;rw[e,oV,gC,cX hi];rfl
theorem Dk{fs gs:List Int}{j:Int}(h0:0<=j)(h:j<fs.length):at' (fs++gs) j=at' fs j:=by
 obtain⟨i,hi,rfl,e⟩:=Vq h0 h;unfold at';rw[oV,nP,nP,lD hi]
theorem Vr:at' (fs++[x]) fs.length=x:=by
 unfold at';rw[oV,nP,nF (bK _)];simp
theorem qP(h0:0<=j)(h:xs[j.toNat]?=some x):prim .ix [.fl xs,.int j]=some (.dat x):=by
 obtain⟨k,rfl⟩:=wH h0;exact Gf h
theorem zl0(h0:0<=j)(h:xs[j.toNat]?=some x):prim .ix [.tup xs,.int j]=some (.dat x):=qP h0 h
theorem Gh(h0:0<=j)(h:j<fs.length):prim .ix [.tup (fs.map .int),.int j]=some (.dat (.int (at' fs j))):=qP h0 (zqj h0 h)
noncomputable def eO(k a b:Int):Int:=if k-(if a-b<0 then -(a-b) else a-b)<(if a-b<0 then -(a-b) else a-b) then k-(if a-b<0 then -(a-b) else a-b) else (if a-b<0 then -(a-b) else a-b)
theorem Gi(hd:1<=d):d<=eO k a b↔(d<=a-b/\a-b<=k-d)\/(d<=b-a/\b-a<=k-d):=by
 unfold eO
 split<;>split<;>lia
structure gj(n k d:Int)(ps:List (Int×Int))(hs:List Int):Prop where
 len:(hs.length:Int)=n
 lo:∀x∈hs,0<=x/\x<k
 fit:∀p∈ps,d<=eO k (at' hs p.1) (at' hs p.2)
def Ge(h r:List Int):Prop:=∀j:Nat,j<r.length->(∀i:Nat,i<j->at' h i=at' r i)->at' r j<=at' h j
theorem zkd(xs:List D):cL 50 (.fl xs) (.fl [])=some (decide (xs=[])):=by
 cases xs with
 |nil=>rfl
 |cons x r=>rfl
theorem zm2:zc f [.fl xs,.fl []]=some (.dat (.bl (f (decide (xs=[]))))):=by
 show Option.map _ (cL 50 (.fl xs) (.fl []))=_;rw[zkd];rfl
noncomputable def aK(k d:Int):D:=.tup [.int k,.int d]
noncomputable def lA(k d:Int)(ps:List (Int×Int))(hs:List Int):Bool:=ps.all λp=>decide (d<=eO k (at' hs p.1) (at' hs p.2))
theorem zed:lA k d ps hs=true↔∀p∈ps,d<=eO k (at' hs p.1) (at' hs p.2):=by
 unfold lA;rw[dZ];exact⟨λh p hp=>fO (h p hp),λh p hp=>dB (h p hp)⟩
theorem o7{α:Type}{l:List α}{f:α->D}:l.filterMap (λx=>some (f x))=l.map f:=by
 rw[<-List.filterMap_eq_map];rfl
theorem zpt{α:Type}{l:List α}{f:α->D}{q:α->Prop}[DecidablePred q]:l.filterMap (λx=>if q x then some (f x) else none)=(l.filter λx=>decide (q x)).map f:=by
 induction l with
 |nil=>rfl
 |cons x r ih=>
  rw[DN,yM];by_cases e:q x
  ·simp[e,ih]
  ·simp[e,ih]
theorem Oq(I:Nat->Vs->S->Prop)(h0:I 0 J s)(hb:∀i x J s,c[i]?=some x->I i J s->WS (b x J) s λo s'=>(∃J',o=.nx J'/\I (i+1) J' s')\/(∃x,o=.rt x/\Q (.rt x) s'))
  (he:∀J s,I c.length J s->Q (.nx J) s):WS (cR (.fix c) b (c.length+1) 0 J) s Q:=by
 have key:∀n i J s,i+n=c.length->I i J s->WS (cR (.fix c) b (n+1) i J) s Q:=by
  intro n
  induction n with
  |zero=>
   intro i J s hi hI;have e:c[i]?=none:=by rw[o9];lia
   have:i=c.length:=by lia
   subst this;refine⟨_,s,?_,he J s hI⟩;unfold cR;simp only[Src.at,e]
  |succ n ih=>
   intro i J s hi hI;have dF:i<c.length:=by lia
   have e:c[i]?=some c[i]:=cX dF;obtain⟨o,s',eb,hr⟩:=hb i c[i] J s e hI;rcases hr with ⟨J',rfl,Dh⟩|⟨x,rfl,hq⟩
   ·obtain⟨o2,s2,e2,q⟩:=ih (i+1) J' s' gV Dh;refine⟨o2,s2,?_,q⟩;unfold cR;simp only[Src.at,e,eb];exact e2
   ·refine⟨_,s',?_,hq⟩;unfold cR;simp only[Src.at,e,eb]
 exact key c.length 0 J s gV h0
theorem KD(h:xs.length+ys.length<=sizeLine):prim .add [.tup xs,.tup ys]=some (.dat (.tup (xs++ys))):=by
 show (if _ then _ else _)=_;rw[if_pos h]
noncomputable def jN:D->Bool
 |.exc _ _=>false
 |.ob _ _=>false
 |.any=>false
 |_=>true
noncomputable def whB:D->Bool
 |.int _=>true
 |_=>false
noncomputable def nu:D->Bool
 |.tup xs=>xs.all jN
 |d=>jN d
theorem zhi{α:Type}(l:List α)(f:α->Bool):fG (l.map λx=>D.bl (f x))=some (l.map f):=by
 induction l with
 |nil=>rfl
 |cons x r ih=>
  show Option.map _ (fG (r.map λx=>D.bl (f x)))=_;rw[ih];rfl
theorem KH{α:Type}{l:List α}{f:α->Bool}:prim .all [.fl (l.map λx=>D.bl (f x))]=some (.dat (.bl (l.all f))):=by
 show Option.map _ (fG (l.map λx=>D.bl (f x)))=_;rw[zhi];show some (Rz.dat (.bl ((l.map f).all id)))=_;rw[Em];rfl
theorem zhs(h:x∈cut xs lo hi):x∈xs:=List.mem_of_mem_drop (Qu h)
theorem zgg:(cut xs lo hi).length<=xs.length:=by
 unfold cut;rw[vU,Aj]
 lia
end Mi
namespace Mi
open PySem PySem.W PyProof.Rows L2
structure Ord(n:Nat)(lt:Nat->Nat->Option Bool)(le:Nat->Nat->Prop):Prop where
 ans:∀i j,i<n->j<n->(lt i j=some true/\le i j)\/(lt i j=some false/\le j i)
 tr:∀i j k,i<n->j<n->k<n->le i j->le j k->le i k
end Mi
namespace Mi
open PySem PySem.Spec PyProof.Rows L2 PySem.W
noncomputable def zW(a b:Int×Int):Bool:=decide (a.1<b.1\/a.1=b.1/\a.2<b.2)
theorem zX{a b:Int×Int}:zW a b=true↔(a.1<b.1\/a.1=b.1/\a.2<b.2):=GD
section
variable {K:W.Frag}{cA:Cl}{U:Ph}{H:Hp}
theorem zlz{d:D}{v:V}{k:Bool}(r:Rv K cA U H d v)(e:xP d=some k):Bt K v H k:=by
 cases d with
 |non=>
  cases (show Rep K cA U H .non v from r);cases e;rfl
 |bl c=>
  cases (show Rep K cA U H (.bl c) v from r);cases e;rfl
 |int i=>
  cases (show Rep K cA U H (.int i) v from r);cases e;rfl
 |tup xs=>
  cases (show Rep K cA U H (.tup xs) v from r) with
  |tup t q=>
   cases e;refine .inr (.inl ⟨_,t.jh,?_⟩);cases q<;>rfl
 |fl xs=>
  obtain⟨a,us,rfl,sq,q⟩ : ∃a us,v=.ref a/\cQ K H a us/\aD K cA U H xs us:=r;cases e;refine .inl ⟨_,sq,?_⟩;cases q<;>rfl
 |_=>cases e
end
section
variable {X:Cx}{cA:Cl}{aq:Nat->Nat->Bool}{aj:Bool}{F:Fn}{EX:XS}{a b:Expr}{A B:E}{pos p:Pos}{x:Str}{e:Expr}{es:List Expr}{Xs:Es}
noncomputable def vC(sc:Scope)(x:Str):Bool:=match sc.names.lookup x with
 |some k=>CK k
 |none=>false
noncomputable def Ot(sc:Scope)(x:Str):Bool:=match sc.names.lookup x with
 |some .globalImplicit=>true
 |_=>false
theorem Vt{sc:Scope}{x:Str}(h:vC sc x=true):∃k,sc.names.lookup x=some k/\CK k=true:=by
 unfold vC at h;split at h
 ·rename_i k e;exact⟨k,e,h⟩
 ·cases h
theorem zjp{sc:Scope}{x:Str}(h:Ot sc x=true):sc.names.lookup x=some .globalImplicit:=by
 unfold Ot at h;split at h
 ·assumption
 ·cases h
theorem gk(h:Ot X.env.scope x=true:=by kernel_rfl):JK X x .globalImplicit:=⟨zjp h⟩
theorem jl(h:(match X.env.scope.names.lookup x with|some .local=>true|_=>false)=true:=by kernel_rfl):JK X x .local:=by
 split at h
 ·exact⟨by assumption⟩
 ·cases h
theorem jc(h:(match X.env.scope.names.lookup x with|some .cell=>true|_=>false)=true:=by kernel_rfl):JK X x .cell:=by
 split at h
 ·exact⟨by assumption⟩
 ·cases h
theorem vD{scope:Scope}{cl:List (Str×Addr)}{N:List Str}{Cc:Addr}{s3:Shared}{H3:Hp}{fp:List Addr}{ao:List (Addr×Obj)}(h:Ot scope x=true:=by kernel_rfl):JK (X.blk scope cl N Cc s3 H3 fp ao) x .globalImplicit:=zqc (zjp h) rfl
theorem gv(i:Nat)(h:(decide (X.N[i]?=some x)&&vC X.env.scope x&&okN x)=true:=by kernel_rfl):JE X cA aq aj F EX (.Name x pos) (.v i):=by
 rw[dJ,dJ] at h;obtain⟨k,e,hv⟩:=Vt h.1.2;exact g_v i (fO h.1.1) ⟨e⟩ hv h.2
theorem bV(i:Nat){scope:Scope}{cl:List (Str×Addr)}{N:List Str}{Cc:Addr}{s3:Shared}{H3:Hp}{fp:List Addr}{ao:List (Addr×Obj)}(h:(decide (N[i]?=some x)&&vC scope x&&okN x)=true:=by kernel_rfl):JE (X.blk scope cl N Cc s3 H3 fp ao) cA aq aj F EX (.Name x pos) (.v i):=by
 rw[dJ,dJ] at h;obtain⟨k,e,hv⟩:=Vt h.1.2;by_cases hk:k=.free
 ·subst hk;exact zqf i (fO h.1.1) e h.2
 ·exact g_v i (fO h.1.1) (zqc e (by cases k<;>first|rfl|exact absurd rfl hk)) hv h.2
theorem gc{f k:Nat}{cm:Bool}{st:Stmt}{ps:List Str}(Fo:cC X.prog X.w X.K X.mg X.base (gK X.prog X.w) cm k (iK X.K x) (fdOf X.K x st) ps (lu X.K cA (F f)))(D:D3 X.K X.mg x st ps)(hr:bF k X.A)(R:JR X EX)(g:JK X x .globalImplicit)(ha:JA X cA aq aj F EX (e::es) Xs)(h:okN x=true:=by kernel_rfl)
  (jz:cm=true->X.aj=true:=by first|exact λ_=>rfl|exact λz=>nomatch z) (he:aC e=true:=by rfl) (hpl:es.all aC=true:=by rfl):JE X cA aq aj F EX (.Call (.Name x p) (e::es) [] pos) (.call f Xs):=
 zny f Fo jz hr D.m D.f.kp D.b R g ha h he hpl
theorem nd(h:decide X.N.Nodup=true:=by kernel_rfl):X.N.Nodup:=fO h
end
theorem fJ{P:Program}{w:World}{K:W.Frag}{mg:Str->Option Value}{base:Heap}{cA:Cl}{aq:Nat->Nat->Bool}{T:Nat->Option Df}{x:Str}{st:Stmt}{ps:List Str}{k n:Nat}{cm:Bool}{df:Df}(D:D3 K mg x st ps)(N:List Str)(hT:T n=some df)
  (hb:∀(cdv:Value) (A:Around) (outer:List Env) (s:Shared) (H:Hp) (E:XK),bF k (A.deeper (envOfC x (au st) s.heap.objs.size (iK K x) cdv))->
   JB (gG (gK P w) P w K mg base N x (au st) (iK K x) cdv A outer s H E cm) cA aq cm (λc=>call aq T k c) (λ_ C dx H'=>E C dx H') (aL st) df.body) (S:cZ N ps (au st):=by exact⟨rfl,rfl,rfl,dk,rfl,dk,dk⟩) (hp:df.gH=ps.length:=by rfl) (hm:df.many=N.length:=by rfl) :
  cC P w K mg base (gK P w) cm (k+1) (iK K x) (fdOf K x st) ps (lu K cA (call aq T (k+1) cm n)):=zji D.f S hT hp hm hb
end Mi
namespace Mi
open PySem PySem.Spec PyProof.Rows L2
section
variable {K:W.Frag}{cA:Cl}{U:Ph}{H:Hp}{s:S}
theorem zeO{β:Type}{c:Nat}{x:Xv}{v:V}{k:List D->M β}{P:β->S->Ph->Hp->Prop}{Ee:Nat->List D->S->Ph->Hp->Prop}(r:bw K cA U H x v)(h:Run K cA (M.bd (rJ c x) k) U H s P Ee) :
  ∃fs ad dx vs,v=.ref ad/\H ad=some (.ins (cA.b c) dx ((cA.g c).zip vs))/\aD K cA U H fs vs/\Run K cA (k fs) U H s P Ee:=by
 cases r with
 |l _=>exact h.elim
 |d r=>cases r with
  |@ob ad e fs vs q r=>
   have h2:Run K cA (M.bd (if e=c then M.ret fs else M.no) k) U H s P Ee:=h;clear h;by_cases z:e=c
   ·rw[if_pos z] at h2;subst z;obtain⟨_,dx,q1,_⟩:=q;exact⟨fs,ad,dx,vs,rfl,q1,r,h2⟩
   ·rw[if_neg z] at h2;exact h2.elim
  |_=>exact h.elim
theorem Run.qt'{α:Type}{m:M α}{P:α->S->Ph->Hp->Prop}{Ee Ee':Nat->List D->S->Ph->Hp->Prop}(h:Run K cA (M.qt m) U H s P Ee):Run K cA m U H s P Ee':=by
 unfold Run M.qt at *;cases e:m s with
 |none=>rw[e] at h;exact h
 |some r=>
  obtain⟨r,s1⟩:=r;rw[e] at h;cases r with
  |ok a=>exact h
  |er c f=>exact h.elim
theorem zcq:∀{ns:List Str} {vs:List V} {m:Str},m∉ns->(ns.zip vs).lookup m=none
 |[],vs,m,_=>by simp
 |n::ns,[],m,_=>by simp
 |n::ns,v::vs,m,h=>by
  rw[GC,pq,show (m==n)=false from Ag.mpr λe=>h (by simp[e])];exact zcq λz=>h (g_ _ z)
end
structure Ow(K:W.Frag)(cA:Cl)(c:Nat):Prop where
 cl:Cls K (cA.b c)
 nf:∀f∈cA.g c,gU K (cA.b c) f
 nd:(cA.g c).Nodup
section
variable {X:Cx}{cA:Cl}{aq:Nat->Nat->Bool}{aj:Bool}{F:Fn}{EX:XS}{a e:Expr}{es:List Expr}{A:E}{Xs:Es}{pos apos p:Pos}{x:Str}
theorem zY{c i:Nat}(o:Ow X.K cA c)(ha:JE X cA aq aj F EX a A)(hi:((cA.g c)[i]?==some x)=true:=by kernel_rfl)(hb:attributeBase a x X.env (eval a X.env)=eval a X.env:=by rfl):JE X cA aq aj F EX (.Attribute a x pos) (.of A c i):=⟨PE.weak (zn9 ha.o hb) λZ H Q hh=>un hh λU J s hL hS h=>by
 refine bB hL hS h λy H1 U1 d1 s1 x1 hL1 aJ r1 h1=>?_;obtain⟨fs,ad,dx,vs,rfl,q1,q2,h2⟩:=zeO r1 h1;have hi:(cA.g c)[i]?=some x:=nR.mp hi;cases ef:fs[i]? with
 |none=>rw[ef] at h2;exact h2.elim
 |some d=>
  rw[ef] at h2;obtain⟨v,e1,rv⟩:=q2.get ef;exact⟨ad,_,dx,_,v,rfl,q1,o.cl,o.nf x (fK hi),zfA o.nd hi e1,h2.bH aJ v (.d rv)⟩⟩
theorem zfO:Passes (gK X.prog X.w) X λ_ _ _=>False:=λao Z H s e s' I h=>by
 obtain⟨_,_,_,_,_,_,_,_,_,_,z⟩:=h;exact z.elim
structure Mt(K:W.Frag)(C:Addr)(m q:Str)(st:Stmt)(ps:List Str)(f:Addr)(fd:FuncData):Prop where
 fn:oJ K m q st f fd
 mt:Meth K C m f
 bd:Binds K fd ps []
theorem yE{c f k:Nat}{cm:Bool}{m q:Str}{st:Stmt}{ps:List Str}{fa:Addr}{fd:FuncData}{pl:Sem Bool}(o:Ow X.K cA c)(D:Mt X.K (cA.b c) m q st ps fa fd)(Fo:cC X.prog X.w X.K X.mg X.base (gK X.prog X.w) cm k fa fd ps (lu X.K cA (F f)))(hr:bF k X.A)(ha:JE X cA aq aj F EX a A)(hb:JA X cA aq aj F EX (e::es) Xs)
  (hm:decide (m∉cA.g c)=true:=by kernel_rfl) (jz:cm=true->X.aj=true:=by first|exact λ_=>rfl|exact λz=>nomatch z) (he:aC e=true:=by rfl) (hpl:es.all aC=true:=by rfl)
  (ht:eval (.Call (.Attribute a m apos) (e::es) [] pos) X.env=(do
   let ov <-eval a X.env
   standAt apos.atName
   let (f,first) <-holding [ov] (getMethod ov m pl)
   callWith pos f first (backTo pos (starEach (e::es) X.env)) (backToKw pos (keywordEach [] X.env))):=by rfl):JE X cA aq aj F EX (.Call (.Attribute a m apos) (e::es) [] pos) (.cm c f A Xs):=⟨PE.weak (zk3 (pl:=pl) (oh:=[]) ha.o o.cl D.mt Fo jz hr D.bd .nil zfO hb.o (aY he) (aR hpl) ht) λZ H Q hh=>un hh λU J s hL hS h=>by
 refine bB hL hS h λy H1 U1 d1 s1 x1 hL1 aJ r1 h1=>?_;obtain⟨fs,ad,dx,vs,rfl,q1,q2,h2⟩:=zeO r1 h1;refine⟨ad,dx,_,rfl,q1,zcq (fO hm),m7 hL1 aJ h2 λus H2 U2 ds s2 x2 hL2 aV r2 h3=>?_⟩;rw[wK];obtain⟨U0,s0,a1,a2,a3⟩:=zeu (EE:=λ_ _ _ _=>False) aV (.cons (r1.mono x2 aJ.lz) r2) (λ_ _ _ _ _ _ z=>z) (h3.qt');refine⟨U0,_,s0,a1,a2,?_⟩;unfold Run at a3 ⊢;split at a3
 ·exact a3
 ·exact λU' H' x r=>(a3 U' H' x r).elim
 ·exact a3⟩
end
noncomputable def KJ(K:W.Frag)(cA:Cl)(c:Nat)(m:List Xv->M Xv):Sp:=λvs H Q _=>∃x dx us U H0 xs s,vs=.ref x::us/\H0 x=none/\H0 dx=none/\dx≠x/\H=upd (upd H0 dx (.own x)) x (.ins (cA.b c) dx [])/\aW K cA U H0 xs us/\aG K cA U H0 s /\
 Run K cA (m (.d .any::xs)) U H0 s (λr _ U' H'=>∀ds ws,r=.d (.tup ds)->aD K cA U' H' ds ws->fH U' H' x (.ins (cA.b c) dx ((cA.g c).zip ws))->(cA.g c).length=ws.length->Q .non H') (λ_ _ _ _ _=>False)
section
variable {K:W.Frag}{cA:Cl}{U:Ph}{H:Hp}{s:S}
theorem zh6{xs:List Xv}{vs:List V}(h:locs xs=[])(r:aW K cA U H xs vs)(l:List Addr):aW K cA ⟨U.z,l⟩ H xs vs:=by
 induction r with
 |nil=>exact .nil
 |cons a r ih=>cases a with
  |d a=>exact .cons (.d (Rep.zl a l)) (ih h)
  |l a=>cases h
theorem Ext.made{x dx:Addr}{C:Addr}(hx:H x=none)(hd:H dx=none)(hn:dx≠x):Ext U H (U.mark x) (upd (upd H dx (.own x)) x (.ins C dx [])):=by
 have g:bf H (upd (upd H dx (.own x)) x (.ins C dx [])):=(bf.new hd).trans (bf.new (by rw[cY hn.symm];exact hx));exact⟨⟨[],by simp[Ph.mark],by simp⟩,λa z=>.inl z,λa z=>z.imp id λe=>by rw[e];exact hx,λa o h _=>g a o h,λa o h=>⟨o,g a o h⟩⟩
theorem aG.made{x dx:Addr}{C:Addr}(hS:aG K cA U H s)(hx:H x=none)(hd:H dx=none)(hn:dx≠x):aG K cA (U.mark x) (upd (upd H dx (.own x)) x (.ins C dx [])) s:=by
 have xt:=Ext.made (U:=U) (C:=C) hx hd hn;refine⟨hS.len,λn o a e1 e2=>(hS.obj n o a e1 e2).map (λu q=>?_) λ_ _ r=>r.mono xt hS.lz,hS.uniq,λa ha=>.inl (hS.lz a ha),λa z=>?_⟩
 ·have n1:a≠x:=λy=>by rw[y,hx] at q;cases q
  have n2:a≠dx:=λy=>by rw[y,hd] at q;cases q
  rw[cY n1,cY n2];exact q
 ·rcases z with z|z
  ·obtain⟨o,e⟩:=hS.zt a z;exact xt.stay a o e
  ·subst z;exact⟨_,iY⟩
end
section
variable {X:Cx}{cA:Cl}{aq:Nat->Nat->Bool}{aj:Bool}{F:Fn}{EX:XS}{e:Expr}{es:List Expr}{Xs:Es}{pos p:Pos}{x:Str}
theorem zqh{c f k:Nat}{cm:Bool}{ps:List Str}{fa:Addr}{fd:FuncData}(M:Mk X.K (cA.b c) fa)(Fo:cC X.prog X.w X.K X.mg X.base (gK X.prog X.w) cm k fa fd ps (KJ X.K cA c (F f)))(hr:∀us,bF k (X.A.under (.builtin "type.__call__" ⟨.ref (cA.b c)::us,[]⟩)))(hb:Binds X.K fd ps [])(hm:X.mg x=some (.ref (cA.b c)))(hg:JK X x .globalImplicit)
  (ha:JA X cA aq aj F EX (e::es) Xs) (h:okN x=true:=by kernel_rfl) (jz:cm=true->X.aj=true:=by first|exact λ_=>rfl|exact λz=>nomatch z) (he:aC e=true:=by rfl) (hpl:es.all aC=true:=by rfl):JE X cA aq aj F EX (.Call (.Name x p) (e::es) [] pos) (.mk c f Xs):=⟨PE.weak (zkj (oh:=[]) M Fo jz hr hg.o hm hb .nil zfO ha.o (qN h).1 (aY he) (aR hpl)) λZ H Q hh=>un hh λU J s hL hS h=>
 m7 hL hS h λus H1 U1 ds s1 x1 hL1 aJ r1 h1 x dx hx hd hn=>by
  rw[wK];unfold Run TF at h1;by_cases hl:locs ds=[]
  ·simp only[if_pos hl] at h1;refine⟨x,dx,us,⟨U1.z,[]⟩,H1,ds,[],rfl,hx,hd,hn,rfl,zh6 hl r1 [],⟨rfl,(λn o a e=>by simp at e),Aq,(λa ha=>by cases ha),aJ.zt⟩,?_⟩;unfold Run;cases e:F f (.d .any::ds) [] with
   |none=>simp only[e] at h1
   |some r=>
    obtain⟨r,s2⟩:=r;simp only[e] at h1;cases r with
    |er c f=>exact h1.elim
    |ok r=>
     intro U' H' xt aV ts ws er rs kp hlen;subst er;have nx:¬U1.z x:=aJ.nz hx;have ne:∀a o,H1 a=some o->a≠x:=λa o q y=>by rw[y,hx] at q;cases q
     have xt2:Ext U1 H1 ⟨λa=>U'.z a/\a≠x,U1.l⟩ H':=by
      refine⟨⟨[],by simp,by simp⟩,λa z=>⟨xt.tH a z,λy=>nx (y▸z)⟩,λa z=>xt.m6 a z.1,λa o q _=>xt.frame a o q Zaa,xt.stay⟩
     refine⟨rfl,h1 _ H' xt2 ⟨aJ.len,λn o a e1 e2=>(aJ.obj n o a e1 e2).map (λu q=>xt.frame a u q Zaa) λ_ _ r=>r.mono xt2 aJ.lz,aJ.uniq,λa ha=>⟨xt.tH a (aJ.lz a ha),λy=>nx (y▸aJ.lz a ha)⟩,λa z=>aV.zt a z.1⟩ _ (.d (.ob ⟨λz=>z.2 rfl,dx,kp.at_,hlen⟩ (rs.kj (U':=⟨λa=>U'.z a/\a≠x,U1.l⟩) λ_ z=>z.1)))⟩
  ·simp only[if_neg hl] at h1⟩
end
structure yF(X:Cx)(cA:Cl)(aq:Nat->Nat->Bool)(aj:Bool)(F:Fn)(EX:XS)(c:Nat)(body:List Stmt)(is:Es)(ns:List Str):Prop where
 o:oX X body λD Z H=>∃U0 H0 U J s x dx done vs ys,Ext U0 H0 U H/\bx X.K cA U H Z J/\aG X.K cA U H s/\H0 x=none/\Z[0]?=some (some (.ref x))/\fH U H x (.ins (cA.b c) dx (done.zip vs))/\aW X.K cA U H ys vs/\done.length=vs.length/\done++ns=cA.g c/\done.length+ns.length<=900 /\
  Run X.K cA (M.bd (evs aq aj F is J) λzs=>bY (ys++zs)) U0 H0 s (λes _ U' H'=>∀ws,aD X.K cA U' H' es ws->fH U' H' x (.ins (cA.b c) dx ((cA.g c).zip ws))->(cA.g c).length=ws.length->D.nx Z H') (eX X.K cA EX Z)
theorem zeR{f:Str}{v:V}:∀{fs:List (Str×V)},f∉fs.map (·.1)->fP f v fs=fs++[(f,v)]
 |[],_=>rfl
 |(g,x)::r,h=>by
  unfold fP;rw[if_neg λe=>h (by simp[e]),zeR λz=>h (g_ _ z)];rfl
theorem aW.out{K:W.Frag}{cA:Cl}{U:Ph}{H H':Hp}(x:dH U H H'){ds:List Xv}{vs:List V}(h:aW K cA U H ds vs):aW K cA U H' ds vs:=by
 induction h with
 |nil=>exact .nil
 |cons h _ ih=>exact .cons (h.out x) ih
theorem aW.app{K:W.Frag}{cA:Cl}{U:Ph}{H:Hp}{ds es:List Xv}{vs us:List V}(h:aW K cA U H ds vs)(s:aW K cA U H es us):aW K cA U H (ds++es) (vs++us):=by
 induction h with
 |nil=>exact s
 |cons h _ ih=>exact .cons h ih
theorem Run.er{K:W.Frag}{cA:Cl}{U:Ph}{H:Hp}{s:S}{α:Type}{m:M α}{P:α->S->Ph->Hp->Prop}{Ee:Nat->List D->S->Ph->Hp->Prop}(h:Run K cA m U H s P λ_ _ _ _ _=>False):Run K cA m U H s P Ee:=by
 unfold Run at *;split at h
 ·exact h
 ·exact λU' H' x r=>(h U' H' x r).elim
 ·exact h
section
variable {X:Cx}{cA:Cl}{aq:Nat->Nat->Bool}{aj:Bool}{F:Fn}{EX:XS}{c:Nat}{a:Expr}{A:E}{is:Es}{ns:List Str}{body:List Stmt}{f:Str}{pos p p2:Pos}
theorem znr:yF X cA aq aj F EX c [] .nil []:=⟨λao s Z H D I hh=>Yz ao s Z H D I (by
 obtain⟨U0,H0,U,J,st,x,dx,done,vs,ys,xt,hL,hS,hx,h0,kp,rs,hl,hg,hz,h⟩:=hh;rw[wK] at hg;subst hg;have h2:Run X.K cA (M.bd (bY ys) M.ret) U H st (λes _ U' H'=>∀ws,aD X.K cA U' H' es ws->fH U' H' x (.ins (cA.b c) dx ((cA.g c).zip ws))->(cA.g c).length=ws.length->D.nx Z H') (eX X.K cA EX Z):=by
  have h3:=h.ext xt;unfold Run at h3 ⊢;have e0:M.bd (evs aq aj F .nil J) (λzs=>bY (ys++zs)) st=bY ys st:=by show bY (ys++[]) st=_;rw[wK]
  rw[e0] at h3;unfold M.bd;cases e1:bY ys st with
  |none=>rw[e1] at h3;exact h3
  |some r=>
   obtain⟨r,s2⟩:=r;rw[e1] at h3;cases r with
   |er c f=>exact h3
   |ok ds=>exact h3
 obtain⟨ds,_,rs2,h4⟩:=NK rs h2;exact h4.bH hS vs rs2 kp hl)⟩
theorem Ou{j:Nat}(ow:Ow X.K cA c)(ha:JE X cA aq aj F EX a A)(hr:yF X cA aq aj F EX c body is ns)(h0:(decide (X.N[0]?=some ("self" : Str))&&vC X.env.scope "self"&&okN "self")=true:=by kernel_rfl)
  (hs:swapsWith a (some (.Attribute (.Name "self" p) f p2)) pos.line X.env=pure false:=by rfl):yF X cA aq aj F EX c (.Assign [.Attribute (.Name "self" p) f p2] a pos::body) (.cons A is) (f::ns):=by
 rw[dJ,dJ] at h0;obtain⟨k,e,hv⟩:=Vt h0.1.2;refine⟨λao s Z H D I hh=>YB (zmp (Ys (i:=0) (fO h0.1.1) (by cases k<;>first|exact .inl e|exact .inr (.inl e)|exact .inr (.inr e)|cases hv) (qN h0.2).1 (qN h0.2).2.1) ha.o hs) hr.o ao s Z H D I ?_⟩;obtain⟨U0,H0,U,J,st,x,dx,done,vs,ys,xt,hL,hS,hx,hx0,kp,rs,hl,hg,hz,h⟩:=hh;have h:Run X.K cA (M.bd (M.bd (ev aq aj F A J) λy=>M.bd (evs aq aj F is J) λzs=>M.ret (y::zs)) λzs=>bY (ys++zs)) U0 H0 st _ _:=h;simp only[jJ] at h;refine⟨U,J,st,hL,hS,(h.bd0 xt).imp λy s1 U1 H1 ⟨x1,aJ,h1⟩ v rv=>?_⟩;have Ov:=kp.mono x1;have nf:f∈cA.g c:=by rw[<-hg];simp
 have nd:f∉done:=λz=>by
  have:=ow.nd;rw[<-hg,LQ] at this;exact this.2.2 f z f Zaa rfl
 have hk:(done.zip vs).map (·.1)=done:=by rw[List.map_fst_zip];lia
 refine⟨.ref x,hx0,x,_,dx,_,rfl,Ov.at_,ow.cl,ow.nf f nf,?_,?_⟩
 ·have:(done.zip vs).length<=done.length:=by rw[List.length_zip];lia
  simp at hz
  lia
 rw[zeR (by rw[hk];exact nd)];have ez:done.zip vs++[(f,v)]=(done++[f]).zip (vs++[v]):=by rw[List.zip_append hl];rfl
 rw[ez];have ox:dH U1 H1 (upd H1 x (.ins (cA.b c) dx ((done++[f]).zip (vs++[v])))):=Ov.ext.1;refine⟨U0,H0,U1,J,s1,x,dx,done++[f],vs++[v],ys++[y],Ext.keep (vs:=[]) (xt.trans x1) hx,(hL.mono x1 hS.lz).out ox,aJ.keep Ov,hx,hx0,Ov.ext.2,((rs.mono x1 hS.lz).app (.cons rv .nil)).out ox,by simp[hl],by rw[<-hg,Ah];rfl,by simp at hz ⊢;lia,?_⟩;have h1:Run X.K cA (M.bd (evs aq aj F is J) λzs=>M.bd (M.ret (y::zs)) λzs=>bY (ys++zs)) U0 H0 s1 _ _:=h1;have e2:(λzs=>bY (ys++[y]++zs))=λzs=>M.bd (M.ret (y::zs)) λzs=>bY (ys++zs):=by
  funext zs
  rw[Ah];rfl
 rw[e2];exact h1
end
theorem zh5{K:W.Frag}{cA:Cl}{U:Ph}{H:Hp}{s:S}{α:Type}{m m':M α}{P:α->S->Ph->Hp->Prop}{Ee:Nat->List D->S->Ph->Hp->Prop}(e:m s=m' s)(h:Run K cA m U H s P Ee):Run K cA m' U H s P Ee:=by
 unfold Run at *;rw[<-e];exact h
theorem zfM{aq:Nat->Nat->Bool}{T:Nat->Option Df}{k n m p:Nat}{cm:Bool}{is:Es}{xs:List Xv}{s:S}(hT:T n=some ⟨m,p,.cons (.ret (.tup is)) .nil⟩)(hl:xs.length=p) :
  call aq T (k+1) cm n xs s=M.bd (M.bd (evs aq cm (call aq T k cm) is (xs.map some++List.replicate (m-p) none)) bY) (λds=>M.ret (.d (.tup ds))) s:=by
 unfold call;simp only[hT,if_pos hl];show (match cH (ofM (M.bd (evs aq cm (call aq T k cm) is _) λvs=>M.bd (bY vs) λds=>M.ret (.d (.tup ds))) _ λx s=>some (.rt x,s)) _ s with|some (.nx _,s')=>_|some (.rt v,s')=>_|some (.er c fs _,s')=>_|_=>none)=_;rw[jJ];unfold cH ofM;cases e:M.bd (evs aq cm (call aq T k cm) is (xs.map some++List.replicate (m-p) none)) (λvs=>M.bd (bY vs) λds=>M.ret (Xv.d (.tup ds))) s with
 |none=>rfl
 |some r=>
  obtain⟨r,s1⟩:=r;cases r<;>rfl
theorem zkD{P:Program}{w:World}{K:W.Frag}{mg:Str->Option Value}{base:Heap}{cA:Cl}{aq:Nat->Nat->Bool}{T:Nat->Option Df}{x qual:Str}{st:Stmt}{f:Addr}{fd:FuncData}{N ps:List Str}{k n c m p:Nat}{cm:Bool}{is:Es}(F:oJ K x qual st f fd)(hT:T n=some ⟨m,p,.cons (.ret (.tup is)) .nil⟩)
  (hb:∀(cdv:Value) (A:Around) (outer:List Env) (s:Shared) (H:Hp) (E:XK),bF k (A.deeper (envOfC qual (au st) s.heap.objs.size f cdv))->
   yF (gG (gK P w) P w K mg base N qual (au st) f cdv A outer s H E cm) cA aq cm (call aq T k cm) (λ_ C dx H'=>E C dx H') c (aL st) is (cA.g c)) (hg:(cA.g c).length<=900) (S:cZ N ps (au st):=by exact⟨rfl,rfl,rfl,dk,rfl,dk,dk⟩) (hp:p=ps.length:=by rfl) (hm:m=N.length:=by rfl) (h0:0<p:=by decide) :
  cC P w K mg base (gK P w) cm (k+1) f fd ps (KJ K cA c (call aq T (k+1) cm n)):=by
 obtain⟨oc,od,kV,doc,pm,an,cdv,ct,osl,rfl,lk,kW⟩:=F.ex;have hlen:∀{U:Ph} {H:Hp} {s:Mi.S} {xs:List Xv} {P:Xv->Mi.S->Ph->Hp->Prop},Run K cA (call aq T (k+1) cm n (.d .any::xs)) U H s P (λ_ _ _ _ _=>False)->xs.length+1=p:=λ{U H s xs P} h=>by
  unfold call at h;simp only[hT] at h;by_cases hl:(Xv.d D.any::xs).length=p
  ·simpa using hl
  ·rw[if_neg hl] at h;exact h.elim
 refine Y0 lk kW S (λvs H Q E hz=>?_) λA outer s H vs Q E hr hz=>?_
 ·obtain⟨x,dx,us,U,H0,xs,s,e,_,_,_,_,r,_,h⟩:=hz;have:=hlen h;rw[e,gD,<-r.len,<-hp]
  lia
 ·obtain⟨x,dx,us,U,H0,xs,st',e,hx,hd,hn,eH,r,hS,h⟩:=hz;refine⟨_,(hb cdv A outer s H E (hr.deeper _)).o,?_⟩;subst e eH;have hl:=hlen h;have xt:=Ext.made (U:=U) (C:=cA.b c) hx hd hn;refine⟨U,H0,U.mark x,(Xv.d .any::xs).map some++List.replicate (m-p) none,st',x,dx,[],[],[],xt,zcA (.cons (.d (.any x)) (r.mono xt hS.lz)) (by simp;lia) hm,hS.made hx hd hn,hx,rfl,⟨iY,λz=>hS.nz hx (hS.lz x z),.inr rfl⟩,.nil,rfl,rfl,by simpa using hg,?_⟩;have h2:=(zh5 (zfM hT (by simpa using hl)) h).bd0 Ext.refl;exact Run.er (Run.imp h2 λds s1 U1 H1 ⟨x1,aJ,h4⟩ ws rs kp hl=>h4 U1 H1 x1 aJ ds ws rfl rs kp hl)
section
variable {prog:Program}{w:World}{A:Around}{E:Value->Shared->Prop}{s:Shared}
theorem zeb{r:Addr}{n:Nat}{lo hi:Int}{t u v:Tok}{Q:List Value->Shared->Prop}(hh:A.handled=none)(hr:IsRange s.heap r lo hi 1 t u v)(hs:Builtin.Range.small lo hi 1=true)(hn:Builtin.Range.rangeSize lo hi 1=n)(hl:n<=65536)
  (q:∀(h':Heap) (tk:Nat) (acc:Array Value),(∀b o,s.heap.get? b=some o->h'.get? b=some o)->ItemsOf (λi v=>∃t,v=.int (lo+i*1) t) acc n->Q acc.toList {s with heap:=h',toks:=tk}):wpAny (model prog w) A (collect (.ref r)) Q E s:=by
 unfold collect;refine aB (wpAny_runValue (Eh F.entry_proto_collect ?_));rw[DK F.plain_proto_collect _];refine aB (m:=newList []) (wpAny_newList (aZ ⟨Ek F.plain_list_iadd _,Eh F.entry_list_iadd ?_⟩));rw[DK F.plain_list_iadd _];have fin:∀{r':Result} {s':Shared},(∃h' tk acc c,r'=.ok (.ret (.ref s.heap.objs.size))/\s'={s with heap:=h',toks:=tk}/\h'.get? s.heap.objs.size=some (seqObj "list" acc c)/\(∀b o,s.heap.get? b=some o->h'.get? b=some o)/\ItemsOf (λi v=>∃t,v=.int (lo+i*1) t) acc n)->(match r' with
   |.ok (.ret v)=>wpAny (model prog w) A (match v with
    |.ref a=>do
     match (<-load a).data with
      |.seq xs _=>pure xs.toList
      |_=>unsupported "internal:collect"
    |_=>unsupported "internal:collect") Q E s'
   |.ok _=>False
   |.error e=>E e s'):=λ{r' s'} z=>by
  obtain⟨h',tk,acc,c,rfl,rfl,hS,kp,sH⟩:=z;exact aB (wpAny_load hS (aZ (q h' tk acc kp sH)))
 refine lH (wpAny_extend_range (A:=A) (s:={s with heap:=s.heap.push (seqObj "list" #[] 0)}) (R:=λr' s'=>∃h' tk acc c,r'=.ok (.ret (.ref s.heap.objs.size))/\s'={s with heap:=h',toks:=tk}/\h'.get? s.heap.objs.size=some (seqObj "list" acc c)/\(∀b o,s.heap.get? b=some o->h'.get? b=some o)/\ItemsOf (λi v=>∃t,v=.int (lo+i*1) t) acc n)
  hh (cN _ hr) hs hn gV s.heap.objs.size (.ref s.heap.objs.size) 0 (fL _ rfl) λh' tk acc c kp hS sH=>⟨h',tk,acc,c,rfl,rfl,hS,λb o e=>kp b o (dX (cg e)) (cN _ e),sH⟩) (λf s' z=>?_) λe s' z=>?_
 ·cases f with
  |done f=>exact fin z
  |again c'=>exact⟨z.1,El z.2 λr s'' hr=>fin hr⟩
 ·obtain⟨_,_,_,_,e,_⟩:=z;cases e
end
theorem zfc(r:Addr)(lo hi:Int)(t u v:Tok)(n:Nat)(hs:Builtin.Range.small lo hi 1=true)(hn:Builtin.Range.rangeSize lo hi 1=n)(hl:n<=65536):Meets (Builtin.«tuple.__new__» ⟨[.type "tuple",.ref r],[]⟩)
   (λA R s=>A.handled=none/\IsRange s.heap r lo hi 1 t u v/\∀(h':Heap) (tk:Nat) (acc:Array Value),(∀b o,s.heap.get? b=some o->h'.get? b=some o)->ItemsOf (λi v=>∃t,v=.int (lo+i*1) t) acc n->R (.ok (.ret (.ref h'.objs.size))) {s with heap:=h'.push {cls:=.type "tuple",data:=.seq acc},toks:=tk}):=
 .of_wp λprog w A R s h=>by
  obtain⟨hh,hr,h⟩:=h;have hsub:=sub_tuple_self;have hinit:=init_tuple_lookup;have hmh:=madeHere_tuple;have hT:s.TypeIs (.ref r) "range":=⟨_,hr,rfl⟩;have hh1:A.in1.handled=none:=hh
  wp_walk using wpAny_typeOf hT,Lr hr,zeb hh1 hr hs hn hl
  intro h' tk acc hk sH;show wpAny _ _ (Builtin.Tuple.tupleExact acc.toList.toArray >>= λv=>ret v) _ _ _;unfold Builtin.Tuple.tupleExact;have e:acc.toList.toArray=acc:=by simp
  rw[e];exact aB (vQ (aZ ⟨_,rfl,h h' tk acc hk sH⟩) (show acc.size<=sizeLine by rw[sH.1];exact jo hl Vu))
section
variable {X:Cx}
theorem zcg{ao:List (Addr×Obj)}{Z:L2.St}{H:Hp}{s:Shared}{Q:VK}{hi:Int}{t u v:Tok}{tk:Nat}(hc:X.aj=true)(I:Inv X ao Z H s)(hk:okR 0 hi=true)
  (q:∀l,H l=none->Q (.ref l) (upd H l (.tup (tQ 0 (hi-0).toNat)))) :
  wpAny (model X.prog X.w) X.A (PySem.call (.type "tuple") [.ref s.heap.objs.size]) (EP X ao Z Q) X.xe {s with heap:=s.heap.push {cls:=.type "range",data:=.fields #[.int 0 t,.int hi u,.int 1 v]},toks:=tk}:=by
 obtain⟨h1,h2,h3,h4,h5⟩:=fO hk;have en:Builtin.Range.rangeSize 0 hi 1=((hi-0).toNat:Nat):=by rw[zs1];split<;>lia
 refine callType_new F.called_tuple Vu (F.typeCall_tuple_1 _) (F.newCall_tuple_1 _) (λobj=>F.args_object_init_2 obj _) F.entry_tuple_new (zfc _ 0 hi t u v _ (small_one h1 h2 h3 h4) en h5) ⟨I.ok.hd hc,IsRange.new ..,λh' tk' acc kp ⟨z1,z2⟩=>?_⟩;have hv:Vals (tQ 0 (hi-0).toNat) acc.toList:=by
  have:=zfJ (i:=0) (acc:=acc) (n:=(hi-0).toNat) (m:=0) (λk v e=>by
   obtain⟨t,e⟩:=z2 k v (by simpa using e);exact⟨t,by rw[e,Int.mul_one,G5]⟩) (by rw[vO];exact z1)
  simpa [tQ] using this
 have hz:s.heap.objs.size<=h'.objs.size:=yO (cg (kp _ _ (fL s.heap rfl)));have I':=I.laid (a:=h'.objs.size) (o:=.tup (tQ 0 (hi-0).toNat)) (h':=h'.push {cls:=.type "tuple",data:=.seq acc}) (t':=tk') (λb u q=>cN _ (kp b u (cN _ q))) hz (show aP X.prog X.w _ _ _ (.tup (tQ 0 (hi-0).toNat)) from ⟨by
  rw[hv.length,vO,z1];exact jo h5 Vu,acc.toList,hv,⟨_,fL _ rfl,rfl,0,by simp,rfl⟩⟩)
 exact⟨⟨_,fL _ rfl,rfl⟩,.ref h'.objs.size,_,I',rfl,q _ (I.hok.fresh hz)⟩
def KN(vs:List V)(H:Hp)(Q:VK):Prop:=∃j:Int,vs=[.int j]/\okR 0 j=true/\∀l,H l=none->Q (.ref l) (upd H l (.tup (tQ 0 (j-0).toNat)))
theorem zmM{e:Expr}{t:TA}{p p' pos pos':Pos}(hc:X.aj=true)(hg:Gl X "tuple")(hm:X.mg "tuple"=none)(rZ:Gl X "range")(yw:X.mg "range"=none)(ha:PA X [e] t)(he:starEach [e] X.env=(false,eval e X.env)::starEach [] X.env:=by rfl) :
  PE X (.Call (.Name "tuple" p) [.Call (.Name "range" p') [e] [] pos'] [] pos) (M7 KN t):=by
 intro ao s Z H Q I h;refine yI (qZ I hg hm FQ ?_);refine tV ?_ rfl rfl;show wpAny _ _ (spliced ((false,eval (.Call (.Name "range" p') [e] [] pos') X.env)::backTo pos (starEach [] X.env))) _ _ s;refine Lx ?_;refine yI (qZ I rZ yw boot_range ?_);refine tV (bA (ha pos' ao s Z H _ I h) λus s1 hz=>?_) he rfl;obtain⟨vs,H1,I1,r1,q1⟩:=hz;obtain⟨j,rfl,hk,q⟩:=q1;cases r1 with
 |cons r rr=>
  cases rr;obtain⟨t,rfl⟩:=r;exact call_range_1 (GJ (zcg hc I1 hk q))
theorem znV{e:Expr}{te:TE}(h:PE X e te)(he:∀whole,isTrue e X.env whole=(do let v <-whole;standAt e.pos;holding [v] (truthy v))):PT X e (λZ H Q=>te Z H λx H1=>∃k,Bt X.K x H1 k/\Q k H1):=by
 intro ao s Z H Q I hw;exact isTrue_plain (bA (h ao s Z H _ I hw) λv s1 hx=>dY hx λx H1 I1 r1 q1=>znd ao s1 Z H1 x v Q I1 r1 q1) (he _)
end
section
variable {K:W.Frag}{cA:Cl}{U:Ph}{H:Hp}
theorem zna:bD K cA .Fl KN:=by
 intro U H ds vs Q zt rs o;have o:bC K cA U H (Cq ds) Q:=o;unfold Cq at o;split at o
 ·rename_i j _;obtain⟨v,rfl,r1⟩:=rs.one;cases (show Rep K cA U H (.int j) v from r1);by_cases hk:okR 0 j=true
  ·rw[if_pos hk] at o;exact⟨j,rfl,hk,λl hl=>o.tup zt (Og _) hl⟩
  ·rw[if_neg hk] at o;exact o.elim
 ·exact o.elim
end
section
variable {X:Cx}{cA:Cl}{aq:Nat->Nat->Bool}{aj:Bool}{F:Fn}{EX:XS}{a e:Expr}{A:E}{pos pos' p p':Pos}{Xs:Es}{fz:Bool}
theorem zpn(hc:X.aj=true)(hm:X.mg "tuple"=none)(hg:JK X "tuple" .globalImplicit)(yw:X.mg "range"=none)(rZ:JK X "range" .globalImplicit)(ha:JA X cA aq aj F EX [e] Xs)(he:aC e=true:=by rfl):JE X cA aq aj F EX (.Call (.Name "tuple" p) [.Call (.Name "range" p') [e] [] pos'] [] pos) (.pr fz .Fl Xs):=⟨PE.weak (zmM hc hg.o hm rZ.o yw ha.o (aY he)) λZ H Q hh=>un hh λU J s hL hS h=>
 m7 hL hS h λvs H1 U1 ds s1 x1 hL1 aJ r1 h1=>by
  obtain⟨ds,rs,h3⟩:=tL aJ r1 h1;exact zna U1 H1 ds _ _ aJ.zs rs (rN aJ h3)⟩
theorem zoR(ha:JE X cA aq aj F EX a A)(he:zP a=true:=by rfl):JT X cA aq aj F EX a (.Fp A):=⟨PT.weak (znV ha.o (by cases a<;>first|(intro _;rfl)|cases he)) λZ H Q hh=>un (zgn hh) λU J s hL hS h=>by
 refine bB hL hS h λx H1 U1 d1 s1 x1 hL1 aJ r1 h1=>?_;obtain⟨dd,rv,h2⟩:=JV aJ r1 h1;obtain⟨bb,e,h3⟩:=Ny h2;obtain⟨c,ec,q⟩:=h3.bH aJ _ (.d (.bl bb));cases ec;exact⟨bb,zlz rv e,q⟩⟩
end
def gZ(h:Heap)(items:Array Value)(rows:List (List Int))(no:List Addr):Prop:=∀i v,items[i]?=some v->∃a xs,v=.ref a/\IsTup h a xs/\IntsAre xs.toList (rows.getD i [])/\a∉no
theorem gZ.keep{h h':Heap}{items:Array Value}{rows:List (List Int)}{no:List Addr}(g:gZ h items rows no)(k:∀b o,b∉no->h.get? b=some o->h'.get? b=some o):gZ h' items rows no:=λi v e=>by
 obtain⟨a,xs,e1,⟨o,e2,r⟩,e3,e4⟩:=g i v e;exact⟨a,xs,e1,⟨o,k a o e4 e2,r⟩,e3,e4⟩
noncomputable abbrev wB(rows:List (List Int))(i j:Nat):Bool:=HT.lexLt (rows.getD i []) (rows.getD j [])
section
variable {prog:Program}{w:World}{A:Around}{R:Result->Shared->Prop}{I S l:Addr}{items:Array Value}{rows:List (List Int)}
theorem zjI{s:Shared}{i j:Nat}{u v:Value}{Q:Value->Shared->Prop}{E:Value->Shared->Prop}(hu:A.units<cLine)(g:gZ s.heap items rows [I,S])(h1:items[i]?=some u)(h2:items[j]?=some v)(q:Q (.bool (wB rows i j)) s):wpAny (model prog w) A (richCompare .Lt u v) Q E s:=by
 obtain⟨a,xs,rfl,p1,i1,_⟩:=g i u h1;obtain⟨b,ys,rfl,p2,i2,_⟩:=g j v h2;exact HT.jV p1 p2 i1 i2 hu q
theorem zfh(hh:A.handled=none)(hu:A.units+1<cLine)(hlI:l≠I)(hS:S∉[I,l]):∀(k j:Nat) (s:Shared) (vb:Value) (c:Nat),items.size-(j+1)=k->j+1<=items.size->(s.heap.IsListIter I l (j+1)/\s.heap.IsList l items)->items[argBest (wB rows) j]?=some vb->gZ s.heap items rows [I,S]->
  s.heap.get? S=some (seqObj "list" #[vb,vb] c)->(∀v h' tk,items[argBest (wB rows) (items.size-1)]?=some v->(∀b o,b∉[I,S]->s.heap.get? b=some o->h'.get? b=some o)->R (.ok (.ret v)) {s with heap:=h',toks:=tk})->
  codeAny (model prog w) A (.builtin "min.loop" ⟨[.ref I,.none,.ref S],[]⟩) R s:=by
 have W:=Walks.list (prog:=prog) (w:=w) (A:=A.in1) hh I l hlI items;have nm:(toString "min"++toString ".loop" : String)="min.loop":=by decide
 have SI:S∉[I]:=λz=>hS (by simp at z;simp[z]);intro k
 induction k with
 |zero=>
  intro j s vb c e1 e2 st hb g oS q;refine Eh F.entry_min_loop ?_;rw[DK Am _];refine aB (m:=seqItems? (.ref S)) (qW oS rfl ?_);refine aB (m:=tryCatch (pyNext (.ref I)) _) (wpAny_tryCatch (W.done s _ _ ((show j+1=items.size by lia)▸st) λh' tk kp=>?_));refine aB (m:=updateSeq S λ_=>#[]) (wpAny_updateSeq (kp S _ SI oS) rfl (aB (Ar (aZ (q vb _ tk ?_ λb o hb e=>?_)))))
  ·rw[show items.size-1=j by lia];exact hb
  ·exact(wI _ _ (λz=>hb (by simp[z]))).trans (kp b o (λz=>hb (by simp at z;simp[z])) e)
 |succ k ih=>
  intro j s vb c e1 e2 st hb g oS q;refine Eh F.entry_min_loop ?_;rw[DK Am _];refine aB (m:=seqItems? (.ref S)) (qW oS rfl ?_);refine aB (m:=tryCatch (pyNext (.ref I)) _) (wpAny_tryCatch (W.item (j+1) s _ _ gV st λv h' tk hP st' kp=>?_));have Vv:=kp S _ SI oS;have g':gZ h' items rows [I,S]:=g.keep λb o hb e=>kp b o (λz=>hb (by simp at z;simp[z])) e;refine aB (m:=tryCatch (holding [v,v] (richCompare .Lt v vb >>= _)) _) (wpAny_tryCatch (sX (aB (zjI (A:=A.in1) (s:={s with heap:=h',toks:=tk}) hu g' hP hb ?_))));refine aB (sX (vP (aB (Ar (aZ ?_)))));cases e3:wB rows (j+1) (argBest (wB rows) j) with
  |true=>
   simp only[if_true];refine aB (wpAny_updateSeq Vv rfl (aB (Ar ?_)));rw[nm];have Gj:∀b o,b≠S->h'.get? b=some o->(h'.update S (Obj.mapSeq λ_=>#[v,v])).get? b=some o:=λb o hb e=>(wI _ _ (Ne.symm hb)).trans e;refine aZ ⟨Ek Am _,ih (j+1) _ v _ gV gV (W.frame _ _ _ st' λb hb o e=>Gj b o (λz=>hS (by rw[<-z];exact hb)) e) (by simp only[argBest,e3,if_true];exact hP) (g'.keep λb o hb e=>Gj b o (λz=>hb (by simp[z])) e) (Af _ Vv rfl) λv' h2 tk2 KQ KR=>q v' h2 tk2 KQ λb o hb e=>KR b o hb (Gj b o (λz=>hb (by simp[z])) (kp b o (λz=>hb (by simp at z;simp[z])) e))⟩
  |false=>
   simp only[yJ,sZ];refine aB (Ar ?_);rw[nm];exact aZ ⟨Ek Am _,ih (j+1) _ vb c gV gV st' (by simp only[argBest,e3,yJ,sZ];exact hb) g' Vv λv' h2 tk2 KQ KR=>q v' h2 tk2 KQ λb o hb e=>KR b o hb (kp b o (λz=>hb (by simp at z;simp[z])) e)⟩
theorem zfn{s:Shared}{E:Value->Shared->Prop}{Q:Value->Shared->Prop}(hh:A.handled=none)(hu:A.units+2<cLine)(hl:s.heap.IsList l items)(h0:0<items.size)(g:gZ s.heap items rows [])
  (q:∀v h' tk,items[argBest (wB rows) (items.size-1)]?=some v->(∀b o,s.heap.get? b=some o->h'.get? b=some o)->Q v {s with heap:=h',toks:=tk}):wpAny (model prog w) A (PySem.call (.builtin "min") [.ref l]) Q E s:=by
 have nm:(toString "min"++toString ".loop" : String)="min.loop":=by decide
 have dF:l<s.heap.objs.size:=by obtain⟨o,e,_⟩:=hl;exact cg e
 refine call_function_tree F.kind_min F.plain_min F.entry_min (F.args_min1 _) ?_;refine aB (m:=Builtin.Builtins.bindParams "min" ["key","default"] 0 ⟨[],[]⟩) (vY (show Builtin.Builtins.bindParams "min" ["key","default"] 0 ⟨[],[]⟩=pure [none,none] from rfl) (aB (aZ ?_)));refine aB (LC hl (aB (vQ ?_)));rw[nm];have n1:(s.heap.push {cls:=.type "list_iterator",data:=.fields #[.ref l,.int 0 0]}).objs.size=s.heap.objs.size+1:=tZ ..;refine aZ ⟨Ek Am _,?_⟩;refine Eh F.entry_min_loop ?_;rw[DK Am _];have W:=Walks.list (prog:=prog) (w:=w) (A:=A.in1) hh s.heap.objs.size l (dX dF) items;have oS:((s.heap.push {cls:=.type "list_iterator",data:=.fields #[.ref l,.int 0 0]}).push (seqObj "list" #[] 0)).get? (s.heap.objs.size+1)=some (seqObj "list" #[] 0):=by rw[<-n1];exact fL _ rfl
 have k0:∀b o,s.heap.get? b=some o->((s.heap.push {cls:=.type "list_iterator",data:=.fields #[.ref l,.int 0 0]}).push (seqObj "list" #[] 0)).get? b=some o:=λb o e=>cN _ (cN _ e);rw[n1];refine aB (m:=seqItems? (.ref (s.heap.objs.size+1))) (qW oS rfl ?_);refine aB (m:=tryCatch (pyNext (.ref s.heap.objs.size)) _) (wpAny_tryCatch (W.item 0 _ _ _ h0 ⟨⟨_,cN _ (fL _ rfl),rfl,rfl⟩,hl.at λo e=>k0 l o e⟩ λv h' tk hP st' kp=>?_));have ne1:s.heap.objs.size+1∉[s.heap.objs.size]:=by simp
 refine aB (m:=updateSeq (s.heap.objs.size+1) λ_=>#[v,v]) (wpAny_updateSeq (kp _ _ ne1 oS) rfl ?_);rw[nm];have Gj:∀b o,b≠s.heap.objs.size+1->h'.get? b=some o->(h'.update (s.heap.objs.size+1) (Obj.mapSeq λ_=>#[v,v])).get? b=some o:=λb o hb e=>(wI _ _ (Ne.symm hb)).trans e;have KY:∀b o,s.heap.get? b=some o->(h'.update (s.heap.objs.size+1) (Obj.mapSeq λ_=>#[v,v])).get? b=some o:=λb o e=>Gj b o (dX (vR (cg e))) (kp b o (by simpa using dX (cg e)) (k0 b o e));have out:∀b o,s.heap.get? b=some o->b∉[s.heap.objs.size,s.heap.objs.size+1]:=λb o e z=>by
  rcases gF.mp z with z|z
  ·exact absurd z (dX (cg e))
  ·exact absurd (sW.mp z) (dX (vR (cg e)))
 refine aZ ⟨Ek Am _,zfh (A:=A) (rows:=rows) hh gV (dX dF) (λz=>by
  rcases gF.mp z with z|z
  ·exact absurd z (Nat.succ_ne_self _)
  ·exact absurd (sW.mp z) (wL (vR dF))) _ 0 _ v _ rfl h0 (W.frame _ _ _ st' λb hb o e=>Gj b o (λz=>by
  rcases gF.mp hb with y|y
  ·exact absurd (z.symm.trans y) (Nat.succ_ne_self _)
  ·exact absurd (z.symm.trans (sW.mp y)) (wL (vR dF))) e) hP ?_ (Af _ (kp _ _ ne1 oS) rfl) λv' h2 tk2 KQ KR=>q v' h2 tk2 KQ λb o e=>KR b o (out b o e) (KY b o e)⟩
 intro i u e;obtain⟨a,xs,e1,⟨o,e2,r⟩,e3,_⟩:=g i u e;exact⟨a,xs,e1,⟨o,KY a o e2,r⟩,e3,out a o e2⟩
end
theorem zeT{x:List Int}{rs:List (List Int)}:∀k,k<=rs.length->(x::rs).getD (argBest (wB (x::rs)) k) []=fZ x (rs.take k)
 |0,_=>rfl
 |k+1,hk=>by
  have ih:=zeT (x:=x) (rs:=rs) k gV;have app:∀(a b:List (List Int)) (y:List Int),fZ y (a++b)=fZ (fZ y a) b:=λa=>by
   induction a with
   |nil=>intro b y;rfl
   |cons z a ih=>intro b y;exact ih b _
  have ht:rs.take (k+1)=rs.take k++[rs[k]' gV]:=List.take_succ_eq_append_getElem gV;have hv:(x::rs).getD (k+1) []=rs[k]' gV:=by
   rw[nP,Dz,cX gV];rfl
  rw[ht,app,<-ih];show _=(if ltI (rs[k]' gV) _=true then _ else _);rw[argBest.eq_2,T9];unfold wB;rw[hv]
  split
  ·exact hv
  ·rfl
theorem zcs{K:W.Frag}{cA:Cl}{U:Ph}{H:Hp}:∀{xs:List D} {rs:List (List Int)} {vs:List V},j8 xs=some rs->aD K cA U H xs vs->rs.length=vs.length/\∀(i:Nat) v,vs[i]?=some v->∃a,v=.ref a/\TupAt K U H a ((rs.getD i []).map .int)
 |[],rs,vs,h,r=>by cases h;cases r;exact⟨rfl,λi v e=>by simp at e⟩
 |d::xs,rs,vs,h,r=>by
  cases r with
  |cons q r=>cases q with
   |@tup a ys us t ts=>
    unfold j8 at h;cases e1:cD ys with
    |none=>simp only[e1] at h;cases h
    |some is=>cases e2:j8 xs with
     |none=>simp only[e1,e2] at h;cases h
     |some rr=>
      simp only[e1,e2] at h;cases h;obtain⟨l,k⟩:=zcs e2 r;refine⟨by simp[l],λi v e=>?_⟩;cases i with
      |zero=>
       simp at e;subst e;refine⟨a,rfl,?_⟩;show TupAt K U H a (is.map V.int);rw[<-show _=is.map V.int from NQ e1 ts];exact t
      |succ i=>exact k i v (by simpa using e)
   |_=>cases h
section
variable {X:Cx}{cA:Cl}{aq:Nat->Nat->Bool}{aj:Bool}{F:Fn}{EX:XS}{e:Expr}{pos p:Pos}{es:List Expr}{Xs:Es}{fz:Bool}
def vG(K:W.Frag)(vs:List V)(H:Hp)(Q:VK):Prop:=∃(l:Addr) (x:List Int) (rs:List (List Int)) (us:List V),vs=[.ref l]/\cQ K H l us/\(x::rs).length=us.length/\(∀(i:Nat) v,us[i]?=some v->∃a,v=.ref a/\fU K H a (((x::rs).getD i []).map V.int))/\∀(i:Nat) a,us[i]?=some (.ref a)->(x::rs).getD i []=fZ x rs->Q (.ref a) H
theorem zhq:∀{is:List Int} {us:List Value},Vals (is.map V.int) us->IntsAre us is
 |[],_,.nil=>.nil
 |_::is,_,.cons ⟨t,e⟩ r=>by subst e;exact .cons _ t (zhq r)
theorem zhk(hc:X.aj=true)(hu:X.A.units+2<cLine):cU X (.builtin "min") (vG X.K):=by
 rintro ao s Z H xs us Q I r ⟨l,x,rs,ws,e,hl,hlen,KZ,q⟩;subst e;obtain⟨u,rfl,ru⟩:=Vals.one r;cases (show u=Value.ref l from ru);obtain⟨its,rv,pl,hz⟩:=I.list hl;have hL:=rv.length;have hsz:its.toArray.size=rs.length+1:=by rw[fQ,<-hL,<-hlen];rfl
 refine zfn (rows:=x::rs) (I.ok.hd hc) hu pl.isList gV (λi v e=>?_) λv h' tk hP hk=>?_
 ·have hi:its[i]?=some v:=by simpa using e
  have dF:i<ws.length:=by rw[hL];exact(eY.mp hi).1
  obtain⟨a,ea,ht⟩:=KZ i _ (cX dF);obtain⟨v',e1,e2⟩:=rv.get (cX dF);rw[hi] at e1;cases e1;rw[ea] at e2;cases (show v=Value.ref a from e2);obtain⟨xs,rx,p,_⟩:=I.tuple ht;exact⟨a,_,rfl,p,by simpa using zhq rx,by simp⟩
 ·rw[hsz,Nat.add_sub_cancel] at hP;have hi:its[argBest (wB (x::rs)) rs.length]?=some v:=by simpa using hP
  have dF:argBest (wB (x::rs)) rs.length<ws.length:=by rw[hL];exact(eY.mp hi).1
  obtain⟨a,ea,ht⟩:=KZ _ _ (cX dF);obtain⟨v',e1,e2⟩:=rv.get (cX dF);rw[hi] at e1;cases e1;rw[ea] at e2;cases (show v=Value.ref a from e2);exact⟨.ref a,H,I.kept (h':=h') (t':=tk) hk,rfl,q _ a ((cX dF).trans (by rw[ea])) (by rw[zeT rs.length (bK _),Ak])⟩
theorem zj4{K:W.Frag}:bD K cA .rB (vG K):=by
 intro U H ds vs Q zt rs o;have o:bC K cA U H (oG ds) Q:=o;unfold oG at o;split at o
 ·rename_i xs _;obtain⟨v,rfl,rv⟩:=rs.one;obtain⟨a,us,rfl,sq,q⟩ : ∃a us,v=.ref a/\cQ K H a us/\aD K cA U H xs us:=rv;split at o
  ·rename_i x r e;obtain⟨l,k⟩:=zcs e q;refine⟨a,x,r,us,rfl,sq,l,λi v ei=>?_,λi b ei hb=>?_⟩
   ·obtain⟨c,e1,e2⟩:=k i v ei;exact⟨c,e1,e2.jh⟩
   ·obtain⟨c,e1,e2⟩:=k i _ ei;cases e1;rw[hb] at e2;have rr:∀is:List Int,aD K cA U H (is.map D.int) (is.map V.int):=λis=>by
     induction is with
     |nil=>exact .nil
     |cons j is ih=>exact .cons (.int j) ih
    exact o.here (.tup e2 (rr _))
  ·exact o.elim
 ·exact o.elim
theorem zlM{k:Nat}(hr:bF k X.A)(hc:X.aj=true)(hm:X.mg "min"=none)(hg:JK X "min" .globalImplicit)(ha:JA X cA aq aj F EX (e::es) Xs)(he:aC e=true:=by rfl)(hpl:es.all aC=true:=by rfl):JE X cA aq aj F EX (.Call (.Name "min" p) (e::es) [] pos) (.pr fz .rB Xs):=⟨zG (zhk hc (by have:=hr.un;lia)) zj4 hg.o hm PyProof.Rows.boot_min ha.o Vu Vu (aY he) (aR hpl)⟩
end
end Mi
namespace Mi
open PySem PySem.Spec PyProof.Rows L2 PySem.W
theorem ji(its:List Value):∀(n:Nat) (acc:Array Value),(List.replicate n its.toArray).foldl (λx y=>x++y) acc=acc++(rep its n).toArray
 |0,acc=>by simp[rep]
 |n+1,acc=>by
  rw[DQ,Mj,ji its n];simp[rep,DQ]
theorem qQ{α:Type}(xs:List α)(n:Nat):(rep xs n).length=n*xs.length:=by
 unfold rep
 induction n with
 |zero=>simp
 |succ n ih=>rw[DQ,QB,h_,ih,Nat.succ_mul];lia
theorem K1{α:Type}(xs:List α)(n:Nat):rep xs (n+1)=xs++rep xs n:=by
 unfold rep;rw[DQ,QB]
theorem zeo{ys:List V}{its:List Value}(r:Vals ys its):∀n,Vals (rep ys n) (rep its n)
 |0=>.nil
 |n+1=>by
  rw[K1,K1];have key:∀{as:List V} {bs:List Value},Vals as bs->∀{cs:List V} {ds:List Value},Vals cs ds->Vals (as++cs) (bs++ds):=by
   intro as bs h
   induction h with
   |nil=>intro cs ds h2;exact h2
   |cons a _ ih=>intro cs ds h2;exact .cons a (ih h2)
  exact key r (zeo r n)
section
variable {K:W.Frag}{cA:Cl}{U:Ph}{H:Hp}
theorem ziU{as:List D}{bs:List V}(h:aD K cA U H as bs){cs:List D}{ds:List V}(h2:aD K cA U H cs ds):aD K cA U H (as++cs) (bs++ds):=by
 exact h.app h2
theorem zeh{xs:List D}{ys:List V}(r:aD K cA U H xs ys):∀n,aD K cA U H (rep xs n) (rep ys n)
 |0=>.nil
 |n+1=>by
  rw[K1,K1];exact ziU r (zeh r n)
end
end Mi
end Lake
namespace PySem
open Lake
open Builtin
theorem zbG:fillsNumberSlot (.type "tuple") "mul"=pure false:=
 fillsNumberSlot_seq (id:="tuple.__mul__") (r:=some (.builtin "tuple.__rmul__")) Ma.lookup J0 F.slot_tuple_rmul.lookup J0
theorem zdw:seqRepeat? (.type "tuple")=pure (some (.builtin "tuple.__mul__")):=by
 unfold seqRepeat?;rw[seqSlot_of (T:="tuple") (name:="__mul__") (id:="tuple.__mul__") Ma.lookup J0,seqSlot_of (T:="tuple") (name:="__rmul__") (id:="tuple.__rmul__") F.slot_tuple_rmul.lookup J0];rfl
theorem zb7(a:Int)(t:Tok)(l:Addr)(items:Array Value)(n:Nat)(d:Option Addr)(sl:Array (Option Value)) :
  Meets (Builtin.«int.__rmul__» ⟨[.int a t,.ref l],[]⟩) (λ_ R s=>s.heap.get? l=some {cls:=.type "tuple",dict:=d,data:=.seq items n,slots:=sl}/\R (.ok (.ret Value.notImplemented)) s):=
 .of_wp λprog w A R s h=>by obtain⟨hp,g,d,tk,os⟩:=s;obtain⟨hl,h⟩:=h;wp_walk;exact⟨_,rfl,h⟩
theorem zcY(l:Addr)(items:Array Value)(n:Nat)(d:Option Addr)(sl:Array (Option Value))(u:Tok) :
  Meets (Builtin.«tuple.__mul__» ⟨[.ref l,.int 1 u],[]⟩) (λ_ R s=>s.heap.get? l=some {cls:=.type "tuple",dict:=d,data:=.seq items n,slots:=sl}/\R (.ok (.ret (Value.ref l))) s):=
 .of_wp λprog w A R s h=>by
  obtain⟨hp,g,d,tk,os⟩:=s;obtain⟨hl,h⟩:=h
  wp_walk
  exact⟨_,rfl,h⟩
theorem zc3(l:Addr)(items:Array Value)(n:Nat)(d:Option Addr)(sl:Array (Option Value))(x:Int)(u:Tok)(h2:2<=x)(h3:x<=1000)(he:items.isEmpty=false)(hs:items.size<=1000) :
  Meets (Builtin.«tuple.__mul__» ⟨[.ref l,.int x u],[]⟩) (λ_ R s=>s.heap.get? l=some {cls:=.type "tuple",dict:=d,data:=.seq items n,slots:=sl}/\R (.ok (.ret (Value.ref s.heap.objs.size))) {s with heap:=s.heap.push {cls:=Value.type "tuple",data:=Data.seq (List.foldl (λx1 x2=>x1++x2) #[] (List.replicate x.toNat items))},toks:=s.toks}):=
 .of_wp λprog w A R s h=>by
  obtain⟨hp,g,d,tk,os⟩:=s;obtain⟨hl,h⟩:=h;have h1:(x==1)=false:=by simpa using show ¬x=1 by lia
  have hb:(decide (x < -(2^63))||decide (x>=2^63))=false:=by rw[gQ gV,gQ gV];rfl
  have hm:(items.size:Int)*x<=1000000:=Int.le_trans (Int.mul_le_mul (show (items.size:Int)<=1000 by lia) h3 gV gV) Vu;have wW:(1000000:Int)<=(sizeLine:Int):=by decide
  have hz:(List.foldl (λx1 x2=>x1++x2) #[] (List.replicate x.toNat items)).size<=1000000:=by
   have:=Mi.ji items.toList x.toNat #[];simp only[Qs] at this;rw[this];simp only[Array.size_append,fQ,Mi.qQ,vO];have:=G4 (show x.toNat<=1000 by lia) hs;simp
   lia
  have Sv:(1000000:Nat)<=sizeLine:=by decide
  have nt:∀{b:Bool},b=false->decide (b=true)=false:=λ{b} e=>by rw[e];rfl
  wp_walk
  refine GX (nt hb) ?_
  wp_walk
  refine GX (nt (b:=decide (x<=0)||items.isEmpty) (by rw[he,gQ gV];rfl)) ?_
  wp_walk
  refine GX (gQ gV) ?_
  wp_walk
  refine GX (nt (b:=Builtin.Tuple.tupleTooMany (items.size*x)) (gQ gV)) ?_
  wp_walk
  refine GX (gQ gV) ?_
  wp_walk
  exact⟨_,rfl,h⟩
end PySem
namespace Lake
namespace Mi
open PySem PySem.Spec PyProof.Rows L2 PySem.W
noncomputable def zZ(K:W.Frag):R2:=λx y H Q=>∃l ys n,x=.ref l/\fU K H l ys/\y=.int n/\(1<=n/\n<=1000/\1<=ys.length/\ys.length<=1000)/\(n=1->Q (.ref l) H)/\∀p,H p=none->Q (.ref p) (upd H p (.tup (rep ys n.toNat)))
theorem zjS{X:Cx}:fD X (binaryOp .Mult) (zZ X.K):=by
 intro ao s Z H x y v u Q I rx ry h;obtain⟨l,ys,n,rfl,hq,rfl,⟨h0,h1,hl1,hl⟩,q1,q⟩:=h;cases (show v=Value.ref l from rx);obtain⟨t,rfl⟩:=ry;obtain⟨its,rv,⟨o,e,hc,c,oA⟩,hz⟩:=I.tuple hq;obtain⟨ocls,odict,odata,oslots⟩:=o;simp only at hc oA;subst hc oA;have hlen:=rv.length;refine wpAny_binaryOp_repeat_ref (T:="tuple") («U»:="int") Vu ⟨_,e,rfl⟩ (λ_=>rfl) zbG F.fills_int_mul F.slot_int_rmul zdw int_index ?_;refine Av F.slot_int_rmul rfl F.entry_int_rmul (F.args_int_rmul_2 _ _) (zb7 n t l its.toArray c odict oslots) ⟨e,rfl,⟨_,e,rfl⟩,?_⟩;by_cases hn:n=1
 ·subst hn;exact Av Ma ⟨_,e,rfl⟩ F.entry_tuple_mul (F.args_tuple_mul_2 _ _) (zcY l its.toArray c odict oslots t) ⟨e,⟨.ref l,H,I,rfl,q1 rfl⟩⟩
 ·have uK:its≠[]:=λz=>by rw[z] at hlen;have:ys.length=0:=hlen;lia
  refine Av Ma ⟨_,e,rfl⟩ F.entry_tuple_mul (F.args_tuple_mul_2 _ _) (zc3 l its.toArray c odict oslots n t gV h1 (by simpa using uK) (by rw[fQ,<-hlen];exact hl)) ⟨e,?_⟩;have hn:H s.heap.objs.size=none:=I.hok.fresh (bK _);have ea:(List.replicate n.toNat its.toArray).foldl (λx y=>x++y) #[]=(rep its n.toNat).toArray:=by
   rw[ji];simp
  refine⟨.ref s.heap.objs.size,_,I.laid (a:=s.heap.objs.size) (o:=.tup (rep ys n.toNat)) (t':=s.toks) (λb w q=>cN _ q) (bK _) ?_,rfl,q _ hn⟩;refine⟨?_,_,zeo rv n.toNat,?_⟩
  ·rw[qQ];have:=G4 (show n.toNat<=1000 by lia) hl;have Sv:(1000000:Nat)<=sizeLine:=by decide
   lia
  ·rw[ea];exact jQ.new _ _
section
variable {K:W.Frag}{cA:Cl}{U:Ph}{H:Hp}
theorem zku:bD K cA .mult (r2 (zZ K)):=by
 intro U H ds vs Q zt rs o;have o:bC K cA U H (zy ds) Q:=o;cases ds with
 |nil=>exact False.elim o
 |cons a t=>cases a with
  |tup xs=>cases t with
   |nil=>exact False.elim o
   |cons b t=>cases b with
    |int n=>cases t with
     |cons _ _=>exact False.elim o
     |nil=>
      obtain⟨v,v',rfl,r1,r2⟩:=rs.two (ds:=[]);rw[r2.int];obtain⟨a,us,rfl,ta,q⟩:=r1.tup;have hl:=q.len;have o:bC K cA U H (if 1<=n/\n<=1000/\1<=xs.length/\xs.length<=1000 then some (.dat (.tup (rep xs n.toNat))) else none) Q:=o;by_cases hk:1<=n/\n<=1000/\1<=xs.length/\xs.length<=1000
      ·rw[if_pos hk] at o;refine⟨_,_,rfl,a,us,n,rfl,ta.jh,rfl,⟨hk.1,hk.2.1,by lia,by lia⟩,λe=>?_,λp hp=>o.tup zt (zeh q _) hp⟩;subst e;have e1:rep xs (1:Int).toNat=xs:=by show rep xs (0+1)=xs;rw[K1];simp[rep]
       rw[e1] at o;exact o.here (.tup ta q)
      ·rw[if_neg hk] at o;exact o.elim
    |_=>exact False.elim o
  |_=>exact False.elim o
end
theorem zjk{X:Cx}{cA:Cl}:JQ X cA .Mult .mult:=⟨_,zjS,zku⟩
noncomputable def g8(K:Frag)(C:Addr)(m:Str):Addr:=match lJ K C m with
 |some p=>p.1
 |none=>0
noncomputable def jD(K:Frag)(C:Addr)(m:Str)(st:Stmt):FuncData:=match lJ K C m with
 |some p=>p.2
 |none=>Er m m st
theorem zlu{fd:FuncData}{m q:Str}{st:Stmt}(h:nU fd=Er m q st):fd=fnOf m q (aQ st) (aL st) (au st) .none fd.kwdefaults fd.doc fd.pyModule fd.annotations fd.code fd.closureTuple:=by
 cases fd;unfold nU Er at h;cases h;rfl
theorem zoC{K:Frag}{C:Addr}{m q:Str}{st:Stmt}(h:(lJ K C m).map (λp=>nU p.2)=some (Er m q st)):oJ K m q st (g8 K C m) (jD K C m st)/\Meth K C m (g8 K C m):=by
 cases e:lJ K C m with
 |none=>rw[e] at h;cases h
 |some p=>
  rw[e] at h;have hp:nU p.2=Er m q st:=dz h;have h1:g8 K C m=p.1:=by unfold g8;rw[e]
  have h2:jD K C m st=p.2:=by unfold jD;rw[e]
  rw[h1,h2];unfold lJ at e;split at e
  ·rename_i f hf;split at e
   ·rename_i oc od fd sl hl;split at e
    ·rename_i hc;cases e;simp only[dJ] at hc;have eq:fd=_:=zlu hp;have qn:fd.qualname=q:=by rw[eq]
     exact⟨⟨⟨oc,od,_,_,_,_,_,_,sl,eq,hl,by rw[<-qn];exact hc.1.1⟩,hc.1.2⟩,hf,hc.2,hc.1.2⟩
    ·cases e
   ·cases e
  ·cases e
structure qR(fs:List (Str×Stmt))(ms:List ug)(xs:List (Nat×Str))(l:Lk)(b:Bd)(K:Frag):Prop where
 i:oR fs ms xs l K
 m:∀p∈b.ms,oJ K p.1 p.2.1 p.2.2 (g8 K (eG K b.n) p.1) (jD K (eG K b.n) p.1 p.2.2)/\Meth K (eG K b.n) p.1 (g8 K (eG K b.n) p.1)
 b:yQ K b=true
noncomputable def lZ(fs:List (Str×Stmt))(ms:List ug)(xs:List (Nat×Str))(l:Lk)(b:Bd):Hook where
 α:=(List (Option FuncData)×List (Option FuncData)×Bool)×(List (Option FuncData)×Bool)
 obs:=λs=>(mD fs ms xs l s,Ba b s)
 val:=λw=>(nW fs ms w,Bb b)
 says:=λ_ h=>∃K:Frag,K.In h/\qR fs ms xs l b K
 of:=λw s e=>by
  have e0:mD fs ms xs l s=nW fs ms w:=mj Prod.fst e;have e4:Ba b s=Bb b:=mj Prod.snd e;have e3:(_&&_&&_)=true:=mj (λx=>x.2.2) e0;rw[dJ,dJ,dZ,dZ] at e3;refine⟨bN s.heap,zhZ,⟨λp hp=>?_,Kac e3.1.1,λm hm=>?_,e3.1.2,λx hx=>zoW (e3.2 x hx)⟩,λp hp=>?_,mj Prod.snd e4⟩
  ·exact zom (QC.mp (mj Prod.fst e0) p hp)
  ·exact zon (QC.mp (mj (λx=>x.2.1) e0) m hm)
  ·exact zoC (QC.mp (mj Prod.fst e4) p hp)
 keeps:=λw h h' ⟨K,X,Y⟩ k=>⟨K,X.keeps k,Y⟩
theorem K3{l:OpenLaw}{k:Nat}{q:Program}{loose:List Str}{XP:(Str->Option Value)->Heap->Prop}{fs:List (Str×Stmt)}{ms:List ug}{xs:List (Nat×Str)}{lk:Lk}{b:Bd}{d:DefRec}{x:Str}(hn:l.most=some 63)(RZ:d.params.defaults=[])(hr:bF k callerA)
  (F:∀(w:World) (K:Frag) (mg:Str->Option Value) (fa:Addr) (h:Heap),qR fs ms xs lk b K->K.In h->h.Ns mainGlobals mg->mg d.name=some (.ref fa)->
   ∃fd:FuncData,(∀(s:Shared) (u:Value),BindsTo s fd ⟨[u],[]⟩ [(x,u)])/\∀base:Heap,K.In base->base.Ns mainGlobals mg->cC l.prog w K mg base (gK l.prog w) true k fa fd [x] (u9 K)) :
  WalkO q loose XP (lZ fs ms xs lk b).says l.row.toRowW d [] (λf vs=>PySem.call f vs):=by
 refine Zc.ou hn RZ λw s₀ s₁ mg mb fa o pm cd doc a vs ns G Y ho hd kW hmg BK hints hlen hg=>?_;obtain⟨K,KX,SY⟩:=Y;obtain⟨fd,hb,hF⟩:=F w K mg fa _ SY KX G.T.g hmg;exact zhR KX G.T.g G.T.b G.T.builtins G.T.nolimit hg BK hints (jo hlen Vu) hr hF hb (λH hO hS=>⟨a,ns,rfl,hS,hlen,hO,λ_=>rfl⟩) λH e s' h=>by
  obtain⟨_,_,_,_,_,_,_,_,_,_,z⟩:=h;exact z
section
variable {K:Frag}{b:Bd}
theorem zop{cA:Cl}(h:yQ K b=true)(hb:cA.b 0=eG K b.n)(hg:cA.g 0=b.fs)(nd:b.fs.Nodup):Ow K cA 0:=by
 unfold yQ at h;simp only[dJ,nR,dZ] at h;obtain⟨⟨⟨⟨⟨⟨⟨h1,h2⟩,h3⟩,h4⟩,h5⟩,h6⟩,h7⟩,h8⟩:=h;exact⟨by rw[hb];exact⟨h2,h3,h4,h5⟩,λf hf=>by rw[hb];rw[hg] at hf;exact h8 f hf,by rw[hg];exact nd⟩
theorem zos{f:Addr}(h:yQ K b=true)(m:Meth K (eG K b.n) "__init__" f):Mk K (eG K b.n) f:=by
 unfold yQ at h;simp only[dJ,nR,dZ] at h;exact⟨h.1.1.2,m.at_,m.fn,h.1.2⟩
theorem zoU{h:Heap}{mg:Str->Option Value}(z:yQ K b=true)(X:K.In h)(G:h.Ns mainGlobals mg):mg b.n=some (.ref (eG K b.n)):=by
 unfold yQ at z;simp only[dJ] at z;exact rW z.1.1.1.1.1.1.1 X G
end
theorem bF.made{k:Nat}{A:Around}(r:bF (k+1) A)(env:Env)(C:Addr)(us:List Value):bF k ((A.deeper env).under (.builtin "type.__call__" ⟨.ref C::us,[]⟩)):=
 ⟨by have:=r.dp;rw[zfx];show A.depth+1+1+3*k+5<_;lia,by have:=r.un;rw[zfr];show A.units+3+1+16*k+200<_;lia,by
  have e:(A.deeper env).guards=some []:=r.gd;rw[<-e];cases h:(A.deeper env).guards<;>simp[Around.under,pushGuards,Code.guards,Code.isGuard,guardIds,h]⟩
section
variable {P:Program}{w:World}{K:Frag}{mg:Str->Option Value}{base:Heap}{cA:Cl}{aq:Nat->Nat->Bool}{T:Nat->Option Df}{x m q:Str}{st:Stmt}{ps:List Str}{k n:Nat}{cm:Bool}{df:Df}{C fa:Addr}{fd:FuncData}
theorem fM(D:Mt K C m q st ps fa fd)(N:List Str)(hT:T n=some df)
  (hb:∀(cdv:Value) (A:Around) (outer:List Env) (s:Shared) (H:Hp) (E:XK),bF k (A.deeper (envOfC q (au st) s.heap.objs.size fa cdv))->
   JB (gG (gK P w) P w K mg base N q (au st) fa cdv A outer s H E cm) cA aq cm (λc=>call aq T k c) (λ_ C dx H'=>E C dx H') (aL st) df.body) (S:cZ N ps (au st):=by exact⟨rfl,rfl,rfl,dk,rfl,dk,dk⟩) (hp:df.gH=ps.length:=by rfl) (hm:df.many=N.length:=by rfl) :
  cC P w K mg base (gK P w) cm (k+1) fa fd ps (lu K cA (call aq T (k+1) cm n)):=zji D.fn S hT hp hm hb
theorem zhA{c:Nat}:cC P w K mg base (gK P w) cm 0 fa fd ps (KJ K cA c (call aq T 0 cm n)):=by
 have no:∀vs H Q E,KJ K cA c (call aq T 0 cm n) vs H Q E->False:=by
  rintro vs H Q E ⟨_,_,_,_,_,_,_,_,_,_,_,_,_,_,h⟩;exact h.elim
 exact⟨λvs H Q E h=>(no _ _ _ _ h).elim,λA outer s H args us vs Q E _ _ _ _ _ h=>(no _ _ _ _ h).elim⟩
theorem fR(D:D3 K mg x st ps)(N:List Str)(hT:T n=some df)
  (hb:∀(cdv:Value) (A:Around) (outer:List Env) (s:Shared) (H:Hp) (E:XK),bF (k+1) A->
   JB (gG (gK P w) P w K mg base N x (au st) (iK K x) cdv A outer s H E cm) cA aq cm (λc=>call aq T k c) (λ_ C dx H'=>E C dx H') (aL st) df.body) (S:cZ N ps (au st):=by exact⟨rfl,rfl,rfl,dk,rfl,dk,dk⟩) (hp:df.gH=ps.length:=by rfl) (hm:df.many=N.length:=by rfl) :
  cC P w K mg base (gK P w) cm (k+1) (iK K x) (fdOf K x st) ps (lu K cA (call aq T (k+1) cm n)):=zi1 D.f S hT hp hm λcdv A outer s H E hr=>(hb cdv A outer s H E hr).o
theorem Vw{p p2:Str}(h:oJ K m q st fa fd/\Meth K C m fa)(hb:∀(kV doc pm:Value) (an:Option Addr) (cdv ct a b:Value),bindArgs (fnOf m q (aQ st) (aL st) (au st) .none kV doc pm an cdv ct) ⟨[a,b],[]⟩=pure [(p,a),(p2,b)]:=by intros;rfl):Mt K C m q st [p,p2] fa fd:=⟨h.1,h.2,by
 obtain⟨oc,od,kV,doc,pm,an,cdv,ct,osl,rfl,lk,kW⟩:=h.1.ex;exact u_ (hb kV doc pm an cdv ct)⟩
theorem zp5{p p2 p3:Str}(h:oJ K m q st fa fd/\Meth K C m fa)(hb:∀(kV doc pm:Value) (an:Option Addr) (cdv ct a b c:Value),bindArgs (fnOf m q (aQ st) (aL st) (au st) .none kV doc pm an cdv ct) ⟨[a,b,c],[]⟩=pure [(p,a),(p2,b),(p3,c)]:=by intros;rfl):Mt K C m q st [p,p2,p3] fa fd:=⟨h.1,h.2,by
 obtain⟨oc,od,kV,doc,pm,an,cdv,ct,osl,rfl,lk,kW⟩:=h.1.ex;exact vd (hb kV doc pm an cdv ct)⟩
theorem zpR{p p2 p3 p4:Str}(h:oJ K m q st fa fd/\Meth K C m fa)(hb:∀(kV doc pm:Value) (an:Option Addr) (cdv ct a b c d:Value),bindArgs (fnOf m q (aQ st) (aL st) (au st) .none kV doc pm an cdv ct) ⟨[a,b,c,d],[]⟩=pure [(p,a),(p2,b),(p3,c),(p4,d)]:=by intros;rfl):Mt K C m q st [p,p2,p3,p4] fa fd:=⟨h.1,h.2,by
 obtain⟨oc,od,kV,doc,pm,an,cdv,ct,osl,rfl,lk,kW⟩:=h.1.ex;exact vf (hb kV doc pm an cdv ct)⟩
end
end Mi
namespace Mi
open PySem
theorem zjA{α:Type}{l:List α}{g:α->Option D}:l.filterMap g=[]↔∀x∈l,g x=none:=by
 rw[List.filterMap_eq_nil_iff]
noncomputable def p8(n:Int):D->Bool
 |.tup xs=>decide ((xs.length:Int)=n)
 |_=>false
noncomputable def lB(a b:Int):D->Bool
 |.int i=>decide (a<=i/\i<=b)
 |_=>false
noncomputable def jk(n:Int):D->Bool
 |.tup [.int a,.int b]=>decide (0<=a/\a<b/\b<n)
 |_=>false
theorem Vx{xs:List D}(h:xs.length≠2):p8 2 (.tup xs)=false:=gQ (p:=((xs.length:Int)=2)) gV
theorem Vy{xs:List D}(h:xs.length=2):∃x y,xs=[x,y]:=by
 match xs,h with
 |[x,y],_=>exact⟨x,y,rfl⟩
theorem zhD{n:Int}{xs:List D}(h:xs.length≠2):jk n (.tup xs)=false:=by
 unfold jk
 split
 ·rename_i e;cases e;exact absurd rfl h
 ·rfl
noncomputable def jm:List D->List (Int×Int)
 |.tup [.int a,.int b]::r=>(a,b)::jm r
 |_::r=>jm r
 |[]=>[]
theorem zeQ{n:Int}:∀{ys:List D},ys.all (jk n)=true->ys=(jm ys).map dj/\∀p∈jm ys,0<=p.1/\p.1<p.2/\p.2<n
 |[],_=>⟨rfl,λp hp=>by cases hp⟩
 |y::ys,h=>by
  rw[nQ,dJ] at h;obtain⟨e,q⟩:=zeQ h.2;have h1:=h.1;unfold jk at h1;split at h1
  ·rename_i a b;have:=fO h1;refine⟨?_,λp hp=>?_⟩
   ·show _::ys=dj (a,b)::(jm ys).map dj;rw[<-e];rfl
   ·rcases gF.mp (show p∈(a,b)::jm ys from hp) with rfl|hp
    ·exact this
    ·exact q p hp
  ·cases h1
theorem zez:∀ps:List (Int×Int),jm (ps.map dj)=ps
 |[]=>rfl
 |p::ps=>by
  show (p.1,p.2)::jm (ps.map dj)=_;rw[zez ps]
theorem ziF{n:Int}{ps:List (Int×Int)}(h:∀p∈ps,0<=p.1/\p.1<p.2/\p.2<n):(ps.map dj).all (jk n)=true:=by
 rw[Em,dZ];intro p hp;exact dB (h p hp)
noncomputable def nA(ps:List (Int×Int)):Bool:=(ps.zip (ps.drop 1)).all λe=>zW e.1 e.2
theorem vH:∀{ps:List (Int×Int)},nA ps=true↔ps.Pairwise λa b=>zW a b=true
 |[]=>by simp[nA]
 |[p]=>by simp[nA]
 |p::q::r=>by
  have ih:=vH (ps:=q::r);have e:nA (p::q::r)=(zW p q&&nA (q::r)):=rfl;rw[e,dJ,ih,yK (a:=p)]
  constructor
  ·rintro⟨h1,h2⟩;refine⟨λx hx=>?_,h2⟩;rcases gF.mp hx with rfl|hx
   ·exact h1
   ·have:=(yK.mp h2).1 x hx;rw[zX] at *
    lia
  ·rintro⟨h1,h2⟩;exact⟨h1 q kJ,h2⟩
theorem zpD{ps:List (Int×Int)}(h:ps.Pairwise lx):ps.Pairwise λa b=>zW a b=true:=h.imp λ{a b} e=>zX.mpr e
noncomputable def Dl:D->Bool
 |.tup [.int n,.tup ys]=>decide (1<=n/\n<=8)&&ys.all (jk n)&&nA (jm ys)
 |_=>false
theorem zjF{xs:List D}(h:xs.length≠2):Dl (.tup xs)=false:=by
 unfold Dl
 split
 ·rename_i e;cases e;exact absurd rfl h
 ·rfl
theorem zi7{n:Int}{ps:List (Int×Int)}(h:Web n ps):Dl (bG n ps)=true:=by
 show (decide (1<=n/\n<=8)&&(ps.map dj).all (jk n)&&nA (jm (ps.map dj)))=true;rw[zez,dB (And.intro h.h1 h.h8),ziF h.tie,vH.mpr (zpD h.inc)];rfl
noncomputable def K4:D->Bool
 |.tup ys=>ys.all nu
 |d=>jN d
noncomputable def Ox:D->Bool
 |.tup xs=>xs.all K4
 |d=>jN d
def lnW(d:D):Prop:=∀x ys,d=.tup [x,.tup ys]->ys.length<=200
theorem zlR{ps qs:List (Int×Int)}:List.zipWith (λ(p q:D)=>D.tup [p,q]) (ps.map dj) (qs.map dj)=(ps.zip qs).map λe=>.tup [dj e.1,dj e.2]:=by
 induction ps generalizing qs with
 |nil=>rfl
 |cons p ps ih=>
  cases qs with
  |nil=>rfl
  |cons q qs=>
   show _::List.zipWith (λ(p q:D)=>D.tup [p,q]) (ps.map dj) (qs.map dj)=_::_;rw[ih];rfl
theorem Vz{d:D}(h:nu d=true):jN d=true:=by cases d<;>first|rfl|cases h
theorem zpy{d:D}(h:K4 d=true):jN d=true:=by cases d<;>first|rfl|cases h
theorem zkA{p q:Int×Int}:ltI [p.1,p.2] [q.1,q.2]=zW p q:=by
 simp only[ltI];unfold zW;by_cases h:p.1=q.1
 ·rw[if_pos h];by_cases h2:p.2=q.2
  ·rw[if_pos h2]
   symm
   apply gQ
   lia
  ·rw[if_neg h2,tX]
   lia
 ·rw[if_neg h,tX]
  lia
def sJ(d:D):Prop:=K4 d=true/\∀ys,d=.tup ys->ys.length<=200
def K5(d:D):Prop:=Ox d=true/\lnW d
theorem zmW{xs:List D}(h:∀x∈xs,nu x=true)(hl:xs.length<=200):sJ (.tup xs):=⟨dZ.mpr h,λys e=>by cases e;exact hl⟩
theorem zlW{i:Int}:sJ (.int i):=⟨rfl,λys e=>by cases e⟩
theorem zj2{ps:List (Int×Int)}:∀x∈ps.map dj,nu x=true:=λx hx=>by obtain⟨p,_,rfl⟩:=jO.mp hx;rfl
theorem zmr{ps:List (Int×Int)}(hl:ps.length<=200):sJ (.tup (ps.map dj)):=zmW zj2 (by rw[bI];exact hl)
theorem zmh{xs:List D}(h:∀x∈xs,sJ x):K5 (.tup xs):=⟨dZ.mpr λx hx=>(h x hx).1,λx ys e=>by
 cases e;exact(h (.tup ys) Zaa).2 ys rfl⟩
theorem zlH{x y:D}(hx:sJ x)(hy:sJ y):K5 (.tup [x,y]):=zmh λz hz=>by
 simp only[gF,Ed,Aw] at hz;rcases hz with rfl|rfl
 ·exact hx
 ·exact hy
theorem zmP{n:Int}{ps:List (Int×Int)}(hl:ps.length<=200):K5 (bG n ps):=zlH zlW (zmr hl)
end Mi
namespace Mi
open PySem PySem.W L2
noncomputable def Gk:D->Bool
 |.tup [.int k,.int d]=>decide (1<=k/\k<=24)&&decide (1<=d/\d<=k)
 |_=>false
theorem zkt{xs:List D}(h:xs.length≠2):Gk (.tup xs)=false:=by
 unfold Gk
 split
 ·rename_i e;cases e;exact absurd rfl h
 ·rfl
theorem zgu{k d:Int}(h:1<=d/\d<=k/\k<=24):Gk (aK k d)=true:=by
 show (decide (1<=k/\k<=24)&&decide (1<=d/\d<=k))=true;rw[dB gV,dB gV];rfl
noncomputable def tR(n k:Int):D->Bool
 |.tup xs=>decide ((xs.length:Int)=n)&&xs.all (lB 0 (k-1))
 |_=>false
theorem zhj{a b:Int}:∀{xs:List D},xs.all (lB a b)=true->∃is:List Int,xs=is.map .int/\∀i∈is,a<=i/\i<=b
 |[],_=>⟨[],rfl,by simp⟩
 |d::r,h=>by
  rw[nQ,dJ] at h;obtain⟨is,rfl,hi⟩:=zhj h.2;cases d with
  |int i=>exact⟨i::is,rfl,by
    intro j hj;rcases gF.mp hj with rfl|hj
    ·exact fO h.1
    ·exact hi j hj⟩
  |_=>exact absurd h.1 (by simp[lB])
theorem zeE{n k:Int}{d:D}(h:tR n k d=true):∃hs:List Int,d=.tup (hs.map .int)/\(hs.length:Int)=n/\∀x∈hs,0<=x/\x<k:=by
 cases d with
 |tup xs=>
  rw[show tR n k (.tup xs)=(decide ((xs.length:Int)=n)&&xs.all (lB 0 (k-1))) from rfl,dJ] at h;obtain⟨is,rfl,hi⟩:=zhj h.2;have:=fO h.1;rw[bI] at this;exact⟨is,rfl,this,λx hx=>by have:=hi x hx;lia⟩
 |_=>cases h
theorem zhH{n k:Int}{hs:List Int}(hl:(hs.length:Int)=n)(h:∀x∈hs,0<=x/\x<k):tR n k (.tup (hs.map .int))=true:=by
 rw[show tR n k (.tup (hs.map D.int))=(decide (((hs.map D.int).length:Int)=n)&&(hs.map D.int).all (lB 0 (k-1))) from rfl,bI,dB hl,Bool.true_and,Em,dZ];intro x hx;have:=h x hx;exact dB gV
noncomputable def wC(k d:Int)(ps:List (Int×Int))(hs:List Int):List (Int×Int):=ps.filter λp=>decide (eO k (at' hs p.1) (at' hs p.2)<d)
noncomputable def Ax(k d:Int)(ps:List (Int×Int))(hs:List Int):D:=match wC k d ps hs with
 |[]=>.non
 |p::_=>dj p
theorem vI{k d:Int}{ps:List (Int×Int)}{hs:List Int}:wC k d ps hs=[]↔lA k d ps hs=true:=by
 unfold wC;rw[List.filter_eq_nil_iff,zed]
 constructor
 ·intro h p hp;have:=h p hp;simp at this
  lia
 ·intro h p hp;have:=h p hp;simp
  lia
end Mi
namespace Mi
open PySem
theorem Kbg{n:Nat}{c:List D}{b:D->Vs->MS}{J:Vs}{s:S}{Q:Out->S->Prop}(I:Nat->Vs->S->Prop)(h0:I 0 J s)(hl:∀i J s,I i J s->s[n]?=some (.lst c))(hb:∀i x J s,c[i]?=some x->I i J s->WS (b x J) s λo s'=>∃J',o=.nx J'/\I (i+1) J' s')
  (he:∀J s,I c.length J s->Q (.nx J) s):WS (cR (.live n) b (c.length+1) 0 J) s Q:=by
 have key:∀m i J s,i+m=c.length->I i J s->WS (cR (.live n) b (m+1) i J) s Q:=by
  intro m
  induction m with
  |zero=>
   intro i J s hi hI;have e:c[i]?=none:=by rw[o9];lia
   have e0:=hl i J s hI;have:i=c.length:=by lia
   subst this;refine⟨_,s,?_,he J s hI⟩;unfold cR;simp only[Src.at,e0,e]
  |succ m ih=>
   intro i J s hi hI;have e0:=hl i J s hI;have dF:i<c.length:=by lia
   have e:c[i]?=some c[i]:=cX dF;obtain⟨o,s',eb,J',rfl,Dh⟩:=hb i c[i] J s e hI;obtain⟨o2,s2,e2,q⟩:=ih (i+1) J' s' gV Dh;refine⟨o2,s2,?_,q⟩;unfold cR;simp only[Src.at,e0,e,eb];exact e2
 exact key c.length 0 J s gV h0
theorem Kbb{n:Nat}{c:List D}{s:S}{P:Src×Nat->S->Prop}(e:s[n]?=some (.lst c))(h:P (.live n,c.length) s):W (src (.l n)) s P:=⟨_,s,by unfold src;simp only[e],h⟩
theorem W.c0{F:List Xv->M Xv}{xs:List Xv}{s:S}{e:D}{P:Xv->S->Prop}(h:W (F (dG 0 xs)) [] λv _=>v=.d e)(k:P (.d e) s)(hl:locs xs=[]:=by rfl):W (bW F xs) s P:=W.bR hl (h.imp λ_ _ q=>⟨_,q,k⟩)
theorem W.c1{F:List Xv->M Xv}{xs:List Xv}{s:S}{P:Xv->S->Prop}(h:W (F (dG 0 xs)) [] λv _=>∃d,v=.d d)(k:∀d,P (.d d) s)(hl:locs xs=[]:=by rfl):W (bW F xs) s P:=W.bR hl (h.imp λ_ _ ⟨d,q⟩=>⟨d,q,k d⟩)
noncomputable def wD(n k d:Int)(ps:List (Int×Int))(x:D):Bool:=tR n k x&&(match x with
 |.tup xs=>(match dW xs with
  |some hs=>lA k d ps hs
  |none=>false)
 |_=>false)
theorem znw{n k d:Int}{ps:List (Int×Int)}{x:D}(h:tR n k x=false):wD n k d ps x=false:=by
 unfold wD;rw[h];rfl
theorem VB{n k d:Int}{ps:List (Int×Int)}{hs:List Int}(hl:(hs.length:Int)=n)(h:∀x∈hs,0<=x/\x<k):wD n k d ps (.tup (hs.map .int))=lA k d ps hs:=by
 unfold wD;rw[zhH hl h,Bool.true_and];show (match dW (hs.map D.int) with|some hs=>lA k d ps hs|none=>false)=_;rw[ze5]
section
variable {s:S}{o o' L L':SO}
theorem g1_:(s++[o]++[L])[s.length]?=some o:=by simp
theorem Dm:(s++[o]++[L])[s.length+1]?=some L:=by simp
theorem zoq:(s++[o]++[L]).set s.length o'=s++[o']++[L]:=by simp
theorem Oz{F:List Xv->M Xv}{xs:List Xv}{P:Xv->S->Prop}(hl:locs xs=[s.length])(h:W (F (dG 0 xs)) [o] λv s1=>∃d o',v=.d d/\s1=[o']/\P (.d d) (s++[o']++[L])):W (bW F xs) (s++[o]++[L]) P:=by
 refine Ve (n:=s.length) (o:=o) hl g1_ (h.imp λv s1=>?_);rintro⟨d,o',rfl,rfl,hp⟩;exact⟨d,o',rfl,rfl,by rw[zoq];exact hp⟩
end
theorem zjb{n:Int}(h:1<=n/\n<=1000):prim .mult [.tup [.int 0],.int n]=some (.dat (.tup ((List.replicate n.toNat (0:Int)).map .int))):=by
 show (if _ then _ else _)=_;rw[if_pos ⟨h.1,h.2,by decide,by decide⟩];have:∀k:Nat,rep [D.int 0] k=(List.replicate k (0:Int)).map .int:=λk=>by
  unfold rep
  induction k with
  |zero=>rfl
  |succ k ih=>rw[DQ,QB,ih,DQ];rfl
 rw[this]
noncomputable abbrev Fr:=List (Option (List Int))
noncomputable def aX:Option (List Int)->D
 |none=>.non
 |some l=>.tup (l.map .int)
noncomputable def cellK:Option (List Int)->Kx
 |none=>.non
 |some l=>.row l
noncomputable def ju(F:Fr):D:=.tup (F.map aX)
theorem VD:∀l:List Int,cD (l.map .int)=some l
 |[]=>rfl
 |i::l=>by show Option.map _ (cD (l.map .int))=_;rw[VD l];rfl
theorem OD(F:Fr):kOf (ju F)=some (F.map cellK):=by
 show Cv (F.map aX)=_
 induction F with
 |nil=>rfl
 |cons c F ih=>
  have e:uO (aX c)=some (cellK c):=by
   cases c with
   |none=>rfl
   |some l=>show Option.map _ (cD (l.map .int))=_;rw[VD];rfl
  simp only[iR,Cv,e,ih]
theorem zfQ:∀{F G:Fr},F.map cellK=G.map cellK->F=G
 |[],[],_=>rfl
 |[],_::_,h=>by cases h
 |_::_,[],h=>by cases h
 |c::F,e::G,h=>by
  simp only[iR,List.cons.injEq] at h;rw[zfQ h.2]
  congr 1
  have h1:=h.1;cases c with
  |none=>cases e with
   |none=>rfl
   |some _=>cases h1
  |some l=>cases e with
   |none=>cases h1
   |some m=>cases h1;rfl
structure Bo(n k:Nat)(es:Nat->List Int)(A:Int->Int->Bool):Prop where
 hn:n<=8
 hk:k<=24
 mem:∀i,i<n->∀e∈es i,0<=e/\e<n/\e≠i
 sym:∀i e:Nat,i<n->e<n->(e:Int)∈es i->(i:Int)∈es e
 len:∀i,i<n->(es i).length<=8
 asy:∀a b:Int,0<=a->a<k->0<=b->b<k->A a b=A b a
structure Fv(n k:Nat)(F:Fr):Prop where
 len:F.length=n
 lo:∀(i:Nat) L,F[i]?=some (some L)->∀x∈L,0<=x/\x<k
 ll:∀(i:Nat) L,F[i]?=some (some L)->L.length<=24
 so:∀(i:Nat) L,F[i]?=some (some L)->L.Pairwise (·<·)
structure nD(es:Nat->List Int)(A:Int->Int->Bool)(F:Fr)(g:Nat->Int):Prop where
 mem:∀(i:Nat) L,F[i]?=some (some L)->g i∈L
 fit:∀(i e:Nat) L M,F[i]?=some (some L)->F[e]?=some (some M)->(e:Int)∈es i->A (g i) (g e)=true
def Sat(es:Nat->List Int)(A:Int->Int->Bool)(F:Fr):Prop:=∃g,nD es A F g
noncomputable def gq(f:Int->Bool)(F:Fr)(e:Int):Fr:=F.set e.toNat ((F[e.toNat]?.join).map (·.filter f))
noncomputable def settle(es:Nat->List Int)(A:Int->Int->Bool)(F:Fr)(p:Nat)(x:Int):Fr:=(es p).foldl (gq (A x)) (F.set p none)
theorem zel{f:Int->Bool}{F:Fr}{e:Int}:(gq f F e).length=F.length:=lF ..
theorem VF{f:Int->Bool}:∀{l:List Int} {F:Fr},(l.foldl (gq f) F).length=F.length
 |[],F=>rfl
 |e::l,F=>by rw[Mj,VF,zel]
theorem zks{f:Int->Bool}{F:Fr}{e:Int}(h0:0<=e)(i:Nat)(hi:i<F.length):(gq f F e)[i]?=if (i:Int)=e then F[i]?.map (Option.map (·.filter f)) else F[i]?:=by
 unfold gq;by_cases z:(i:Int)=e
 ·have:e.toNat=i:=by lia
  rw[if_pos z,this,vM hi,cX hi];rfl
 ·rw[if_neg z,o_ gV]
theorem VG{f:Int->Bool}:∀{l:List Int} {F:Fr} (i:Nat),(∀e∈l,0<=e)->i<F.length->(l.foldl (gq f) F)[i]?=if (i:Int)∈l then F[i]?.map (Option.map (·.filter f)) else F[i]?
 |[],F,i,_,hi=>by simp
 |e::l,F,i,h,hi=>by
  rw[Mj,VG i (λx hx=>h x (by simp[hx])) (by rw[zel];exact hi),zks (h e Zaa) i hi];have ff:∀c:Option (Option (List Int)),(c.map (Option.map (·.filter f))).map (Option.map (·.filter f))=c.map (Option.map (·.filter f)):=λc=>by
   cases c with
   |none=>rfl
   |some c=>cases c with
    |none=>rfl
    |some L=>simp
  by_cases a:(i:Int)=e
  ·by_cases b:(i:Int)∈l
   ·rw[if_pos b,if_pos a,if_pos (by simp[b]),ff]
   ·rw[if_neg b,if_pos a,if_pos (by simp[a])]
  ·by_cases b:(i:Int)∈l
   ·rw[if_pos b,if_neg a,if_pos (by simp[b])]
   ·rw[if_neg b,if_neg a,if_neg (by simp[a,b])]
section
variable {n k:Nat}{es:Nat->List Int}{A:Int->Int->Bool}{F:Fr}{p:Nat}{x:Int}{g:Nat->Int}
theorem zcp:(settle es A F p x).length=F.length:=by unfold settle;rw[VF,lF]
theorem zdJ(B:Bo n k es A)(hF:F.length=n)(hp:p<n)(i:Nat)(hi:i<n):(settle es A F p x)[i]?=if i=p then some none else if (i:Int)∈es p then F[i]?.map (Option.map (·.filter (A x))) else F[i]?:=by
 unfold settle;rw[VG i (λe he=>(B.mem p hp e he).1) (by rw[lF,hF];exact hi)];by_cases e:i=p
 ·subst e;rw[if_pos rfl,if_neg (λz=>(B.mem i hp _ z).2.2 rfl),vM (by rw[hF];exact hi)]
 ·rw[if_neg e,o_ (Ne.symm e)]
theorem qT{i:Nat}{c:Option (List Int)}(hF:F.length=n)(h:F[i]?=some c):i<n:=by rw[<-hF];exact(eY.mp h).1
theorem OJ(B:Bo n k es A)(hF:F.length=n)(hp:p<n){i:Nat}{M:List Int}(h:(settle es A F p x)[i]?=some (some M)):i≠p/\∃L,F[i]?=some (some L)/\M=if (i:Int)∈es p then L.filter (A x) else L:=by
 have hi:i<n:=qT (by rw[zcp];exact hF) h;rw[zdJ B hF hp i hi] at h;by_cases e:i=p
 ·rw[if_pos e] at h;cases h
 ·rw[if_neg e] at h;refine⟨e,?_⟩;by_cases m:(i:Int)∈es p
  ·rw[if_pos m] at h;obtain⟨c,e1,e2⟩:=jE.mp h;cases c with
   |none=>cases e2
   |some L=>cases e2;exact⟨L,e1,by rw[if_pos m]⟩
  ·rw[if_neg m] at h;exact⟨M,h,by rw[if_neg m]⟩
theorem K6(B:Bo n k es A)(hF:F.length=n)(hp:p<n){i:Nat}{L:List Int}(hi:i≠p)(h:F[i]?=some (some L)):(settle es A F p x)[i]?=some (some (if (i:Int)∈es p then L.filter (A x) else L)):=by
 rw[zdJ B hF hp i (qT hF h),if_neg hi,h]
 split<;>rfl
theorem K7(B:Bo n k es A)(v:Fv n k F)(hp:p<n):Fv n k (settle es A F p x):=by
 refine⟨by rw[zcp];exact v.len,λi M h=>?_,λi M h=>?_,λi M h=>?_⟩<;>obtain⟨_,L,e,rfl⟩:=OJ B v.len hp h
 ·intro y hy;refine v.lo i L e y ?_;split at hy
  ·exact(qg.mp hy).1
  ·exact hy
 ·split
  ·exact jo (Gv _ _) (v.ll i L e)
  ·exact v.ll i L e
 ·split
  ·exact(v.so i L e).filter _
  ·exact v.so i L e
theorem O1(B:Bo n k es A)(v:Fv n k F)(hp:p<n){L:List Int}(hL:F[p]?=some (some L))(s:nD es A F g):nD es A (settle es A F p (g p)) g:=by
 refine⟨λi M h=>?_,λi e M N h1 h2 he=>?_⟩
 ·obtain⟨_,L',e,rfl⟩:=OJ B v.len hp h;have:=s.mem i L' e
  split
  ·exact qg.mpr ⟨this,s.fit p i L L' hL e (by assumption)⟩
  ·exact this
 ·obtain⟨_,L',e1,_⟩:=OJ B v.len hp h1;obtain⟨_,L2,e2,_⟩:=OJ B v.len hp h2;exact s.fit i e L' L2 e1 e2 he
theorem zeV(B:Bo n k es A)(v:Fv n k F)(hp:p<n){L:List Int}(hL:F[p]?=some (some L))(hx:x∈L)(s:nD es A (settle es A F p x) g):nD es A F λi=>if i=p then x else g i:=by
 have ap:∀(i:Nat) M,i≠p->F[i]?=some (some M)->(i:Int)∈es p->A x (g i)=true/\(0<=g i/\g i<k):=λi M ni h m=>by
  have h2:=K6 (x:=x) B v.len hp ni h;have:=s.mem i _ h2;rw[if_pos m] at this;exact⟨(qg.mp this).2,v.lo i M h _ (qg.mp this).1⟩
 have hxk:=v.lo p L hL x hx;refine⟨λi M h=>?_,λi e M N h1 h2 he=>?_⟩
 ·by_cases z:i=p
  ·subst z;rw[if_pos rfl];rw[hL] at h;cases h;exact hx
  ·rw[if_neg z];have:=s.mem i _ (K6 (x:=x) B v.len hp z h);split at this
   ·exact(qg.mp this).1
   ·exact this
 ·have li:=qT v.len h1;have le:=qT v.len h2;by_cases z:i=p
  ·subst z;have ne:e≠i:=λq=>(B.mem i li _ he).2.2 (by rw[q]);rw[if_pos rfl,if_neg ne];exact(ap e N ne h2 he).1
  ·by_cases y:e=p
   ·subst y;rw[if_neg z,if_pos rfl];have m:=B.sym i e li le he;obtain⟨q1,q2⟩:=ap i M z h1 m;rw[B.asy _ _ q2.1 q2.2 hxk.1 hxk.2];exact q1
   ·rw[if_neg z,if_neg y];exact s.fit i e _ _ (K6 (x:=x) B v.len hp z h1) (K6 (x:=x) B v.len hp y h2) he
theorem Gm(B:Bo n k es A)(v:Fv n k F)(hp:p<n){L:List Int}(hL:F[p]?=some (some L)):Sat es A F↔∃x∈L,Sat es A (settle es A F p x):=
 ⟨λ⟨g,s⟩=>⟨g p,s.mem p L hL,g,O1 B v hp hL s⟩,λ⟨x,hx,g,s⟩=>⟨_,zeV B v hp hL hx s⟩⟩
noncomputable def dR(es:Nat->List Int)(F:Fr)(p:Nat):Nat:=((es p).filter λe=>(F[e.toNat]?.join).isSome).length
noncomputable def bnd(es:Nat->List Int)(F:Fr):Fr:=F.mapIdx λi c=>if 0<dR es F i then c else none
theorem zi5{i:Nat}:(bnd es F)[i]?=F[i]?.map λc=>if 0<dR es F i then c else none:=by unfold bnd;rw[List.getElem?_mapIdx]
theorem Dn{i:Nat}{L:List Int}(h:(bnd es F)[i]?=some (some L)):F[i]?=some (some L)/\0<dR es F i:=by
 rw[zi5] at h;obtain⟨c,e1,e2⟩:=jE.mp h;split at e2
 ·subst e2;exact⟨e1,by assumption⟩
 ·cases e2
theorem zjh(v:Fv n k F):Fv n k (bnd es F):=⟨by unfold bnd;rw[List.length_mapIdx];exact v.len,λi L h=>v.lo i L (Dn h).1,λi L h=>v.ll i L (Dn h).1,λi L h=>v.so i L (Dn h).1⟩
theorem zeZ{i e:Nat}{L:List Int}(hm:(e:Int)∈es i)(h:F[e]?=some (some L)):0<dR es F i:=by
 unfold dR;refine List.length_pos_of_mem (a:=(e:Int)) (qg.mpr ⟨hm,?_⟩);rw[oV,h];rfl
theorem zjT(B:Bo n k es A)(v:Fv n k F)(ne:∀(i:Nat) L,F[i]?=some (some L)->L≠[]):Sat es A (bnd es F)↔Sat es A F:=by
 constructor
 ·rintro⟨g,s⟩;have to:∀(i:Nat) L,F[i]?=some (some L)->0<dR es F i->(bnd es F)[i]?=some (some L):=λi L h q=>by rw[zi5,h];show some (if _ then _ else _)=_;rw[if_pos q]
  refine⟨λi=>if 0<dR es F i then g i else ((F[i]?.join).getD []).headD 0,λi L h=>?_,λi e L M h1 h2 he=>?_⟩
  ·by_cases q:0<dR es F i
   ·rw[if_pos q];exact s.mem i L (to i L h q)
   ·rw[if_neg q,h];show L.headD 0∈L;cases L with
    |nil=>exact absurd rfl (ne i [] h)
    |cons a L=>exact kJ
  ·have q1:=zeZ he h2;have q2:=zeZ (B.sym i e (qT v.len h1) (qT v.len h2) he) h1;rw[if_pos q1,if_pos q2];exact s.fit i e L M (to i L h1 q1) (to e M h2 q2) he
 ·rintro⟨g,s⟩;exact⟨g,λi L h=>s.mem i L (Dn h).1,λi e L M h1 h2 he=>s.fit i e L M (Dn h1).1 (Dn h2).1 he⟩
theorem VH(h:∀(i:Nat) L,F[i]?≠some (some L)):Sat es A F:=⟨λ_=>0,λi L q=>absurd q (h i L),λi _ L _ q=>absurd q (h i L)⟩
theorem zjK{i:Nat}(h:F[i]?=some (some [])):¬Sat es A F:=λ⟨g,s⟩=>nomatch s.mem i [] h
noncomputable def bM(k:Nat):List Int:=(List.range k).map λ(i:Nat)=>(i:Int)
theorem bJ{k:Nat}{y:Int}:y∈bM k↔0<=y/\y<k:=by
 unfold bM;rw[jO]
 constructor
 ·rintro⟨i,hi,rfl⟩;have:=tY.mp hi;lia
 ·intro h;exact⟨y.toNat,tY.mpr gV,by lia⟩
theorem VJ(B:Bo n k es A)(v:Fv n k F)(hp:p<n)(hk:1<=k)(cO:∀t a b:Int,0<=a->a<k->0<=b->b<k->A ((a+t)%k) ((b+t)%k)=A a b)(all:∀(i:Nat) L,F[i]?=some (some L)->L=bM k)(hL:F[p]?=some (some (bM k))):Sat es A F↔Sat es A (settle es A F p 0):=by
 constructor
 ·rintro⟨g,s⟩;have md:∀z:Int,0<=z%(k:Int)/\z%(k:Int)<k:=λz=>⟨Ej _ gV,GF _ gV⟩;have s2:nD es A F λi=>(g i + -(g p))%k:=by
   refine⟨λi L h=>?_,λi e L M h1 h2 he=>?_⟩
   ·rw[all i L h];exact bJ.mpr (md _)
   ·have a:=bJ.mp (all i L h1▸s.mem i L h1);have b:=bJ.mp (all e M h2▸s.mem e M h2);show A ((g i + -(g p))%k) ((g e + -(g p))%k)=true;rw[cO _ _ _ a.1 a.2 b.1 b.2];exact s.fit i e L M h1 h2 he
  have:=O1 B v hp hL s2;have e0:(g p + -(g p))%(k:Int)=0:=by rw[Int.add_right_neg];rfl
  simp only[e0] at this;exact⟨_,this⟩
 ·intro h;exact(Gm B v hp hL).mpr ⟨0,bJ.mpr ⟨by lia,by lia⟩,h⟩
noncomputable def unset(F:Fr):Nat:=F.countP Option.isSome
theorem zdq:unset (bnd es F)<=unset F:=by
 unfold unset bnd;generalize dR es F=f
 induction F generalizing f with
 |nil=>simp
 |cons c F ih=>
  rw[List.mapIdx_cons,Al,Al];have:=ih (λi=>f (i+1));have e:(if (if 0<f 0 then c else none).isSome=true then 1 else 0)<=(if c.isSome=true then 1 else 0):=by
   split<;>split<;>simp_all
  lia
theorem zg4{F:Fr}:∀{p:Nat} {L:List Int},F[p]?=some (some L)->unset (F.set p none)+1=unset F:=by
 unfold unset
 induction F with
 |nil=>intro p L h;simp at h
 |cons c F ih=>
  intro p L h;cases p with
  |zero=>simp at h;subst h;simp
  |succ p=>
   have:=ih (p:=p) (L:=L) (by simpa using h);rw[List.set_cons_succ,Al,Al]
   lia
theorem zgA{f:Int->Bool}{F:Fr}{e:Int}:unset (gq f F e)<=unset F:=by
 unfold unset gq;generalize e.toNat=j
 induction F generalizing j with
 |nil=>simp
 |cons c F ih=>
  cases j with
  |zero=>cases c<;>simp
  |succ j=>
   rw[List.set_cons_succ,Al,Al,Dz];have:=ih j
   lia
theorem zcl{f:Int->Bool}:∀{l:List Int} {F:Fr},unset (l.foldl (gq f) F)<=unset F
 |[],F=>bK _
 |e::l,F=>jo (zcl (l:=l)) zgA
theorem K8{L:List Int}(h:F[p]?=some (some L)):unset (settle es A F p x)+1<=unset F:=by
 have:=zcl (f:=A x) (l:=es p) (F:=F.set p none);have:=zg4 h;unfold settle
 lia
theorem zfq(h:unset F=0)(i:Nat)(L:List Int):F[i]?≠some (some L):=λe=>by
 have:=List.countP_eq_zero.mp h _ (fK e);exact this rfl
def lC(es:Nat->List Int)(A:Int->Int->Bool)(kvs:iU):Prop:=∀F d,bZ (F.map cellK) kvs=some d->∃b,d=.bl b/\(b=true↔Sat es A F)
theorem zeX{j q:List Kx}{d:D}:∀{kvs:iU},bZ j (jB q d kvs)=if j=q then some d else bZ j kvs:=by
 intro kvs;unfold jB;have app:∀{r:iU},bZ j (r++[(q,d)])=match bZ j r with|some e=>some e|none=>if j=q then some d else none:=λ{r}=>by
  induction r with
  |nil=>
   show (if q=j then some d else none)=if j=q then some d else none
   by_cases e:q=j
   ·rw[if_pos e,if_pos e.symm]
   ·rw[if_neg e,if_neg λz=>e z.symm]
  |cons p r ih=>
   rw[List.cons_append];unfold bZ;by_cases e:p.1=j
   ·simp[e]
   ·simp only[e,sZ];exact ih
 by_cases h:(bZ q kvs).isSome=true
 ·rw[if_pos h];by_cases e:j=q
  ·subst e;rw[if_pos rfl]
   induction kvs with
   |nil=>simp[bZ] at h
   |cons p r ih=>
    rw[iR];by_cases z:p.1=j
    ·rw[if_pos z];unfold bZ;rw[if_pos z]
    ·rw[if_neg z];unfold bZ at h ⊢;rw[if_neg z] at h ⊢;exact ih h
  ·rw[if_neg e];clear h
   induction kvs with
   |nil=>rfl
   |cons p r ih=>
    rw[iR];by_cases z:p.1=q
    ·rw[if_pos z];unfold bZ;rw[if_neg (λy=>e (y.symm.trans z)),if_neg (λy=>e (y.symm.trans z))];exact ih
    ·rw[if_neg z];unfold bZ;by_cases y:p.1=j
     ·rw[if_pos y,if_pos y]
     ·rw[if_neg y,if_neg y];exact ih
 ·rw[if_neg h,app];by_cases e:j=q
  ·subst e;have:bZ j kvs=none:=by simpa using h
   simp[this]
  ·rw[if_neg e,if_neg e];cases bZ j kvs<;>rfl
theorem zir{q:List Kx}{d:D}{kvs:iU}:(jB q d kvs).length<=kvs.length+1:=by
 unfold jB
 split
 ·rw[bI];lia
 ·simp
theorem zkz{kvs:iU}{b:Bool}(h:lC es A kvs)(hb:b=true↔Sat es A F):lC es A (jB (F.map cellK) (.bl b) kvs):=λG d e=>by
 rw[zeX] at e;by_cases z:G.map cellK=F.map cellK
 ·rw[if_pos z] at e;cases e;rw[zfQ z];exact⟨b,rfl,hb⟩
 ·rw[if_neg z] at e;exact h G d e
end
noncomputable def cnt(k:Nat):Nat->Nat
 |0=>1
 |m+1=>1+k*cnt k m
section
variable {aq:Nat->Nat->Bool}{aj:Bool}{F:Fn}{J:Vs}{s:S}{P:Xv->S->Prop}
theorem W.rJ{c:Nat}{fs:List D}{P:List D->S->Prop}(h:P fs s):W (Mi.rJ c (.d (.ob c fs))) s P:=by
 show W (if c=c then M.ret fs else M.no) s P;rw[if_pos rfl];exact W.ret h
theorem W.cm{c f:Nat}{o:E}{xs:Es}{fs:List D}{vs:List Xv}(h1:dN aq o J=some (.d (.ob c fs)))(h2:oU aq xs J=some vs)(k:W (bW (F f) (.d (.ob c fs)::vs)) s P):W (ev aq aj F (.cm c f o xs) J) s P:=
 W.bd (W.eq (gO o _ h1) (W.bd (W.rJ (W.bd (W.eq (jM xs h2) (W.qt k))))))
theorem W.rC(h:P (.l s.length) (s++[.dct []])):W (ev aq aj F .rC J) s P:=⟨_,_,rfl,h⟩
theorem W.key{x:D}{kx:List Kx}{P:List Kx->S->Prop}(e:kOf x=some kx)(h:P kx s):W (Mi.key (.d x)) s P:=W.opt e h
theorem W.f9{n:Nat}{kvs:iU}{P:Nat×iU->S->Prop}(e:s[n]?=some (.dct kvs))(h:P (n,kvs) s):W (Mi.f9 (.l n)) s P:=⟨_,s,by unfold Mi.f9;simp only[e],h⟩
theorem W.Ce{b:Bool}{k d:E}{x:D}{n:Nat}{kx:List Kx}{kvs:iU}(h1:dN aq k J=some (.d x))(h2:dN aq d J=some (.l n))(e:kOf x=some kx)(hn:s[n]?=some (.dct kvs))(h:P (.d (.bl ((bZ kx kvs).isSome==b))) s):W (ev aq aj F (.Ce b k d) J) s P:=
 W.bd (W.eq (gO k _ h1) (W.bd (W.eq (gO d _ h2) (W.bd (W.key e (W.bd (W.f9 hn (W.ret h))))))))
theorem W.pJ{d k:E}{x v:D}{n:Nat}{kx:List Kx}{kvs:iU}(h1:dN aq d J=some (.l n))(h2:dN aq k J=some (.d x))(e:kOf x=some kx)(hn:s[n]?=some (.dct kvs))(hv:bZ kx kvs=some v)(h:P (.d v) s):W (ev aq aj F (.pJ d k) J) s P:=
 W.bd (W.eq (gO d _ h1) (W.bd (W.eq (gO k _ h2) (W.bd (W.key e (W.bd (W.f9 hn (W.opt (a:=.d v) (by show Option.map _ (bZ kx kvs)=_;rw[hv];rfl) h))))))))
theorem W.Fp{a:E}(h:W (ev aq aj F a J) s λx s1=>W (rd x) s1 λd s2=>∃b,xP d=some b/\P (.d (.bl b)) s2):W (ev aq aj F (.Fp a) J) s P:=
 W.bd (h.imp λ_ _ h=>W.bd (h.imp λ_ _ ⟨_,e,h⟩=>W.bd (W.opt e (W.ret h))))
theorem KaO{xs:List D}{P:Src×Nat->S->Prop}(h:P (.fix (enumFrom 0 xs),(enumFrom 0 xs).length) s):W (oH (.d (.tup xs))) s P:=⟨_,s,rfl,h⟩
theorem W.mk{c f:Nat}{xs:Es}{vs:List Xv}{ds:List D}(h:W (evs aq aj F xs J) s λus s1=>us=vs/\P (.d (.ob c ds)) s1)(hl:locs vs=[])(k:W (F f (.d .any::vs)) [] λv _=>v=.d (.tup ds)):W (ev aq aj F (.mk c f xs) J) s P:=by
 refine W.bd (h.imp λus s1 ⟨e,hp⟩=>?_);subst e;obtain⟨v,s2,e1,rfl⟩:=k;refine⟨_,s1,?_,hp⟩;unfold TF;rw[if_pos hl];simp only[e1]
end
theorem WS.dput{aq:Nat->Nat->Bool}{aj:Bool}{F:Bool->Fn}{J:Vs}{s:S}{Q:Out->S->Prop}{d k v:E}{x:D}{n:Nat}{kx:List Kx}(h1:dN aq d J=some (.l n))(h2:dN aq k J=some (.d x))(e:kOf x=some kx)
  (h:W (ev aq aj (F aj) v J) s λz s1=>∃w kvs,z=.d w/\s1[n]?=some (.dct kvs)/\kvs.length<sizeLine/\Q (.nx J) (s1.set n (.dct (jB kx w kvs)))):WS (ex aq aj F (.dput d k v) J) s Q:=by
 refine WS.ofM (W.bd (h.imp λz s1 hz=>?_));obtain⟨w,kvs,ez,hn,hl,q⟩:=hz;subst ez;refine W.bd (W.dat (W.bd (W.eq (gO d _ h1) (W.bd (W.eq (gO k _ h2) (W.bd (W.key e (W.bd (W.f9 hn ?_)))))))));rw[if_pos hl];exact⟨_,_,rfl,WS.nx q⟩
theorem zbC{α:Type}{f:α->D}:∀(l:List α) (j:Nat),enumFrom j (l.map f)=(l.zipIdx j).map λp=>.tup [.int p.2,f p.1]
 |[],j=>rfl
 |a::l,j=>by rw[iR,List.zipIdx_cons,iR,<-zbC l (j+1)];rfl
theorem Ka0{o:Option Rz}{xs:List D}{s:S}{P:Xv->S->Prop}(e:o=some (.nw xs))(h:P (.l s.length) (s++[.lst xs])):W (cG false o) s P:=by subst e;exact⟨_,_,rfl,h⟩
theorem zjx{n:Nat}{j:Int}(h0:0<=j)(h:j<n):L2.rz n j=some j.toNat:=by
 unfold L2.rz;rw[if_pos h0,if_pos h]
theorem zkL{n:Nat}{j:Int}(h0:j<0)(h : -(n:Int)<=j):L2.rz n j=some (j+n).toNat:=by
 unfold L2.rz;rw[if_neg gV,if_pos h]
theorem zoh{xs:List D}{j:Int}{x:D}(h0:j<0)(h1 : -(xs.length:Int)<=j)(h:xs[(j+xs.length).toNat]?=some x):prim .ix [.fl xs,.int j]=some (.dat x):=by
 show Option.map Rz.dat (L2.qy xs j)=_;have:L2.qy xs j=some x:=by
  unfold L2.qy;rw[zkL h0 h1];exact h
 rw[this];rfl
theorem ziK(F:Fr):memD (.tup []) (F.map aX)=some (decide (some []∈F)):=by
 induction F with
 |nil=>rfl
 |cons c F ih=>
  simp only[iR,memD,ih];cases c with
  |none=>
   have e:cL 50 (aX none) (.tup [])=some false:=rfl;simp[e]
  |some l=>
   cases l with
   |nil=>
    have:cL 50 (aX (some [])) (.tup [])=some true:=rfl;rw[this];simp
   |cons a l=>
    have:cL 50 (aX (some (a::l))) (.tup [])=some false:=rfl;rw[this];simp
theorem zoJ{f:Bool->Bool}{F:Fr}:Fq f [.tup [],ju F]=some (.dat (.bl (f (decide (some []∈F))))):=by
 show Option.map _ (memD (.tup []) (F.map aX))=_;rw[ziK];rfl
theorem zgT{k':Nat}:∀(a b:List Int),dU (cL k') (a.map D.int) (b.map D.int)=some (decide (a=b))
 |[],[]=>by simp[dU]
 |[],_::_=>by simp[dU]
 |_::_,[]=>by simp[dU]
 |x::a,y::b=>by
  have hi:cL k' (.int x) (.int y)=some (x==y):=by cases k'<;>rfl
  simp only[iR,dU,zgT a b,hi]
  congr 1
  by_cases e:x=y<;>by_cases e2:a=b<;>simp[e,e2]
theorem znK{f:Bool->Bool}{a b:List Int}:zc f [.tup (a.map .int),.tup (b.map .int)]=some (.dat (.bl (f (decide (a=b))))):=by
 show Option.map _ (dU (cL 49) (a.map D.int) (b.map D.int))=_;rw[zgT];rfl
theorem zdI:∀rs:List (List Int),j8 (rs.map λr=>D.tup (r.map .int))=some rs
 |[]=>rfl
 |r::rs=>by simp only[iR,j8,VD,zdI rs]
theorem VL:∀(rs:List (List Int)) (b:List Int),fZ b rs=b\/fZ b rs∈rs
 |[],b=>.inl rfl
 |x::r,b=>by
  unfold fZ
  split
  ·rcases VL r x with h|h
   ·rw[h];exact .inr kJ
   ·exact .inr (g_ _ h)
  ·rcases VL r b with h|h
   ·exact .inl h
   ·exact .inr (g_ _ h)
theorem zmo{rs:List (List Int)}(h:rs≠[]):∃r∈rs,prim .rB [.fl (rs.map λr=>D.tup (r.map .int))]=some (.dat (.tup (r.map .int))):=by
 cases rs with
 |nil=>exact absurd rfl h
 |cons x r=>
  refine⟨fZ x r,?_,?_⟩
  ·rcases VL r x with h|h
   ·rw[h];exact kJ
   ·exact g_ _ h
  ·show oG [.fl ((x::r).map λr=>D.tup (r.map .int))]=_;unfold oG;simp only[zdI]
theorem zot{n:Nat}(h:n<=65536):prim .Fl [.int n]=some (.dat (.tup ((bM n).map .int))):=by
 show (if okR 0 (n:Int)=true then some (Rz.dat (.tup (rG 0 ((n:Int)-0).toNat))) else none)=_;rw[if_pos (show okR 0 (n:Int)=true from dB gV)];unfold rG bM;rw[En,show ((n:Int)-0).toNat=n by lia]
 congr 4
 funext i
 simp
noncomputable def Dp(n:Nat)(es:Nat->List Int):List D:=(List.range n).map λi=>.tup ((es i).map .int)
noncomputable def wF(k:Nat)(A:Int->Int->Bool):List D:=(List.range k).map λ(a:Nat)=>.fl ((List.range k).map λ(b:Nat)=>.bl (A a b))
noncomputable def jw(al:Bool)(n k:Nat)(es:Nat->List Int)(A:Int->Int->Bool):D:=.ob 0 [.fl (Dp n es),.tup ((bM k).map .int),.fl (wF k A),.bl al]
noncomputable abbrev VN(n k:Nat)(es:Nat->List Int)(A:Int->Int->Bool):D:=jw true n k es A
theorem znO{n:Nat}{es:Nat->List Int}{i:Nat}(h:i<n):(Dp n es)[i]?=some (.tup ((es i).map .int)):=by
 unfold Dp;rw[gC,Gz h];rfl
theorem zpc{k:Nat}{A:Int->Int->Bool}{a:Int}(h0:0<=a)(h:a<k):(wF k A)[a.toNat]?=some (.fl ((List.range k).map λ(b:Nat)=>.bl (A a b))):=by
 unfold wF;rw[gC,Gz gV];have:((a.toNat:Nat):Int)=a:=by lia
 simp[this]
theorem VP{k:Nat}{f:Int->Bool}{b:Int}(h0:0<=b)(h:b<k):((List.range k).map λ(b:Nat)=>D.bl (f b))[b.toNat]?=some (.bl (f b)):=by
 rw[gC,Gz gV];have:((b.toNat:Nat):Int)=b:=by lia
 simp[this]
theorem K9{F:Fr}{i:Nat}{c:Option (List Int)}(h:F[i]?=some c):(F.map aX)[i]?=some (aX c):=by rw[gC,h];rfl
theorem zli{f:Int->Bool}{F:Fr}{e:Int}:(gq f F e).map aX=(F.map aX).set e.toNat (aX ((F[e.toNat]?.join).map (·.filter f))):=by
 unfold gq;rw[List.map_set]
theorem ziO{f:Int->Bool}{F:Fr}{e:Int}(h:F[e.toNat]?=some none):gq f F e=F:=by
 unfold gq;rw[h];obtain⟨hl,e2⟩:=eY.mp h;show F.set e.toNat none=F;rw[<-e2,List.set_getElem_self]
theorem zdo{α:Type}{p:Int->Bool}(l:List Int):l.filterMap (λy=>if p y=true then some (D.int y) else none)=(l.filter p).map .int:=by
 induction l with
 |nil=>rfl
 |cons a l ih=>
  rw[DN,yM];by_cases q:p a=true
  ·simp[q,ih]
  ·simp[q,ih]
noncomputable def tot(k:Nat):Nat->Nat
 |0=>0
 |m+1=>k*cnt k m+tot k m
theorem zi6{k:Nat}{L:List Int}(h:L.Pairwise (·<·))(hb:∀x∈L,0<=x/\x<k):L.length<=k:=by
 have key:∀(L:List Int) (a:Int),L.Pairwise (·<·)->(∀x∈L,a<=x/\x<k)->a<=k->(L.length:Int)<=k-a:=by
  intro L
  induction L with
  |nil=>intro a _ _ ha;simp;lia
  |cons x r ih=>
   intro a h hb ha;rw[yK] at h;have hx:=hb x Zaa;have:=ih (x+1) h.2 (λy hy=>by have:=h.1 y hy;have:=hb y (by simp[hy]);lia) gV;rw[gD]
   lia
 have:=key L 0 h hb gV
 lia
noncomputable def b_(k d:Int)(a b:Int):Bool:=decide (d<=eO k a b)
section
variable {n k d:Int}{ps:List (Int×Int)}{ls:List Int}
theorem zho(hd:1<=d){a b:Int}:b_ k d a b=b_ k d b a:=by
 unfold b_;rw[tX,Gi hd,Gi hd]
 lia
theorem zha(hd:1<=d)(t a b:Int)(a0:0<=a)(ak:a<k)(b0:0<=b)(bk:b<k):b_ k d ((a+t)%k) ((b+t)%k)=b_ k d a b:=by
 unfold b_;rw[tX,Gi hd,Gi hd];have e1:=Int.emod_add_mul_ediv (a+t) k;have e2:=Int.emod_add_mul_ediv (b+t) k;have u0:=Ej (a+t) (b:=k) gV;have w0:=Ej (b+t) (b:=k) gV;have uk:=GF (a+t) (b:=k) gV;have wk:=GF (b+t) (b:=k) gV;generalize (a+t)%k=u at *;generalize (b+t)%k=w at *;generalize (a+t)/k=q1 at *;generalize (b+t)/k=q2 at *;have e3:k*(q1-q2)=(a-b)-(u-w):=by rw[Int.mul_sub];lia
 have c:q1-q2 = -1\/q1-q2=0\/q1-q2=1:=by
  have h1:q1-q2<2:=Int.not_le.mp λz=>by
   have:=Int.mul_le_mul_of_nonneg_left z (show 0<=k by lia)
   lia
  have h2 : -2<q1-q2:=Int.not_le.mp λz=>by
   have:=Int.mul_le_mul_of_nonneg_left z (show 0<=k by lia)
   lia
  lia
 rcases c with c|c|c<;>rw[c] at e3<;>lia
theorem K_(w:Web n ps){i e:Int}:e∈aU i ps↔(i,e)∈ps\/(e,i)∈ps:=by
 unfold aU;rw[DR]
 constructor
 ·rintro⟨p,hp,h⟩;obtain⟨a,b⟩:=p;unfold endOf at h;dsimp only at h;split at h
  ·cases h;subst_vars;exact .inl hp
  ·split at h
   ·cases h;subst_vars;exact .inr hp
   ·cases h
 ·rintro(hp|hp)
  ·exact⟨_,hp,by simp[endOf]⟩
  ·have:=w.tie _ hp;dsimp only at this;exact⟨_,hp,by unfold endOf;dsimp only;rw[if_neg gV,if_pos rfl]⟩
theorem zi4(w:Web n ps)(hd:1<=d)(hk:k<=24):Bo n.toNat k.toNat (λi=>aU i ps) (b_ k d) where
 hn:=by have:=w.h8;lia
 hk:=by lia
 mem:=λi hi e he=>by
  have:=zei w he;refine⟨this.1,by lia,λz=>?_⟩;subst z;rcases(K_ w).mp he with h|h<;>have:=w.tie _ h<;>dsimp only at this<;>lia
 sym:=λi e _ _ he=>(K_ w).mpr ((K_ w).mp he).symm
 len:=λi hi=>by
  have:=zi6 (k:=n.toNat) (zex w i) (λx hx=>by have:=zei w hx;have:=w.h1;lia);have:=w.h8
  lia
 asy:=λa b _ _ _ _=>zho hd
noncomputable def iM(n k:Int):Fr:=List.replicate n.toNat (some (bM k.toNat))
theorem z_{i:Nat}{L:List Int}(h:(iM n k)[i]?=some (some L)):i<n.toNat/\L=bM k.toNat:=by
 unfold iM at h;rw[Ad] at h;split at h
 ·cases h;exact⟨by assumption,rfl⟩
 ·cases h
theorem Aa{i:Nat}(h:i<n.toNat):(iM n k)[i]?=some (some (bM k.toNat)):=by
 unfold iM;rw[Ad,if_pos h]
theorem O2(hk:k<=24):Fv n.toNat k.toNat (iM n k) where
 len:=by unfold iM;simp
 lo:=λi L h x hx=>by rw[(z_ h).2] at hx;exact bJ.mp hx
 ll:=λi L h=>by rw[(z_ h).2];unfold bM;simp;lia
 so:=λi L h=>by
  rw[(z_ h).2];unfold bM;rw[GK];exact Qn.imp (by intro a b h;lia)
theorem O4(w:Web n ps)(hd:1<=d){hs:List Int}(h:gj n k d ps hs):nD (λi=>aU i ps) (b_ k d) (iM n k) λj=>at' hs j where
 mem:=λi L e=>by
  obtain⟨h1,rfl⟩:=z_ e;have:=h.len;have:=h.lo _ (Gg (fs:=hs) (j:=i) gV gV);exact bJ.mpr gV
 fit:=λi e L M _ _ he=>by
  rcases(K_ w).mp he with q|q
  ·have:=h.fit _ q;show b_ k d (at' hs i) (at' hs e)=true;unfold b_;rw[GD];exact this
  ·have:=h.fit _ q;rw[zho hd];show b_ k d (at' hs e) (at' hs i)=true;unfold b_;rw[GD];exact this
theorem zeL(w:Web n ps){hs:List Int}(hl:hs.length=n.toNat)(s:nD (λi=>aU i ps) (b_ k d) (iM n k) λj=>at' hs j):gj n k d ps hs where
 len:=by have:=w.h1;lia
 lo:=λx hx=>by
  obtain⟨j,hj,e⟩:=sV hx;have:=s.mem j _ (Aa gV);have e2:at' hs (j:Int)=x:=by
   unfold at';rw[oV,nP,cX hj,e];rfl
  rw[e2] at this;have:=bJ.mp this
  lia
 fit:=λp hp=>by
  have ht:=w.tie p hp;obtain⟨a,b⟩:=p;dsimp only at ht;obtain⟨i,rfl⟩:=wH ht.1;obtain⟨e,rfl⟩:=wH (show 0<=b by lia);have:=s.fit i e _ _ (Aa gV) (Aa gV) ((K_ w).mpr (.inl hp));unfold b_ at this;rw[GD] at this;exact this
end
theorem O5{k k2 m m2:Nat}(hk:k<=k2)(hm:m<=m2):cnt k m<=cnt k2 m2:=by
 have h1:∀m,cnt k m<=cnt k2 m:=by
  intro m
  induction m with
  |zero=>exact bK _
  |succ m ih=>exact Nat.add_le_add_left (G4 hk ih) 1
 have h3:∀m,1<=cnt k2 m:=λm=>by cases m<;>unfold cnt<;>lia
 by_cases c:k2=0
 ·subst c;have:k=0:=by lia
  subst this;cases m<;>cases m2<;>simp[cnt]
 ·have h2:∀j,cnt k2 m<=cnt k2 (m+j):=by
   intro j
   induction j with
   |zero=>exact bK _
   |succ j ih=>
    have:1*cnt k2 (m+j)<=k2*cnt k2 (m+j):=Gy _ gV;show _<=1+k2*cnt k2 (m+j)
    lia
  have:=h2 (m2-m);rw[show m+(m2-m)=m2 by lia] at this;exact jo (h1 m) this
theorem zek{k k2 m m2:Nat}(hk:k<=k2)(hm:m<=m2):tot k m<=tot k2 m2:=by
 have h1:∀m,tot k m<=tot k2 m:=by
  intro m
  induction m with
  |zero=>exact bK _
  |succ m ih=>exact Nat.add_le_add (G4 hk (O5 hk (bK _))) ih
 have h2:∀j,tot k2 m<=tot k2 (m+j):=by
  intro j
  induction j with
  |zero=>exact bK _
  |succ j ih=>show _<=k2*cnt k2 (m+j)+tot k2 (m+j);lia
 have:=h2 (m2-m);rw[show m+(m2-m)=m2 by lia] at this;exact jo (h1 m) this
section
variable {n k d:Int}{ps:List (Int×Int)}
noncomputable def wG(k d:Int)(ps:List (Int×Int))(r:List Int)(x:Int):Bool:=ps.all λp=>decide (p.2=(r.length:Int)->d<=eO k (at' r p.1) x)
noncomputable def nextR(k d:Int)(ps:List (Int×Int))(r:List Int):List (List Int):=((bM k.toNat).filter (wG k d ps r)).map λx=>r++[x]
noncomputable def grow(k d:Int)(ps:List (Int×Int))(rows:List (List Int)):List (List Int):=rows.flatMap (nextR k d ps)
noncomputable def grows(k d:Int)(ps:List (Int×Int))(rows:List (List Int)):Nat->List (List Int)
 |0=>rows
 |i+1=>grow k d ps (grows k d ps rows i)
theorem vJ{rows:List (List Int)}{h:List Int}:h∈grow k d ps rows↔∃r∈rows,∃x:Int,(0<=x/\x<(k.toNat:Nat))/\wG k d ps r x=true/\h=r++[x]:=by
 unfold grow nextR;rw[List.mem_flatMap]
 constructor
 ·rintro⟨r,hr,hh⟩;obtain⟨x,hx,rfl⟩:=jO.mp hh;obtain⟨h1,h2⟩:=qg.mp hx;exact⟨r,hr,x,bJ.mp h1,h2,rfl⟩
 ·rintro⟨r,hr,x,h1,h2,rfl⟩;exact⟨r,hr,jO.mpr ⟨x,qg.mpr ⟨bJ.mpr h1,h2⟩,rfl⟩⟩
end
section
variable {n k d:Int}{ps:List (Int×Int)}
noncomputable def cI(r:List Int):D:=.tup (r.map .int)
end
section
variable {α β:Type}
theorem zmT{p:α->Bool}{f:α->List β}:∀l:List α,(l.filter p).flatMap f=l.flatMap λa=>if p a=true then f a else []
 |[]=>rfl
 |x::l=>by
  rw[yM,QD,<-zmT l];by_cases h:p x=true
  ·rw[if_pos h,if_pos h,QD]
  ·rw[if_neg h,if_neg h];rfl
end
theorem znz{α:Type}{f g:α->Bool}:∀{l:List α},(∀p∈l,f p=g p)->l.all f=l.all g
 |[],_=>rfl
 |a::l,h=>by rw[nQ,nQ,h a Zaa,znz λp hp=>h p (by simp[hp])]
noncomputable def allR(k:Nat):Nat->List (List Int)
 |0=>[[]]
 |m+1=>(allR k m).flatMap λr=>(bM k).map λx=>r++[x]
theorem La{k:Nat}:∀{m:Nat} {r:List Int},r∈allR k m->r.length=m/\∀x∈r,0<=x/\x<k
 |0,r,h=>by
  rw[sW.mp h];exact⟨rfl,λx hx=>nomatch hx⟩
 |m+1,r,h=>by
  obtain⟨q,hq,h2⟩:=List.mem_flatMap.mp h;obtain⟨x,hx,rfl⟩:=jO.mp h2;obtain⟨e1,e2⟩:=La hq;refine⟨by simp[e1],λy hy=>?_⟩;rcases kO.mp hy with hy|hy
  ·exact e2 y hy
  ·rw[sW.mp hy];exact bJ.mp hx
section
variable {n k d:Int}{ps:List (Int×Int)}
noncomputable def sO(k d:Int)(ps:List (Int×Int))(r:List Int):Bool:=ps.all λp=>decide (p.2<(r.length:Int)->d<=eO k (at' r p.1) (at' r p.2))
noncomputable def Lb(k d:Int)(ps:List (Int×Int))(r:List Int):Bool:=ps.all λp=>decide (d<=eO k (at' r p.1) (at' r p.2))
theorem zdn(w:Web n ps)(r:List Int)(x:Int):sO k d ps (r++[x])=(sO k d ps r&&wG k d ps r x):=by
 unfold sO wG;rw[Bool.eq_iff_iff,dJ,dZ,dZ,dZ];have el:((r++[x]).length:Int)=r.length+1:=by simp
 rw[el]
 constructor
 ·intro h;refine⟨λp hp=>dB λc=>?_,λp hp=>dB λc=>?_⟩
  ·have ht:=w.tie p hp;have:=fO (h p hp) gV
   rwa [Dk gV gV,Dk gV gV] at this
  ·have ht:=w.tie p hp;have:=fO (h p hp) gV
   rwa [Dk gV gV,c,Vr] at this
 ·rintro⟨h1,h2⟩ p hp;refine dB λc=>?_;have ht:=w.tie p hp;by_cases e:p.2=(r.length:Int)
  ·have:=fO (h2 p hp) e
   rwa [Dk gV gV,e,Vr]
  ·have:=fO (h1 p hp) gV
   rwa [Dk gV gV,Dk gV gV]
theorem VR(w:Web n ps):∀m,grows k d ps [[]] m=(allR k.toNat m).filter (sO k d ps)
 |0=>by
  refine(List.filter_eq_self.mpr λr hr=>?_).symm;rw[sW.mp hr];exact dZ.mpr λp hp=>dB λc=>by have:=w.tie p hp;simp at c;lia
 |m+1=>by
  show grow k d ps (grows k d ps [[]] m)=((allR k.toNat m).flatMap _).filter _;rw[VR w m];unfold grow nextR;rw[zmT,List.filter_flatMap]
  congr 1
  funext r
  generalize bM k.toNat=l;by_cases c:sO k d ps r=true
  ·rw[if_pos c]
   induction l with
   |nil=>rfl
   |cons x l ih=>
    rw[iR,yM,yM,zdn w,c,Bool.true_and,<-ih]
    split<;>rfl
  ·rw[if_neg c];refine(List.filter_eq_nil_iff.mpr λq hq=>?_).symm;obtain⟨x,_,rfl⟩:=jO.mp hq;rw[zdn w,Bool.not_eq_true] at *;rw[c];rfl
theorem znx(w:Web n ps){r:List Int}(h:(r.length:Int)=n):sO k d ps r=Lb k d ps r:=
 znz λp hp=>tX.mpr ⟨λq=>q (by have:=w.tie p hp;lia),λq _=>q⟩
theorem zhp(w:Web n ps):grows k d ps [[]] n.toNat=(allR k.toNat n.toNat).filter (Lb k d ps):=by
 rw[VR w];refine List.filter_congr λr hr=>znx w ?_;have:=(La hr).1;have:=w.h1
 lia
end
abbrev WE(m:MS)(s:S)(c:Nat)(fs:List D):Prop:=WS m s λo _=>∃J,o=.er c fs J
section
variable {aq:Nat->Nat->Bool}{aj:Bool}{F:Bool->Fn}{J:Vs}{s:S}{c:Nat}{fs:List D}{e:E}{t u r:bL}
theorem WE.head{a:St}(h:WE (ex aq aj F a J) s c fs):WE (exs aq aj F (.cons a r) J) s c fs:=Oi (h.imp λ_ _ ⟨J,e⟩=>⟨⟨_,_,_,e⟩,_,e⟩)
theorem WE.ex(h:WR (ev aq aj (F aj) e J) s c fs):WE (exs aq aj F (.cons (.ex e) r) J) s c fs:=WE.head (Kbe h λ_=>⟨_,rfl⟩)
end
end Mi
namespace Mi
open PySem PySem.W L2
theorem V0:∀a:List Int,ltI a a=false
 |[]=>rfl
 |x::a=>by show (if x=x then ltI a a else _)=false;rw[if_pos rfl];exact V0 a
theorem zjr:∀{a b c:List Int},ltI a b=true->ltI b c=true->ltI a c=true
 |a,b,[],_,h=>by cases b<;>cases h
 |[],_,z::c,_,_=>rfl
 |x::a,[],z::c,h,_=>by cases h
 |x::a,y::b,z::c,h1,h2=>by
  have h1:(if x=y then ltI a b else decide (x<y))=true:=h1;have h2:(if y=z then ltI b c else decide (y<z))=true:=h2;show (if x=z then ltI a c else decide (x<z))=true;by_cases e1:x=y
  ·subst e1;rw[if_pos rfl] at h1;by_cases e2:x=z
   ·rw[if_pos e2] at h2 ⊢;exact zjr h1 h2
   ·rw[if_neg e2] at h2 ⊢;exact h2
  ·rw[if_neg e1] at h1;have h1:=fO h1;by_cases e2:y=z
   ·subst e2;rw[if_neg e1];exact dB h1
   ·rw[if_neg e2] at h2;have h2:=fO h2;rw[if_neg gV];exact dB gV
theorem zmx{a b:List Int}(h:ltI a b=true):ltI b a=false:=by
 cases e:ltI b a
 ·rfl
 ·have:=zjr h e;rw[V0] at this;cases this
theorem zf8{c d:List Int}:∀{a b:List Int},a.length=b.length->ltI a b=true->ltI (a++c) (b++d)=true
 |[],[],_,h=>by cases h
 |[],_::_,h,_=>by cases h
 |_::_,[],h,_=>by cases h
 |x::a,y::b,hl,h=>by
  have h:(if x=y then ltI a b else decide (x<y))=true:=h;show (if x=y then ltI (a++c) (b++d) else decide (x<y))=true;by_cases e:x=y
  ·rw[if_pos e] at h ⊢;exact zf8 (Nat.succ.inj hl) h
  ·rw[if_neg e] at h ⊢;exact h
theorem zf4{b c:List Int}:∀a:List Int,ltI (a++b) (a++c)=ltI b c
 |[]=>rfl
 |x::a=>by show (if x=x then ltI (a++b) (a++c) else _)=_;rw[if_pos rfl];exact zf4 a
abbrev RLt(a b:List Int):Prop:=ltI a b=true
end Mi
namespace eU
open PySem Mi
noncomputable def b0:bL:=(.cons (.ret (.and (.iu (.v 0) .int) (.not (.iu (.v 0) .bool)))) .nil)
noncomputable def b1:bL:=(.cons (.ret (.and (.call 0 (Ea (.v 0))) (.v8 .le .le (.v 1) (.v 0) (.v 2)))) .nil)
noncomputable def b2:bL:=(.cons (.ret (.and (.iu (.v 0) .tuple) (.pr true .eq (Eb (.pr true .len (Ea (.v 0))) (.v 1))))) .nil)
noncomputable def b3:bL:=(.cons (.iff (.not (.call 2 (Eb (.v 0) (Ci 2)))) (.cons (.ret (.c (.bl false))) .nil) .nil) (.cons (.asg (.tp [1,2]) (.v 0)) (.cons (.iff (.or (.not (.call 4 (Ea (.v 1)))) (.not (.iu (.v 2) .tuple))) (.cons (.ret (.c (.bl false))) .nil) .nil) (.cons (.iff (.not (.pr true .all (Ea (.comp true (.call 6 (Eb (.v 1) (.v 0))) [0] (.seq (.v 2)) [1] 1 .no)))) (.cons (.ret (.c (.bl false))) .nil) .nil) (.cons (.ret (.pr true .all (Ea (.comp true (.pr true .lt (Eb (.v 0) (.v 1))) [0,1] (.zip (.v 2) (.sl true (.v 2) (.yes (Ci 1)) .no)) [] 2 .no)))) .nil)))))
noncomputable def b4:bL:=(.cons (.ret (.call 1 (Ec (.v 0) (Ci 1) (Ci 8)))) .nil)
noncomputable def b5:bL:=(.cons (.ret (.call 1 (Ec (.v 1) (Ci 0) (.pr true .aq (Eb (.v 0) (Ci 1)))))) .nil)
noncomputable def b6:bL:=(.cons (.iff (.not (.call 2 (Eb (.v 1) (Ci 2)))) (.cons (.ret (.c (.bl false))) .nil) .nil) (.cons (.asg (.tp [2,3]) (.v 1)) (.cons (.ret (.and (.call 5 (Eb (.v 0) (.v 2))) (.and (.call 5 (Eb (.v 0) (.v 3))) (.pr true .lt (Eb (.v 2) (.v 3)))))) .nil)))
noncomputable def b7:bL:=(.cons (.iff (.not (.call 3 (Ea (.v 0)))) (.cons .no .nil) .nil) .nil)
noncomputable def b8:bL:=(.cons (.asg (.nm 2) (.comp true (.ite (.pr true .eq (Eb (.v 0) (.v 2))) (.v 1) (.v 0)) [0,1] (.seq (Ei (.v 0) (Ci 1))) [1] 2 (.yes (.pr true .inn (Eb (.v 2) (.tup (Eb (.v 0) (.v 1)))))))) (.cons (.ret (.pr true .tuple (Ea (.pr true .sorted (Ea (.v 2)))))) .nil))
noncomputable def b9:bL:=(.cons (.ret (.comp true (.call 8 (Eb (.v 1) (.v 0))) [0] (.rg (Ci 0) (Ei (.v 0) (Ci 0))) [0] 1 .no)) .nil)
noncomputable def b10:bL:=(.cons (.ret (.tup (.cons (.call 9 (Ea (.v 1))) (Ec (.pr true .Fl (Ea (.pr true .len (Ea (.v 2))))) (.v 2) (.v 3))))) .nil)
noncomputable def V1:bL:=(.cons (.ret (Ei (Ei (.of (.v 0) 0 2) (.v 1)) (.v 2))) .nil)
noncomputable def V2:bL:=(.cons (.asg (.nm 4) (.pr false .list (Ea (.v 1)))) (.cons (.asg (.aq (.v 4) (.v 2)) (.c .non)) (.cons (.fr (.nm 5) (.seq (Ei (.of (.v 0) 0 0) (.v 2))) (.cons (.iff (.pr true .rA (Ea (Ei (.v 4) (.v 5)))) (.cons (.asg (.aq (.v 4) (.v 5)) (.pr true .tuple (Ea (.comp true (.v 0) [0] (.seq (Ei (.v 4) (.v 5))) [0,3] 1 (.yes (.cm 0 11 (.v 1) (Eb (.v 2) (.v 0)))))))) .nil) .nil) .nil)) (.cons (.ret (.pr true .tuple (Ea (.v 4)))) .nil))))
noncomputable def V3:bL:=(.cons (.ret (.pr true .len (Ea (.comp true (.v 0) [0] (.seq (Ei (.of (.v 0) 0 0) (.v 2))) [1] 1 (.yes (.pr true .rA (Ea (Ei (.v 1) (.v 0))))))))) .nil)
noncomputable def V4:bL:=(.cons (.ret (.pr true .tuple (Ea (.comp true (.ite (.pr true .gt (Eb (.cm 0 13 (.v 2) (Eb (.v 3) (.v 0))) (Ci 0))) (.v 1) (.c .non)) [0,1] (.enum (.v 1)) [0,1] 2 .no)))) .nil)
noncomputable def V5:bL:=(.cons (.asg (.nm 2) (.lst false .nil)) (.cons (.fr (.tp [3,4]) (.enum (.v 1)) (.cons (.iff (.pr true .rA (Ea (.v 4))) (.cons (.ex (.push (.v 2) (.tup (Ec (.pr true .len (Ea (.v 4))) (.pr true .neg (Ea (.cm 0 13 (.v 0) (Eb (.v 1) (.v 3))))) (.v 3))))) .nil) .nil) .nil)) (.cons (.ret (.ite (.Fp (.v 2)) (Ei (.pr true .rB (Ea (.v 2))) (Ci 2)) (.c .non))) .nil)))
noncomputable def V6:bL:=(.cons (.ret (.pr true .all (Ea (.comp true (.or (.pr true .tG (Ea (.v 0))) (.pr true .eq (Eb (.v 0) (.of (.v 1) 0 1)))) [0] (.seq (.v 1)) [0] 1 .no)))) .nil)
noncomputable def V7:bL:=(.cons (.asg (.tp [2,3]) (.v 1)) (.cons (.asg (.nm 4) (.comp true (.pr true .ge (Eb (.pr true .min2 (Eb (.v 0) (.pr true .aq (Eb (.v 1) (.v 0))))) (.v 2))) [0] (.rg (Ci 0) (.v 2)) [2,3] 1 .no)) (.cons (.ret (.mk 0 10 (Ec (.v 0) (.comp true (.comp true (Ei (.v 1) (.pr true .aq (Eb (.v 2) (.v 0)))) [0] (.rg (Ci 0) (.v 1)) [2,0] 1 .no) [0] (.rg (Ci 0) (.v 2)) [2,4] 1 .no) (.c (.bl true))))) .nil)))
noncomputable def O6:bL:=(.cons (.iff (.not (.call 2 (Eb (.v 0) (Ci 2)))) (.cons (.ret (.c (.bl false))) .nil) .nil) (.cons (.asg (.tp [1,2]) (.v 0)) (.cons (.ret (.and (.call 1 (Ec (.v 1) (Ci 1) (Ci 24))) (.call 1 (Ec (.v 2) (Ci 1) (.v 1))))) .nil)))
noncomputable def V8:bL:=(.cons (.ret (.call 1 (Ec (.v 1) (Ci 0) (.pr true .aq (Eb (Ei (.v 0) (Ci 0)) (Ci 1)))))) .nil)
noncomputable def O7:bL:=(.cons (.iff (.not (.call 18 (Ea (.v 0)))) (.cons .no .nil) .nil) .nil)
noncomputable def b21:bL:=(.cons (.asg (.nm 3) (.pr true .abs (Ea (.pr true .aq (Eb (.v 1) (.v 2)))))) (.cons (.ret (.pr true .min2 (Eb (.v 3) (.pr true .aq (Eb (Ei (.v 0) (Ci 0)) (.v 3)))))) .nil))
noncomputable def V9:bL:=(.cons (.ret (.and (.call 2 (Eb (.v 2) (Ei (.v 0) (Ci 0)))) (.pr true .all (Ea (.comp true (.call 19 (Eb (.v 1) (.v 0))) [0] (.seq (.v 2)) [1] 1 .no))))) .nil)
noncomputable def V_:bL:=(.cons (.ret (.and (.call 22 (Ec (.v 0) (.v 1) (.v 2))) (.pr true .tG (Ea (.call 25 (Ec (.v 0) (.v 1) (.v 2))))))) .nil)
noncomputable def O8:bL:=(.cons (.ex (.call 7 (Ea (.v 0)))) (.cons (.ex (.call 20 (Ea (.v 1)))) (.cons (.iff (.not (.call 23 (Ec (.v 0) (.v 1) (.v 2)))) (.cons (.rise 2 false (Ea (.c (.str "no hues of the web on the ring")))) .nil) .nil) .nil)))
noncomputable def Wa:bL:=(.cons (.fr (.tp [3,4]) (.seq (Ei (.v 0) (Ci 1))) (.cons (.iff (.pr true .lt (Eb (.call 21 (Ec (.v 1) (Ei (.v 2) (.v 3)) (Ei (.v 2) (.v 4)))) (Ei (.v 1) (Ci 1)))) (.cons (.ret (.tup (Eb (.v 3) (.v 4)))) .nil) .nil) .nil)) (.cons (.ret (.c .non)) .nil))
noncomputable def Wb:bL:=(.cons (.ex (.call 7 (Ea (.v 0)))) (.cons (.ex (.call 20 (Ea (.v 1)))) (.cons (.asg (.nm 2) (.call 17 (Eb (.v 0) (.v 1)))) (.cons (.ret (.call 28 (Eb (.v 2) (.comp true (.of (.v 1) 0 1) [0] (.rg (Ci 0) (Ei (.v 0) (Ci 0))) [2] 1 .no)))) .nil))))
noncomputable def O9:bL:=(.cons (.ex (.call 24 (Ec (.v 0) (.v 1) (.v 2)))) (.cons (.asg (.nm 3) (.call 17 (Eb (.v 0) (.v 1)))) (.cons (.fr (.nm 4) (.Jo (Ei (.v 0) (Ci 0))) (.cons (.asg (.nm 5) (.comp true (.tup (Ea (.v 0))) [0] (.seq (.sl true (.v 2) .no (.yes (.v 4)))) [] 1 .no)) (.cons (.asg (.nm 6) (.sl true (.of (.v 3) 0 1) (.yes (.pr true .add (Eb (Ei (.v 2) (.v 4)) (Ci 1)))) .no)) (.cons (.asg (.nm 7) (.comp true (.of (.v 1) 0 1) [0] (.rg (.pr true .add (Eb (.v 4) (Ci 1))) (Ei (.v 0) (Ci 0))) [3] 1 .no)) (.cons (.asg (.nm 8) (.call 28 (Eb (.v 3) (.pr true .add (Eb (.pr true .add (Eb (.v 5) (.lst true (Ea (.v 6))))) (.v 7)))))) (.cons (.iff (.pr true .rA (Ea (.v 8))) (.cons (.ret (.v 8)) .nil) .nil) .nil)))))) (.cons (.ret (.c .non)) .nil))))
noncomputable def Wc:bL:=(.cons (.asg (.nm 2) (.pr true .tuple (Ea (.v 1)))) (.cons (.asg (.nm 3) .rC) (.cons (.iff (.not (.call 30 (Ec (.v 0) (.v 3) (.v 2)))) (.cons (.ret (.c .non)) .nil) .nil) (.cons (.asg (.nm 4) (.lst false .nil)) (.cons (.fr (.nm 5) (.rg (Ci 0) (.pr true .len (Ea (.v 1)))) (.cons (.asg (.nm 6) (.call 29 (.cons (.v 0) (Ec (.v 3) (.v 2) (.v 5))))) (.cons (.asg (.nm 2) (.cm 0 12 (.v 0) (Ec (.v 2) (.v 5) (.v 6)))) (.cons (.ex (.push (.v 4) (.v 6))) .nil)))) (.cons (.ret (.pr true .tuple (Ea (.v 4)))) .nil))))))
noncomputable def O_:bL:=(.cons (.fr (.nm 4) (.seq (Ei (.v 2) (.v 3))) (.cons (.iff (.call 30 (Ec (.v 0) (.v 1) (.cm 0 12 (.v 0) (Ec (.v 2) (.v 3) (.v 4))))) (.cons (.ret (.v 4)) .nil) .nil) .nil)) (.cons (.ret (.c .non)) .nil))
noncomputable def Wd:bL:=(.cons (.iff (.pr true .inn (Eb (.tup .nil) (.v 2))) (.cons (.ret (.c (.bl false))) .nil) .nil) (.cons (.asg (.nm 3) (.cm 0 14 (.v 0) (Ea (.v 2)))) (.cons (.iff (.Ce false (.v 3) (.v 1)) (.cons (.dput (.v 1) (.v 3) (.call 31 (Ec (.v 0) (.v 1) (.v 3)))) .nil) .nil) (.cons (.ret (.pJ (.v 1) (.v 3))) .nil))))
noncomputable def Ld:bL:=(.cons (.asg (.nm 3) (.cm 0 15 (.v 0) (Ea (.v 2)))) (.cons (.iff (.pr true .tG (Ea (.v 3))) (.cons (.ret (.c (.bl true))) .nil) .nil) (.cons (.iff (.and (.of (.v 0) 0 3) (.cm 0 16 (.v 0) (Ea (.v 2)))) (.cons (.ret (.call 30 (Ec (.v 0) (.v 1) (.cm 0 12 (.v 0) (Ec (.v 2) (.v 3) (Ci 0)))))) .nil) .nil) (.cons (.ret (.pr true .rA (Ea (.call 29 (.cons (.v 0) (Ec (.v 1) (.v 2) (.v 3))))))) .nil))))
noncomputable def Wf:bL:=(.cons (.iff (.pr true .lt (Eb (.v 1) (.pr true .len (Ea (.v 0))))) (.cons (.ret (Ei (.v 0) (.v 1))) .nil) .nil) (.cons (.ret (Ci 0)) .nil))
noncomputable def Wg:bL:=(.cons (.asg (.nm 1) (.pr true .max2 (Eb (.v 0) (.pr true .aq (Eb (Ci 0) (.v 0)))))) (.cons (.ret (.lst false (Eb (.v 1) (.pr true .xK (Ea (.pr true .ge (Eb (.v 1) (.pr true .pow (Eb (Ci 10) (Ci 18)))))))))) .nil))
noncomputable def Wh:bL:=(.cons (.iff (.pr true .eq (Eb (Ei (.v 0) (Ci 1)) (Ci 1))) (.cons (.asg (.tp [2,3]) (.pr true .divmod (Eb (Ei (.v 0) (Ci 0)) (.v 1)))) (.cons (.asg (.aq (.v 0) (Ci 0)) (.v 2)) (.cons (.ret (.v 3)) .nil))) .nil) (.cons (.asg (.nm 4) (.pr true .mod (Eb (.pr true .mul (Eb (.pr true .add (Eb (.pr true .mod (Eb (Ei (.v 0) (Ci 0)) (Ci 2147483647))) (Ci 40503))) (Ci 69621))) (Ci 2147483629)))) (.cons (.asg (.nm 4) (.pr true .mod (Eb (.pr true .add (Eb (.pr true .mul (Eb (.v 4) (.v 4))) (Ci 7817))) (Ci 2147483587)))) (.cons (.asg (.aq (.v 0) (Ci 0)) (.pr true .mod (Eb (.pr true .add (Eb (.pr true .mul (Eb (.v 4) (Ci 48271))) (Ci 11))) (Ci 2147483629)))) (.cons (.ret (.pr true .mod (Eb (.pr true .fdiv (Eb (Ei (.v 0) (Ci 0)) (Ci 32))) (.v 1)))) .nil)))))
noncomputable def b35:bL:=(.cons (.ret (.and (.iu (.v 0) .int) (.not (.iu (.v 0) .bool)))) .nil)
noncomputable def Wi:bL:=(.cons (.asg (.nm 1) (.lst true (.cons (.c .non) (.cons (.c (.bl true)) (.cons (.c (.bl false)) (.cons (.pr true .neg (Ea (Ci 1))) (.cons (.c (.str "1")) (.cons (.c (.str "")) (.cons (.tup .nil) (.cons (.lst true .nil) (.cons (.tup (Ea (Ci 0))) (.cons (.lst true (Ea (Ci 0))) (.cons (.uM "a" 1) (.cons (.tup (Eb (Ci 0) (Ci 1))) (Ec (.pr true .pow (Eb (Ci 10) (Ci 30))) (.tup (Eb (Ci 0) (.tup .nil))) (.tup (Ea (.c (.str "ab"))))))))))))))))))) (.cons (.ret (Ei (.pr true .add (Eb (.v 1) (.lst true (Ea (.tup (Eb (Ci 1) (.tup (Ea (.tup (Eb (Ci 0) (Ci 0))))))))))) (.call 34 (Eb (.v 0) (Ci 16))))) .nil))
noncomputable def b37:bL:=(.cons (.asg (.nm 1) (.lst true (.cons (.iu (.v 0) (.cls 1)) (Ec (.iu (.v 0) (.cls 2)) (.iu (.v 0) (.cls 3)) (.iu (.v 0) (.cls 4)))))) (.cons (.asg (.nm 1) (.pr true .add (Eb (.v 1) (.lst true (.cons (.iu (.v 0) (.cls 5)) (Ec (.iu (.v 0) (.cls 6)) (.iu (.v 0) (.cls 7)) (.iu (.v 0) (.cls 8)))))))) (.cons (.asg (.nm 1) (.pr true .add (Eb (.v 1) (.lst true (Ec (.iu (.v 0) (.cls 9)) (.iu (.v 0) (.cls 10)) (.iu (.v 0) (.cls 11))))))) (.cons (.iff (.or (.not (.iu (.v 0) .pI)) (.pr true .ne (Eb (.meth true .count .list (.v 1) (Ea (.c (.bl true)))) (Ci 1)))) (.cons (.ret (.c (.str "other"))) .nil) .nil) (.cons (.asg (.nm 2) (.lst true (.cons (.c (.str "ring")) (.cons (.c (.str "hues")) (.cons (.c (.str "place")) (.cons (.c (.str "arrows")) (.cons (.c (.str "map")) (.cons (.c (.str "paper")) (.cons (.c (.str "apart")) (.cons (.c (.str "row")) (Ec (.c (.str "web")) (.c (.str "text")) (.c (.str "great"))))))))))))) (.cons (.ret (Ei (.v 2) (.meth true .index .list (.v 1) (Ea (.c (.bl true)))))) .nil))))))
noncomputable def Wj:bL:=(.cons (.asg (.nm 2) (Ei (.lst true (Ec (Ci 2) (Ci 4) (Ci 6))) (.call 34 (Eb (.v 0) (Ci 3))))) (.cons (.asg (.nm 3) (.lst true .nil)) (.cons (.fr (.nm 4) (.rg (Ci 0) (.v 1)) (.cons (.asg (.nm 3) (.pr true .add (Eb (.v 3) (.comp true (.tup (Eb (.v 1) (.v 0))) [0] (.rg (.pr true .add (Eb (.v 4) (Ci 1))) (.v 1)) [4,0,2] 1 (.yes (.pr true .lt (Eb (.call 34 (Eb (.v 2) (Ci 8))) (.v 3)))))))) .nil)) (.cons (.ret (.tup (Eb (.v 1) (.pr true .tuple (Ea (.v 3)))))) .nil))))
noncomputable def Wm:bL:=(.cons (.ret (Ei (.lst true (.cons (.tup (Eb (Ci 2) (Ci 1))) (.cons (.tup (Eb (Ci 3) (Ci 1))) (.cons (.tup (Eb (Ci 5) (Ci 2))) (.cons (.tup (Eb (Ci 4) (Ci 1))) (.cons (.tup (Eb (Ci 4) (Ci 2))) (.cons (.tup (Eb (Ci 6) (Ci 2))) (.cons (.tup (Eb (Ci 5) (Ci 1))) (Ec (.tup (Eb (Ci 7) (Ci 3))) (.tup (Eb (Ci 3) (Ci 2))) (.tup (Eb (Ci 6) (Ci 3)))))))))))) (.call 34 (Eb (.v 0) (Ci 10))))) .nil)
noncomputable def b40:bL:=(.cons (.asg (.nm 3) (.pr true .abs (Ea (.pr true .aq (Eb (.v 1) (.v 2)))))) (.cons (.ret (.pr true .min2 (Eb (.v 3) (.pr true .aq (Eb (.v 0) (.v 3)))))) .nil))
noncomputable def Wn:bL:=(.cons (.ret (.pr true .eq (Eb (.comp true (.v 0) [0] (.seq (Ei (.v 0) (Ci 1))) [1,2] 1 (.yes (.pr true .lt (Eb (.call 40 (Ec (Ei (.v 1) (Ci 0)) (Ei (.v 2) (Ei (.v 0) (Ci 0))) (Ei (.v 2) (Ei (.v 0) (Ci 1))))) (Ei (.v 1) (Ci 1)))))) (.lst true .nil)))) .nil)
noncomputable def Wo:bL:=(.cons (.iff (.or (.not (.iu (.v 0) .tuple)) (.pr true .ne (Eb (.pr true .len (Ea (.v 0))) (.v 1)))) (.cons (.ret (.c (.bl false))) .nil) .nil) (.cons (.ret (.pr true .all (Ea (.comp true (.and (.call 35 (Ea (.v 0))) (.v8 .le .lt (Ci 0) (.v 0) (.v 1))) [0] (.seq (.v 0)) [2] 1 .no)))) .nil))
noncomputable def Wq:bL:=(.cons (.ret (.and (.call 42 (Ec (.v 2) (Ei (.v 0) (Ci 0)) (Ei (.v 1) (Ci 0)))) (.call 41 (Ec (.v 0) (.v 1) (.v 2))))) .nil)
noncomputable def Wr:bL:=(.cons (.asg (.nm 2) (.lst true (Ea (.tup .nil)))) (.cons (.fr (.nm 3) (.rg (Ci 0) (Ei (.v 0) (Ci 0))) (.cons (.asg (.nm 4) (.lst false .nil)) (.cons (.fr (.nm 5) (.seq (.v 2)) (.cons (.asg (.nm 6) (.comp true (Ei (.v 2) (.v 0)) [0,1] (.seq (Ei (.v 0) (Ci 1))) [5,3] 2 (.yes (.pr true .eq (Eb (.v 1) (.v 3)))))) (.cons (.fr (.nm 7) (.rg (Ci 0) (Ei (.v 1) (Ci 0))) (.cons (.iff (.pr true .eq (Eb (.comp true (.v 0) [0] (.seq (.v 6)) [1,7] 1 (.yes (.pr true .lt (Eb (.call 40 (Ec (Ei (.v 1) (Ci 0)) (.v 0) (.v 2))) (Ei (.v 1) (Ci 1)))))) (.lst true .nil))) (.cons (.ex (.push (.v 4) (.pr true .add (Eb (.v 5) (.tup (Ea (.v 7))))))) .nil) .nil) .nil)) .nil))) (.cons (.asg (.nm 2) (.v 4)) .nil)))) (.cons (.ret (.v 2)) .nil)))
noncomputable def Ws:bL:=(.cons (.asg (.nm 3) (.call 34 (Eb (.v 0) (.pr true .add (Eb (.pr true .len (Ea (.v 1))) (Ci 1)))))) (.cons (.asg (.nm 4) (Ei (.lst true (.cons (.c (.bl true)) (.cons (.c (.bl false)) (.cons (.c .non) (.cons (.pr true .neg (Ea (Ci 1))) (.cons (.v 2) (Ec (.c (.str "0")) (.tup (Ea (Ci 0))) (.call 34 (Eb (.v 0) (.v 2)))))))))) (.call 34 (Eb (.v 0) (Ci 8))))) (.cons (.asg (.nm 5) (.lst true (.cons (.pr true .add (Eb (.pr true .add (Eb (.sl true (.v 1) .no (.yes (.v 3))) (.tup (Ea (.v 4))))) (.sl true (.v 1) (.yes (.pr true .add (Eb (.v 3) (Ci 1)))) .no))) (.cons (.pr true .add (Eb (.sl true (.v 1) .no (.yes (.v 3))) (.sl true (.v 1) (.yes (.pr true .add (Eb (.v 3) (Ci 1)))) .no))) (.cons (.pr true .add (Eb (.v 1) (.tup (Ea (Ci 0))))) (Ec (.pr true .list (Ea (.v 1))) (.c .non) (.tup (Ea (.v 1))))))))) (.cons (.ret (Ei (.v 5) (Ei (.lst true (.cons (Ci 0) (.cons (Ci 0) (.cons (Ci 0) (.cons (Ci 0) (.cons (Ci 1) (.cons (Ci 2) (Ec (Ci 3) (Ci 4) (Ci 5))))))))) (.call 34 (Eb (.v 0) (Ci 9)))))) .nil))))
noncomputable def Pa:bL:=(.cons (.iff (.pr true .tG (Ea (.v 1))) (.cons (.ret (.pr true .tG (Ea (.v 0)))) .nil) .nil) (.cons (.ret (.and (.iu (.v 0) .tuple) (.and (.pr true .eq (Eb (.v 0) (.v 1))) (.pr true .all (Ea (.comp true (.call 35 (Ea (.v 0))) [0] (.seq (.v 0)) [] 1 .no)))))) .nil))
noncomputable def Pb:bL:=(.cons (.rD (.cons (.ret (.call 27 (Ec (.v 0) (.v 1) (.v 2)))) .nil) 0 3 (.cons (.ret (.call 37 (Ea (.v 3)))) .nil)) .nil)
noncomputable def Wt:bL:=(.cons (.fr (.nm 1) (.seq (.pr true .add (Eb (.lst true (Ea (.call 32 (Eb (.v 0) (Ci 0))))) (.sl true (.v 0) (.yes (Ci 1)) (.yes (Ci 3)))))) (.cons (.asg (.nm 2) (.call 33 (Ea (.v 1)))) (.cons (.asg (.nm 3) (.call 38 (Eb (.v 2) (.pr true .add (Eb (Ci 1) (.call 34 (Eb (.v 2) (Ci 4)))))))) (.cons (.asg (.nm 4) (.call 39 (Ea (.v 2)))) (.cons (.asg (.nm 5) (.call 44 (Eb (.v 3) (.v 4)))) (.cons (.iff (.not (.call 46 (Eb (.call 26 (Eb (.v 3) (.v 4))) (Ei (.pr true .add (Eb (.v 5) (.lst true (Ea (.c .non))))) (Ci 0))))) (.cons (.ret (.c (.bl false))) .nil) .nil) (.cons (.asg (.nm 6) (.call 34 (Eb (.v 2) (.pr true .add (Eb (.pr true .len (Ea (.v 5))) (Ci 1)))))) (.cons (.fr (.nm 7) (.seq (.pr true .add (Eb (.pr true .xM (Ea (.pr true .min2 (Eb (Ci 4) (.pr true .len (Ea (.v 5))))))) (.pr true .xM (Eb (.v 6) (.pr true .min2 (Eb (.pr true .add (Eb (.v 6) (Ci 9))) (.pr true .len (Ea (.v 5)))))))))) (.cons (.iff (.not (.call 46 (Eb (.call 47 (Ec (.v 3) (.v 4) (Ei (.v 5) (.v 7)))) (Ei (.pr true .add (Eb (.v 5) (.lst true (Ea (.c .non))))) (.pr true .add (Eb (.v 7) (Ci 1))))))) (.cons (.ret (.c (.bl false))) .nil) .nil) .nil)) (.cons (.iff (.and (.pr true .ne (Eb (.v 5) (.lst true .nil))) (.pr true .rA (Ea (.call 47 (Ec (.v 3) (.v 4) (Ei (.v 5) (.pr true .neg (Ea (Ci 1))))))))) (.cons (.ret (.c (.bl false))) .nil) .nil) (.cons (.asg (.nm 8) (Ei (.pr true .add (Eb (.v 5) (.lst true (Ea (.pr true .mult (Eb (.tup (Ea (Ci 0))) (Ei (.v 3) (Ci 0)))))))) (.v 6))) (.cons (.fr (.nm 9) (.seq (.pr true .add (Eb (.lst true (Ec (.call 36 (Ea (.v 2))) (.c .non) (.pr true .mult (Eb (.tup (Ea (Ci 0))) (Ei (.v 3) (Ci 0)))))) (.comp true (.call 45 (Ec (.v 1) (.v 2) (Ei (.v 3) (Ci 0)))) [0] (.rg (Ci 0) (Ci 4)) [2,8,4] 1 .no)))) (.cons (.iff (.and (.not (.call 43 (Ec (.v 3) (.v 4) (.v 9)))) (.pr true .ne (Eb (.call 47 (Ec (.v 3) (.v 4) (.v 9))) (.c (.str "hues"))))) (.cons (.ret (.c (.bl false))) .nil) .nil) .nil)) .nil))))))))))) (.cons (.ret (.c (.bl true))) .nil))
noncomputable def T(n:Nat):Option Df:=([⟨1,1,b0⟩,⟨3,3,b1⟩,⟨2,2,b2⟩,⟨3,1,b3⟩,⟨1,1,b4⟩,⟨2,2,b5⟩,⟨4,2,b6⟩,⟨1,1,b7⟩,⟨3,2,b8⟩,⟨1,1,b9⟩,⟨4,4,b10⟩,⟨3,3,V1⟩,⟨6,4,V2⟩,⟨3,3,V3⟩,⟨2,2,V4⟩,⟨5,2,V5⟩,⟨2,2,V6⟩,⟨5,2,V7⟩,⟨3,1,O6⟩,⟨2,2,V8⟩,⟨1,1,O7⟩,⟨4,3,b21⟩,⟨3,3,V9⟩,⟨3,3,V_⟩,⟨3,3,O8⟩,⟨5,3,Wa⟩,⟨3,2,Wb⟩,⟨9,3,O9⟩,⟨7,2,Wc⟩,⟨5,4,O_⟩,⟨4,3,Wd⟩,⟨4,3,Ld⟩,⟨2,2,Wf⟩,⟨2,1,Wg⟩,⟨5,2,Wh⟩,⟨1,1,b35⟩,⟨2,1,Wi⟩,⟨3,1,b37⟩,⟨5,2,Wj⟩,⟨1,1,Wm⟩,⟨4,3,b40⟩,⟨3,3,Wn⟩,⟨3,3,Wo⟩,⟨3,3,Wq⟩,⟨8,2,Wr⟩,⟨6,3,Ws⟩,⟨2,2,Pa⟩,⟨4,3,Pb⟩,⟨10,1,Wt⟩]:List Df)[n]?
theorem T_0:T 0=some ⟨1,1,b0⟩:=rfl
theorem T_1:T 1=some ⟨3,3,b1⟩:=rfl
theorem T_2:T 2=some ⟨2,2,b2⟩:=rfl
theorem Wu:T 3=some ⟨3,1,b3⟩:=rfl
theorem Wv:T 4=some ⟨1,1,b4⟩:=rfl
theorem Ww:T 5=some ⟨2,2,b5⟩:=rfl
theorem Wx:T 6=some ⟨4,2,b6⟩:=rfl
theorem Wy:T 7=some ⟨1,1,b7⟩:=rfl
theorem T_8:T 8=some ⟨3,2,b8⟩:=rfl
theorem T_9:T 9=some ⟨1,1,b9⟩:=rfl
theorem zpF:T 10=some ⟨4,4,b10⟩:=rfl
theorem zp6:T 11=some ⟨3,3,V1⟩:=rfl
theorem zpX:T 12=some ⟨6,4,V2⟩:=rfl
theorem zpJ:T 13=some ⟨3,3,V3⟩:=rfl
theorem zpU:T 14=some ⟨2,2,V4⟩:=rfl
theorem zp8:T 15=some ⟨5,2,V5⟩:=rfl
theorem zp7:T 16=some ⟨2,2,V6⟩:=rfl
theorem zqd:T 17=some ⟨5,2,V7⟩:=rfl
theorem Wz:T 18=some ⟨3,1,O6⟩:=rfl
theorem zpZ:T 19=some ⟨2,2,V8⟩:=rfl
theorem WD:T 20=some ⟨1,1,O7⟩:=rfl
theorem zqi:T 21=some ⟨4,3,b21⟩:=rfl
theorem zpL:T 22=some ⟨3,3,V9⟩:=rfl
theorem zp0:T 23=some ⟨3,3,V_⟩:=rfl
theorem WK:T 24=some ⟨3,3,O8⟩:=rfl
theorem zp3:T 25=some ⟨5,3,Wa⟩:=rfl
theorem zpN:T 26=some ⟨3,2,Wb⟩:=rfl
theorem WL:T 27=some ⟨9,3,O9⟩:=rfl
theorem zpS:T 28=some ⟨7,2,Wc⟩:=rfl
theorem WM:T 29=some ⟨5,4,O_⟩:=rfl
theorem zpH:T 30=some ⟨4,3,Wd⟩:=rfl
theorem Pg:T 31=some ⟨4,3,Ld⟩:=rfl
theorem zp9:T 32=some ⟨2,2,Wf⟩:=rfl
theorem zp2:T 33=some ⟨2,1,Wg⟩:=rfl
theorem zpT:T 34=some ⟨5,2,Wh⟩:=rfl
theorem zqk:T 35=some ⟨1,1,b35⟩:=rfl
theorem zqe:T 36=some ⟨2,1,Wi⟩:=rfl
theorem zqg:T 37=some ⟨3,1,b37⟩:=rfl
theorem zp4:T 38=some ⟨5,2,Wj⟩:=rfl
theorem zqb:T 39=some ⟨1,1,Wm⟩:=rfl
theorem zql:T 40=some ⟨4,3,b40⟩:=rfl
theorem zpK:T 41=some ⟨3,3,Wn⟩:=rfl
theorem zpQ:T 42=some ⟨3,3,Wo⟩:=rfl
theorem zpG:T 43=some ⟨3,3,Wq⟩:=rfl
theorem zpO:T 44=some ⟨8,2,Wr⟩:=rfl
theorem zqa:T 45=some ⟨6,3,Ws⟩:=rfl
theorem WQ:T 46=some ⟨2,2,Pa⟩:=rfl
theorem WT:T 47=some ⟨4,3,Pb⟩:=rfl
theorem zpV:T 48=some ⟨10,1,Wt⟩:=rfl
noncomputable def aq:Nat->Nat->Bool:=λc e=>(let n:=λc=>if c<12 then c else 0;n e==0||n c==n e)
end eU
namespace eU
open PySem PySem.Spec PyProof.Rows L2 Mi
abbrev LK(i:Nat)(x:Str)(k:NameKind):Prop:=(au (top i)).names.lookup x=some k
noncomputable abbrev gI:NameKind:=.globalImplicit
theorem zpW:aq=jP 12:=rfl
abbrev N3:List Str:=["thing","many","ties"]
abbrev N8:List Str:=["web","place","ends"]
abbrev N9:List Str:=["web"]
abbrev N12:List Str:=["self","free","place","spot","left","end"]
abbrev N13:List Str:=["self","free","place"]
abbrev N14:List Str:=["self","free"]
abbrev N16:List Str:=["self","free"]
abbrev WW:List Str:=["web","ring","k","d","wide"]
abbrev N22:List Str:=["web","ring","thing"]
abbrev N26:List Str:=["web","ring","board"]
abbrev WX:List Str:=["web","ring","hues","board","place","same","higher","rest","found"]
abbrev N38:List Str:=["_law_pen_here","_law_many","_law_often","_law_ties","_law_one"]
abbrev N41:List Str:=["_law_web_here","_law_ring","_law_spots"]
abbrev N42:List Str:=["_law_thing","_law_size","_law_k"]
abbrev WY:List Str:=["_law_web_here","_law_ring","_law_rows","_law_place","_law_more","_law_row","_law_near","_law_spot"]
abbrev N46:List Str:=["_law_found","_law_due"]
abbrev N48:List Str:=["_law_script","_law_cell_here","_law_pen_here","_law_web_here","_law_ring","_law_every","_law_first","_law_at","_law_row","_law_thing"]
noncomputable def cl(K:W.Frag):Cl:=⟨eE (lk.L K),λc=>(([[],[],[],[],[],[],[],[],[],["at"],["at"],["many","most"]]:List (List Str)).getD c []),λ_=>eG K "Board",λ_=>["ends","spots","apart","alike"]⟩
structure Top(K:W.Frag)(mg:Str->Option Value):Prop where
 cs:uW K (cl K) aq
 d0:D3 K mg "is_whole" (top 14) ["thing"]
 d1:D3 K mg "is_within" (top 15) ["thing","least","most"]
 d2:D3 K mg "is_row" (top 16) ["thing","many"]
 d3:D3 K mg "is_web" (top 19) ["thing"]
 d4:D3 K mg "is_many" (top 20) ["thing"]
 d5:D3 K mg "is_place" (top 21) ["many","thing"]
 d6:D3 K mg "is_tie" (top 22) ["many","thing"]
 d7:D3 K mg "check_web" (top 23) ["thing"]
 d8:D3 K mg "tied_to" (top 24) ["web","place"]
 d9:D3 K mg "all_ends" (top 25) ["web"]
 Pj:D3 K mg "ring_board" (top 28) ["web","ring"]
 W0:D3 K mg "is_ring" (top 31) ["thing"]
 W2:D3 K mg "is_spot" (top 32) ["ring","thing"]
 Pk:D3 K mg "check_ring" (top 33) ["thing"]
 W3:D3 K mg "gap_of" (top 34) ["ring","one","other"]
 W4:D3 K mg "are_spots" (top 36) ["web","ring","thing"]
 W5:D3 K mg "are_hues" (top 37) ["web","ring","thing"]
 W6:D3 K mg "check_hues" (top 38) ["web","ring","thing"]
 W7:D3 K mg "clash_of" (top 39) ["web","ring","spots"]
 W8:D3 K mg "first_hues" (top 41) ["web","ring"]
 W9:D3 K mg "next_hues" (top 42) ["web","ring","hues"]
 Pn:D3 K mg "first_among" (top 43) ["board","choices"]
 Pq:D3 K mg "first_spot" (top 44) ["board","answers","free","place"]
 Le:D3 K mg "can_settle" (top 45) ["board","answers","free"]
 W_:D3 K mg "search" (top 46) ["board","answers","free"]
 Xa:D3 K mg "_law_cell" (top 48) ["_law_script","_law_k"]
 Xb:D3 K mg "_law_pen" (top 49) ["_law_cell_here"]
 tU:D3 K mg "_law_draw" (top 50) ["_law_pen_here","_law_many"]
 Pu:D3 K mg "_law_whole" (top 51) ["_law_thing"]
 Xc:D3 K mg "_law_odd" (top 52) ["_law_pen_here"]
 Xd:D3 K mg "_law_kind" (top 53) ["_law_e"]
 Xe:D3 K mg "_law_web" (top 54) ["_law_pen_here","_law_many"]
 Xf:D3 K mg "_law_short" (top 55) ["_law_pen_here"]
 Px:D3 K mg "_law_apart" (top 56) ["_law_k","_law_one","_law_other"]
 Xg:D3 K mg "_law_fit_spots" (top 57) ["_law_web_here","_law_ring","_law_spots"]
 Xh:D3 K mg "_law_are_spots" (top 58) ["_law_thing","_law_size","_law_k"]
 Xi:D3 K mg "_law_are_hues" (top 59) ["_law_web_here","_law_ring","_law_thing"]
 Xj:D3 K mg "_law_all" (top 60) ["_law_web_here","_law_ring"]
 Xk:D3 K mg "_law_bent_row" (top 61) ["_law_pen_here","_law_row","_law_k"]
 Py:D3 K mg "_law_told_as" (top 62) ["_law_found","_law_due"]
 Lf:D3 K mg "_law_said" (top 63) ["_law_web_here","_law_ring","_law_thing"]
 Pz:D3 K mg "law" (top 64) ["_law_script"]
 c0:mg "HueError"=some (.ref ((cl K).a 0))
 c1:mg "NoRing"=some (.ref ((cl K).a 1))
 c2:mg "NoHues"=some (.ref ((cl K).a 2))
 c3:mg "NoPlace"=some (.ref ((cl K).a 3))
 c4:mg "NoArrows"=some (.ref ((cl K).a 4))
 c5:mg "NoMap"=some (.ref ((cl K).a 5))
 c6:mg "NoPaper"=some (.ref ((cl K).a 6))
 c7:mg "Apart"=some (.ref ((cl K).a 7))
 c8:mg "NoRow"=some (.ref ((cl K).a 8))
 c9:mg "NoWeb"=some (.ref ((cl K).a 9))
 c10:mg "NoText"=some (.ref ((cl K).a 10))
 c11:mg "TooGreat"=some (.ref ((cl K).a 11))
 x2:mz K ((cl K).a 2) [.type "ValueError",.type "Exception",.type "BaseException",.type "object"] "ValueError.__new__" none=true
 s0:∀c,aq c 0=true->subIn K ((cl K).a c) ((cl K).a 0)=true
 gP:∃t,mg "MOST_PLACES"=some (.int 8 t)
 iQ:∃t,mg "MOST_SPOTS"=some (.int 24 t)
 z16:mg "ValueError"=none
 Xl:mg "abs"=none
 z6:mg "all"=none
 z2:mg "bool"=none
 z15:mg "divmod"=none
 Xm:mg "enumerate"=none
 z1:mg "int"=none
 z0:mg "isinstance"=none
 z4:mg "len"=none
 z9:mg "list"=none
 z14:mg "max"=none
 Dq:mg "min"=none
 z8:mg "range"=none
 z13:mg "reversed"=none
 z7:mg "sorted"=none
 z3:mg "tuple"=none
 z5:mg "zip"=none
 ow:Ow K (cl K) 0
 mq:Mk K ((cl K).b 0) (g8 K ((cl K).b 0) "__init__")
 mc:mg "Board"=some (.ref ((cl K).b 0))
 Xn:Mt K ((cl K).b 0) "__init__" "Board.__init__" Et ["self","web","apart","alike"] (g8 K ((cl K).b 0) "__init__") (jD K ((cl K).b 0) "__init__" Et)
 Xo:Mt K ((cl K).b 0) "far_apart" "Board.far_apart" Hj ["self","spot","other"] (g8 K ((cl K).b 0) "far_apart") (jD K ((cl K).b 0) "far_apart" Hj)
 Lg:Mt K ((cl K).b 0) "settled" "Board.settled" Eu ["self","free","place","spot"] (g8 K ((cl K).b 0) "settled") (jD K ((cl K).b 0) "settled" Eu)
 PB:Mt K ((cl K).b 0) "ties_left" "Board.ties_left" Ew ["self","free","place"] (g8 K ((cl K).b 0) "ties_left") (jD K ((cl K).b 0) "ties_left" Ew)
 Xp:Mt K ((cl K).b 0) "bound" "Board.bound" Ey ["self","free"] (g8 K ((cl K).b 0) "bound") (jD K ((cl K).b 0) "bound" Ey)
 Xq:Mt K ((cl K).b 0) "narrowest" "Board.narrowest" Hl ["self","free"] (g8 K ((cl K).b 0) "narrowest") (jD K ((cl K).b 0) "narrowest" Hl)
 Xr:Mt K ((cl K).b 0) "all_free" "Board.all_free" Ez ["self","free"] (g8 K ((cl K).b 0) "all_free") (jD K ((cl K).b 0) "all_free" Ez)
theorem zlI{K:W.Frag}{h:Heap}{mg:Str->Option Value}(Sb:qR fs ms xs lk bd K)(X:K.In h)(G:h.Ns mainGlobals mg):Top K mg where
 cs:=by
  rcases Sb.i.gd.cs with z|z
  ·cases z
  ·exact zkP (DY _) z
 d0:=su Sb.i X G 0
 d1:=pY Sb.i X G 1
 d2:=sy Sb.i X G 2
 d3:=su Sb.i X G 3
 d4:=su Sb.i X G 4
 d5:=sy Sb.i X G 5
 d6:=sy Sb.i X G 6
 d7:=su Sb.i X G 7
 d8:=sy Sb.i X G 8
 d9:=su Sb.i X G 9
 Pj:=sy Sb.i X G 10
 W0:=su Sb.i X G 11
 W2:=sy Sb.i X G 12
 Pk:=su Sb.i X G 13
 W3:=pY Sb.i X G 14
 W4:=pY Sb.i X G 15
 W5:=pY Sb.i X G 16
 W6:=pY Sb.i X G 17
 W7:=pY Sb.i X G 18
 W8:=sy Sb.i X G 19
 W9:=pY Sb.i X G 20
 Pn:=sy Sb.i X G 21
 Pq:=zqn Sb.i X G 22
 Le:=pY Sb.i X G 23
 W_:=pY Sb.i X G 24
 Xa:=sy Sb.i X G 25
 Xb:=su Sb.i X G 26
 tU:=sy Sb.i X G 27
 Pu:=su Sb.i X G 28
 Xc:=su Sb.i X G 29
 Xd:=su Sb.i X G 30
 Xe:=sy Sb.i X G 31
 Xf:=su Sb.i X G 32
 Px:=pY Sb.i X G 33
 Xg:=pY Sb.i X G 34
 Xh:=pY Sb.i X G 35
 Xi:=pY Sb.i X G 36
 Xj:=sy Sb.i X G 37
 Xk:=pY Sb.i X G 38
 Py:=sy Sb.i X G 39
 Lf:=pY Sb.i X G 40
 Pz:=su Sb.i X G 41
 c0:=rW (Sb.i.gd.cl "HueError" (mG 0)) X G
 c1:=rW (Sb.i.gd.cl "NoRing" (mG 1)) X G
 c2:=rW (Sb.i.gd.cl "NoHues" (mG 2)) X G
 c3:=rW (Sb.i.gd.cl "NoPlace" (mG 3)) X G
 c4:=rW (Sb.i.gd.cl "NoArrows" (mG 4)) X G
 c5:=rW (Sb.i.gd.cl "NoMap" (mG 5)) X G
 c6:=rW (Sb.i.gd.cl "NoPaper" (mG 6)) X G
 c7:=rW (Sb.i.gd.cl "Apart" (mG 7)) X G
 c8:=rW (Sb.i.gd.cl "NoRow" (mG 8)) X G
 c9:=rW (Sb.i.gd.cl "NoWeb" (mG 9)) X G
 c10:=rW (Sb.i.gd.cl "NoText" (mG 10)) X G
 c11:=rW (Sb.i.gd.cl "TooGreat" (mG 11)) X G
 x2:=Sb.i.gd.ra 2 (mG 0)
 s0:=zk7 (L:=lk.L K) (DY _) (Sb.i.gd.ca 0 (mG 0))
 gP:=zje (Sb.i.gd.it ("MOST_PLACES",8) (mG 0)) X G
 iQ:=zje (Sb.i.gd.it ("MOST_SPOTS",24) (mG 1)) X G
 z16:=oO (Sb.i.gd.no "ValueError" (mG 0)) X G
 Xl:=oO (Sb.i.gd.no "abs" (mG 1)) X G
 z6:=oO (Sb.i.gd.no "all" (mG 2)) X G
 z2:=oO (Sb.i.gd.no "bool" (mG 3)) X G
 z15:=oO (Sb.i.gd.no "divmod" (mG 4)) X G
 Xm:=oO (Sb.i.gd.no "enumerate" (mG 5)) X G
 z1:=oO (Sb.i.gd.no "int" (mG 6)) X G
 z0:=oO (Sb.i.gd.no "isinstance" (mG 7)) X G
 z4:=oO (Sb.i.gd.no "len" (mG 8)) X G
 z9:=oO (Sb.i.gd.no "list" (mG 9)) X G
 z14:=oO (Sb.i.gd.no "max" (mG 10)) X G
 Dq:=oO (Sb.i.gd.no "min" (mG 11)) X G
 z8:=oO (Sb.i.gd.no "range" (mG 12)) X G
 z13:=oO (Sb.i.gd.no "reversed" (mG 13)) X G
 z7:=oO (Sb.i.gd.no "sorted" (mG 14)) X G
 z3:=oO (Sb.i.gd.no "tuple" (mG 15)) X G
 z5:=oO (Sb.i.gd.no "zip" (mG 16)) X G
 ow:=zop Sb.b rfl rfl J0
 mq:=zos Sb.b (Sb.m ("__init__","Board.__init__",Et) (mG 0)).2
 mc:=zoU Sb.b X G
 Xn:=zpR (Sb.m ("__init__","Board.__init__",Et) (mG 0))
 Xo:=zp5 (Sb.m ("far_apart","Board.far_apart",Hj) (mG 1))
 Lg:=zpR (Sb.m ("settled","Board.settled",Eu) (mG 2))
 PB:=zp5 (Sb.m ("ties_left","Board.ties_left",Ew) (mG 3))
 Xp:=Vw (Sb.m ("bound","Board.bound",Ey) (mG 4))
 Xq:=Vw (Sb.m ("narrowest","Board.narrowest",Hl) (mG 5))
 Xr:=Vw (Sb.m ("all_free","Board.all_free",Ez) (mG 6))
abbrev FO(P:Program)(w:World)(K:W.Frag)(mg:Str->Option Value)(base:Heap)(k:Nat)(c:Bool)(x:Str)(i:Nat)(ps:List Str)(n:Nat):Prop:=cC P w K mg base (gK P w) c k (iK K x) (fdOf K x (top i)) ps (lu K (cl K) (call aq T k c n))
abbrev FM(P:Program)(w:World)(K:W.Frag)(mg:Str->Option Value)(base:Heap)(k:Nat)(m:Str)(st:Stmt)(ps:List Str)(sp:Sp):Prop:=cC P w K mg base (gK P w) true k (g8 K ((cl K).b 0) m) (jD K ((cl K).b 0) m st) ps sp
structure Fs(P:Program)(w:World)(K:W.Frag)(mg:Str->Option Value)(base:Heap)(k:Nat):Prop where
 t0:FO P w K mg base k true "is_whole" 14 ["thing"] 0
 t1:FO P w K mg base k true "is_within" 15 ["thing","least","most"] 1
 t2:FO P w K mg base k true "is_row" 16 ["thing","many"] 2
 t3:FO P w K mg base k true "is_web" 19 ["thing"] 3
 t4:FO P w K mg base k true "is_many" 20 ["thing"] 4
 t5:FO P w K mg base k true "is_place" 21 ["many","thing"] 5
 t6:FO P w K mg base k true "is_tie" 22 ["many","thing"] 6
 t7:FO P w K mg base k true "check_web" 23 ["thing"] 7
 t8:FO P w K mg base k true "tied_to" 24 ["web","place"] 8
 t9:FO P w K mg base k true "all_ends" 25 ["web"] 9
 t10:FM P w K mg base k "__init__" Et ["self","web","apart","alike"] (KJ K (cl K) 0 (call aq T k true 10))
 t11:FM P w K mg base k "far_apart" Hj ["self","spot","other"] (lu K (cl K) (call aq T k true 11))
 PJ:FM P w K mg base k "settled" Eu ["self","free","place","spot"] (lu K (cl K) (call aq T k true 12))
 Xu:FM P w K mg base k "ties_left" Ew ["self","free","place"] (lu K (cl K) (call aq T k true 13))
 t14:FM P w K mg base k "bound" Ey ["self","free"] (lu K (cl K) (call aq T k true 14))
 t15:FM P w K mg base k "narrowest" Hl ["self","free"] (lu K (cl K) (call aq T k true 15))
 t16:FM P w K mg base k "all_free" Ez ["self","free"] (lu K (cl K) (call aq T k true 16))
 Xw:FO P w K mg base k true "ring_board" 28 ["web","ring"] 17
 t18:FO P w K mg base k true "is_ring" 31 ["thing"] 18
 t19:FO P w K mg base k true "is_spot" 32 ["ring","thing"] 19
 Xx:FO P w K mg base k true "check_ring" 33 ["thing"] 20
 t21:FO P w K mg base k true "gap_of" 34 ["ring","one","other"] 21
 t22:FO P w K mg base k true "are_spots" 36 ["web","ring","thing"] 22
 t23:FO P w K mg base k true "are_hues" 37 ["web","ring","thing"] 23
 t24:FO P w K mg base k true "check_hues" 38 ["web","ring","thing"] 24
 t25:FO P w K mg base k true "clash_of" 39 ["web","ring","spots"] 25
 t26:FO P w K mg base k true "first_hues" 41 ["web","ring"] 26
 t27:FO P w K mg base k true "next_hues" 42 ["web","ring","hues"] 27
 Xy:FO P w K mg base k true "first_among" 43 ["board","choices"] 28
 Xz:FO P w K mg base k true "first_spot" 44 ["board","answers","free","place"] 29
 PK:FO P w K mg base k true "can_settle" 45 ["board","answers","free"] 30
 t31:FO P w K mg base k true "search" 46 ["board","answers","free"] 31
 t32:FO P w K mg base k true "_law_cell" 48 ["_law_script","_law_k"] 32
 t33:FO P w K mg base k true "_law_pen" 49 ["_law_cell_here"] 33
 vK:FO P w K mg base k true "_law_draw" 50 ["_law_pen_here","_law_many"] 34
 XD:FO P w K mg base k true "_law_whole" 51 ["_law_thing"] 35
 t36:FO P w K mg base k true "_law_odd" 52 ["_law_pen_here"] 36
 q37:FO P w K mg base k false "_law_kind" 53 ["_law_e"] 37
 t38:FO P w K mg base k true "_law_web" 54 ["_law_pen_here","_law_many"] 38
 t39:FO P w K mg base k true "_law_short" 55 ["_law_pen_here"] 39
 XH:FO P w K mg base k true "_law_apart" 56 ["_law_k","_law_one","_law_other"] 40
 t41:FO P w K mg base k true "_law_fit_spots" 57 ["_law_web_here","_law_ring","_law_spots"] 41
 t42:FO P w K mg base k true "_law_are_spots" 58 ["_law_thing","_law_size","_law_k"] 42
 t43:FO P w K mg base k true "_law_are_hues" 59 ["_law_web_here","_law_ring","_law_thing"] 43
 t44:FO P w K mg base k true "_law_all" 60 ["_law_web_here","_law_ring"] 44
 t45:FO P w K mg base k true "_law_bent_row" 61 ["_law_pen_here","_law_row","_law_k"] 45
 XJ:FO P w K mg base k true "_law_told_as" 62 ["_law_found","_law_due"] 46
 PL:FO P w K mg base k true "_law_said" 63 ["_law_web_here","_law_ring","_law_thing"] 47
 t48:FO P w K mg base k true "law" 64 ["_law_script"] 48
section
variable {P:Program}{w:World}{K:W.Frag}{mg:Str->Option Value}{base:Heap}{k:Nat}
theorem zjH(Tp:Top K mg)(Fk:Fs P w K mg base k):Fs P w K mg base (k+1) where
 t0:=fJ Tp.d0 ["thing"] T_0 λ_ _ _ _ _ _ hr=>(aH (bU (rQ (lX Tp.cs Tp.z0 gk (gv 0) (yp rfl Tp.z1 zjn gk dk)) (tO (znt (lX Tp.cs Tp.z0 gk (gv 0) (yp rfl Tp.z2 zf3 gk dk))))))
 aN)
 t1:=fJ Tp.d1 ["thing","least","most"] T_1 λ_ _ _ _ _ _ hr=>(aH (bU (rQ (gc Fk.t0 Tp.d0 hr cj gk (aA (gv 0) aF)) (tO (zm5 Us Us (gv 1) (gv 0) (gv 2)))))
 aN)
 t2:=fJ Tp.d2 ["thing","many"] T_2 λ_ _ _ _ _ _ hr=>(aH (bU (rQ (lX Tp.cs Tp.z0 gk (gv 0) (yp rfl Tp.z3 FQ gk dk)) (tO (zO (zM hr) (vm Tp.z4 gk (aA (gv 0) aF)) (gv 1)))))
 aN)
 t3:=fJ Tp.d3 N3 Wu λ_ _ _ _ _ _ hr=>(aH (iW (pW (m_ (gc Fk.t2 Tp.d2 hr cj gk (aA (gv 0) (aA aM aF))))) (aH (bU lW)
 aN) aN)
 (aH (Kq 1 2 rfl rfl nd rfl rfl jc jl rfl rfl (gv 0))
 (aH (iW (FT (Ux (pW (m_ (gc Fk.t4 Tp.d4 hr cj gk (aA (gv 1) aF)))) (Uv (pW (m_ (lX Tp.cs Tp.z0 gk (gv 2) (yp rfl Tp.z3 FQ gk dk))))))) (aH (bU lW)
 aN) aN)
 (aH (iW (pW (m_ (FW rfl Tp.z6 gk (aA (oN (au (top 19)) N3 ["tie"] ["many"] [1] rfl rfl rfl J0 J0 (nG 0) J0 (nj (gv 2)) (λ_ _ _ _ _ _=>(nM 0 J0 rfl J0)) (λ_ _ _ _ _ _=>pX) (λ_ _ _ _ _ _=>(gc Fk.t6 Tp.d6 hr wu vD (aA (bV 1) (aA (bV 0) aF))))) aF)))) (aH (bU lW)
 aN) aN)
 (aH (bU (FW rfl Tp.z6 gk (aA (oN (au (top 19)) N3 ["tie","later"] [] [] rfl rfl rfl J0 J0 (Kg 0 1) J0 (zo3 Tp.z5 gk (gv 2) (zQ (gv 2) (yj aM) CP)) (λ_ _ _ _ _ _=>(Ob 0 1 rfl J0 rfl rfl J0 J0)) (λ_ _ _ _ _ _=>pX) (λ_ _ _ _ _ _=>(zO (zN hr) (bV 0) (bV 1)))) aF)))
 aN)))))
 t4:=fJ Tp.d4 ["thing"] Wv λ_ _ _ _ _ _ hr=>(aH (bU (gc Fk.t1 Tp.d1 hr cj gk (aA (gv 0) (aA aM (aA (zpM Tp.gP gk dk) aF)))))
 aN)
 t5:=fJ Tp.d5 ["many","thing"] Ww λ_ _ _ _ _ _ hr=>(aH (bU (gc Fk.t1 Tp.d1 hr cj gk (aA (gv 1) (aA aM (aA (cP yg (gv 0) aM) aF)))))
 aN)
 t6:=fJ Tp.d6 ["many","thing","one","other"] Wx λ_ _ _ _ _ _ hr=>(aH (iW (pW (m_ (gc Fk.t2 Tp.d2 hr cj gk (aA (gv 1) (aA aM aF))))) (aH (bU lW)
 aN) aN)
 (aH (Kq 2 3 rfl rfl nd rfl rfl jl jl rfl rfl (gv 1))
 (aH (bU (rQ (gc Fk.t5 Tp.d5 hr cj gk (aA (gv 0) (aA (gv 2) aF))) (rQ (gc Fk.t5 Tp.d5 hr cj gk (aA (gv 0) (aA (gv 3) aF))) (tO (zO (zN hr) (gv 2) (gv 3))))))
 aN)))
 t7:=fJ Tp.d7 ["thing"] Wy λ_ _ _ _ _ _ hr=>(aH (iW (pW (m_ (gc Fk.t3 Tp.d3 hr cj gk (aA (gv 0) aF)))) (aH zpY
 aN) aN)
 aN)
 t8:=fJ Tp.d8 N8 T_8 λ_ _ _ _ _ _ hr=>(aH (Oc 2 (au (top 24)) N8 ["one","other"] ["place"] [1] nd rfl jl rfl rfl rfl rfl J0 J0 (Kg 0 1) J0 (nj (cJ (gv 0) aM)) (λ_ _ _ _ _ _=>(Ob 0 1 rfl J0 rfl rfl J0 J0)) (λ_ _ _ _ _ _=>(CT (oZ (zpI hr) (bV 2) (gB (aA (bV 0) (aA (bV 1) aF)))))) (λ_ _ _ _ _ _=>(Uy (oZ (zM hr) (bV 0) (bV 2)) (bV 1) (bV 0))))
 (aH (bU (CQ Tp.z3 gk (aA (zii Tp.z7 gk (aA (gv 2) aF)) aF)))
 aN))
 t9:=fJ Tp.d9 N9 T_9 λ_ _ _ _ _ _ hr=>(aH (bU (oN (au (top 25)) N9 ["place"] ["web"] [0] rfl rfl rfl J0 J0 (nG 0) J0 (wj Tp.z8 gk (cJ (gv 0) aM)) (λ_ _ _ _ _ _=>(nM 0 J0 rfl J0)) (λ_ _ _ _ _ _=>pX) (λ_ _ _ _ _ _=>(gc Fk.t8 Tp.d8 hr wu vD (aA (bV 1) (aA (bV 0) aF))))))
 aN)
 t10:=zkD (N:=["self","web","apart","alike"]) Tp.Xn.fn zpF (λ_ _ _ _ _ _ hr=>(Ou (j:=0) Tp.ow (gc Fk.t9 Tp.d9 hr cj gk (aA (gv 1) aF)) (Ou (j:=0) Tp.ow (zpn rfl Tp.z3 gk Tp.z8 gk (aA (vm Tp.z4 gk (aA (gv 2) aF)) aF)) (Ou (j:=0) Tp.ow (gv 2) (Ou (j:=0) Tp.ow (gv 3) znr))))) (by show (4:Nat)<=900;decide)
 t11:=fM Tp.Xo ["self","spot","other"] zp6 λ_ _ _ _ _ _ hr=>(aH (bU (cJ (cJ (zY Tp.ow (gv 0)) (gv 1)) (gv 2)))
 aN)
 PJ:=fM Tp.Lg N12 zpX λ_ _ _ _ _ _ hr=>(aH (fB 4 nd rfl jl rfl (zjq Tp.z9 gk (aA (gv 1) aF)))
 (aH (Od (gv 4) (gv 2) rP)
 (aH (rT rR rfl rfl (nj (cJ (zY Tp.ow (gv 0)) (gv 2))) (vo 5 nd rfl jl rfl) (aH (iW (Kl (cJ (gv 4) (gv 5))) (aH (Od (gv 4) (gv 5) (CQ Tp.z3 gk (aA (oN (au (Eu)) N12 ["other"] ["self","spot"] [0,3] rfl rfl rfl J0 J0 (nG 0) J0 (nj (cJ (gv 4) (gv 5))) (λ_ _ _ _ _ _=>(nM 0 J0 rfl J0)) (λ_ _ _ _ _ _=>(CT (m_ (yE Tp.ow Tp.Xo Fk.t11 hr (bV 1) (aA (bV 2) (aA (bV 0) aF)))))) (λ_ _ _ _ _ _=>(bV 0))) aF)))
 aN) aN)
 aN))
 (aH (bU (CQ Tp.z3 gk (aA (gv 4) aF)))
 aN))))
 Xu:=fM Tp.PB N13 zpJ λ_ _ _ _ _ _ hr=>(aH (bU (vm Tp.z4 gk (aA (oN (au (Ew)) N13 ["end"] ["free"] [1] rfl rfl rfl J0 J0 (nG 0) J0 (nj (cJ (zY Tp.ow (gv 0)) (gv 2))) (λ_ _ _ _ _ _=>(nM 0 J0 rfl J0)) (λ_ _ _ _ _ _=>(CT (Kl (cJ (bV 1) (bV 0))))) (λ_ _ _ _ _ _=>(bV 0))) aF)))
 aN)
 t14:=fM Tp.Xp N14 zpU λ_ _ _ _ _ _ hr=>(aH (bU (CQ Tp.z3 gk (aA (oN (au (Ey)) N14 ["place","spots"] ["self","free"] [0,1] rfl rfl rfl J0 J0 (Kg 0 1) J0 (zjm Tp.Xm gk (gv 1)) (λ_ _ _ _ _ _=>(Ob 0 1 rfl J0 rfl rfl J0 J0)) (λ_ _ _ _ _ _=>pX) (λ_ _ _ _ _ _=>(Uy (oZ zqo (yE Tp.ow Tp.PB Fk.Xu hr (bV 2) (aA (bV 3) (aA (bV 0) aF))) aM) (bV 1) rP))) aF)))
 aN)
 t15:=fM Tp.Xq ["self","free","ranks","place","spots"] zp8 λ_ _ _ _ _ _ hr=>(aH (fB 2 nd rfl jl rfl (iV aF))
 (aH (rT rR rfl rfl (zjm Tp.Xm gk (gv 1)) (zjl 3 4 rfl rfl nd rfl rfl jl jl rfl rfl) (aH (iW (Kl (gv 4)) (aH (zT (Uz (gv 2) (gB (aA (vm Tp.z4 gk (aA (gv 4) aF)) (aA (N_ (yE Tp.ow Tp.PB Fk.Xu hr (gv 0) (aA (gv 1) (aA (gv 3) aF)))) (aA (gv 3) aF))))))
 aN) aN)
 aN))
 (aH (bU (Uy (zoR (gv 2)) (cJ (zlM hr rfl Tp.Dq gk (aA (gv 2) aF)) aM) rP))
 aN)))
 t16:=fM Tp.Xr N16 zp7 λ_ _ _ _ _ _ hr=>(aH (bU (FW rfl Tp.z6 gk (aA (oN (au (Ez)) N16 ["spots"] ["self"] [0] rfl rfl rfl J0 J0 (nG 0) J0 (nj (gv 1)) (λ_ _ _ _ _ _=>(nM 0 J0 rfl J0)) (λ_ _ _ _ _ _=>pX) (λ_ _ _ _ _ _=>(zqp (Ut (bV 0)) (tO (zO (zM hr) (bV 0) (zY Tp.ow (bV 1))))))) aF)))
 aN)
 Xw:=fR Tp.Pj WW zqd λ_ _ _ _ _ _ hr=>(aH (Kq 2 3 rfl rfl nd rfl rfl jc jc rfl rfl (gv 1))
 (aH (fB 4 nd rfl jc rfl (oN (au (top 28)) WW ["gap"] ["k","d"] [2,3] rfl rfl rfl J0 J0 (nG 0) J0 (wj Tp.z8 gk (gv 2)) (λ_ _ _ _ _ _=>(nM 0 J0 rfl J0)) (λ_ _ _ _ _ _=>pX) (λ_ _ _ _ _ _=>(zO zpP (Km rfl Tp.Dq vD (aA (bV 0) (aA (cP yg (bV 1) (bV 0)) aF))) (bV 2)))))
 (aH (bU (zqh Tp.mq Fk.t10 (Mi.bF.made hr _ _) Tp.Xn.bd Tp.mc gk (aA (gv 0) (aA (oN (au (top 28)) WW ["spot"] ["k","wide"] [2,4] rfl rfl rfl J0 J0 (nG 0) J0 (wj Tp.z8 gk (gv 2)) (λ_ _ _ _ _ _=>(nM 0 J0 rfl J0)) (λ_ _ _ _ _ _=>pX) (λ_ _ _ _ _ _=>(zkv ["spot","k","wide"] ["other"] ["wide","spot"] [2,0] rfl rfl J0 J0 (nG 0) J0 (wj Tp.z8 vD (bV 1)) (λ_ _ _ _ _ _=>(nM 0 J0 rfl J0)) (λ_ _ _ _ _ _=>pX) (λ_ _ _ _ _ _=>(cJ (bV 1) (cP yg (bV 2) (bV 0))))))) (aA lW aF)))))
 aN)))
 t18:=fJ Tp.W0 ["thing","k","d"] Wz λ_ _ _ _ _ _ hr=>(aH (iW (pW (m_ (gc Fk.t2 Tp.d2 hr cj gk (aA (gv 0) (aA aM aF))))) (aH (bU lW)
 aN) aN)
 (aH (Kq 1 2 rfl rfl nd rfl rfl jl jl rfl rfl (gv 0))
 (aH (bU (rQ (gc Fk.t1 Tp.d1 hr cj gk (aA (gv 1) (aA aM (aA (zpM Tp.iQ gk dk) aF)))) (tO (gc Fk.t1 Tp.d1 hr cj gk (aA (gv 2) (aA aM (aA (gv 1) aF)))))))
 aN)))
 t19:=fJ Tp.W2 ["ring","thing"] zpZ λ_ _ _ _ _ _ hr=>(aH (bU (gc Fk.t1 Tp.d1 hr cj gk (aA (gv 1) (aA aM (aA (cP yg (cJ (gv 0) aM) aM) aF)))))
 aN)
 Xx:=fJ Tp.Pk ["thing"] WD λ_ _ _ _ _ _ hr=>(aH (iW (pW (m_ (gc Fk.t18 Tp.W0 hr cj gk (aA (gv 0) aF)))) (aH zpY
 aN) aN)
 aN)
 t21:=fJ Tp.W3 ["ring","one","other","gap"] zqi λ_ _ _ _ _ _ hr=>(aH (fB 3 nd rfl jl rfl (zl9 Tp.Xl gk (aA (cP yg (gv 1) (gv 2)) aF)))
 (aH (bU (Km rfl Tp.Dq gk (aA (gv 3) (aA (cP yg (cJ (gv 0) aM) (gv 3)) aF))))
 aN))
 t22:=fJ Tp.W4 N22 zpL λ_ _ _ _ _ _ hr=>(aH (bU (rQ (gc Fk.t2 Tp.d2 hr cj gk (aA (gv 2) (aA (cJ (gv 0) aM) aF))) (tO (FW rfl Tp.z6 gk (aA (oN (au (top 36)) N22 ["spot"] ["ring"] [1] rfl rfl rfl J0 J0 (nG 0) J0 (nj (gv 2)) (λ_ _ _ _ _ _=>(nM 0 J0 rfl J0)) (λ_ _ _ _ _ _=>pX) (λ_ _ _ _ _ _=>(gc Fk.t19 Tp.W2 hr wu vD (aA (bV 1) (aA (bV 0) aF))))) aF)))))
 aN)
 t23:=fJ Tp.W5 ["web","ring","thing"] zp0 λ_ _ _ _ _ _ hr=>(aH (bU (rQ (gc Fk.t22 Tp.W4 hr cj gk (aA (gv 0) (aA (gv 1) (aA (gv 2) aF)))) (tO (Ut (gc Fk.t25 Tp.W7 hr cj gk (aA (gv 0) (aA (gv 1) (aA (gv 2) aF))))))))
 aN)
 t24:=fJ Tp.W6 ["web","ring","thing"] WK λ_ _ _ _ _ _ hr=>(aH (zT (gc Fk.t7 Tp.d7 hr cj gk (aA (gv 0) aF)))
 (aH (zT (gc Fk.Xx Tp.Pk hr cj gk (aA (gv 1) aF)))
 (aH (iW (pW (m_ (gc Fk.t23 Tp.W5 hr cj gk (aA (gv 0) (aA (gv 1) (aA (gv 2) aF)))))) (aH (zky rfl rfl rfl Tp.x2 Tp.c2 gk cj (aA nJ aF) dk)
 aN) aN)
 aN)))
 t25:=fJ Tp.W7 ["web","ring","spots","one","other"] zp3 λ_ _ _ _ _ _ hr=>(aH (rT rR rfl rfl (nj (cJ (gv 0) aM)) (zjl 3 4 rfl rfl nd rfl rfl jl jl rfl rfl) (aH (iW (oZ (zN hr) (gc Fk.t21 Tp.W3 hr cj gk (aA (gv 1) (aA (cJ (gv 2) (gv 3)) (aA (cJ (gv 2) (gv 4)) aF)))) (cJ (gv 1) aM)) (aH (bU (gB (aA (gv 3) (aA (gv 4) aF))))
 aN) aN)
 aN))
 (aH (bU rP)
 aN))
 t26:=fJ Tp.W8 N26 zpN λ_ _ _ _ _ _ hr=>(aH (zT (gc Fk.t7 Tp.d7 hr cj gk (aA (gv 0) aF)))
 (aH (zT (gc Fk.Xx Tp.Pk hr cj gk (aA (gv 1) aF)))
 (aH (fB 2 nd rfl jc rfl (gc Fk.Xw Tp.Pj hr cj gk (aA (gv 0) (aA (gv 1) aF))))
 (aH (bU (gc Fk.Xy Tp.Pn hr cj gk (aA (gv 2) (aA (oN (au (top 41)) N26 ["place"] ["board"] [2] rfl rfl rfl J0 J0 (nG 0) J0 (wj Tp.z8 gk (cJ (gv 0) aM)) (λ_ _ _ _ _ _=>(nM 0 J0 rfl J0)) (λ_ _ _ _ _ _=>pX) (λ_ _ _ _ _ _=>(zY Tp.ow (bV 1)))) aF))))
 aN))))
 t27:=fJ Tp.W9 WX WL λ_ _ _ _ _ _ hr=>(aH (zT (gc Fk.t24 Tp.W6 hr cj gk (aA (gv 0) (aA (gv 1) (aA (gv 2) aF)))))
 (aH (fB 3 nd rfl jc rfl (gc Fk.Xw Tp.Pj hr cj gk (aA (gv 0) (aA (gv 1) aF))))
 (aH (rT rR rfl rfl (zo1 Tp.z8 gk Tp.z13 gk (cJ (gv 0) aM)) (vo 4 nd rfl jl rfl) (aH (Oc 5 (au (top 42)) WX ["spot"] [] [] nd rfl jl rfl rfl rfl rfl J0 J0 (nG 0) J0 (nj (zQ (gv 2) CP (yj (gv 4)))) (λ_ _ _ _ _ _=>(nM 0 J0 rfl J0)) (λ_ _ _ _ _ _=>pX) (λ_ _ _ _ _ _=>(gB (aA (bV 0) aF))))
 (aH (fB 6 nd rfl jl rfl (zQ (zY Tp.ow (gv 3)) (yj (cP iz (cJ (gv 2) (gv 4)) aM)) CP))
 (aH (Oc 7 (au (top 42)) WX ["later"] ["board"] [3] nd rfl jl rfl rfl rfl rfl J0 J0 (nG 0) J0 (zp1 Tp.z8 gk (cP iz (gv 4) aM) (cJ (gv 0) aM)) (λ_ _ _ _ _ _=>(nM 0 J0 rfl J0)) (λ_ _ _ _ _ _=>pX) (λ_ _ _ _ _ _=>(zY Tp.ow (bV 1))))
 (aH (fB 8 nd rfl jl rfl (gc Fk.Xy Tp.Pn hr cj gk (aA (gv 3) (aA (cP iz (cP iz (gv 5) (iV (aA (gv 6) aF))) (gv 7)) aF))))
 (aH (iW (Kl (gv 8)) (aH (bU (gv 8))
 aN) aN)
 aN))))))
 (aH (bU rP)
 aN))))
 Xy:=fJ Tp.Pn ["board","choices","free","answers","row","place","spot"] zpS λ_ _ _ _ _ _ hr=>(aH (fB 2 nd rfl jl rfl (CQ Tp.z3 gk (aA (gv 1) aF)))
 (aH (fB 3 nd rfl jl rfl zlB)
 (aH (iW (pW (m_ (gc Fk.PK Tp.Le hr cj gk (aA (gv 0) (aA (gv 3) (aA (gv 2) aF)))))) (aH (bU rP)
 aN) aN)
 (aH (fB 4 nd rfl jl rfl (iV aF))
 (aH (rT rR rfl rfl (wj Tp.z8 gk (vm Tp.z4 gk (aA (gv 1) aF))) (vo 5 nd rfl jl rfl) (aH (fB 6 nd rfl jl rfl (gc Fk.Xz Tp.Pq hr cj gk (aA (gv 0) (aA (gv 3) (aA (gv 2) (aA (gv 5) aF))))))
 (aH (fB 2 nd rfl jl rfl (yE Tp.ow Tp.Lg Fk.PJ hr (gv 0) (aA (gv 2) (aA (gv 5) (aA (gv 6) aF)))))
 (aH (zT (Uz (gv 4) (gv 6)))
 aN))))
 (aH (bU (CQ Tp.z3 gk (aA (gv 4) aF)))
 aN))))))
 Xz:=fJ Tp.Pq ["board","answers","free","place","spot"] WM λ_ _ _ _ _ _ hr=>(aH (rT rR rfl rfl (nj (cJ (gv 2) (gv 3))) (vo 4 nd rfl jl rfl) (aH (iW (m_ (gc Fk.PK Tp.Le hr cj gk (aA (gv 0) (aA (gv 1) (aA (yE Tp.ow Tp.Lg Fk.PJ hr (gv 0) (aA (gv 2) (aA (gv 3) (aA (gv 4) aF)))) aF))))) (aH (bU (gv 4))
 aN) aN)
 aN))
 (aH (bU rP)
 aN))
 PK:=fJ Tp.Le ["board","answers","free","rest"] zpH λ_ _ _ _ _ _ hr=>(aH (iW (oZ (zpI hr) (gB aF) (gv 2)) (aH (bU lW)
 aN) aN)
 (aH (fB 3 nd rfl jl rfl (yE Tp.ow Tp.Xp Fk.t14 hr (gv 0) (aA (gv 2) aF)))
 (aH (iW (zlL hr (gv 3) (gv 1)) (aH (znH hr (gv 1) (gv 3) (gc Fk.t31 Tp.W_ hr cj gk (aA (gv 0) (aA (gv 1) (aA (gv 3) aF)))))
 aN) aN)
 (aH (bU (zn0 hr (gv 1) (gv 3)))
 aN))))
 t31:=fJ Tp.W_ ["board","answers","free","place"] Pg λ_ _ _ _ _ _ hr=>(aH (fB 3 nd rfl jl rfl (yE Tp.ow Tp.Xq Fk.t15 hr (gv 0) (aA (gv 2) aF)))
 (aH (iW (zmY (gv 3)) (aH (bU lW)
 aN) aN)
 (aH (iW (FT (Uw (m_ (zY Tp.ow (gv 0))) (Uu (m_ (yE Tp.ow Tp.Xr Fk.t16 hr (gv 0) (aA (gv 2) aF)))))) (aH (bU (gc Fk.PK Tp.Le hr cj gk (aA (gv 0) (aA (gv 1) (aA (yE Tp.ow Tp.Lg Fk.PJ hr (gv 0) (aA (gv 2) (aA (gv 3) (aA aM aF)))) aF)))))
 aN) aN)
 (aH (bU (zmB (gc Fk.Xz Tp.Pq hr cj gk (aA (gv 0) (aA (gv 1) (aA (gv 2) (aA (gv 3) aF)))))))
 aN))))
 t32:=fJ Tp.Xa ["_law_script","_law_k"] zp9 λ_ _ _ _ _ _ hr=>(aH (iW (oZ (zN hr) (gv 1) (vm Tp.z4 gk (aA (gv 0) aF))) (aH (bU (cJ (gv 0) (gv 1)))
 aN) aN)
 (aH (bU aM)
 aN))
 t33:=fJ Tp.Xb ["_law_cell_here","_law_left"] zp2 λ_ _ _ _ _ _ hr=>(aH (fB 1 nd rfl jl rfl (zlJ rfl Tp.z14 gk (aA (gv 0) (aA (cP yg aM (gv 0)) aF))))
 (aH (bU (iV (aA (gv 1) (aA (zog Tp.z1 gk (aA (zO zpP (gv 1) (cP znN aM aM)) aF)) aF))))
 aN))
 vK:=fJ Tp.tU ["_law_pen_here","_law_many","_law_left","_law_found","_law_stir"] zpT λ_ _ _ _ _ _ hr=>(aH (iW (oZ (zM hr) (cJ (gv 0) aM) aM) (aH (Kq 2 3 rfl rfl nd rfl rfl jl jl rfl rfl (zh0 Tp.z15 gk (aA (cJ (gv 0) aM) (aA (gv 1) aF))))
 (aH (Od (gv 0) aM (gv 2))
 (aH (bU (gv 3))
 aN))) aN)
 (aH (fB 4 nd rfl jl rfl (cP Kh (cP Ur (cP iz (cP Kh (cJ (gv 0) aM) aM) aM) aM) aM))
 (aH (fB 4 nd rfl jl rfl (cP Kh (cP iz (cP Ur (gv 4) (gv 4)) aM) aM))
 (aH (Od (gv 0) aM (cP Kh (cP iz (cP Ur (gv 4) aM) aM) aM))
 (aH (bU (cP Kh (cP zmg (cJ (gv 0) aM) aM) (gv 1)))
 aN)))))
 XD:=fJ Tp.Pu ["_law_thing"] zqk λ_ _ _ _ _ _ hr=>(aH (bU (rQ (lX Tp.cs Tp.z0 gk (gv 0) (yp rfl Tp.z1 zjn gk dk)) (tO (znt (lX Tp.cs Tp.z0 gk (gv 0) (yp rfl Tp.z2 zf3 gk dk))))))
 aN)
 t36:=fJ Tp.Xc ["_law_pen_here","_law_some"] zqe λ_ _ _ _ _ _ hr=>(aH (fB 1 nd rfl jl rfl (iV (aA rP (aA lW (aA lW (aA (N_ aM) (aA nJ (aA nJ (aA (gB aF) (aA (iV aF) (aA (gB (aA aM aF)) (aA (iV (aA aM aF)) (aA zmU (aA (gB (aA aM (aA aM aF))) (aA (cP znN aM aM) (aA (gB (aA aM (aA (gB aF) aF))) (aA (gB (aA nJ aF)) aF)))))))))))))))))
 (aH (bU (cJ (cP iz (gv 1) (iV (aA (gB (aA aM (aA (gB (aA (gB (aA aM (aA aM aF))) aF)) aF))) aF))) (gc Fk.vK Tp.tU hr cj gk (aA (gv 0) (aA aM aF)))))
 aN))
 q37:=fJ Tp.Xd ["_law_e","_law_marks","_law_words"] zqg λ_ _ _ _ _ _ hr=>(aH (fB 1 nd rfl jl rfl (iV (aA (lX Tp.cs Tp.z0 gk (gv 0) (vh Tp.c1 gk dk)) (aA (lX Tp.cs Tp.z0 gk (gv 0) (vh Tp.c2 gk dk)) (aA (lX Tp.cs Tp.z0 gk (gv 0) (vh Tp.c3 gk dk)) (aA (lX Tp.cs Tp.z0 gk (gv 0) (vh Tp.c4 gk dk)) aF))))))
 (aH (fB 1 nd rfl jl rfl (cP iz (gv 1) (iV (aA (lX Tp.cs Tp.z0 gk (gv 0) (vh Tp.c5 gk dk)) (aA (lX Tp.cs Tp.z0 gk (gv 0) (vh Tp.c6 gk dk)) (aA (lX Tp.cs Tp.z0 gk (gv 0) (vh Tp.c7 gk dk)) (aA (lX Tp.cs Tp.z0 gk (gv 0) (vh Tp.c8 gk dk)) aF)))))))
 (aH (fB 1 nd rfl jl rfl (cP iz (gv 1) (iV (aA (lX Tp.cs Tp.z0 gk (gv 0) (vh Tp.c9 gk dk)) (aA (lX Tp.cs Tp.z0 gk (gv 0) (vh Tp.c10 gk dk)) (aA (lX Tp.cs Tp.z0 gk (gv 0) (vh Tp.c11 gk dk)) aF))))))
 (aH (iW (FT (Ux (pW (m_ (lX Tp.cs Tp.z0 gk (gv 0) (yp rfl Tp.z16 zc2 gk dk)))) (Uv (oZ (Oa hr) (zj9 hr (gv 1) (aA lW aF)) aM)))) (aH (bU nJ)
 aN) aN)
 (aH (fB 2 nd rfl jl rfl (iV (aA nJ (aA nJ (aA nJ (aA nJ (aA nJ (aA nJ (aA nJ (aA nJ (aA nJ (aA nJ (aA nJ aF)))))))))))))
 (aH (bU (cJ (gv 2) (zk2 (gv 1) (aA lW aF))))
 aN))))))
 t38:=fJ Tp.Xe N38 zp4 λ_ _ _ _ _ _ hr=>(aH (fB 2 nd rfl jc rfl (cJ (iV (aA aM (aA aM (aA aM aF)))) (gc Fk.vK Tp.tU hr cj gk (aA (gv 0) (aA aM aF)))))
 (aH (fB 3 nd rfl jl rfl (iV aF))
 (aH (rT rR rfl rfl (wj Tp.z8 gk (gv 1)) (vo 4 nd rfl jc rfl) (aH (fB 3 nd rfl jl rfl (cP iz (gv 3) (oN (au (top 54)) N38 ["_law_other"] ["_law_one","_law_pen_here","_law_often"] [4,0,2] rfl rfl rfl J0 J0 (nG 0) J0 (zp1 Tp.z8 gk (cP iz (gv 4) aM) (gv 1)) (λ_ _ _ _ _ _=>(nM 0 J0 rfl J0)) (λ_ _ _ _ _ _=>(CT (oZ (zN hr) (gc Fk.vK Tp.tU hr wu vD (aA (bV 2) (aA aM aF))) (bV 3)))) (λ_ _ _ _ _ _=>(gB (aA (bV 1) (aA (bV 0) aF)))))))
 aN))
 (aH (bU (gB (aA (gv 1) (aA (CQ Tp.z3 gk (aA (gv 3) aF)) aF))))
 aN))))
 t39:=fJ Tp.Xf ["_law_pen_here"] zqb λ_ _ _ _ _ _ hr=>(aH (bU (cJ (iV (aA (gB (aA aM (aA aM aF))) (aA (gB (aA aM (aA aM aF))) (aA (gB (aA aM (aA aM aF))) (aA (gB (aA aM (aA aM aF))) (aA (gB (aA aM (aA aM aF))) (aA (gB (aA aM (aA aM aF))) (aA (gB (aA aM (aA aM aF))) (aA (gB (aA aM (aA aM aF))) (aA (gB (aA aM (aA aM aF))) (aA (gB (aA aM (aA aM aF))) aF))))))))))) (gc Fk.vK Tp.tU hr cj gk (aA (gv 0) (aA aM aF)))))
 aN)
 XH:=fJ Tp.Px ["_law_k","_law_one","_law_other","_law_there"] zql λ_ _ _ _ _ _ hr=>(aH (fB 3 nd rfl jl rfl (zl9 Tp.Xl gk (aA (cP yg (gv 1) (gv 2)) aF)))
 (aH (bU (Km rfl Tp.Dq gk (aA (gv 3) (aA (cP yg (gv 0) (gv 3)) aF))))
 aN))
 t41:=fJ Tp.Xg N41 zpK λ_ _ _ _ _ _ hr=>(aH (bU (zO (zM hr) (oN (au (top 57)) N41 ["_law_tie"] ["_law_ring","_law_spots"] [1,2] rfl rfl rfl J0 J0 (nG 0) J0 (nj (cJ (gv 0) aM)) (λ_ _ _ _ _ _=>(nM 0 J0 rfl J0)) (λ_ _ _ _ _ _=>(CT (oZ (zN hr) (gc Fk.XH Tp.Px hr wu vD (aA (cJ (bV 1) aM) (aA (cJ (bV 2) (cJ (bV 0) aM)) (aA (cJ (bV 2) (cJ (bV 0) aM)) aF)))) (cJ (bV 1) aM)))) (λ_ _ _ _ _ _=>(bV 0))) (iV aF)))
 aN)
 t42:=fJ Tp.Xh N42 zpQ λ_ _ _ _ _ _ hr=>(aH (iW (FT (Ux (pW (m_ (lX Tp.cs Tp.z0 gk (gv 0) (yp rfl Tp.z3 FQ gk dk)))) (Uv (oZ (Oa hr) (vm Tp.z4 gk (aA (gv 0) aF)) (gv 1))))) (aH (bU lW)
 aN) aN)
 (aH (bU (FW rfl Tp.z6 gk (aA (oN (au (top 58)) N42 ["_law_one"] ["_law_k"] [2] rfl rfl rfl J0 J0 (nG 0) J0 (nj (gv 0)) (λ_ _ _ _ _ _=>(nM 0 J0 rfl J0)) (λ_ _ _ _ _ _=>pX) (λ_ _ _ _ _ _=>(rQ (gc Fk.XD Tp.Pu hr wu vD (aA (bV 0) aF)) (tO (zm5 Us (zN hr) aM (bV 0) (bV 1)))))) aF)))
 aN))
 t43:=fJ Tp.Xi ["_law_web_here","_law_ring","_law_thing"] zpG λ_ _ _ _ _ _ hr=>(aH (bU (rQ (gc Fk.t42 Tp.Xh hr cj gk (aA (gv 2) (aA (cJ (gv 0) aM) (aA (cJ (gv 1) aM) aF)))) (tO (gc Fk.t41 Tp.Xg hr cj gk (aA (gv 0) (aA (gv 1) (aA (gv 2) aF)))))))
 aN)
 t44:=fJ Tp.Xj WY zpO λ_ _ _ _ _ _ hr=>(aH (fB 2 nd rfl jl rfl (iV (aA (gB aF) aF)))
 (aH (rT rR rfl rfl (wj Tp.z8 gk (cJ (gv 0) aM)) (vo 3 nd rfl jc rfl) (aH (fB 4 nd rfl jl rfl (iV aF))
 (aH (rT rR rfl rfl (nj (gv 2)) (vo 5 nd rfl jc rfl) (aH (Oc 6 (au (top 60)) WY ["_law_one","_law_other"] ["_law_row","_law_place"] [5,3] nd rfl jl rfl rfl rfl rfl J0 J0 (Kg 0 1) J0 (nj (cJ (gv 0) aM)) (λ_ _ _ _ _ _=>(Ob 0 1 rfl J0 rfl rfl J0 J0)) (λ_ _ _ _ _ _=>(CT (oZ (zM hr) (bV 1) (bV 3)))) (λ_ _ _ _ _ _=>(cJ (bV 2) (bV 0))))
 (aH (rT rR rfl rfl (wj Tp.z8 gk (cJ (gv 1) aM)) (vo 7 nd rfl jc rfl) (aH (iW (oZ (zM hr) (oN (au (top 60)) WY ["_law_one"] ["_law_ring","_law_spot"] [1,7] rfl rfl rfl J0 J0 (nG 0) J0 (nj (gv 6)) (λ_ _ _ _ _ _=>(nM 0 J0 rfl J0)) (λ_ _ _ _ _ _=>(CT (oZ (zN hr) (gc Fk.XH Tp.Px hr wu vD (aA (cJ (bV 1) aM) (aA (bV 0) (aA (bV 2) aF)))) (cJ (bV 1) aM)))) (λ_ _ _ _ _ _=>(bV 0))) (iV aF)) (aH (zT (Uz (gv 4) (cP iz (gv 5) (gB (aA (gv 7) aF)))))
 aN) aN)
 aN))
 aN)))
 (aH (fB 2 nd rfl jl rfl (gv 4))
 aN))))
 (aH (bU (gv 2))
 aN)))
 t45:=fJ Tp.Xk ["_law_pen_here","_law_row","_law_k","_law_at","_law_odd_here","_law_rows"] zqa λ_ _ _ _ _ _ hr=>(aH (fB 3 nd rfl jl rfl (gc Fk.vK Tp.tU hr cj gk (aA (gv 0) (aA (cP iz (vm Tp.z4 gk (aA (gv 1) aF)) aM) aF))))
 (aH (fB 4 nd rfl jl rfl (cJ (iV (aA lW (aA lW (aA rP (aA (N_ aM) (aA (gv 2) (aA nJ (aA (gB (aA aM aF)) (aA (gc Fk.vK Tp.tU hr cj gk (aA (gv 0) (aA (gv 2) aF))) aF))))))))) (gc Fk.vK Tp.tU hr cj gk (aA (gv 0) (aA aM aF)))))
 (aH (fB 5 nd rfl jl rfl (iV (aA (cP iz (cP iz (zQ (gv 1) CP (yj (gv 3))) (gB (aA (gv 4) aF))) (zQ (gv 1) (yj (cP iz (gv 3) aM)) CP)) (aA (cP iz (zQ (gv 1) CP (yj (gv 3))) (zQ (gv 1) (yj (cP iz (gv 3) aM)) CP)) (aA (cP iz (gv 1) (gB (aA aM aF))) (aA (zjq Tp.z9 gk (aA (gv 1) aF)) (aA rP (aA (gB (aA (gv 1) aF)) aF))))))))
 (aH (bU (cJ (gv 5) (cJ (iV (aA aM (aA aM (aA aM (aA aM (aA aM (aA aM (aA aM (aA aM (aA aM aF)))))))))) (gc Fk.vK Tp.tU hr cj gk (aA (gv 0) (aA aM aF))))))
 aN))))
 XJ:=fJ Tp.Py N46 WQ λ_ _ _ _ _ _ hr=>(aH (iW (zmY (gv 1)) (aH (bU (Ut (gv 0)))
 aN) aN)
 (aH (bU (rQ (lX Tp.cs Tp.z0 gk (gv 0) (yp rfl Tp.z3 FQ gk dk)) (rQ (zO (zM hr) (gv 0) (gv 1)) (tO (FW rfl Tp.z6 gk (aA (oN (au (top 62)) N46 ["_law_one"] [] [] rfl rfl rfl J0 J0 (nG 0) J0 (nj (gv 0)) (λ_ _ _ _ _ _=>(nM 0 J0 rfl J0)) (λ_ _ _ _ _ _=>pX) (λ_ _ _ _ _ _=>(gc Fk.XD Tp.Pu hr wu vD (aA (bV 0) aF)))) aF))))))
 aN))
 PL:=fJ Tp.Lf ["_law_web_here","_law_ring","_law_thing","_law_e"] WT λ_ _ _ _ _ _ hr=>(aH (zoo 3 (dc:=0) rfl rfl ⟨rfl,rfl⟩ gk Tp.c0 nd rfl jl Tp.s0 (λ_ _ _ R' ZV=>(aH (bU (gc Fk.t27 Tp.W9 hr R' gk (aA (gv 0) (aA (gv 1) (aA (gv 2) aF)))))
 aN)) (λ_=>(aH (bU (gc Fk.q37 Tp.Xd (zgZ hr) wu gk (aA (gv 3) aF)))
 aN)) dk)
 aN)
 t48:=fJ Tp.Pz N48 zpV λ_ _ _ _ _ _ hr=>(aH (rT rR rfl rfl (nj (cP iz (iV (aA (gc Fk.t32 Tp.Xa hr cj gk (aA (gv 0) (aA aM aF))) aF)) (zQ (gv 0) (yj aM) (yj aM)))) (vo 1 nd rfl jl rfl) (aH (fB 2 nd rfl jc rfl (gc Fk.t33 Tp.Xb hr cj gk (aA (gv 1) aF)))
 (aH (fB 3 nd rfl jl rfl (gc Fk.t38 Tp.Xe hr cj gk (aA (gv 2) (aA (cP iz aM (gc Fk.vK Tp.tU hr cj gk (aA (gv 2) (aA aM aF)))) aF))))
 (aH (fB 4 nd rfl jc rfl (gc Fk.t39 Tp.Xf hr cj gk (aA (gv 2) aF)))
 (aH (fB 5 nd rfl jl rfl (gc Fk.t44 Tp.Xj hr cj gk (aA (gv 3) (aA (gv 4) aF))))
 (aH (iW (pW (m_ (gc Fk.XJ Tp.Py hr cj gk (aA (gc Fk.t26 Tp.W8 hr cj gk (aA (gv 3) (aA (gv 4) aF))) (aA (cJ (cP iz (gv 5) (iV (aA rP aF))) aM) aF))))) (aH (bU lW)
 aN) aN)
 (aH (fB 6 nd rfl jl rfl (gc Fk.vK Tp.tU hr cj gk (aA (gv 2) (aA (cP iz (vm Tp.z4 gk (aA (gv 5) aF)) aM) aF))))
 (aH (rT rR rfl rfl (nj (cP iz (zmR rfl Tp.z9 gk Tp.z8 gk (aA (Km rfl Tp.Dq gk (aA aM (aA (vm Tp.z4 gk (aA (gv 5) aF)) aF))) aF)) (zmR rfl Tp.z9 gk Tp.z8 gk (aA (gv 6) (aA (Km rfl Tp.Dq gk (aA (cP iz (gv 6) aM) (aA (vm Tp.z4 gk (aA (gv 5) aF)) aF))) aF))))) (vo 7 nd rfl jl rfl) (aH (iW (pW (m_ (gc Fk.XJ Tp.Py hr cj gk (aA (gc Fk.PL Tp.Lf hr cj gk (aA (gv 3) (aA (gv 4) (aA (cJ (gv 5) (gv 7)) aF)))) (aA (cJ (cP iz (gv 5) (iV (aA rP aF))) (cP iz (gv 7) aM)) aF))))) (aH (bU lW)
 aN) aN)
 aN))
 (aH (iW (FT (Uw (oZ (Oa hr) (gv 5) (iV aF)) (Uu (Kl (gc Fk.PL Tp.Lf hr cj gk (aA (gv 3) (aA (gv 4) (aA (cJ (gv 5) (N_ aM)) aF)))))))) (aH (bU lW)
 aN) aN)
 (aH (fB 8 nd rfl jc rfl (cJ (cP iz (gv 5) (iV (aA (cP zjk (gB (aA aM aF)) (cJ (gv 3) aM)) aF))) (gv 6)))
 (aH (rT rR rfl rfl (nj (cP iz (iV (aA (gc Fk.t36 Tp.Xc hr cj gk (aA (gv 2) aF)) (aA rP (aA (cP zjk (gB (aA aM aF)) (cJ (gv 3) aM)) aF)))) (oN (au (top 64)) N48 ["_law_turn"] ["_law_pen_here","_law_row","_law_ring"] [2,8,4] rfl rfl rfl J0 J0 (nG 0) J0 (wj Tp.z8 gk aM) (λ_ _ _ _ _ _=>(nM 0 J0 rfl J0)) (λ_ _ _ _ _ _=>pX) (λ_ _ _ _ _ _=>(gc Fk.t45 Tp.Xk hr wu vD (aA (bV 1) (aA (bV 2) (aA (cJ (bV 3) aM) aF)))))))) (vo 9 nd rfl jl rfl) (aH (iW (FT (Uw (pW (m_ (gc Fk.t43 Tp.Xi hr cj gk (aA (gv 3) (aA (gv 4) (aA (gv 9) aF)))))) (Uu (oZ (Oa hr) (gc Fk.PL Tp.Lf hr cj gk (aA (gv 3) (aA (gv 4) (aA (gv 9) aF)))) nJ)))) (aH (bU lW)
 aN) aN)
 aN))
 aN)))))))))))
 (aH (bU lW)
 aN))
theorem zi2(Tp:Top K mg):∀k,Fs P w K mg base k
 |0=>⟨dw,dw,dw,dw,dw,dw,dw,dw,dw,dw,zhA,dw,dw,dw,dw,dw,dw,dw,dw,dw,dw,dw,dw,dw,dw,dw,dw,dw,dw,dw,dw,dw,dw,dw,dw,dw,dw,dw,dw,dw,dw,dw,dw,dw,dw,dw,dw,dw,dw⟩
 |k+1=>zjH Tp (zi2 Tp k)
end
theorem all_mk{l:PySem.W.OpenLaw}{w:World}{K:W.Frag}{h:Heap}{mg:Str->Option Value}{fa:Addr}(hm:∀ns:List Int,ns.length<=63->∃s',call aq T 60 true 48 [.d (.fl (ns.map D.int))] []=some (.ok (.d (.bl true)),s'))
  (S:qR fs ms xs lk bd K) (X:K.In h) (G:h.Ns mainGlobals mg) (XM:mg "law"=some (.ref fa)) :
  ∃fd:FuncData,(∀(s:Shared) (u:Value),BindsTo s fd ⟨[u],[]⟩ [("_law_script",u)])/\∀base:Heap,K.In base->base.Ns mainGlobals mg->cC l.prog w K mg base (gK l.prog w) true 60 fa fd ["_law_script"] (u9 K):=by
 have Tp:Top K mg:=zlI S X G;have e:=XM.symm.trans Tp.Pz.m;cases e;exact⟨_,CZ Tp.Pz.f (λ_ _ _ _ _ _ _=>rfl),λbase _ _=>(zi2 Tp 60).t48.imp (zk0 hm)⟩
end eU
namespace eU
open PySem Mi
section
variable {al:Bool}{n k:Nat}{es:Nat->List Int}{A:Int->Int->Bool}{F:Fr}{p:Nat}{x y:Int}
theorem zpq{k':Nat}(hx:0<=x/\x<k)(hy:0<=y/\y<k):W (call aq T (k'+1) true 11 [.d (jw al n k es A),.d (.int x),.d (.int y)]) [] λv s=>v=.d (.bl (A x y)):=by
 refine W.call zp6 rfl ?_;unfold V1 jw;refine Y ?_;refine cM (qP hx.1 (zpc hx.1 hx.2)) ?_;refine Y ?_;refine cM (qP hy.1 (VP hy.1 hy.2)) ?_;exact Y trivial
theorem Lh{k':Nat}(B:Bo n k es A)(v:Fv n k F)(hp:p<n)(hx:0<=x/\x<k):W (call aq T (k'+2) true 12 [.d (jw al n k es A),.d (ju F),.d (.int p),.d (.int x)]) [] λv s=>v=.d (ju (settle es A F p x)):=by
 refine W.call zpX rfl ?_;unfold V2 ju;have qb:(100:Nat)<=sizeLine:=by decide
 have hn:=B.hn;have hv:=v.len;have ebo:jw al n k es A=.ob 0 [.fl (Dp n es),.tup ((bM k).map .int),.fl (wF k A),.bl al]:=rfl;refine Y ?_;refine Ka0 rfl ?_;refine Y ?_;refine⟨_,zjx gV (by rw[bI];lia),?_⟩;refine Y ?_;refine cM (qP gV (znO gV)) ?_;refine Y ?_;refine wz (λi J s=>s=[.lst ((((es p).take i).foldl (gq (A x)) (F.set p none)).map aX)]/\∃a5:Option Xv,J=[some (.d (jw al n k es A)),some (.d (.tup (F.map aX))),some (.d (.int p)),some (.d (.int x)),some (.l 0),a5]) ⟨?_,_,rfl⟩ (λi z J s e hI=>?_) (λJ s hI=>?_)
 ·show [SO.lst ((F.map aX).set p .non)]=_;rw[List.take_zero,List.foldl_nil,List.map_set];rfl
 ·obtain⟨rfl,a5,rfl⟩:=hI;rw[gC] at e;cases ei:(es p)[i]? with
  |none=>
   rw[oV,ei] at e;cases e
  |some q=>
   rw[oV,ei] at e;cases e;have hq:=B.mem p hp q (fK ei);have ht:(es p).take (i+1)=(es p).take i++[q]:=by rw[G3,ei];rfl
   rw[ht,List.foldl_append,Mj,List.foldl_nil];have hG:(((es p).take i).foldl (gq (A x)) (F.set p none)).length=n:=by rw[VF,lF,hv]
   have lo:∀L,(((es p).take i).foldl (gq (A x)) (F.set p none))[q.toNat]?=some (some L)->(∀y∈L,0<=y/\y<k)/\L.length<=24:=λL hL=>by
    rw[VG q.toNat (λe he=>(B.mem p hp e (Qu he)).1) (by rw[lF];lia),o_ gV] at hL;have hz:∀L',F[q.toNat]?=some (some L')->(∀y∈L',0<=y/\y<k)/\L'.length<=24:=λL' h=>⟨v.lo _ L' h,v.ll _ L' h⟩;split at hL
    ·obtain⟨c,e1,e2⟩:=jE.mp hL;cases c with
     |none=>cases e2
     |some L'=>
      cases e2;exact⟨λy hy=>(hz L' e1).1 y (qg.mp hy).1,jo (Gv _ _) (hz L' e1).2⟩
    ·exact hz L hL
   generalize ((es p).take i).foldl (gq (A x)) (F.set p none)=G at hG lo ⊢;obtain⟨c,ec⟩ : ∃c,G[q.toNat]?=some c:=⟨_,cX gV⟩;refine Y ?_;refine cM (qP hq.1 (K9 ec)) ?_;refine Y ?_;cases c with
   |none=>
    refine Y ?_;exact⟨_,rfl,by rw[ziO ec],_,rfl⟩
   |some L=>
    obtain⟨l1,l2⟩:=lo L ec;refine Y ?_;refine lY (l:=L) (f:=D.int) (λy=>if A x y=true then some (.int y) else none) gV ?_ (λy hy=>?_) ?_
    ·refine Y ?_;refine cM (qP hq.1 (K9 ec)) ?_;show W (src (.d (.tup (L.map .int)))) _ _;refine Y ?_;exact⟨rfl,rfl⟩
    ·refine Y ?_;refine W.cm rfl rfl (W.c0 (zpq hx (l1 y hy)) ?_);refine Y ?_;refine⟨rfl,λhb=>?_,λhb=>?_⟩
     ·refine Y ?_;exact⟨rfl,_,rfl,by rw[if_pos hb]⟩
     ·rw[if_neg (by rw[hb];decide)]
    ·rw[zdo (α:=Unit)];refine Y ?_;refine⟨_,zjx hq.1 (by rw[bI];lia),?_⟩;refine Y ?_;refine⟨_,rfl,?_,_,rfl⟩;rw[zli,ec];rfl
 ·obtain⟨rfl,a5,rfl⟩:=hI;rw[bI,oV,Ak];refine Y ?_;rfl
theorem zjc{k':Nat}(B:Bo n k es A)(v:Fv n k F)(hp:p<n):W (call aq T (k'+1) true 13 [.d (jw al n k es A),.d (ju F),.d (.int p)]) [] λv s=>v=.d (.int (dR es F p)):=by
 refine W.call zpJ rfl ?_;unfold V3 ju jw;have qb:(100:Nat)<=sizeLine:=by decide
 have hn:=B.hn;have hv:=v.len;have hl:=B.len p hp;refine Y ?_;refine lY (l:=es p) (f:=D.int) (λe=>if ((λe:Int=>(F[e.toNat]?.join).isSome) e)=true then some (.int e) else none) gV ?_ (λe he=>?_) ?_
 ·refine Y ?_;refine cM (qP gV (znO gV)) ?_;rw[oV];refine Y ?_;exact⟨rfl,rfl⟩
 ·have hq:=B.mem p hp e he;obtain⟨c,ec⟩ : ∃c,F[e.toNat]?=some c:=⟨_,cX gV⟩;refine Y ?_;refine cM (qP hq.1 (K9 ec)) ?_;refine Y ?_;have hc:(F[e.toNat]?.join).isSome=c.isSome:=by rw[ec];rfl
  have hd:(!(aX c).uN)=c.isSome:=by cases c<;>rfl
  rw[hd];refine⟨rfl,λhb=>?_,λhb=>?_⟩
  ·refine Y ?_;exact⟨rfl,_,rfl,if_pos (hc.trans hb)⟩
  ·exact if_neg (λz=>by rw[hc.symm.trans z] at hb;cases hb)
 ·rw[zdo (α:=Unit)];refine Y ?_;show Xv.d (.int (((((es p).filter _).map D.int).length:Nat):Int))=_;rw[bI];rfl
theorem zkq{k':Nat}(B:Bo n k es A)(v:Fv n k F):W (call aq T (k'+2) true 14 [.d (jw al n k es A),.d (ju F)]) [] λv s=>v=.d (ju (bnd es F)):=by
 refine W.call zpU rfl ?_;unfold V4;have qb:(100:Nat)<=sizeLine:=by decide
 have hn:=B.hn;have hv:=v.len;refine Y ?_;refine lY (l:=F.zipIdx 0) (f:=λq=>.tup [.int q.2,aX q.1]) (λq=>some (aX (if 0<dR es F q.2 then q.1 else none))) (by rw[List.length_zipIdx];lia) ?_ (λq hq=>?_) ?_
 ·refine KaP ?_;refine Y ?_;refine KaO ?_;rw[zbC];exact⟨rfl,rfl⟩
 ·obtain⟨c,i⟩:=q;have hi:i<n:=by
   have:=List.mem_zipIdx hq
   lia
  refine Y ?_;refine⟨rfl,λ_=>?_,λhb=>by cases hb⟩;refine Y ?_;refine W.cm rfl rfl (W.c0 (zjc B v hi) ?_);refine Y ?_;refine W.ite (λh1=>?_) (λh1=>?_)
  ·refine Y ?_;have h1:0<dR es F i:=by simpa using h1
   exact⟨rfl,_,rfl,by rw[if_pos h1]⟩
  ·refine Y ?_;have h1:¬0<dR es F i:=by simpa using h1
   exact⟨rfl,_,rfl,by rw[if_neg h1];rfl⟩
 ·rw[o7];refine Y ?_;show Xv.d (.tup _)=_;unfold ju bnd;rw[List.mapIdx_eq_zipIdx_map,En];rfl
end
theorem zhO{k:Nat}{n i:Int}{ps:List (Int×Int)}(h:Web n ps):W (call aq T (k+1) true 8 [.d (bG n ps),.d (.int i)]) [] λv s=>v=.d (.tup ((aU i ps).map .int)):=by
 refine W.call T_8 rfl ?_;unfold b8 bG;have hl:(ps.map dj).length<=100:=by rw[bI];have:=h.len;have:=h.h8;lia
 have hs:(100:Nat)<=sizeLine:=by decide
 refine Y ?_;refine lY (l:=ps) (f:=dj) (λp=>(endOf i p).map .int) (by rw[bI] at hl;lia) ?_ (λp hp=>?_) ?_
 ·refine Y ?_;exact⟨rfl,rfl⟩
 ·obtain⟨a,b⟩:=p;refine Y ?_;refine⟨rfl,λhb=>?_,λhb=>?_⟩
  ·refine Y ?_;refine W.ite (λh1=>?_) (λh1=>?_)
   ·refine Y ?_;refine⟨rfl,_,rfl,?_⟩;have h1:a=i:=by simpa using h1
    simp[endOf,h1]
   ·refine Y ?_;refine⟨rfl,_,rfl,?_⟩;simp[nR] at h1 hb;rcases hb with hb|hb
    ·exact absurd hb h1
    ·simp[endOf,h1,hb]
  ·simp[nR] at hb;simp[endOf,hb]
 ·have he:ps.filterMap (λp=>(endOf i p).map D.int)=(aU i ps).map D.int:=by unfold aU;rw[List.map_filterMap]
  rw[he];refine Y ?_;refine sE (zga (ziG ?_ (zex h i))) ?_
  ·have:=Qg (endOf i) ps;have:=h.len;have:=h.h8;unfold aU
   lia
  exact Y trivial
section
variable {al:Bool}{n k:Nat}{es:Nat->List Int}{A:Int->Int->Bool}{F:Fr}{p:Nat}{x y:Int}
theorem XQ{k':Nat}(B:Bo n k es A)(v:Fv n k F):W (call aq T (k'+2) true 15 [.d (jw al n k es A),.d (ju F)]) [] λv s=>(v=.d .non/\∀(i:Nat) L,F[i]?≠some (some L))\/∃(p:Nat) (L:List Int),v=.d (.int p)/\F[p]?=some (some L):=by
 refine W.call zp8 rfl ?_;unfold V5;have qb:(100:Nat)<=sizeLine:=by decide
 have hn:=B.hn;have hv:=v.len;refine Y ?_;refine KaO ?_;refine wz (λi J s=>∃(rs:List (List Int)) (a3 a4:Option Xv),s=[.lst (rs.map λr=>D.tup (r.map .int))]/\J=[some (.d (jw al n k es A)),some (.d (ju F)),some (.l 0),a3,a4]/\rs.length<=i/\(∀r∈rs,∃(a b:Int) (p:Nat) (L:List Int),r=[a,b,(p:Int)]/\F[p]?=some (some L))/\(rs=[]->∀j,j<i->∀L,F[j]?≠some (some L))) ⟨[],_,_,rfl,rfl,bK _,by simp,λ_ j hj=>absurd hj gV⟩ (λi z J s e hI=>?_) (λJ s hI=>?_)
 ·obtain⟨rs,a3,a4,rfl,rfl,hl,h1,h2⟩:=hI;rw[zgh,gC] at e;cases ei:F[i]? with
  |none=>rw[ei] at e;cases e
  |some c=>
   rw[ei] at e;cases e;have hi:i<n:=by have:=(eY.mp ei).1;lia
   cases c with
   |none=>
    refine Y ?_;refine⟨_,rfl,rs,_,_,rfl,rfl,by lia,h1,λer j hj L=>?_⟩;by_cases z:j=i
    ·rw[z,ei];exact λq=>by cases q
    ·exact h2 er j gV L
   |some L=>
    refine Y ?_;refine W.cm rfl rfl (W.c0 (zjc (p:=0+i) B v gV) ?_);refine Y ?_;refine⟨by rw[bI];lia,?_⟩;refine Y ?_;refine⟨_,rfl,rs++[[(((L.map D.int).length:Nat):Int),-(dR es F (0+i):Int),((0+i:Nat):Int)]],_,_,?_,rfl,by simp;lia,λr hr=>?_,λer=>by simp at er⟩
    ·rw[vW];rfl
    ·rcases kO.mp hr with hr|hr
     ·exact h1 r hr
     ·rw[sW.mp hr];exact⟨_,_,i,L,by rw[G5],ei⟩
 ·obtain⟨rs,a3,a4,rfl,rfl,hl,h1,h2⟩:=hI;rw[zeM,bI] at h2;refine Y ?_;refine W.Fp ?_;refine Y ?_;refine⟨_,rfl,?_⟩;by_cases er:rs=[]
  ·subst er;refine Y ?_;refine .inl ⟨rfl,λi L e=>?_⟩;exact h2 rfl i (eY.mp e).1 L e
  ·have et:(!(rs.map λr=>D.tup (r.map .int)).isEmpty)=true:=by
    cases rs with
    |nil=>exact absurd rfl er
    |cons=>rfl
   rw[et];obtain⟨r,hr,em⟩:=zmo er;refine Y ?_;refine cM em ?_;obtain⟨a,b,p,L,rfl,ep⟩:=h1 r hr;refine Y ?_;exact .inr ⟨p,L,rfl,ep⟩
noncomputable def Gn(k:Nat):Option (List Int)->Bool
 |none=>true
 |some L=>decide (L=bM k)
theorem zdE{k':Nat}(B:Bo n k es A)(v:Fv n k F):W (call aq T (k'+1) true 16 [.d (jw al n k es A),.d (ju F)]) [] λv s=>v=.d (.bl (F.all (Gn k))):=by
 refine W.call zp7 rfl ?_;unfold V6;have qb:(100:Nat)<=sizeLine:=by decide
 have hn:=B.hn;have hv:=v.len;refine Y ?_;refine lY (l:=F) (f:=aX) (λc=>some (.bl (Gn k c))) gV ?_ (λc hc=>?_) ?_
 ·refine Y ?_;show W (src (.d (.tup (F.map aX)))) _ _;refine Y ?_;exact⟨rfl,rfl⟩
 ·cases c with
  |none=>
   refine Y ?_;refine⟨rfl,λ_=>?_,λhb=>by cases hb⟩;refine Y ?_;exact⟨rfl,_,rfl,rfl⟩
  |some L=>
   refine Y ?_;refine⟨rfl,λ_=>?_,λhb=>by cases hb⟩;refine Y ?_;refine cM (znK (f:=id)) ?_;exact⟨rfl,_,rfl,rfl⟩
 ·rw[o7];refine Y ?_;refine cM KH ?_;rfl
end
section
variable {n k d:Int}{ps:List (Int×Int)}
theorem zgr{k':Nat}(h:Web n ps):W (call aq T (k'+2) true 9 [.d (bG n ps)]) [] λv s=>v=.d (.fl (Dp n.toNat λi=>aU i ps)):=by
 refine W.call T_9 rfl ?_;unfold b9;have qb:(100:Nat)<=sizeLine:=by decide
 have h1:=h.h1;have h8:=h.h8;refine Y ?_;refine lY (l:=List.range (n-0).toNat) (f:=λ(j:Nat)=>.int (0+j)) (λ(i:Nat)=>some (.tup ((aU i ps).map .int))) (by rw[lE];lia) ?_ (λj hj=>?_) ?_
 ·unfold bG;refine Y ?_;refine⟨by rw[kE gV gV,kE gV gV];rfl,?_⟩;exact⟨rfl,rfl⟩
 ·refine Y ?_;refine⟨rfl,λ_=>?_,λhb=>by cases hb⟩;refine Y ?_;refine W.c0 (zhO h) ?_;exact⟨rfl,_,rfl,by rw[show (0:Int)+j=j by lia]⟩
 ·rw[show (List.range (n-0).toNat).filterMap (λ(i:Nat)=>some (D.tup ((aU i ps).map .int)))=Dp n.toNat λi=>aU i ps by rw[o7,show n-0=n by lia];rfl];exact Y trivial
theorem znQ{k':Nat}{al:Bool}{A:Int->Int->Bool}(h:Web n ps){m:Nat}(hm:m<=24):W (call aq T (k'+3) true 10 [.d .any,.d (bG n ps),.d (.fl (wF m A)),.d (.bl al)]) [] λv s=>v=.d (.tup [.fl (Dp n.toNat λi=>aU i ps),.tup ((bM m).map .int),.fl (wF m A),.bl al]):=by
 refine W.call zpF rfl ?_;unfold b10;refine Y ?_;refine W.c0 (zgr h) ?_;have em:(wF m A).length=m:=by unfold wF;simp
 refine Kal (Ka4 (ds:=[.int ((wF m A).length:Nat)]) rfl (cM (d:=.tup ((bM m).map .int)) (by rw[em];exact zot gV) ?_));exact Y trivial
theorem zgj{k':Nat}(h:Web n ps)(hd:1<=d)(Dr:d<=k)(hk:k<=24):W (call aq T (k'+4) true 17 [.d (bG n ps),.d (aK k d)]) [] λv s=>v=.d (VN n.toNat k.toNat (λi=>aU i ps) (b_ k d)):=by
 refine W.call zqd rfl ?_;unfold V7 aK;have qb:(100:Nat)<=sizeLine:=by decide
 have e0:(k-0).toNat=k.toNat:=by lia
 refine Y ?_;refine lY (l:=List.range (k-0).toNat) (f:=λ(j:Nat)=>.int (0+j)) (λ(j:Nat)=>some (.bl ((λj:Int=>decide (d<=j/\d<=k-j)) j))) (by rw[lE];lia) ?_ (λj hj=>?_) ?_
 ·refine Y ?_;refine⟨by rw[kE gV gV,kE gV gV];rfl,?_⟩;exact⟨rfl,rfl⟩
 ·refine Y ?_;refine⟨rfl,λ_=>?_,λhb=>by cases hb⟩;refine Y ?_;refine⟨rfl,_,rfl,?_⟩
  congr 2
  rw[tX]
  split<;>lia
 ·rw[o7,e0];refine Y ?_;refine W.mk (vs:=[.d (bG n ps),.d (.fl (wF k.toNat (b_ k d))),.d (.bl true)]) ?_ rfl (znQ h gV);refine Y ?_;refine lY (l:=List.range (k-0).toNat) (f:=λ(j:Nat)=>.int (0+j)) (λ(a:Nat)=>some (.fl ((List.range k.toNat).map λ(b:Nat)=>.bl (b_ k d a b)))) (by rw[lE];lia) ?_ (λa ha=>?_) ?_
  ·refine Y ?_;refine⟨by rw[kE gV gV,kE gV gV];rfl,?_⟩;exact⟨rfl,rfl⟩
  ·have ha:=tY.mp ha;refine Y ?_;refine⟨rfl,λ_=>?_,λhb=>by cases hb⟩;refine Y ?_;refine lY (l:=List.range (k-0).toNat) (f:=λ(j:Nat)=>.int (0+j)) (λ(b:Nat)=>some (.bl (b_ k d a b))) (by rw[lE];lia) ?_ (λb hb=>?_) ?_
   ·refine Y ?_;refine⟨by rw[kE gV gV,kE gV gV];rfl,?_⟩;exact⟨rfl,rfl⟩
   ·have hb:=tY.mp hb;refine Y ?_;refine⟨rfl,λ_=>?_,λhb=>by cases hb⟩;refine Y ?_;by_cases c:(0:Int)<=(0+a:Int)-(0+b)
    ·refine cM (qP c (VP (f:=λj=>decide (d<=j/\d<=k-j)) c gV)) ?_;refine⟨rfl,_,rfl,?_⟩;unfold b_
     congr 2
     rw[tX,Gi hd]
     lia
    ·refine cM (zoh (x:=.bl (decide (d<=a-b+k/\d<=k-(a-b+k)))) gV (by rw[bI,lE];lia) ?_) ?_
     ·rw[bI,lE];refine(VP (f:=λj=>decide (d<=j/\d<=k-j)) gV gV).trans ?_
      congr 3
      simp
      lia
     ·refine⟨rfl,_,rfl,?_⟩;unfold b_
      congr 2
      rw[tX,Gi hd]
      lia
   ·rw[o7,e0];refine Y ?_;exact⟨rfl,_,rfl,rfl⟩
  ·rw[o7,e0];refine Y ?_;exact⟨rfl,rfl⟩
end
theorem zkH{k:Nat}{i:Int}:W (call aq T (k+1) true 0 [.d (.int i)]) [] λv s=>v=.d (.bl true):=W.eq (a:=.d (.bl true)) (s':=[]) rfl rfl
theorem XR{k:Nat}{a b:D}:W (call aq T (k+1) true 2 [.d (.tup [a,b]),.d (.int 2)]) [] λv s=>v=.d (.bl true):=W.eq (a:=.d (.bl true)) (s':=[]) rfl rfl
theorem gw{k:Nat}{i a b:Int}:W (call aq T (k+2) true 1 [.d (.int i),.d (.int a),.d (.int b)]) [] λv s=>v=.d (.bl (decide (a<=i/\i<=b))):=by
 refine W.call T_1 rfl ?_;unfold b1;refine Y ?_;refine W.c0 zkH ?_;refine Y ?_;refine W.ite (λh1=>?_) (λh1=>?_)
 ·refine Y ?_;have:=fO h1;simp[this]
 ·refine Y ?_;simp at h1;have:¬(a<=i/\i<=b):=by lia
  simp[this]
theorem zod{k:Nat}{i:Int}(h1:1<=i)(h2:i<=8):W (call aq T (k+3) true 4 [.d (.int i)]) [] λv s=>v=.d (.bl true):=by
 refine W.call Wv rfl ?_;unfold b4;refine Y ?_;exact W.bR rfl (gw.imp λv s e=>⟨_,e,by rw[dB (And.intro h1 h2)]⟩)
theorem zfI{k:Nat}{n i:Int}:W (call aq T (k+3) true 5 [.d (.int n),.d (.int i)]) [] λv s=>v=.d (.bl (decide (0<=i/\i<n))):=by
 refine W.call Ww rfl ?_;unfold b5;refine Y ?_;exact W.bR rfl (gw.imp λv s e=>⟨_,e,by rw[tX.mpr (show 0<=i/\i<=n-1↔0<=i/\i<n by lia)]⟩)
theorem zo6{k:Nat}{n:Int}{p:Int×Int}(h:0<=p.1/\p.1<p.2/\p.2<n):W (call aq T (k+4) true 6 [.d (.int n),.d (dj p)]) [] λv s=>v=.d (.bl true):=by
 obtain⟨a,b⟩:=p;obtain⟨h1,h2,h3⟩:=h;unfold dj;dsimp only at h1 h2 h3 ⊢;refine W.call Wx rfl ?_;unfold b6;refine Y ?_;refine W.c0 XR ?_;refine Y ?_;refine W.c0 zfI ?_;rw[dB (show 0<=a/\a<n by lia)];refine Y ?_;refine W.c0 zfI ?_;rw[dB (show 0<=b/\b<n by lia)];refine Y ?_;rw[dB h2]
theorem zkI{k:Nat}{n:Int}{ps:List (Int×Int)}(h:Web n ps):W (call aq T (k+5) true 3 [.d (bG n ps)]) [] λv s=>v=.d (.bl true):=by
 refine W.call Wu rfl ?_;unfold b3 bG;have hl:(ps.map dj).length<=100:=by rw[bI];have:=h.len;have:=h.h8;lia
 have hs:(100:Nat)<=sizeLine:=by decide
 refine Y ?_;refine W.c0 XR ?_;refine Y ?_;refine W.c0 (zod h.h1 h.h8) ?_;refine Y ?_;refine Kav (c:=ps.map dj) (λ_=>.bl true) gV ?_ (λx hx=>?_) ?_
 ·refine Y ?_;exact⟨rfl,rfl⟩
 ·obtain⟨p,hp,rfl⟩:=jO.mp hx;refine Y ?_;exact W.bR rfl ((zo6 (h.tie p hp)).imp λv s e=>⟨_,e,rfl,rfl⟩)
 ·refine Y ?_;refine cM (Vn ?_) ?_
  ·intro x hx;obtain⟨_,_,e⟩:=jO.mp hx;exact e.symm
  refine Y ?_;refine Kav (c:=List.zipWith (λ(p q:D)=>D.tup [p,q]) (ps.map dj) ((ps.map dj).drop 1)) (λ_=>.bl true) (by rw[List.length_zipWith];lia) ?_ (λx hx=>?_) ?_
  ·refine Y ?_;rw[KC];exact⟨rfl,rfl⟩
  ·obtain⟨p,q,rfl,hpq⟩:=zjf h.inc x hx;refine Y ?_;rw[zoD hpq];exact⟨rfl,rfl⟩
  ·refine Y ?_;refine cM (Vn ?_) ?_
   ·intro x hx;obtain⟨_,_,e⟩:=jO.mp hx;exact e.symm
   rfl
theorem zhI{k:Nat}{n:Int}{ps:List (Int×Int)}(h:Web n ps):W (call aq T (k+6) true 7 [.d (bG n ps)]) [] λv s=>∃d,v=.d d:=by
 refine W.call Wy rfl ?_;unfold b7;refine Y ?_;refine W.c0 (zkI h) ?_;refine Y ?_;exact⟨_,rfl⟩
theorem zig{k':Nat}{k d:Int}(hd:1<=d)(Dr:d<=k)(hk:k<=24):W (call aq T (k'+3) true 18 [.d (aK k d)]) [] λv s=>v=.d (.bl true):=by
 refine W.call Wz rfl ?_;unfold O6 aK;refine Y ?_;refine W.c0 XR ?_;refine Y ?_;refine W.c0 gw ?_;rw[dB (show 1<=k/\k<=24 by lia)];refine Y ?_;refine W.c0 gw ?_;rw[dB (show 1<=d/\d<=k by lia)]
theorem zgE{k':Nat}{k d:Int}(hd:1<=d)(Dr:d<=k)(hk:k<=24):W (call aq T (k'+4) true 20 [.d (aK k d)]) [] λv s=>∃d,v=.d d:=by
 refine W.call WD rfl ?_;unfold O7;refine Y ?_;refine W.c0 (zig hd Dr hk) ?_;refine Y ?_;exact⟨_,rfl⟩
section
variable {al:Bool}{n k:Nat}{es:Nat->List Int}{A:Int->Int->Bool}
def Told(al:Bool)(n k:Nat)(es:Nat->List Int)(A:Int->Int->Bool)(f l m c:Nat):Prop:=∀F kvs,Fv n k F->unset F<=m->lC es A kvs->kvs.length+c<sizeLine->
 W (call aq T l true f [.d (jw al n k es A),.l 0,.d (ju F)]) [.dct kvs] λv s=>∃b kvs',v=.d (.bl b)/\(b=true↔Sat es A F)/\s=[.dct kvs']/\lC es A kvs'/\kvs'.length<=kvs.length+c
theorem PN{l m c:Nat}(B:Bo n k es A)(H:Told al n k es A 30 (l+2) m c){F:Fr}{p:Nat}{L:List Int}{kvs:iU}(v:Fv n k F)(hu:unset F<=m+1)(hL:F[p]?=some (some L))(ha:lC es A kvs)(hl:kvs.length+k*c<sizeLine) :
  W (call aq T (l+3) true 29 [.d (jw al n k es A),.l 0,.d (ju F),.d (.int p)]) [.dct kvs] λv s=>∃kvs',s=[.dct kvs']/\lC es A kvs'/\kvs'.length<=kvs.length+k*c /\
   ((v=.d .non/\∀x∈L,¬Sat es A (settle es A F p x))\/∃x∈L,v=.d (.int x)/\Sat es A (settle es A F p x)/\∀y∈L,y<x->¬Sat es A (settle es A F p y)):=by
 refine W.call WM rfl ?_;unfold O_;have qb:(100:Nat)<=sizeLine:=by decide
 have hp:=qT v.len hL;have hLk:L.length<=k:=zi6 (v.so p L hL) (v.lo p L hL);refine Y ?_;refine cM (zl0 gV (K9 hL)) ?_;show W (src (.d (.tup (L.map .int)))) _ _;refine Y ?_;refine Oq (λi J s=>∃(kvs':iU) (a4:Option Xv),s=[.dct kvs']/\J=[some (.d (jw al n k es A)),some (.l 0),some (.d (ju F)),some (.d (.int p)),a4]/\lC es A kvs'/\kvs'.length<=kvs.length+i*c/\∀j y,j<i->L[j]?=some y->¬Sat es A (settle es A F p y)) ⟨kvs,_,rfl,rfl,ha,by lia,λj _ hj=>absurd hj gV⟩ (λi z J s e hI=>?_) (λJ s hI=>?_)
 ·obtain⟨kvs',a4,rfl,rfl,h1,h2,h3⟩:=hI;rw[gC] at e;cases ei:L[i]? with
  |none=>rw[ei] at e;cases e
  |some x=>
   rw[ei] at e;cases e;have hi:i<L.length:=(eY.mp ei).1;have hx:=fK ei;have hc:(i+1)*c<=k*c:=Gy _ gV;have qw:(i+1)*c=i*c+c:=Nat.succ_mul ..;refine Y ?_;refine W.cm rfl rfl (W.c0 (Lh B v hp (v.lo p L hL x hx)) ?_);refine Y ?_;have hu2:=K8 (es:=es) (A:=A) (x:=x) hL;refine vB (s:=[]) rfl ((H _ kvs' (K7 B v hp) gV h1 gV).imp λv1 s1=>?_);rintro⟨b,dI,rfl,hb,rfl,g1,g2⟩;refine⟨_,_,rfl,rfl,?_⟩;refine Y ?_;cases b with
   |true=>
    refine Y ?_;refine .inr ⟨_,rfl,?_⟩;refine⟨dI,rfl,g1,by lia,.inr ⟨x,hx,rfl,hb.mp rfl,λy hy dF=>?_⟩⟩;obtain⟨j,hj,ej⟩:=sV hy;refine h3 j y ?_ (by rw[cX hj,ej]);obtain⟨_,ex⟩:=eY.mp ei;exact Nat.lt_of_not_le λq=>by
     rcases Nat.lt_or_eq_of_le q with q|q
     ·have:=Qd.mp (v.so p L hL) i j hi hj q
      lia
     ·subst q;lia
   |false=>
    refine Y ?_;refine .inl ⟨_,rfl,dI,_,rfl,rfl,g1,by lia,λj y hj ej=>?_⟩;by_cases q:j=i
    ·subst q;rw[ei] at ej;cases ej;exact λz=>by cases hb.mpr z
    ·exact h3 j y gV ej
 ·obtain⟨kvs',a4,rfl,rfl,h1,h2,h3⟩:=hI;rw[bI] at h2 h3;have hc:L.length*c<=k*c:=Gy _ hLk;refine Y ?_;refine⟨kvs',rfl,h1,by lia,.inl ⟨rfl,λx hx=>?_⟩⟩;obtain⟨j,hj,ej⟩:=sV hx;exact h3 j x hj (by rw[cX hj,ej])
theorem zh8{l:Nat}(B:Bo n k es A):Told al n k es A 31 (l+3) 0 0:=by
 intro F kvs v hu ha hl;refine W.call Pg rfl ?_;unfold Ld;refine Y ?_;refine W.cm rfl rfl (W.bR rfl ((XQ B v).imp λx s=>?_));rintro(⟨rfl,hz⟩|⟨p,L,rfl,hL⟩)
 ·refine⟨_,rfl,?_⟩;refine Y ?_;exact⟨true,kvs,rfl,⟨λ_=>VH hz,λ_=>rfl⟩,rfl,ha,by lia⟩
 ·exact absurd hL (zfq gV p L)
theorem ziS{l m c:Nat}(B:Bo n k es A)(kI:1<=k)(cO:al=true->∀t a b:Int,0<=a->a<k->0<=b->b<k->A ((a+t)%k) ((b+t)%k)=A a b)(H:∀j,Told al n k es A 30 (l+2+j) m c):Told al n k es A 31 (l+4) (m+1) (k*c):=by
 intro F kvs v hu ha hl;refine W.call Pg rfl ?_;unfold Ld;have hkc:1*c<=k*c:=Gy _ kI;refine Y ?_;refine W.cm rfl rfl (W.bR rfl ((XQ B v).imp λx s=>?_));rintro(⟨rfl,hz⟩|⟨p,L,rfl,hL⟩)
 ·refine⟨_,rfl,?_⟩;refine Y ?_;exact⟨true,kvs,rfl,⟨λ_=>VH hz,λ_=>rfl⟩,rfl,ha,by lia⟩
 ·refine⟨_,rfl,?_⟩;have hp:=qT v.len hL;cases al with
  |false=>
   refine Y ?_;refine vB (s:=[]) rfl ((PN B (H 0) v hu hL ha gV).imp λv1 s1=>?_);rintro⟨dI,rfl,g1,g2,h⟩;rcases h with ⟨rfl,uz⟩|⟨x,hx,rfl,hs,_⟩
   ·refine⟨_,_,rfl,rfl,?_⟩;refine Y ?_;refine⟨false,dI,rfl,⟨λz=>(by cases z),λz=>?_⟩,rfl,g1,g2⟩;obtain⟨x,hx,q⟩:=(Gm B v hp hL).mp z;exact absurd q (uz x hx)
   ·refine⟨_,_,rfl,rfl,?_⟩;refine Y ?_;exact⟨true,dI,rfl,⟨λ_=>(Gm B v hp hL).mpr ⟨x,hx,hs⟩,λ_=>rfl⟩,rfl,g1,g2⟩
  |true=>
  have cO:=cO rfl;refine Y ?_;refine W.cm rfl rfl (W.c0 (zdE B v) ?_);refine Y ?_;cases eb:F.all (Gn k) with
  |true=>
   have all:∀(i:Nat) L,F[i]?=some (some L)->L=bM k:=λi L h=>fO (dZ.mp eb _ (fK h));refine Y ?_;refine W.cm rfl rfl (W.c0 (Lh B v hp ⟨by lia,by lia⟩) ?_);refine Y ?_;have hu2:=K8 (es:=es) (A:=A) (x:=0) hL;refine vB (s:=[]) rfl ((H 1 _ kvs (K7 B v hp) gV ha gV).imp λv1 s1=>?_);rintro⟨b,dI,rfl,hb,rfl,g1,g2⟩;refine⟨_,_,rfl,rfl,?_⟩;refine Y ?_;exact⟨b,dI,rfl,hb.trans (VJ B v hp kI cO all (all p L hL▸hL)).symm,rfl,g1,by lia⟩
  |false=>
   refine Y ?_;refine vB (s:=[]) rfl ((PN B (H 0) v hu hL ha gV).imp λv1 s1=>?_);rintro⟨dI,rfl,g1,g2,h⟩;rcases h with ⟨rfl,uz⟩|⟨x,hx,rfl,hs,_⟩
   ·refine⟨_,_,rfl,rfl,?_⟩;refine Y ?_;refine⟨false,dI,rfl,⟨λz=>(by cases z),λz=>?_⟩,rfl,g1,g2⟩;obtain⟨x,hx,q⟩:=(Gm B v hp hL).mp z;exact absurd q (uz x hx)
   ·refine⟨_,_,rfl,rfl,?_⟩;refine Y ?_;exact⟨true,dI,rfl,⟨λ_=>(Gm B v hp hL).mpr ⟨x,hx,hs⟩,λ_=>rfl⟩,rfl,g1,g2⟩
theorem zhY{l m c:Nat}(B:Bo n k es A)(kI:1<=k)(cO:∀t a b:Int,0<=a->a<k->0<=b->b<k->A ((a+t)%k) ((b+t)%k)=A a b)(H:Told true n k es A 30 (l+3) m c){F:Fr}{kvs:iU}(v:Fv n k F)(hu:unset F<=m+1)(eb:F.all (Gn k)=true)(ha:lC es A kvs)(hl:kvs.length+c<sizeLine) :
  W (call aq T (l+4) true 31 [.d (jw true n k es A),.l 0,.d (ju F)]) [.dct kvs] λv s=>∃b kvs',v=.d (.bl b)/\(b=true↔Sat es A F)/\s=[.dct kvs']/\lC es A kvs'/\kvs'.length<=kvs.length+c:=by
 refine W.call Pg rfl ?_;unfold Ld;refine Y ?_;refine W.cm rfl rfl (W.bR rfl ((XQ B v).imp λx s=>?_));rintro(⟨rfl,hz⟩|⟨p,L,rfl,hL⟩)
 ·refine⟨_,rfl,?_⟩;refine Y ?_;exact⟨true,kvs,rfl,⟨λ_=>VH hz,λ_=>rfl⟩,rfl,ha,by lia⟩
 ·refine⟨_,rfl,?_⟩;have hp:=qT v.len hL;refine Y ?_;refine W.cm rfl rfl (W.c0 (zdE B v) ?_);refine Y ?_;have all:∀(i:Nat) L,F[i]?=some (some L)->L=bM k:=λi L h=>fO (dZ.mp eb _ (fK h));rw[eb];refine Y ?_;refine W.cm rfl rfl (W.c0 (Lh B v hp ⟨by lia,by lia⟩) ?_);refine Y ?_;have hu2:=K8 (es:=es) (A:=A) (x:=0) hL;refine vB (s:=[]) rfl ((H _ kvs (K7 B v hp) gV ha gV).imp λv1 s1=>?_);rintro⟨b,dI,rfl,hb,rfl,g1,g2⟩;refine⟨_,_,rfl,rfl,?_⟩;refine Y ?_;exact⟨b,dI,rfl,hb.trans (VJ B v hp kI cO all (all p L hL▸hL)).symm,rfl,g1,by lia⟩
theorem zoe{l c:Nat}(B:Bo n k es A){F:Fr}{kvs:iU}(v:Fv n k F)(ha:lC es A kvs)(hl:kvs.length+(1+c)<sizeLine)(H:W (call aq T (l+3) true 31 [.d (jw al n k es A),.l 0,.d (ju (bnd es F))]) [.dct kvs] λv s=>∃b kvs',v=.d (.bl b)/\(b=true↔Sat es A (bnd es F))/\s=[.dct kvs']/\lC es A kvs'/\kvs'.length<=kvs.length+c) :
  W (call aq T (l+4) true 30 [.d (jw al n k es A),.l 0,.d (ju F)]) [.dct kvs] λv s=>∃b kvs',v=.d (.bl b)/\(b=true↔Sat es A F)/\s=[.dct kvs']/\lC es A kvs'/\kvs'.length<=kvs.length+(1+c):=by
 refine W.call zpH rfl ?_;unfold Wd;refine Y ?_;refine cM (zoJ (f:=id)) ?_;by_cases e0:some []∈F
 ·rw[dB e0];refine Y ?_;obtain⟨i,hi,ei⟩:=sV e0;refine⟨false,kvs,rfl,⟨λz=>(by cases z),λz=>absurd z (zjK (i:=i) (by rw[cX hi,ei]))⟩,rfl,ha,by lia⟩
 ·rw[gQ e0];have ne:∀(i:Nat) L,F[i]?=some (some L)->L≠[]:=λi L h q=>by subst q;exact e0 (fK h)
  have sb:=zjT B v ne;refine Y ?_;refine W.cm rfl rfl (W.c0 (zkq B v) ?_);refine Y ?_;refine W.Ce rfl rfl (OD _) rfl ?_;cases eg:bZ ((bnd es F).map cellK) kvs with
  |some d=>
   obtain⟨b,rfl,hb⟩:=ha _ _ eg;refine Y ?_;refine W.pJ rfl rfl (OD _) rfl eg ?_;refine Y ?_;exact⟨b,kvs,rfl,hb.trans sb,rfl,ha,by lia⟩
  |none=>
   refine Y ?_;refine WS.dput rfl rfl (OD _) ?_;refine Y ?_;refine vB (s:=[]) rfl (H.imp λv1 s1=>?_);rintro⟨b,dI,rfl,hb,rfl,g1,g2⟩;refine⟨_,_,rfl,rfl,?_⟩;refine⟨_,dI,rfl,rfl,by lia,?_⟩;refine Y ?_;refine W.pJ (v:=.bl b) rfl rfl (OD _) rfl (by rw[zeX,if_pos rfl]) ?_;refine Y ?_;have:=zir (q:=(bnd es F).map cellK) (d:=.bl b) (kvs:=dI);exact⟨b,_,rfl,hb.trans sb,rfl,zkz g1 hb,by lia⟩
theorem zng{l m c:Nat}(B:Bo n k es A)(H:Told al n k es A 31 (l+3) m c):Told al n k es A 30 (l+4) m (1+c):=by
 intro F kvs v hu ha hl;have hu2:=zdq (es:=es) (F:=F);exact zoe B v ha hl (H _ kvs (zjh v) gV ha gV)
theorem Gp(B:Bo n k es A)(kI:1<=k)(cO:al=true->∀t a b:Int,0<=a->a<k->0<=b->b<k->A ((a+t)%k) ((b+t)%k)=A a b):∀m j,Told al n k es A 30 (3*m+4+j) m (cnt k m)
 |0,j=>by
  rw[show 3*0+4+j=j+4 by lia];exact zng (c:=0) B (zh8 B)
 |m+1,j=>by
  rw[show 3*(m+1)+4+j=(3*m+3+j)+4 by lia];refine zng B ?_;rw[show 3*m+3+j+3=(3*m+2+j)+4 by lia];refine ziS B kI cO λi=>?_;rw[show 3*m+2+j+2+i=3*m+4+(j+i) by lia];exact Gp B kI cO m (j+i)
theorem ziE{m j:Nat}(B:Bo n k es A)(kI:1<=k)(cO:∀t a b:Int,0<=a->a<k->0<=b->b<k->A ((a+t)%k) ((b+t)%k)=A a b){F:Fr}{kvs:iU}(v:Fv n k F)(hu:unset F<=m+1)(eb:F.all (Gn k)=true)(ha:lC es A kvs)(hl:kvs.length+(1+cnt k m)<sizeLine) :
  W (call aq T (3*(m+1)+4+j) true 30 [.d (jw true n k es A),.l 0,.d (ju F)]) [.dct kvs] λv s=>∃b kvs',v=.d (.bl b)/\(b=true↔Sat es A F)/\s=[.dct kvs']/\lC es A kvs'/\kvs'.length<=kvs.length+(1+cnt k m):=by
 rw[show 3*(m+1)+4+j=(3*m+3+j)+4 by lia];refine zoe B v ha hl ?_;rw[show 3*m+3+j+3=(3*m+2+j)+4 by lia];have hu2:=zdq (es:=es) (F:=F);refine zhY B kI cO ?_ (zjh v) (jo hu2 hu) ?_ ha gV
 ·rw[show 3*m+2+j+3=3*m+4+(j+1) by lia];exact Gp B kI (λ_=>cO) m (j+1)
 ·refine dZ.mpr λc hc=>?_;cases c with
  |none=>rfl
  |some L=>
   obtain⟨i,hi,ei⟩:=sV hc;have:=Dn (es:=es) (F:=F) (i:=i) (L:=L) (by rw[cX hi,ei]);exact dZ.mp eb _ (fK this.1)
theorem zmJ{l m c:Nat}(B:Bo n k es A)(kI:1<=k)(cO:∀t a b:Int,0<=a->a<k->0<=b->b<k->A ((a+t)%k) ((b+t)%k)=A a b)(H:Told true n k es A 30 (l+2) m c){F:Fr}{p:Nat}{kvs:iU}(v:Fv n k F)(hu:unset F<=m+1)(all:∀(i:Nat) L,F[i]?=some (some L)->L=bM k)(hL:F[p]?=some (some (bM k)))(qd:Sat es A F)(ha:lC es A kvs)(hl:kvs.length+c<sizeLine) :
  W (call aq T (l+3) true 29 [.d (jw true n k es A),.l 0,.d (ju F),.d (.int p)]) [.dct kvs] λv s=>∃kvs',s=[.dct kvs']/\lC es A kvs'/\kvs'.length<=kvs.length+c /\
   ((v=.d .non/\∀x∈bM k,¬Sat es A (settle es A F p x))\/∃x∈bM k,v=.d (.int x)/\Sat es A (settle es A F p x)/\∀y∈bM k,y<x->¬Sat es A (settle es A F p y)):=by
 refine W.call WM rfl ?_;unfold O_;have hp:=qT v.len hL;have h0:=(VJ B v hp kI cO all hL).mp qd;refine Y ?_;refine cM (zl0 gV (K9 hL)) ?_;show W (src (.d (.tup ((bM k).map .int)))) _ _;refine Y ?_;refine Oq (λi J s=>i=0/\∃a4:Option Xv,s=[.dct kvs]/\J=[some (.d (jw true n k es A)),some (.l 0),some (.d (ju F)),some (.d (.int p)),a4]) ⟨rfl,_,rfl,rfl⟩ (λi z J s e hI=>?_) (λJ s hI=>?_)
 ·obtain⟨rfl,a4,rfl,rfl⟩:=hI;rw[gC] at e;have ei:(bM k)[0]?=some 0:=by unfold bM;rw[gC,Gz gV];rfl
  rw[ei] at e;cases e;have hx:(0:Int)∈bM k:=bJ.mpr ⟨by lia,by lia⟩;refine Y ?_;refine W.cm rfl rfl (W.c0 (Lh B v hp ⟨by lia,by lia⟩) ?_);refine Y ?_;have hu2:=K8 (es:=es) (A:=A) (x:=0) hL;refine vB (s:=[]) rfl ((H _ kvs (K7 B v hp) gV ha gV).imp λv1 s1=>?_);rintro⟨b,dI,rfl,hb,rfl,g1,g2⟩;have eb:b=true:=hb.mpr h0;subst eb;refine⟨_,_,rfl,rfl,?_⟩;refine Y ?_;refine .inr ⟨_,rfl,?_⟩;exact⟨dI,rfl,g1,g2,.inr ⟨0,hx,rfl,h0,λy hy dF=>absurd (bJ.mp hy).1 gV⟩⟩
 ·obtain⟨hz,_⟩:=hI;rw[bI] at hz;have:(bM k).length=k:=by unfold bM;simp
  lia
end
section
variable {al:Bool}{n k:Nat}{es:Nat->List Int}{A:Int->Int->Bool}
theorem zg6{k':Nat}(B:Bo n k es A)(kI:1<=k)(cO:al=true->∀t a b:Int,0<=a->a<k->0<=b->b<k->A ((a+t)%k) ((b+t)%k)=A a b){F0:Fr}(v0:Fv n k F0)(all:∀i,i<n->∃L,F0[i]?=some (some L)){c0 c1:Nat}(hz:c0+c1+tot k (n-1)<sizeLine)
  (Hc:W (call aq T (3*n+4+k') true 30 [.d (jw al n k es A),.l 0,.d (ju F0)]) [.dct []] λv s=>∃b kvs',v=.d (.bl b)/\(b=true↔Sat es A F0)/\s=[.dct kvs']/\lC es A kvs'/\kvs'.length<=c0)
  (Hf:∀kvs L,F0[0]?=some (some L)->Sat es A F0->lC es A kvs->kvs.length<=c0->W (call aq T (3*n+1+k'+3) true 29 [.d (jw al n k es A),.l 0,.d (ju F0),.d (.int (0:Nat))]) [.dct kvs] λv s=>∃kvs',s=[.dct kvs']/\lC es A kvs'/\kvs'.length<=kvs.length+c1 /\
   ((v=.d .non/\∀x∈L,¬Sat es A (settle es A F0 0 x))\/∃x∈L,v=.d (.int x)/\Sat es A (settle es A F0 0 x)/\∀y∈L,y<x->¬Sat es A (settle es A F0 0 y))) :
  W (call aq T (3*n+5+k') true 28 [.d (jw al n k es A),.d (.fl (F0.map aX))]) [] λv s=>(v=.d .non/\¬Sat es A F0)\/∃hs:List Int,v=.d (.tup (hs.map .int))/\hs.length=n/\nD es A F0 (λj=>at' hs j)/\∀g,nD es A F0 g->∀j,j<n->(∀t,t<j->g t=at' hs t)->at' hs j<=g j:=by
 have hn:=B.hn;have hl:=v0.len;rw[show 3*n+5+k'=(3*n+4+k')+1 by lia];refine W.call zpS rfl ?_;unfold Wc;have qb:(100:Nat)<=sizeLine:=by decide
 have Cy:unset F0<=n:=by unfold unset;rw[<-hl];exact Qp
 refine Y ?_;refine W.rC ?_;refine Y ?_;refine vB (s:=[]) rfl (Hc.imp λv1 s1=>?_);rintro⟨b,kvs,rfl,hb,rfl,g1,g2⟩;refine⟨_,_,rfl,rfl,?_⟩;refine Y ?_;cases b with
 |false=>
  refine Y ?_;exact .inl ⟨rfl,λz=>by cases hb.mpr z⟩
 |true=>
  have qd:=hb.mp rfl;refine Y ?_;have Li:((F0.map aX).length:Int)=n:=by rw[bI,hl]
  refine⟨by rw[Li,kE gV gV,kE gV gV];rfl,?_⟩;rw[Li];refine wz (c:=(List.range ((n:Int)-0).toNat).map λ(j:Nat)=>.int (0+j)) (λi J s=>∃(kvs':iU) (Fi:Fr) (hs:List Int) (a5 a6:Option Xv),s=[.dct kvs',.lst (hs.map .int)]/\J=[some (.d (jw al n k es A)),some (.d (.fl (F0.map aX))),some (.d (ju Fi)),some (.l 0),some (.l 1),a5,a6]/\lC es A kvs'/\(i=0->Fi=F0/\kvs'.length<=c0)/\(1<=i->kvs'.length+tot k (n-i)<=c0+c1+tot k (n-1))/\hs.length=i/\Fv n k Fi/\unset Fi<=n-i/\(∀j,i<=j->j<n->∃L,Fi[j]?=some (some L))/\Sat es A Fi /\
   (∀g,nD es A Fi g->nD es A F0 λj=>if j<i then at' hs j else g j)/\(∀g,nD es A F0 g->(∀t,t<i->g t=at' hs t)->nD es A Fi g)/\(∀g,nD es A F0 g->∀j,j<i->(∀t,t<j->g t=at' hs t)->at' hs j<=g j)) ?_ (λi z J s e hI=>?_) (λJ s hI=>?_)
  ·exact⟨kvs,F0,[],_,_,rfl,rfl,g1,λ_=>⟨rfl,g2⟩,λz=>absurd z gV,rfl,v0,by lia,λj _ hj=>all j hj,qd,λg s=>by simpa using s,λg s _=>s,λg _ j hj=>absurd hj gV⟩
  ·obtain⟨kvs',Fi,hs,a5,a6,rfl,rfl,i1,i0,i2,i3,i4,i5,i6,i7,i8,i9,PX⟩:=hI;rw[gC] at e;cases ei:(List.range ((n:Int)-0).toNat)[i]? with
   |none=>rw[ei] at e;cases e
   |some j=>
    rw[ei] at e;cases e;obtain⟨hil,ej⟩:=eY.mp ei;rw[DX] at ej;rw[lE] at hil;subst ej;obtain⟨L,hL⟩:=i6 i (bK _) gV;have ez:((0:Int)+(i:Nat))=(i:Int):=by lia
    dsimp only;rw[ez];have hp:=qT i4.len hL;obtain⟨m,hm⟩ : ∃m,n-i=m+1:=⟨n-i-1,by lia⟩;rw[hm] at i2 i5;have et:tot k (m+1)=k*cnt k m+tot k m:=rfl;refine Y ?_;have lv:3*n+4+k'=(3*n+1+k')+3:=by lia
    refine Oz (s:=[]) rfl ?_;rw[lv];have H:Told al n k es A 30 (3*n+1+k'+2) m (cnt k m):=by
     rw[show 3*n+1+k'+2=3*m+4+(3*n-3*m+k'-1) by lia];exact Gp B kI cO m _
    obtain⟨c2,qw,hW⟩ : ∃c2,(kvs'.length+c2+tot k m<=c0+c1+tot k (n-1))/\W (call aq T (3*n+1+k'+3) true 29 [.d (jw al n k es A),.l 0,.d (ju Fi),.d (.int i)]) [.dct kvs'] λv s=>∃dI,s=[.dct dI]/\lC es A dI/\dI.length<=kvs'.length+c2 /\
      ((v=.d .non/\∀x∈L,¬Sat es A (settle es A Fi i x))\/∃x∈L,v=.d (.int x)/\Sat es A (settle es A Fi i x)/\∀y∈L,y<x->¬Sat es A (settle es A Fi i y)):=by
     by_cases c:i=0
     ·subst c;obtain⟨rfl,q⟩:=i0 rfl;have em:n-1=m:=by lia
      rw[em];exact⟨c1,by lia,Hf kvs' L hL qd i1 q⟩
     ·have i2:=i2 gV;refine⟨k*cnt k m,by lia,PN B H i4 i5 hL i1 gV⟩
    clear i2;refine hW.imp λv1 s1=>?_;rintro⟨dI,rfl,q1,q2,h⟩;rcases h with ⟨rfl,uz⟩|⟨x,hx,rfl,oY,dF⟩
    ·obtain⟨x,hx,q⟩:=(Gm B i4 hp hL).mp i7;exact absurd q (uz x hx)
    ·refine⟨_,_,rfl,rfl,?_⟩;refine Y ?_;refine W.cm rfl rfl (W.c0 (Lh (k':=3*n+2+k') B i4 hp (i4.lo i L hL x hx)) ?_);refine Y ?_;refine⟨by rw[bI];lia,?_⟩;refine Y ?_;have ag:∀j:Nat,j<i->at' (hs++[x]) j=at' hs j:=λj hj=>Dk gV gV;have ai:at' (hs++[x]) (i:Int)=x:=by rw[<-i3];exact Vr
     refine⟨_,rfl,dI,settle es A Fi i x,hs++[x],_,_,?_,rfl,q1,λz=>absurd z gV,λ_=>by rw[show n-(i+1)=m by lia];lia,by simp[i3],K7 B i4 hp,?_,λj hj hjn=>?_,oY,λg s=>?_,λg s hg=>?_,λg s j hj hg=>?_⟩
     ·rw[vW];rfl
     ·have:=K8 (es:=es) (A:=A) (x:=x) hL
      lia
     ·obtain⟨M,hM⟩:=i6 j gV hjn;exact⟨_,K6 B i4.len hp gV hM⟩
     ·have s2:=i8 _ (zeV B i4 hp hL hx s);refine⟨λj M hM=>?_,λj e M N h1 h2 he=>?_⟩
      ·have:=s2.mem j M hM
       try dsimp only at this ⊢
       by_cases c1:j<i
       ·rw[if_pos c1] at this;rw[if_pos gV,ag j c1];exact this
       ·rw[if_neg c1] at this;by_cases c2:j=i
        ·rw[if_pos c2] at this;rw[if_pos gV,c2,ai];exact this
        ·rw[if_neg c2] at this;rw[if_neg gV];exact this
      ·have ff:∀j:Nat,(if j<i then at' hs j else if j=i then x else g j)=if j<i+1 then at' (hs++[x]) j else g j:=λj=>by
        by_cases c1:j<i
        ·rw[if_pos c1,if_pos gV,ag j c1]
        ·rw[if_neg c1];by_cases c2:j=i
         ·rw[if_pos c2,if_pos gV,c2,ai]
         ·rw[if_neg c2,if_neg gV]
       have:=s2.fit j e M N h1 h2 he
       try dsimp only at this ⊢
       rw[<-ff,<-ff];exact this
     ·have s2:=i9 g s λt ht=>by rw[hg t gV,ag t ht]
      have s3:=O1 B i4 hp hL s2;rw[hg i gV,ai] at s3;exact s3
     ·by_cases c1:j<i
      ·rw[ag j c1];exact PX g s j c1 λt ht=>by rw[hg t ht,ag t gV]
      ·have:j=i:=by lia
       subst this;rw[ai];have s2:=i9 g s λt ht=>by rw[hg t ht,ag t ht]
       have s3:=O1 B i4 hp hL s2;exact Int.not_lt.mp λq=>dF (g j) (s2.mem j L hL) q ⟨g,s3⟩
  ·obtain⟨kvs',Fi,hs,a5,a6,rfl,rfl,i1,i0,i2,i3,i4,i5,i6,i7,i8,i9,PX⟩:=hI;rw[bI,lE,show ((n:Int)-0).toNat=n by lia] at i3 i8 PX;refine Y ?_;refine .inr ⟨hs,rfl,i3,?_,PX⟩;obtain⟨g,sg⟩:=i7;have s2:=i8 g sg;refine⟨λj M hM=>?_,λj e M N h1 h2 he=>?_⟩
   ·have:=s2.mem j M hM;rw[if_pos (qT hl hM)] at this;exact this
   ·have:=s2.fit j e M N h1 h2 he;rw[if_pos (qT hl h1),if_pos (qT hl h2)] at this;exact this
end
section
variable {n k d:Int}{ps:List (Int×Int)}
theorem zd3{k':Nat}(h:Web n ps)(hd:1<=d)(Dr:d<=k)(hk:k<=24)(hz:1+cnt k.toNat (n.toNat-1)+cnt k.toNat (n.toNat-1)+tot k.toNat (n.toNat-1)<sizeLine):W (call aq T (k'+40) true 26 [.d (bG n ps),.d (aK k d)]) [] λv s=>(v=.d .non/\∀hs,¬gj n k d ps hs)\/∃hs,v=.d (.tup (hs.map .int))/\gj n k d ps hs/\∀g,gj n k d ps g->Ge g hs:=by
 refine W.call zpN rfl ?_;unfold Wb;have qb:(100:Nat)<=sizeLine:=by decide
 have h1:=h.h1;have h8:=h.h8;refine Y ?_;refine W.c1 (zhI h) λ_=>?_;refine Y ?_;refine W.c1 (zgE hd Dr hk) λ_=>?_;refine Y ?_;refine W.c0 (zgj h hd Dr hk) ?_;refine Y ?_;refine lY (l:=List.range (n-0).toNat) (f:=λ(j:Nat)=>.int (0+j)) (λ(_:Nat)=>some (aX (some (bM k.toNat)))) (by rw[lE];lia) ?_ (λj hj=>?_) ?_
 ·unfold bG;refine Y ?_;refine⟨by rw[kE gV gV,kE gV gV];rfl,?_⟩;exact⟨rfl,rfl⟩
 ·refine Y ?_;refine⟨rfl,λ_=>?_,λhb=>by cases hb⟩;refine Y ?_;exact⟨rfl,_,rfl,rfl⟩
 ·have ef:(List.range (n-0).toNat).filterMap (λ(_:Nat)=>some (aX (some (bM k.toNat))))=(iM n k).map aX:=by
   rw[o7,show n-0=n by lia];unfold iM;rw[List.map_replicate];rw[List.map_const',lE]
  rw[ef];refine Y ?_;have lv:k'+39=3*n.toNat+5+(k'+34-3*n.toNat):=by lia
  refine W.bR rfl ?_;show W (Mi.call aq T (k'+39) true _ _) _ _;rw[lv];have B:=zi4 h hd hk;have kI:1<=k.toNat:=by lia
  have cO:∀t a b:Int,0<=a->a<(k.toNat:Nat)->0<=b->b<(k.toNat:Nat)->b_ k d ((a+t)%(k.toNat:Nat)) ((b+t)%(k.toNat:Nat))=b_ k d a b:=λt a b a0 ak b0 bk=>by rw[show ((k.toNat:Nat):Int)=k by lia] at *;exact zha hd t a b a0 ak b0 bk
  obtain⟨m,hm⟩ : ∃m,n.toNat=m+1:=⟨n.toNat-1,by lia⟩;have em:n.toNat-1=m:=by lia
  have Cy:unset (iM n k)<=m+1:=by
   have:=(O2 (n:=n) hk).len;rw[<-hm,<-this];exact Qp
  have al:∀(i:Nat) L,(iM n k)[i]?=some (some L)->L=bM k.toNat:=λi L e=>(z_ e).2;have eb:(iM n k).all (Gn k.toNat)=true:=dZ.mpr λc hc=>by rw[List.eq_of_mem_replicate hc];exact dB rfl
  rw[em] at hz;refine(zg6 (c0:=1+cnt k.toNat m) (c1:=cnt k.toNat m) B kI (λ_=>cO) (O2 hk) (λi hi=>⟨_,Aa hi⟩) (by rw[em];exact hz) ?_ (λkvs L hL qd ha hl=>?_)).imp λv s=>?_
  ·rw[hm];have:=ziE (m:=m) (j:=k'+34-3*(m+1)) (kvs:=[]) B kI cO (O2 hk) Cy eb (λF d e=>by cases e) (by simp;lia);rw[hm] at this;simpa using this
  ·have e:=al 0 L hL;subst e;refine zmJ B kI cO ?_ (O2 hk) Cy al hL qd ha gV;rw[show 3*n.toNat+1+(k'+34-3*n.toNat)+2=3*m+4+(k'+33-3*m) by lia];exact Gp B kI (λ_=>cO) m _
  rintro(⟨rfl,uz⟩|⟨hs,rfl,hl,Ds,Ke⟩)
  ·refine⟨_,rfl,?_⟩;refine Y ?_;exact .inl ⟨rfl,λhs hh=>uz ⟨_,O4 h hd hh⟩⟩
  ·refine⟨_,rfl,?_⟩;refine Y ?_;refine .inr ⟨hs,rfl,zeL h hl Ds,λg hg j hj ha=>?_⟩;exact Ke _ (O4 h hd hg) j gV ha
end
theorem zlk{k:Nat}{d:D}(h:jN d=true):W (call aq T (k+1) true 35 [.d d]) [] λv s=>v=.d (.bl (whB d)):=by
 cases d with
 |exc _ _=>cases h
 |ob _ _=>cases h
 |any=>cases h
 |_=>exact W.eq (a:=_) (s':=[]) rfl rfl
theorem P0{k:Nat}{d:D}{n:Int}(h:jN d=true):W (call aq T (k+1) true 2 [.d d,.d (.int n)]) [] λv s=>v=.d (.bl (p8 n d)):=by
 cases d with
 |exc _ _=>cases h
 |ob _ _=>cases h
 |any=>cases h
 |tup xs=>
  refine W.call T_2 rfl ?_;unfold b2;refine Y ?_;show Xv.d (D.bl (id (((xs.length:Nat):Int)==n)))=_
  congr 2
 |_=>exact W.eq (a:=_) (s':=[]) rfl rfl
theorem Lj{k:Nat}{d:D}{a b:Int}(h:jN d=true):W (call aq T (k+2) true 1 [.d d,.d (.int a),.d (.int b)]) [] λv s=>v=.d (.bl (lB a b d)):=by
 cases d with
 |exc _ _=>cases h
 |ob _ _=>cases h
 |any=>cases h
 |int i=>exact gw
 |_=>exact W.eq (a:=_) (s':=[]) rfl rfl
theorem zgt{k:Nat}{d:D}{n:Int}(h:jN d=true):W (call aq T (k+3) true 5 [.d (.int n),.d d]) [] λv s=>v=.d (.bl (lB 0 (n-1) d)):=by
 refine W.call Ww rfl ?_;unfold b5;refine Y ?_;exact W.bR rfl ((Lj h).imp λv s e=>⟨_,e,rfl⟩)
theorem zm0{k:Nat}{d:D}(h:jN d=true):W (call aq T (k+3) true 4 [.d d]) [] λv s=>v=.d (.bl (lB 1 8 d)):=by
 refine W.call Wv rfl ?_;unfold b4;refine Y ?_;exact W.bR rfl ((Lj h).imp λv s e=>⟨_,e,rfl⟩)
theorem zpg{k:Nat}{d:D}{n:Int}(h:nu d=true):W (call aq T (k+4) true 6 [.d (.int n),.d d]) [] λv s=>v=.d (.bl (jk n d)):=by
 refine W.call Wx rfl ?_;unfold b6;refine Y ?_;refine W.c0 (P0 (Vz h)) ?_;cases d with
 |tup xs=>
  by_cases h2:xs.length=2
  ·obtain⟨x,y,rfl⟩:=Vy h2;have hx:jN x=true:=by simp only[nu,nQ,dJ] at h;exact h.1
   have hy:jN y=true:=by simp only[nu,nQ,dJ] at h;exact h.2.1
   rw[show p8 2 (.tup [x,y])=true from rfl];refine Y ?_;refine W.c0 (zgt hx) ?_;cases x with
   |int a=>
    by_cases ha:0<=a/\a<=n-1
    ·rw[show lB 0 (n-1) (.int a)=true from dB ha];refine Y ?_;refine W.c0 (zgt hy) ?_;cases y with
     |int b=>
      by_cases hb:0<=b/\b<=n-1
      ·rw[show lB 0 (n-1) (.int b)=true from dB hb];refine Y ?_;show Xv.d (.bl (decide (a<b)))=.d (.bl (decide (0<=a/\a<b/\b<n)));rw[tX.mpr (show a<b↔0<=a/\a<b/\b<n by lia)]
      ·rw[show lB 0 (n-1) (.int b)=false from gQ hb];refine Y ?_;show Xv.d (.bl false)=.d (.bl (decide (0<=a/\a<b/\b<n)));rw[gQ gV]
     |exc _ _=>cases hy
     |ob _ _=>cases hy
     |any=>cases hy
     |_=>exact Y rfl
    ·rw[show lB 0 (n-1) (.int a)=false from gQ ha];refine Y ?_;show Xv.d (.bl false)=.d (.bl (jk n (.tup [.int a,y])));cases y with
     |int b=>
      show Xv.d (.bl false)=.d (.bl (decide (0<=a/\a<b/\b<n)));rw[gQ gV]
     |_=>rfl
   |_=>exact Y rfl
  ·rw[Vx h2,zhD h2];exact Y trivial
 |_=>exact Y rfl
theorem zkw{k:Nat}{d:D}(h:Ox d=true)(hl:lnW d):W (call aq T (k+5) true 3 [.d d]) [] λv s=>v=.d (.bl (Dl d)):=by
 have hs:(200:Nat)<=sizeLine:=by decide
 refine W.call Wu rfl ?_;unfold b3;refine Y ?_;refine W.c0 (P0 (show jN d=true by cases d<;>first|rfl|cases h)) ?_;cases d with
 |tup xs=>
  by_cases h2:xs.length=2
  ·obtain⟨x,y,rfl⟩:=Vy h2;have hx:K4 x=true:=by simp only[Ox,nQ,dJ] at h;exact h.1
   have hy:K4 y=true:=by simp only[Ox,nQ,dJ] at h;exact h.2.1
   rw[show p8 2 (.tup [x,y])=true from rfl];refine Y ?_;refine W.c0 (zm0 (zpy hx)) ?_;cases x with
   |int n=>
    by_cases hn:1<=n/\n<=8
    ·rw[show lB 1 8 (.int n)=true from dB hn];cases y with
     |tup ys=>
      have hyl:=hl _ _ rfl;have hy:∀t∈ys,nu t=true:=dZ.mp hy;refine Y ?_;refine lY (l:=ys) (f:=λx=>x) (λt=>some (.bl (jk n t))) gV ?_ (λt ht=>?_) ?_
      ·refine Y ?_;rw[List.map_id'];exact⟨rfl,rfl⟩
      ·refine Y ?_;refine⟨rfl,λ_=>?_,λhb=>by cases hb⟩;refine Y ?_;exact W.bR rfl ((zpg (hy t ht)).imp λv s e=>⟨_,e,rfl,_,rfl,rfl⟩)
      rw[o7];refine Y ?_;refine cM KH ?_;show _;have ew:Dl (.tup [.int n,.tup ys])=(decide (1<=n/\n<=8)&&ys.all (jk n)&&nA (jm ys)):=rfl;rw[ew,dB hn];cases ha:ys.all (jk n)
      ·exact Y rfl
      ·obtain⟨e,ht⟩:=zeQ ha;generalize jm ys=ps at e ht;subst e;rw[bI] at hyl;refine Y ?_;refine lY (l:=ps.zip (ps.drop 1)) (f:=λe=>.tup [dj e.1,dj e.2]) (λe=>some (.bl (zW e.1 e.2))) (by rw[List.length_zip];lia) ?_ (λt ht=>?_) ?_
       ·refine Y ?_;rw[KC,<-List.map_drop,zlR];exact⟨rfl,rfl⟩
       ·refine Y ?_;refine⟨rfl,λ_=>?_,λhb=>by cases hb⟩;refine Y ?_;rw[<-zkA];exact⟨rfl,_,rfl,rfl⟩
       rw[o7];refine Y ?_;refine cM KH ?_;rfl
     |exc _ _=>cases hy
     |ob _ _=>cases hy
     |any=>cases hy
     |_=>exact Y rfl
    ·rw[show lB 1 8 (.int n)=false from gQ hn];refine Y ?_;show Xv.d (.bl false)=.d (.bl (Dl (.tup [.int n,y])));cases y with
     |tup ys=>
      show Xv.d (.bl false)=.d (.bl (decide (1<=n/\n<=8)&&ys.all (jk n)&&nA (jm ys)));rw[gQ hn];rfl
     |_=>rfl
   |_=>exact Y rfl
  ·rw[Vx h2,zjF h2];exact Y trivial
 |_=>exact Y rfl
theorem zhK{k':Nat}{d:D}(h:nu d=true):W (call aq T (k'+3) true 18 [.d d]) [] λv s=>v=.d (.bl (Gk d)):=by
 refine W.call Wz rfl ?_;unfold O6;refine Y ?_;refine W.c0 (P0 (Vz h)) ?_;cases d with
 |tup xs=>
  by_cases h2:xs.length=2
  ·obtain⟨x,y,rfl⟩:=Vy h2;have hx:jN x=true:=by simp only[nu,nQ,dJ] at h;exact h.1
   have hy:jN y=true:=by simp only[nu,nQ,dJ] at h;exact h.2.1
   rw[show p8 2 (.tup [x,y])=true from rfl];refine Y ?_;refine W.c0 (Lj hx) ?_;cases x with
   |int a=>
    by_cases ha:1<=a/\a<=24
    ·rw[show lB 1 24 (.int a)=true from dB ha];refine Y ?_;refine W.c0 (Lj hy) ?_;cases y with
     |int b=>
      show Xv.d (.bl (decide (1<=b/\b<=a)))=.d (.bl (decide (1<=a/\a<=24)&&decide (1<=b/\b<=a)));rw[dB ha];rfl
     |exc _ _=>cases hy
     |ob _ _=>cases hy
     |any=>cases hy
     |_=>rfl
    ·rw[show lB 1 24 (.int a)=false from gQ ha];refine Y ?_;show Xv.d (.bl false)=.d (.bl (Gk (.tup [.int a,y])));cases y with
     |int b=>
      show Xv.d (.bl false)=.d (.bl (decide (1<=a/\a<=24)&&decide (1<=b/\b<=a)));rw[gQ ha];rfl
     |_=>rfl
   |_=>exact Y rfl
  ·rw[Vx h2,zkt h2];exact Y trivial
 |_=>exact Y rfl
section
variable {n k d:Int}{ps:List (Int×Int)}
theorem zhx{k':Nat}{x:D}(h:jN x=true):W (call aq T (k'+3) true 19 [.d (aK k d),.d x]) [] λv s=>v=.d (.bl (lB 0 (k-1) x)):=by
 refine W.call zpZ rfl ?_;unfold V8 aK;refine Y ?_;exact W.bR rfl ((Lj h).imp λv s e=>⟨_,e,rfl⟩)
theorem ze4{k':Nat}{x:D}(h:nu x=true)(hl:∀xs,x=.tup xs->xs.length<=200):W (call aq T (k'+4) true 22 [.d (bG n ps),.d (aK k d),.d x]) [] λv s=>v=.d (.bl (tR n k x)):=by
 have hs:(200:Nat)<=sizeLine:=by decide
 refine W.call zpL rfl ?_;unfold V9 bG;refine Y ?_;refine W.c0 (P0 (Vz h)) ?_;cases x with
 |tup xs=>
  have hx:∀y∈xs,jN y=true:=dZ.mp h;have hxl:=hl xs rfl;rw[show tR n k (.tup xs)=(decide ((xs.length:Int)=n)&&xs.all (lB 0 (k-1))) from rfl];by_cases hn:(xs.length:Int)=n
  ·rw[show p8 n (.tup xs)=true from dB hn,dB hn];refine Y ?_;refine lY (l:=xs) (f:=λx=>x) (λt=>some (.bl (lB 0 (k-1) t))) gV ?_ (λt ht=>?_) ?_
   ·refine Y ?_;rw[List.map_id'];exact⟨rfl,rfl⟩
   ·refine Y ?_;refine⟨rfl,λ_=>?_,λhb=>by cases hb⟩;refine Y ?_;exact W.bR rfl ((zhx (hx t ht)).imp λv s e=>⟨_,e,rfl,_,rfl,rfl⟩)
   rw[o7];refine Y ?_;refine cM KH ?_;rfl
  ·rw[show p8 n (.tup xs)=false from gQ hn,gQ hn,Bool.false_and];exact Y trivial
 |_=>exact Y rfl
theorem zdQ{k':Nat}{x:D}(h:nu x=true)(hl:∀xs,x=.tup xs->xs.length<=200):W (call aq T (k'+2) true 42 [.d x,.d (.int n),.d (.int k)]) [] λv s=>v=.d (.bl (tR n k x)):=by
 have hs:(200:Nat)<=sizeLine:=by decide
 refine W.call zpQ rfl ?_;unfold Wo;cases x with
 |tup xs=>
  have hx:∀y∈xs,jN y=true:=dZ.mp h;have hxl:=hl xs rfl;show WS _ _ _;have es:tR n k (.tup xs)=(decide ((xs.length:Int)=n)&&xs.all (lB 0 (k-1))):=rfl;rw[es];refine Y ?_;refine WS.ite (λhb=>?_) (λhb=>?_)
  ·refine Y ?_;rw[gQ (by simpa using hb)];rfl
  ·refine Y ?_;rw[dB (by simpa using hb)];refine lY (l:=xs) (f:=λx=>x) (λt=>some (.bl (lB 0 (k-1) t))) gV ?_ (λt ht=>?_) ?_
   ·refine Y ?_;rw[List.map_id'];exact⟨rfl,rfl⟩
   ·refine Y ?_;refine⟨rfl,λ_=>?_,λhb=>by cases hb⟩;refine Y ?_;refine W.c0 (zlk (hx t ht)) ?_;cases t with
    |int i=>
     refine Y ?_;refine W.ite (λh1=>?_) (λh1=>?_)
     ·refine Y ?_;refine⟨rfl,_,rfl,?_⟩;have h1:=fO h1;show some (D.bl (decide (0<=i/\i<=k-1)))=some (.bl (decide (i<k)));rw[tX.mpr (show 0<=i/\i<=k-1↔i<k by lia)]
     ·refine Y ?_;refine⟨rfl,_,rfl,?_⟩;have h1:¬0<=i:=λz=>h1 (dB z);show some (D.bl (decide (0<=i/\i<=k-1)))=some (.bl false);rw[gQ gV]
    |_=>
     refine Y ?_;exact⟨rfl,_,rfl,rfl⟩
   rw[o7];refine Y ?_;refine cM KH ?_;rfl
 |exc _ _=>cases h
 |ob _ _=>cases h
 |any=>cases h
 |_=>exact Y rfl
end
theorem zdr{k:Nat}{d:D}(h:K5 d)(hb:Dl d=true):W (call aq T (k+6) true 7 [.d d]) [] λv s=>∃d,v=.d d:=by
 refine W.call Wy rfl ?_;unfold b7;refine Y ?_;refine W.c0 (zkw h.1 h.2) ?_;rw[hb];refine Y ?_;exact⟨_,rfl⟩
theorem zcu{k:Nat}{d:D}(h:nu d=true)(hb:Gk d=true):W (call aq T (k+4) true 20 [.d d]) [] λv s=>∃d,v=.d d:=by
 refine W.call WD rfl ?_;unfold O7;refine Y ?_;refine W.c0 (zhK h) ?_;rw[hb];refine Y ?_;exact⟨_,rfl⟩
theorem zoA{k':Nat}{k d a b:Int}:W (call aq T (k'+1) true 21 [.d (aK k d),.d (.int a),.d (.int b)]) [] λv s=>v=.d (.int (eO k a b)):=W.eq (a:=.d (.int (eO k a b))) (s':=[]) rfl rfl
section
variable {n k d:Int}{ps:List (Int×Int)}{hs:List Int}
theorem zlj{k':Nat}(h:Web n ps)(hl:(hs.length:Int)=n):W (call aq T (k'+2) true 25 [.d (bG n ps),.d (aK k d),.d (.tup (hs.map .int))]) [] λv s=>v=.d (Ax k d ps hs):=by
 refine W.call zp3 rfl ?_;unfold Wa;refine Y ?_;refine Oq (λi J s=>s=[]/\(∃(a b:Option Xv),J=[some (.d (bG n ps)),some (.d (aK k d)),some (.d (.tup (hs.map .int))),a,b])/\wC k d (ps.take i) hs=[]) ⟨rfl,⟨_,_,rfl⟩,rfl⟩ (λi x J s e hI=>?_) (λJ s hI=>?_)
 ·obtain⟨rfl,⟨a,b,rfl⟩,hI⟩:=hI;rw[gC,jE] at e;obtain⟨p,ep,rfl⟩:=e;have ht:=h.tie p (fK ep);obtain⟨p1,p2⟩:=p;dsimp only at ht;refine Y ?_;refine cM (Gh gV gV) ?_;refine Y ?_;refine cM (Gh gV gV) ?_;refine Y ?_;refine W.c0 zoA ?_;unfold aK;refine Y ?_;have et:ps.take (i+1)=ps.take i++[(p1,p2)]:=by rw[G3,ep];rfl
  have ec:wC k d (ps.take (i+1)) hs=if eO k (at' hs p1) (at' hs p2)<d then [(p1,p2)] else []:=by
   unfold wC at hI ⊢;rw[et,Ly,hI,List.nil_append,yM];simp only[List.filter_nil,Ai]
  refine WS.ite (λhb=>?_) (λhb=>?_)
  ·have hb:=fO hb;rw[if_pos hb] at ec;refine Y ?_;refine .inr ⟨_,rfl,?_⟩;have:wC k d ps hs=(p1,p2)::wC k d (ps.drop (i+1)) hs:=by
    have e1:ps=ps.take (i+1)++ps.drop (i+1):=(List.take_append_drop ..).symm;unfold wC at ec ⊢
    conv=>lhs;rw[e1,Ly,ec]
    rfl
   unfold Ax;rw[this];rfl
  ·have hb:¬eO k (at' hs p1) (at' hs p2)<d:=λz=>hb (dB z);rw[if_neg hb] at ec;refine Y ?_;exact .inl ⟨_,rfl,rfl,⟨_,_,rfl⟩,ec⟩
 ·obtain⟨rfl,⟨a,b,rfl⟩,hI⟩:=hI;rw[bI,Ak] at hI;refine Y ?_;unfold Ax;rw[hI]
end
def nO(o:SO):Prop:=∃a b:Int,o=.lst [.int a,.int b]/\0<=a/\(b=0\/b=1)
theorem X3{k:Nat}{o:SO}{m:Int}(ho:nO o)(hm:0<m)(yX:m<1073741824):W (call aq T (k+1) true 34 [.l 0,.d (.int m)]) [o] λv s=>∃d o',v=.d d/\s=[o']/\(∃r:Int,d=.int r/\0<=r/\r<m)/\nO o':=by
 obtain⟨a,b,rfl,ha,hb⟩:=ho;refine W.call zpT rfl ?_;unfold Wh;rcases hb with rfl|rfl
 ·refine Y ?_;exact⟨_,_,rfl,rfl,⟨_,rfl,Ej _ gV,GF _ hm⟩,⟨_,_,rfl,Ej _ Vu,.inl rfl⟩⟩
 ·refine Y ?_;exact⟨_,_,rfl,rfl,⟨_,rfl,Ej _ gV,GF _ hm⟩,⟨_,_,rfl,Int.ediv_nonneg ha gV,.inr rfl⟩⟩
theorem zo5{k:Nat}{n:Int}:W (call aq T (k+1) true 33 [.d (.int n)]) [] λv s=>∃i o,v=.l i/\s[i]?=some o/\nO o:=by
 refine W.call zp2 rfl ?_;unfold Wg;refine Y ?_;refine⟨0,_,rfl,rfl,⟨_,_,rfl,?_,?_⟩⟩
 ·split<;>lia
 ·have:∀c:Bool,(if c=true then (1:Int) else 0)=0\/(if c=true then (1:Int) else 0)=1:=by intro c;cases c<;>simp
  exact this _
theorem Ab{k:Nat}{o:SO}{m:Int}{P:Xv->S->Prop}(ho:nO o)(hm:0<m)(yX:m<1073741824)(h:∀(r:Nat) o',(r:Int)<m->nO o'->P (.d (.int r)) [o']):W (bW (call aq T (k+1) true 34) [.l 0,.d (.int m)]) [o] P:=by
 refine Ve (n:=0) (o:=o) rfl rfl ((X3 ho hm yX).imp λv s=>?_);rintro⟨d,o',rfl,rfl,⟨r,rfl,h0,h1⟩,hp⟩;obtain⟨n,rfl⟩:=wH h0;exact⟨_,_,rfl,rfl,h n o' h1 hp⟩
theorem zmS{k:Nat}{ns:List Int}:W (call aq T (k+1) true 32 [.d (.fl (ns.map D.int)),.d (.int 0)]) [] λv _=>∃n,v=.d (.int n):=by
 refine W.call zp9 rfl ?_;unfold Wf;cases ns with
 |nil=>
  refine Y ?_;exact⟨_,rfl⟩
 |cons n r=>
  refine Y ?_;refine WS.ite (λ_=>?_) (λ_=>?_)
  ·refine Y ?_;refine cM (Gf (i:=0) (x:=.int n) rfl) ?_;refine Y ?_;exact⟨_,rfl⟩
  ·refine Y ?_;exact⟨_,rfl⟩
section
variable {n k d:Int}{ps:List (Int×Int)}
theorem zgV{k':Nat}{k a b:Int}:W (call aq T (k'+1) true 40 [.d (.int k),.d (.int a),.d (.int b)]) [] λv s=>v=.d (.int (eO k a b)):=W.eq (a:=.d (.int (eO k a b))) (s':=[]) rfl rfl
theorem zeN(w:Web n ps)(m:Nat):(grows k d ps [[]] m).length<=k.toNat^m:=by
 rw[VR w];refine jo (Gv _ _) ?_
 induction m with
 |zero=>exact bK 1
 |succ m ih=>
  show ((allR k.toNat m).flatMap _).length<=_;have:∀l:List (List Int),(l.flatMap λr=>(bM k.toNat).map λx=>r++[x]).length=l.length*k.toNat:=λl=>by
   induction l with
   |nil=>simp
   |cons r l ih2=>
    rw[QD,h_,ih2,gD,bI,Nat.succ_mul];have:(bM k.toNat).length=k.toNat:=by unfold bM;simp
    lia
  rw[this,Nat.pow_succ];exact Gy _ ih
end
theorem zoz{k':Nat}{n k d:Int}{ps:List (Int×Int)}{hs:List Int}(h:Web n ps)(hl:(hs.length:Int)=n):W (call aq T (k'+2) true 41 [.d (bG n ps),.d (aK k d),.d (.tup (hs.map .int))]) [] λv s=>v=.d (.bl (lA k d ps hs)):=by
 refine W.call zpK rfl ?_;unfold Wn bG aK;have qb:(100:Nat)<=sizeLine:=by decide
 have hlen:=h.len;have h8:=h.h8;refine Y ?_;refine lY (l:=ps) (f:=dj) (λp=>if d<=eO k (at' hs p.1) (at' hs p.2) then none else some (dj p)) gV ?_ (λp hp=>?_) ?_
 ·refine Y ?_;exact⟨rfl,rfl⟩
 ·obtain⟨a,b⟩:=p;have ht:=h.tie _ hp;dsimp only at ht;refine Y ?_;refine cM (Gh gV gV) ?_;refine Y ?_;refine cM (Gh gV gV) ?_;refine Y ?_;refine W.c0 zgV ?_;refine Y ?_;refine⟨rfl,λhb=>?_,λhb=>?_⟩
  ·refine Y ?_;have hb:=fO hb;exact⟨rfl,_,rfl,by rw[if_neg gV]⟩
  ·have hb:=of_decide_eq_false hb;rw[if_pos gV]
 ·refine Y ?_;refine cM (zm2 (f:=id)) ?_;show Xv.d (D.bl (decide _))=_
  congr 2
  rw[Bool.eq_iff_iff,GD,zjA,zed]
  constructor
  ·intro h p hp;have:=h p hp;split at this
   ·assumption
   ·cases this
  ·intro h p hp;rw[if_pos (h p hp)]
theorem zg5{n:Int}{ps:List (Int×Int)}(h:Web n ps):K5 (bG n ps):=zmP (by have:=h.len;have:=h.h8;lia)
section
variable {n k d:Int}{ps:List (Int×Int)}{hs:List Int}{w r x:D}
theorem zdz{k':Nat}(h:Web n ps)(hx:nu x=true)(hl:∀xs,x=.tup xs->xs.length<=200):W (call aq T (k'+5) true 23 [.d (bG n ps),.d (aK k d),.d x]) [] λv s=>v=.d (.bl (wD n k d ps x)):=by
 refine W.call zp0 rfl ?_;unfold V_;refine Y ?_;refine W.c0 (ze4 hx hl) ?_;cases pF:tR n k x
 ·rw[znw pF];exact Y trivial
 ·obtain⟨hs,rfl,BL,Nb⟩:=zeE pF;rw[VB BL Nb];refine Y ?_;refine W.c0 (zlj h BL) ?_;unfold Ax;cases hc:wC k d ps hs with
  |nil=>
   rw[vI.mp hc];exact Y rfl
  |cons p q=>
   have:lA k d ps hs=false:=by
    cases hf:lA k d ps hs
    ·rfl
    ·rw[vI.mpr hf] at hc;cases hc
   rw[this];exact Y rfl
theorem zfe{k':Nat}(h:Web n ps)(hx:nu x=true)(hl:∀xs,x=.tup xs->xs.length<=200):W (call aq T (k'+3) true 43 [.d (bG n ps),.d (aK k d),.d x]) [] λv s=>v=.d (.bl (wD n k d ps x)):=by
 refine W.call zpG rfl ?_;unfold Wq;have ew:bG n ps=.tup [.int n,.tup (ps.map dj)]:=rfl;have er:aK k d=.tup [.int k,.int d]:=rfl;refine Y ?_;refine W.c0 (zdQ hx hl) ?_;cases pF:tR n k x
 ·rw[znw pF];exact Y trivial
 ·obtain⟨hs,rfl,BL,Nb⟩:=zeE pF;rw[VB BL Nb];refine Y ?_;exact W.bR rfl ((zoz h BL).imp λv s e=>⟨_,e,rfl⟩)
theorem zkr{k':Nat}(h:Web n ps)(hr:1<=d/\d<=k/\k<=24)(hx:nu x=true)(hl:∀xs,x=.tup xs->xs.length<=200)(hb:wD n k d ps x=false):WR (call aq T (k'+8) true 24 [.d (bG n ps),.d (aK k d),.d x]) [] 2 []:=by
 refine WR.call WK rfl ?_;unfold O8;refine Y ?_;refine W.c1 (zdr (zg5 h) (zi7 h)) λ_=>?_;refine Y ?_;refine W.c1 (zcu rfl (zgu hr)) λ_=>?_;refine Oi ?_;refine Y ?_;refine W.c0 (zdz h hx hl) ?_;rw[hb];refine W.bool (W.bool (WS.yD (Oi ?_)));refine Y ?_;exact⟨⟨_,_,_,rfl⟩,⟨_,_,_,rfl⟩,_,rfl⟩
theorem zoN{k':Nat}(h:Web n ps)(hr:1<=d/\d<=k/\k<=24)(hx:nu x=true)(hl:∀xs,x=.tup xs->xs.length<=200)(hb:wD n k d ps x=true):W (call aq T (k'+8) true 24 [.d (bG n ps),.d (aK k d),.d x]) [] λv s=>∃d,v=.d d:=by
 refine W.call WK rfl ?_;unfold O8;refine Y ?_;refine W.c1 (zdr (zg5 h) (zi7 h)) λ_=>?_;refine Y ?_;refine W.c1 (zcu rfl (zgu hr)) λ_=>?_;refine Y ?_;refine W.c0 (zdz h hx hl) ?_;rw[hb];refine Y ?_;exact⟨_,rfl⟩
end
theorem zhT{k:Nat}{o:SO}{n:Int}(ho:nO o)(h1:1<=n)(h8:n<=8):W (call aq T (k+2) true 38 [.l 0,.d (.int n)]) [o] λv s=>∃ps o',v=.d (bG n ps)/\s=[o']/\Web n ps/\nO o':=by
 refine W.call zp4 rfl ?_;unfold Wj;have hs:(100:Nat)<=sizeLine:=by decide
 refine Y ?_;refine Ab ho Vu Vu λr o' hr hp=>?_;refine Y ?_;have zE:r<3:=by lia
 refine cM (Gf (x:=.int (([2,4,6]:List Int)[r]'zE)) ?_) ?_
 ·revert zE;revert r;intro r _ zE;exact match r,zE with
  |0,_=>rfl|1,_=>rfl|2,_=>rfl
  |n+3,h=>absurd h gV
 generalize ([2,4,6]:List Int)[r]=often;refine Y ?_;refine⟨by rw[kE gV gV,kE gV gV];rfl,?_⟩;refine wz (λ(i:Nat) J s=>∃(ps:List (Int×Int)) (a:Option Xv) (o':SO),J=[some (.l 0),some (.d (.int n)),some (.d (.int often)),some (.d (.fl (ps.map dj))),a]/\s=[o']/\nO o'/\(∀p∈ps,0<=p.1/\p.1<(i:Int)/\p.1<p.2/\p.2<n)/\ps.Pairwise lx/\ps.length<=7*i)
  ⟨[],_,_,rfl,rfl,hp,by simp,by simp,by simp⟩ (λi x J s e hI=>?_) (λJ s hI=>?_)
 ·obtain⟨ps,a,o',rfl,rfl,hp,ht,Dt,hlen⟩:=hI;obtain⟨rfl,hi⟩:=Vp e;have hi8:i<8:=by lia
  refine Y ?_;refine Kau (c:=gb (0+(i:Int)+1) n) (λ(j:Nat) acc s=>∃(es:List Int) (o':SO),acc=es.map (λe=>dj (0+(i:Int),e))/\es.Pairwise (·<·)/\(∀e∈es,(i:Int)<e/\e<(i:Int)+1+j)/\s=[o']/\nO o') ?_ (λj x acc s e hJ=>?_) (λacc s hJ=>?_)
  ·refine Y ?_;refine⟨by rw[kE gV gV,kE gV gV];rfl,?_⟩;exact⟨rfl,[],_,rfl,by simp,by simp,rfl,hp⟩
  ·obtain⟨es,o',rfl,Gq,Ac,rfl,hp⟩:=hJ;obtain⟨rfl,hj⟩:=Vp e;have hel:(es.length:Int)<=(i:Int)+1+j-((i:Int)+1):=Vo Gq (λe he=>by have:=Ac e he;lia) gV;refine Y ?_;refine Ab hp Vu Vu λr o' hr hp=>?_;refine Y ?_;refine⟨λhb=>?_,λhb=>?_⟩
   ·refine Y ?_;refine⟨_,rfl,by rw[bI];lia,es++[0+(i:Int)+1+j],o',?_,?_,?_,rfl,hp⟩
    ·rw[vW];rfl
    ·rw[List.pairwise_append];refine⟨Gq,by simp,λa ha b hb=>?_⟩;simp at hb;have:=Ac a ha
     lia
    ·intro e he;rcases kO.mp he with he|he
     ·have:=Ac e he;lia
     ·simp at he;lia
   ·exact⟨es,o',rfl,Gq,λe he=>by have:=Ac e he;lia,rfl,hp⟩
  ·obtain⟨es,o',rfl,Gq,Ac,rfl,hp⟩:=hJ;rw[Oo] at Ac;have hel:(es.length:Int)<=n-((i:Int)+1):=Vo Gq (λe he=>by have:=Ac e he;lia) gV;refine Y ?_;refine sE (yC ?_) ?_
   ·rw[bI,bI];lia
   refine Y ?_;refine⟨_,rfl,ps++es.map (λe=>(0+(i:Int),e)),some (.d (.int (0+(i:Int)))),o',?_,rfl,hp,?_,?_,?_⟩
   ·rw[vW,En];rfl
   ·intro p hp;rcases kO.mp hp with hp|hp
    ·have:=ht p hp;lia
    ·obtain⟨e,he,rfl⟩:=jO.mp hp;have:=Ac e he;dsimp only
     lia
   ·rw[List.pairwise_append,GK];refine⟨Dt,Gq.imp λh=>.inr ⟨rfl,h⟩,λp hp q hq=>?_⟩;obtain⟨e,he,rfl⟩:=jO.mp hq;have:=ht p hp;exact .inl (by dsimp only;lia)
   ·rw[h_,bI];lia
 ·obtain⟨ps,a,o',rfl,rfl,hp,ht,Dt,hlen⟩:=hI;rw[Oo] at ht hlen;refine Y ?_;refine⟨ps,o',rfl,rfl,⟨h1,h8,λp hp=>?_,Dt,by lia⟩,hp⟩;have:=ht p hp
  lia
theorem zim{k:Nat}{c:Bool}{i:Int}:W (call aq T (k+1) c 35 [.d (.int i)]) [] λv s=>v=.d (.bl true):=W.eq (a:=.d (.bl true)) (s':=[]) rfl rfl
noncomputable def sS:List D:=[.non,.bl true,.bl false,.int (-1),.str "1",.str "",.tup [],.fl [],.tup [.int 0],.fl [.int 0],.fd [.str "a"] [.int 1],.tup [.int 0,.int 1],.int 1000000000000000000000000000000,.tup [.int 0,.tup []],.tup [.str "ab"],.tup [.int 1,.tup [.tup [.int 0,.int 0]]]]
theorem zov{k:Nat}{o:SO}(ho:nO o):W (call aq T (k+2) true 36 [.l 0]) [o] λv s=>∃d o',v=.d d/\s=[o']/\d∈sS/\nO o':=by
 refine W.call zqe rfl ?_;unfold Wi;refine Y ?_;refine Ab ho Vu Vu λr o' hr hp=>?_;refine Y ?_;have zE:r<sS.length:=by show r<16;lia
 refine cM (Gf (x:=sS[r]) (cX (l:=sS) zE)) ?_;refine Y ?_;exact⟨_,_,rfl,rfl,vV _,hp⟩
theorem KaA{k:Nat}{s:S}{o:SO}{m:Int}{P:Xv->S->Prop}(ho:nO o)(hm:0<m)(yX:m<1073741824)(h:∀(r:Nat) o',(r:Int)<m->nO o'->P (.d (.int r)) (s++[o'])):W (bW (call aq T (k+1) true 34) [.l s.length,.d (.int m)]) (s++[o]) P:=by
 refine vB rfl ((X3 ho hm yX).imp λv s1=>?_);rintro⟨d,o',rfl,rfl,⟨r,rfl,h0,h1⟩,hp⟩;obtain⟨n,rfl⟩:=wH h0;exact⟨_,_,rfl,rfl,h n o' h1 hp⟩
theorem X4{xs:List D}{r:Nat}(hr:r<xs.length):∃x,prim .ix [.fl xs,.int r]=some (.dat x)/\x∈xs:=⟨xs[r],Gf (cX hr),vV _⟩
theorem zjG{xs:List D}{z:Int}(h0:0<=z)(hz:z<xs.length):∃x,prim .ix [.fl xs,.int z]=some (.dat x)/\x∈xs:=by
 obtain⟨r,rfl⟩:=wH h0;exact X4 gV
theorem zm7{xs:List Int}{r:Nat}{q:Int->Prop}(hb:∀z∈xs,q z)(hr:r<xs.length):∃z:Int,prim .ix [.fl (xs.map .int),.int r]=some (.dat (.int z))/\q z:=
 ⟨xs[r],Gf (by rw[gC,cX hr];rfl),hb _ (vV _)⟩
def qe(d:D):Prop:=nu d=true/\∀xs,d=.tup xs->xs.length<=100
theorem Ln{xs:List D}(h:∀x∈xs,jN x=true)(hl:xs.length<=100):qe (.tup xs):=⟨dZ.mpr h,λys e=>by cases e;exact hl⟩
theorem zgi{is:List Int}(hl:is.length<=100):qe (.tup (is.map .int)):=Ln (λx hx=>by obtain⟨i,_,rfl⟩:=jO.mp hx;rfl) (by rw[bI];exact hl)
theorem zk9{k':Nat}{o:SO}{row:List D}{kk:Int}(ho:nO o)(hl:row.length<=8)(mi:∀y∈row,jN y=true)(hk:1<=kk)(hk2:kk<=1000):W (call aq T (k'+2) true 45 [.l 0,.d (.tup row),.d (.int kk)]) [o] λv s=>∃(d:D) (o':SO),v=.d d/\s=[o']/\qe d/\nO o':=by
 refine W.call zqa rfl ?_;unfold Ws;have qb:(100:Nat)<=sizeLine:=by decide
 refine Y ?_;refine Ab ho gV gV λr o1 hr hp=>?_;refine Y ?_;refine Ab hp gV gV λr2 o2 hr2 hp=>?_;refine Y ?_;refine Ab hp Vu Vu λr3 o3 hr3 hp=>?_;refine Y ?_;obtain⟨x,ex,hx⟩:=X4 (xs:=[.bl true,.bl false,.non,.int (-1),.int kk,.str "0",.tup [.int 0],.int r2]) (r:=r3) (by show r3<8;lia);have hxo:jN x=true:=by
  simp only[gF,Ed,Aw] at hx;rcases hx with rfl|rfl|rfl|rfl|rfl|rfl|rfl|rfl
  all_goals rfl
 refine cM ex ?_;clear ex hx;have l1:=zgg (xs:=row) (lo:=none) (hi:=some (r:Int));have l2:=zgg (xs:=row) (lo:=some ((r:Int)+1)) (hi:=none);have m1:∀y∈cut row none (some (r:Int)),jN y=true:=λy hy=>mi y (zhs hy);have m2:∀y∈cut row (some ((r:Int)+1)) none,jN y=true:=λy hy=>mi y (zhs hy);refine Y ?_;refine cM (KD (by show _+1<=_;lia)) ?_;refine Y ?_;refine cM (KD (by rw[h_];show _+1+_<=_;lia)) ?_;refine Y ?_;refine cM (KD gV) ?_;refine Y ?_;refine cM (KD (by show _+1<=_;lia)) ?_;refine Y ?_;refine Ab hp Vu Vu λr4 o4 hr4 hp=>?_;refine Y ?_;obtain⟨z,ez,hz⟩:=zm7 (xs:=[0,0,0,0,1,2,3,4,5]) (r:=r4) (q:=λz=>0<=z/\z<6) Vu (by show r4<9;lia);refine cM ez ?_;refine Y ?_;obtain⟨y,ey,hy⟩:=zjG (xs:=[.tup (cut row none (some (r:Int))++[x]++cut row (some ((r:Int)+1)) none),.tup (cut row none (some (r:Int))++cut row (some ((r:Int)+1)) none),.tup (row++[.int 0]),.fl row,.non,.tup [.tup row]]) hz.1 (by show z<6;exact hz.2);refine cM ey ?_;refine Y ?_;refine⟨_,_,rfl,rfl,?_,hp⟩;simp only[gF,Ed,Aw] at hy;rcases hy with rfl|rfl|rfl|rfl|rfl|rfl
 ·refine Ln (λy hy=>?_) (by rw[h_,h_];show _+1+_<=_;lia);rcases kO.mp hy with hy|hy
  ·rcases kO.mp hy with hy|hy
   ·exact m1 y hy
   ·have:y=x:=by simpa using hy
    rw[this];exact hxo
  ·exact m2 y hy
 ·refine Ln (λy hy=>?_) (by rw[h_];lia);rcases kO.mp hy with hy|hy
  ·exact m1 y hy
  ·exact m2 y hy
 ·refine Ln (λy hy=>?_) (by rw[h_];show _+1<=_;lia);rcases kO.mp hy with hy|hy
  ·exact mi y hy
  ·have:y=.int 0:=by simpa using hy
   rw[this];rfl
 ·exact⟨rfl,λxs e=>by cases e⟩
 ·exact⟨rfl,λxs e=>by cases e⟩
 ·exact Ln (λy hy=>by rw[show y=.tup row by simpa using hy];rfl) Zaa
theorem zmD{x:D}(hx:x∈sS):qe x:=by
 simp only[sS,gF,Ed,Aw] at hx;rcases hx with rfl|rfl|rfl|rfl|rfl|rfl|rfl|rfl|rfl|rfl|rfl|rfl|rfl|rfl|rfl|rfl
 all_goals exact⟨rfl,λxs e=>by cases e<;>decide⟩
theorem zh7{k':Nat}{hs:List Int}(hl:hs.length<=100):W (call aq T (k'+2) true 46 [.d (.tup (hs.map .int)),.d (.tup (hs.map .int))]) [] λv s=>v=.d (.bl true):=by
 refine W.call WQ rfl ?_;unfold Pa;have qb:(100:Nat)<=sizeLine:=by decide
 refine Y ?_;refine cM (znK (f:=id)) ?_;rw[dB rfl];refine Y ?_;refine lY (l:=hs) (f:=D.int) (λ_=>some (.bl true)) gV ?_ (λx hx=>?_) ?_
 ·refine Y ?_;exact⟨rfl,rfl⟩
 ·refine Y ?_;refine⟨rfl,λ_=>?_,λhb=>by cases hb⟩;refine Y ?_;refine W.c0 zim ?_;exact⟨rfl,_,rfl,rfl⟩
 ·refine Y ?_;refine cM (Vn ?_) ?_
  ·intro x hx;obtain⟨_,_,e⟩:=DR.mp hx;exact(dz e).symm
  exact Y trivial
theorem ziA{k':Nat}:W (call aq T (k'+2) true 46 [.d .non,.d .non]) [] λv s=>v=.d (.bl true):=by
 refine W.call WQ rfl ?_;unfold Pa;refine Y ?_;rfl
theorem zld{k':Nat}{o:SO}(ho:nO o):W (call aq T (k'+2) true 39 [.l 0]) [o] λv s=>∃(k d:Int) (o':SO),v=.d (aK k d)/\s=[o']/\(1<=d/\d<=k/\k<=7)/\nO o':=by
 refine W.call zqb rfl ?_;unfold Wm;refine Y ?_;refine Ab ho Vu Vu λr o' hr hp=>?_;refine Y ?_;obtain⟨x,ex,hx⟩:=X4 (xs:=[aK 2 1,aK 3 1,aK 5 2,aK 4 1,aK 4 2,aK 6 2,aK 5 1,aK 7 3,aK 3 2,aK 6 3]) (r:=r) (by show r<10;lia);refine cM ex ?_;refine Y ?_;simp only[gF,Ed,Aw] at hx;rcases hx with rfl|rfl|rfl|rfl|rfl|rfl|rfl|rfl|rfl|rfl
 all_goals exact⟨_,_,_,rfl,rfl,by decide,hp⟩
section
variable {n k d:Int}{ps:List (Int×Int)}
noncomputable def lpa:bL:=(.cons (.asg (.nm 6) (.comp true (Ei (.v 2) (.v 0)) [0,1] (.seq (Ei (.v 0) (Ci 1))) [5,3] 2 (.yes (.pr true .eq (Eb (.v 1) (.v 3)))))) (.cons (.fr (.nm 7) (.rg (Ci 0) (Ei (.v 1) (Ci 0))) (.cons (.iff (.pr true .eq (Eb (.comp true (.v 0) [0] (.seq (.v 6)) [1,7] 1 (.yes (.pr true .lt (Eb (.call 40 (Ec (Ei (.v 1) (Ci 0)) (.v 0) (.v 2))) (Ei (.v 1) (Ci 1)))))) (.lst true .nil))) (.cons (.ex (.push (.v 4) (.pr true .add (Eb (.v 5) (.tup (Ea (.v 7))))))) .nil) .nil) .nil)) .nil))
theorem zjd{k' i:Nat}{s0:S}{rows:List (List Int)}{r:List Int}{a2 a6 a7:Option Xv}(h:Web n ps)(hk:1<=k/\k<=24)(hi:(i:Int)<n)(hr:r.length=i)(hm:rows.length+24<=sizeLine){Q:Out->S->Prop}
  (q:∀a6 a7,Q (.nx [some (.d (bG n ps)),some (.d (aK k d)),a2,some (.d (.int i)),some (.l s0.length),some (.d (cI r)),a6,a7]) (s0++[.lst ((rows++nextR k d ps r).map cI)])) :
  WS (exs aq true (λc=>Mi.call aq T (k'+1) c) lpa [some (.d (bG n ps)),some (.d (aK k d)),a2,some (.d (.int i)),some (.l s0.length),some (.d (cI r)),a6,a7]) (s0++[.lst (rows.map cI)]) Q:=by
 have qb:(1000:Nat)<=sizeLine:=by decide
 have hpl:=h.len;have h8:=h.h8;have ew:bG n ps=.tup [.int n,.tup (ps.map dj)]:=rfl;have er:aK k d=.tup [.int k,.int d]:=rfl;have hok:∀x:Int,((((ps.filter λp=>decide (p.2=(i:Int))).map λp=>at' r p.1).filterMap (λy=>if eO k y x<d then some (D.int y) else none))=[])↔wG k d ps r x=true:=λx=>by
  rw[zjA];unfold wG;rw[dZ]
  constructor
  ·intro z p hp;refine dB λe=>?_;have:=z (at' r p.1) (jO.mpr ⟨p,qg.mpr ⟨hp,dB gV⟩,rfl⟩);by_cases c:eO k (at' r p.1) x<d
   ·rw[if_pos c] at this;cases this
   ·lia
  ·intro z y hy;obtain⟨p,hp,rfl⟩:=jO.mp hy;obtain⟨h1,h2⟩:=qg.mp hp;have:=fO (z p h1) (by have:=fO h2;lia);rw[if_neg gV]
 unfold cI lpa;refine Y ?_;refine lY (l:=ps) (f:=dj) (λp=>if p.2=(i:Int) then some (.int (at' r p.1)) else none) gV ?_ (λp hp=>?_) ?_
 ·refine Y ?_;exact⟨rfl,rfl⟩
 ·have ht:=h.tie p hp;obtain⟨a,b⟩:=p;dsimp only at ht;refine Y ?_;refine⟨rfl,λhb=>?_,λhb=>?_⟩
  ·have hb:b=(i:Int):=by simpa using hb
   refine Y ?_;refine cM (Gh gV gV) ?_;exact⟨rfl,_,rfl,by rw[if_pos hb]⟩
  ·rw[if_neg (by simpa using hb)]
 ·have ef:ps.filterMap (λp=>if p.2=(i:Int) then some (D.int (at' r p.1)) else none)=((ps.filter λp=>decide (p.2=(i:Int))).map λp=>at' r p.1).map .int:=by
   rw[zpt (f:=λ(p:Int×Int)=>D.int (at' r p.1)) (q:=λ(p:Int×Int)=>p.2=(i:Int)),En];rfl
  rw[ef];have hfl:((ps.filter λp=>decide (p.2=(i:Int))).map λp=>at' r p.1).length<=ps.length:=by rw[bI];exact Gv _ _
  generalize hN:((ps.filter λp=>decide (p.2=(i:Int))).map λp=>at' r p.1)=near at hfl hok;refine Y ?_;refine⟨by rw[kE gV gV,kE gV gV];rfl,?_⟩;refine wz (c:=(List.range (k-0).toNat).map λ(j:Nat)=>.int (0+j)) (λj J s=>∃(a7:Option Xv),s=s0++[.lst ((rows++((bM j).filter (wG k d ps r)).map λx=>r++[x]).map cI)]/\J=[some (.d (bG n ps)),some (.d (aK k d)),a2,some (.d (.int i)),some (.l s0.length),some (.d (.tup (r.map .int))),some (.d (.fl (near.map .int))),a7]) ⟨_,by simp[bM];first|rfl|(intro a _;rfl),rfl⟩ (λj x J s e hI=>?_) (λJ s hI=>?_)
  ·obtain⟨a7,rfl,rfl⟩:=hI;obtain⟨hj,e⟩:=eY.mp e;rw[List.getElem_map,DX] at e;rw[bI,lE] at hj;subst e;have es:bM (j+1)=bM j++[0+(j:Int)]:=by unfold bM;rw[List.range_succ,vW,Int.zero_add];rfl
   have uE:((bM j).filter (wG k d ps r)).length<=j:=by
    have:=Gv (wG k d ps r) (bM j);have:(bM j).length=j:=by unfold bM;simp
    lia
   refine Y ?_;refine lY (l:=near) (f:=D.int) (λy=>if eO k y (0+j)<d then some (.int y) else none) gV ?_ (λy hy=>?_) ?_
   ·refine Y ?_;exact⟨rfl,rfl⟩
   ·refine Y ?_;refine W.c0 zgV ?_;refine Y ?_;refine⟨rfl,λhb=>?_,λhb=>?_⟩
    ·refine Y ?_;exact⟨rfl,_,rfl,by rw[if_pos (fO hb)]⟩
    ·rw[if_neg (of_decide_eq_false hb)]
   ·refine Y ?_;refine cM (zm2 (f:=id)) ?_;refine Y ?_;refine WS.ite (λc=>?_) (λc=>?_)
    ·have c:=(hok _).mp (fO c);refine Y ?_;refine cM (KD (by rw[bI];show _+1<=_;lia)) ?_;refine Y ?_;refine⟨by simp;lia,?_⟩;rw[zhF];refine Y ?_;refine⟨_,rfl,_,?_,rfl⟩;rw[es,Ly,yM,if_pos c];simp only[vW,iR,List.map_nil,List.filter_nil,Ah];unfold cI;simp
    ·have c:¬wG k d ps r (0+j)=true:=λz=>c (dB ((hok _).mpr z));refine Y ?_;refine⟨_,rfl,_,?_,rfl⟩;rw[es,Ly,yM,if_neg c];simp
  ·obtain⟨a7,rfl,rfl⟩:=hI;rw[bI,lE,show (k-0).toNat=k.toNat by lia];refine Y ?_;exact q _ _
theorem zdf(w:Web n ps):∀(m:Nat),∀r∈grows k d ps [[]] m,r.length=m
 |0,r,h=>by rw[sW.mp h];rfl
 |m+1,r,h=>by
  obtain⟨r0,h0,x,_,_,rfl⟩:=vJ.mp h;have:=zdf w m r0 h0;simp[this]
theorem zpx{k':Nat}(h:Web n ps)(hk:1<=k/\k<=7)(hn4:n<=4):W (call aq T (k'+2) true 44 [.d (bG n ps),.d (aK k d)]) [] λv s=>∃j o,v=.l j/\s[j]?=some o/\o=.lst ((grows k d ps [[]] n.toNat).map cI):=by
 have qb:(100000:Nat)<=sizeLine:=by decide
 have h1:=h.h1;have p7:∀i,i<=4->7^i<=2401:=by decide
 have jL:∀m,m<=4->(grows k d ps [[]] m).length<=2401:=λm hm=>jo (zeN h m) (jo (Nat.pow_le_pow_left gV m) (p7 m hm));have ew:bG n ps=.tup [.int n,.tup (ps.map dj)]:=rfl;refine W.call zpO rfl ?_;unfold Wr;refine Y ?_;refine⟨by rw[kE gV gV,kE gV gV];rfl,?_⟩;refine wz (c:=(List.range (n-0).toNat).map λ(j:Nat)=>.int (0+j)) (λi J s=>∃(a2 a3 a4 a5 a6 a7:Option Xv),J=[some (.d (bG n ps)),some (.d (aK k d)),a2,a3,a4,a5,a6,a7]/\(a2=some (.d (.fl ((grows k d ps [[]] i).map cI)))/\i=0\/∃j,a2=some (.l j)/\s[j]?=some (.lst ((grows k d ps [[]] i).map cI)))) ⟨_,_,_,_,_,_,rfl,.inl ⟨rfl,rfl⟩⟩ (λi x J s e hI=>?_) (λJ s hI=>?_)
 ·obtain⟨a2,a3,a4,a5,a6,a7,rfl,yG⟩:=hI;obtain⟨hi,e⟩:=eY.mp e;rw[List.getElem_map,DX] at e;rw[bI,lE] at hi;subst e;have ez:(0:Int)+(i:Nat)=(i:Int):=by lia
  rw[ez];have hl1:=jL (i+1) gV;have elv:grows k d ps [[]] (i+1)=(grows k d ps [[]] i).flatMap (nextR k d ps):=rfl;refine Oj (Ol ?_);refine WS.cons ?_;refine Y ?_;have key:∀(t:Nat) (r:List Int),(grows k d ps [[]] i)[t]?=some r->r.length=i/\((grows k d ps [[]] i).take (t+1)).flatMap (nextR k d ps)=((grows k d ps [[]] i).take t).flatMap (nextR k d ps)++nextR k d ps r/\(((grows k d ps [[]] i).take t).flatMap (nextR k d ps)).length+24<=sizeLine:=λt r er=>by
   refine⟨zdf h i r (fK er),by rw[G3,er,List.flatMap_append];simp,?_⟩;have:(((grows k d ps [[]] i).take t).flatMap (nextR k d ps)).length<=(grows k d ps [[]] (i+1)).length:=by
    rw[elv]
    conv=>rhs;rw[<-List.take_append_drop t (grows k d ps [[]] i)]
    rw[List.flatMap_append,h_]
    lia
   lia
  have e5:((grows k d ps [[]] i).take ((grows k d ps [[]] i).map cI).length).flatMap (nextR k d ps)=grows k d ps [[]] (i+1):=by rw[bI,Ak];rfl
  rcases yG with ⟨rfl,_⟩|⟨j,rfl,hj⟩
  ·refine Y ?_;refine wz (c:=(grows k d ps [[]] i).map cI) (λt J s'=>∃(a5 a6 a7:Option Xv),s'=s++[.lst ((((grows k d ps [[]] i).take t).flatMap (nextR k d ps)).map cI)]/\J=[some (.d (bG n ps)),some (.d (aK k d)),some (.d (.fl ((grows k d ps [[]] i).map cI))),some (.d (.int i)),some (.l s.length),a5,a6,a7]) ⟨_,_,_,rfl,rfl⟩ (λt x J s' e hI=>?_) (λJ s' hI=>?_)
   ·obtain⟨a5,a6,a7,rfl,rfl⟩:=hI;rw[gC,jE] at e;obtain⟨r,er,rfl⟩:=e;obtain⟨k1,k2,k3⟩:=key t r er;refine Oj (Ol ?_);refine zjd h gV gV k1 k3 λa6 a7=>?_;exact⟨_,rfl,_,_,_,by rw[k2],rfl⟩
   ·obtain⟨a5,a6,a7,rfl,rfl⟩:=hI;rw[e5];refine Y ?_;exact⟨_,rfl,_,_,_,_,_,_,rfl,.inr ⟨_,rfl,Om⟩⟩
  ·refine W.eV rfl ?_;have hjl:j<s.length:=(eY.mp hj).1;refine Kbb (c:=(grows k d ps [[]] i).map cI) (by rw[lD hjl];exact hj) ?_;refine Kbg (n:=j) (c:=(grows k d ps [[]] i).map cI) (λt J s'=>∃(a5 a6 a7:Option Xv),s'=s++[.lst ((((grows k d ps [[]] i).take t).flatMap (nextR k d ps)).map cI)]/\J=[some (.d (bG n ps)),some (.d (aK k d)),some (.l j),some (.d (.int i)),some (.l s.length),a5,a6,a7]) ⟨_,_,_,rfl,rfl⟩ (λt J s' hI=>?_) (λt x J s' e hI=>?_) (λJ s' hI=>?_)
   ·obtain⟨a5,a6,a7,rfl,rfl⟩:=hI;rw[lD hjl];exact hj
   ·obtain⟨a5,a6,a7,rfl,rfl⟩:=hI;rw[gC,jE] at e;obtain⟨r,er,rfl⟩:=e;obtain⟨k1,k2,k3⟩:=key t r er;refine Oj (Ol ?_);refine zjd h gV gV k1 k3 λa6 a7=>?_;exact⟨_,rfl,_,_,_,by rw[k2],rfl⟩
   ·obtain⟨a5,a6,a7,rfl,rfl⟩:=hI;rw[e5];refine Y ?_;exact⟨_,rfl,_,_,_,_,_,_,rfl,.inr ⟨_,rfl,Om⟩⟩
 ·obtain⟨a2,a3,a4,a5,a6,a7,rfl,yG⟩:=hI;rw[bI,lE,show (n-0).toNat=n.toNat by lia] at yG;rcases yG with ⟨_,e⟩|⟨j,rfl,hj⟩
  ·lia
  ·refine Y ?_;exact⟨j,_,rfl,hj,rfl⟩
end
section
variable {n k d:Int}{ps:List (Int×Int)}{hs:List Int}
noncomputable def qU(n k:Int)(hs:List Int)(p:Nat):Fr:=(hs.take p).map (λx=>some [x])++[some ((bM k.toNat).drop (at' hs p+1).toNat)]++List.replicate (n.toNat-(p+1)) (some (bM k.toNat))
theorem zl4{l:List Int}{i:Nat}(h:i<l.length):l[i]?=some (at' l i):=by
 unfold at';rw[oV,nP,cX h];rfl
theorem P_{p i:Nat}(hp:p<hs.length)(hi:i<p):(qU n k hs p)[i]?=some (some [at' hs i]):=by
 unfold qU;rw[Ah,lD (by simp;lia),gC,List.getElem?_take_of_lt hi,zl4 gV];rfl
theorem Qa{p:Nat}(hp:p<hs.length):(qU n k hs p)[p]?=some (some ((bM k.toNat).drop (at' hs p+1).toNat)):=by
 unfold qU;rw[Ah,nF (by simp;lia)];simp;rw[show p-min p hs.length=0 by lia];rfl
theorem X5{p i:Nat}(hp:p<hs.length)(hi:p<i)(hn:i<n.toNat):(qU n k hs p)[i]?=some (some (bM k.toNat)):=by
 unfold qU;rw[nF (by simp;lia),Ad,if_pos (by simp;lia)]
theorem zjv{p:Nat}(hl:(hs.length:Int)=n)(hp:p<hs.length):(qU n k hs p).length=n.toNat:=by
 unfold qU;simp
 lia
theorem Du{p i:Nat}{L:List Int}(hl:(hs.length:Int)=n)(hp:p<hs.length)(h:(qU n k hs p)[i]?=some (some L)):i<n.toNat/\((i<p/\L=[at' hs i])\/(i=p/\L=(bM k.toNat).drop (at' hs p+1).toNat)\/(p<i/\L=bM k.toNat)):=by
 have hi:=(eY.mp h).1;rw[zjv hl hp] at hi;refine⟨hi,?_⟩;rcases GP i p with c|c|c
 ·rw[P_ hp c] at h;cases h;exact .inl ⟨c,rfl⟩
 ·subst c;rw[Qa hp] at h;cases h;exact .inr (.inl ⟨rfl,rfl⟩)
 ·rw[X5 hp c hi] at h;cases h;exact .inr (.inr ⟨c,rfl⟩)
theorem Qc{m:Nat}{a x:Int}(ha:0<=a):x∈(bM m).drop a.toNat↔a<=x/\x<m:=by
 have e:(bM m).drop a.toNat=((List.range m).drop a.toNat).map λ(i:Nat)=>(i:Int):=by unfold bM;rw[List.map_drop]
 rw[e,jO]
 constructor
 ·rintro⟨i,hi,rfl⟩;obtain⟨j,hj,e⟩:=sV hi;rw[List.getElem_drop,DX] at e;rw[Aj,lE] at hj
  lia
 ·rintro⟨h1,h2⟩;refine⟨x.toNat,?_,by lia⟩;rw[List.mem_iff_getElem];exact⟨x.toNat-a.toNat,by rw[Aj,lE];lia,by rw[List.getElem_drop,DX];lia⟩
theorem zo8{p:Nat}(hh:gj n k d ps hs)(hk:k<=24)(hp:p<hs.length):Fv n.toNat k.toNat (qU n k hs p) where
 len:=zjv hh.len hp
 lo:=λi L h x hx=>by
  obtain⟨hi,⟨c,rfl⟩|⟨c,rfl⟩|⟨c,rfl⟩⟩:=Du hh.len hp h
  ·rw[sW] at hx;have:=hh.lo _ (Gg (fs:=hs) (j:=i) gV (by have:=hh.len;lia))
   lia
  ·have:=hh.lo _ (Gg (fs:=hs) (j:=p) gV gV);have:=(Qc gV).mp hx
   lia
  ·exact bJ.mp hx
 ll:=λi L h=>by
  have hsl:(bM k.toNat).length=k.toNat:=by unfold bM;simp
  obtain⟨hi,⟨c,rfl⟩|⟨c,rfl⟩|⟨c,rfl⟩⟩:=Du hh.len hp h
  ·simp
  ·rw[Aj];lia
  ·lia
 so:=λi L h=>by
  have pF:(bM k.toNat).Pairwise (·<·):=by
   unfold bM;rw[GK];exact Qn.imp λ{a b} h=>by lia
  obtain⟨hi,⟨c,rfl⟩|⟨c,rfl⟩|⟨c,rfl⟩⟩:=Du hh.len hp h
  ·simp
  ·exact pF.drop
  ·exact pF
theorem X6{p:Nat}{g:Nat->Int}(hh:gj n k d ps hs)(hp:p<hs.length):nD (λi=>aU i ps) (b_ k d) (qU n k hs p) g↔nD (λi=>aU i ps) (b_ k d) (iM n k) g/\(∀i,i<p->g i=at' hs i)/\at' hs p<g p:=by
 have hlp:=hh.lo _ (Gg (fs:=hs) (j:=p) gV gV);have hl:=hh.len
 constructor
 ·intro s;have m1:∀i,i<p->g i=at' hs i:=λi hi=>sW.mp (s.mem i _ (P_ hp hi));have m2:=(Qc gV).mp (s.mem p _ (Qa hp));have ex:∀i,i<n.toNat->∃L,(qU n k hs p)[i]?=some (some L):=λi hi=>by
   rcases GP i p with c|c|c
   ·exact⟨_,P_ hp c⟩
   ·subst c;exact⟨_,Qa hp⟩
   ·exact⟨_,X5 hp c hi⟩
  refine⟨⟨λi L e=>?_,λi e L M h1 h2 he=>?_⟩,m1,by lia⟩
  ·obtain⟨hi,rfl⟩:=z_ e;obtain⟨L,hL⟩:=ex i hi;have:=s.mem i L hL;obtain⟨_,⟨c,rfl⟩|⟨c,rfl⟩|⟨c,rfl⟩⟩:=Du hl hp hL
   ·rw[sW] at this;have:=hh.lo _ (Gg (fs:=hs) (j:=i) gV gV);exact bJ.mpr gV
   ·have:=(Qc gV).mp this;exact bJ.mpr gV
   ·exact this
  ·obtain⟨hi,_⟩:=z_ h1;obtain⟨hj,_⟩:=z_ h2;obtain⟨L',hL⟩:=ex i hi;obtain⟨M',hM⟩:=ex e hj;exact s.fit i e L' M' hL hM he
 ·rintro⟨s,m1,m2⟩;refine⟨λi L e=>?_,λi e L M h1 h2 he=>?_⟩
  ·obtain⟨hi,⟨c,rfl⟩|⟨c,rfl⟩|⟨c,rfl⟩⟩:=Du hl hp e
   ·rw[m1 i c];simp
   ·have:=bJ.mp (s.mem i _ (Aa hi));subst c;exact(Qc gV).mpr gV
   ·exact s.mem i _ (Aa hi)
  ·exact s.fit i e _ _ (Aa (Du hl hp h1).1) (Aa (Du hl hp h2).1) he
theorem Gs:∀{a b:List Int},a.length=b.length->(ltI a b=true↔∃p:Nat,p<a.length/\(∀i:Nat,i<p->at' b i=at' a i)/\at' a p<at' b p)
 |[],[],_=>⟨λh=>(by cases h),λ⟨p,h,_⟩=>absurd h (Mf p)⟩
 |[],_::_,h=>by cases h
 |_::_,[],h=>by cases h
 |x::a,y::b,h=>by
  have ih:=Gs (a:=a) (b:=b) (Nat.succ.inj h);have s:∀(z:Int) (l:List Int) (i:Nat),at' (z::l) ((i+1:Nat):Int)=at' l i:=λz l i=>rfl;show (if x=y then ltI a b else decide (x<y))=true↔_;by_cases e:x=y
  ·subst e;rw[if_pos rfl,ih]
   constructor
   ·rintro⟨p,h1,h2,h3⟩;refine⟨p+1,Nat.succ_lt_succ h1,λi hi=>?_,by rw[s,s];exact h3⟩;cases i with
    |zero=>rfl
    |succ i=>rw[s,s];exact h2 i gV
   ·rintro⟨p,h1,h2,h3⟩;cases p with
    |zero=>exact absurd h3 (Int.lt_irrefl x)
    |succ p=>
     refine⟨p,Nat.lt_of_succ_lt_succ h1,λi hi=>?_,by rw[s,s] at h3;exact h3⟩;have:=h2 (i+1) gV;rw[s,s] at this;exact this
  ·rw[if_neg e,Ai]
   constructor
   ·intro h;exact⟨0,DY _,λi hi=>absurd hi (Mf i),h⟩
   ·rintro⟨p,h1,h2,h3⟩;cases p with
    |zero=>exact h3
    |succ p=>exact absurd (h2 0 (DY p)).symm e
end
section
variable {n k d:Int}{ps:List (Int×Int)}{hs:List Int}
theorem zkU{k':Nat}{F:Fr}(h:Web n ps)(hd:1<=d)(Dr:d<=k)(hk:k<=24)(fv:Fv n.toNat k.toNat F)(all:∀i,i<n.toNat->∃L,F[i]?=some (some L))(hz:cnt k.toNat n.toNat+k.toNat*cnt k.toNat (n.toNat-1)+tot k.toNat (n.toNat-1)<sizeLine) :
  W (call aq T (k'+39) true 28 [.d (VN n.toNat k.toNat (λi=>aU i ps) (b_ k d)),.d (.fl (F.map aX))]) [] λv s=>(v=.d .non/\¬Sat (λi=>aU i ps) (b_ k d) F)\/∃hs:List Int,v=.d (.tup (hs.map .int))/\hs.length=n.toNat/\nD (λi=>aU i ps) (b_ k d) F (λj=>at' hs j)/\∀g,nD (λi=>aU i ps) (b_ k d) F g->∀j,j<n.toNat->(∀t,t<j->g t=at' hs t)->at' hs j<=g j:=by
 have h1:=h.h1;have h8:=h.h8;have lv:k'+39=3*n.toNat+5+(k'+34-3*n.toNat):=by lia
 rw[lv];have B:=zi4 h hd hk;have kI:1<=k.toNat:=by lia
 have cO:∀t a b:Int,0<=a->a<(k.toNat:Nat)->0<=b->b<(k.toNat:Nat)->b_ k d ((a+t)%(k.toNat:Nat)) ((b+t)%(k.toNat:Nat))=b_ k d a b:=λt a b a0 ak b0 bk=>by rw[show ((k.toNat:Nat):Int)=k by lia] at *;exact zha hd t a b a0 ak b0 bk
 have Cy:unset F<=n.toNat:=by rw[<-fv.len];exact Qp
 obtain⟨m,hm⟩ : ∃m,n.toNat=m+1:=⟨n.toNat-1,by lia⟩;have em:n.toNat-1=m:=by lia
 rw[em] at hz;refine zg6 (c0:=cnt k.toNat n.toNat) (c1:=k.toNat*cnt k.toNat m) B kI (λ_=>cO) fv all (by rw[em];exact hz) ?_ (λkvs L hL qd ha hl=>?_)
 ·have:=Gp (al:=true) B kI (λ_=>cO) n.toNat (k'+34-3*n.toNat) F [] fv Cy (λF d e=>by cases e) (by simp;lia);simpa using this
 ·refine PN (m:=m) B ?_ fv gV hL ha gV;rw[show 3*n.toNat+1+(k'+34-3*n.toNat)+2=3*m+4+(k'+33-3*m) by lia];exact Gp B kI (λ_=>cO) m _
theorem zh3{α:Type}{xs:List α}{p:Nat}(h:p<=xs.length):cut xs none (some (p:Int))=xs.take p:=by
 unfold cut;rw[HT.mK,HT.jW,Nat.min_eq_left h];simp
theorem ziw{α:Type}{xs:List α}{a:Int}(h0:0<=a)(h:a<=xs.length):cut xs (some a) none=xs.drop a.toNat:=by
 obtain⟨p,rfl⟩:=wH h0;unfold cut;rw[HT.mK,HT.jW,Nat.min_eq_left gV,oV,List.take_of_length_le Zaa]
theorem KaR{aq:Nat->Nat->Bool}{aj:Bool}{F:Fn}{J:Vs}{s:S}{a:E}{P:Src×Nat->S->Prop}(h:W (ev aq aj F a J) s λx s1=>W (Mi.int x) s1 λi s2=>fj i=true/\P (.fix (gb 0 i).reverse,(gb 0 i).reverse.length) s2):W (mZ aq aj F (.Jo a) J) s P:=
 W.bd (h.imp λx s1 h=>W.bd (h.imp λi s2 h=>by rw[if_pos h.1,<-Qw];exact W.ret h.2))
def NoD(n k d:Int)(ps:List (Int×Int))(hs:List Int)(p:Nat):Prop:=∀g,gj n k d ps g->∀q:Nat,p<=q->q<n.toNat->(∀i:Nat,i<q->at' g i=at' hs i)->¬at' hs q<at' g q
def jY(n k d:Int)(ps:List (Int×Int))(hs g:List Int):Prop:=gj n k d ps g/\ltI hs g=true/\∀g',gj n k d ps g'->ltI hs g'=true->ltI g' g=false
theorem ze9{k':Nat}(h:Web n ps)(hr:1<=d/\d<=k/\k<=24)(hh:gj n k d ps hs)(hz:cnt k.toNat n.toNat+k.toNat*cnt k.toNat (n.toNat-1)+tot k.toNat (n.toNat-1)<sizeLine) :
  W (call aq T (k'+40) true 27 [.d (bG n ps),.d (aK k d),.d (.tup (hs.map .int))]) [] λv s=>(v=.d .non/\∀g,gj n k d ps g->ltI hs g=false)\/∃g,v=.d (.tup (g.map .int))/\jY n k d ps hs g:=by
 have h1:=h.h1;have h8:=h.h8;have hl:=hh.len;have qb:(1000:Nat)<=sizeLine:=by decide
 have ew:bG n ps=.tup [.int n,.tup (ps.map dj)]:=rfl;have hok:=VB (k:=k) (d:=d) (ps:=ps) hl hh.lo;refine W.call WL rfl ?_;unfold O9;refine Y ?_;refine W.c1 (zoN h hr (dZ.mpr λy hy=>by obtain⟨i,_,rfl⟩:=jO.mp hy;rfl) (λxs e=>by cases e;rw[bI];lia) (by rw[hok];unfold lA;exact dZ.mpr λp hp=>dB (hh.fit p hp))) λ_=>?_;refine Y ?_;refine W.c0 (zgj h hr.1 hr.2.1 hr.2.2) ?_;refine Y ?_;refine KaR ?_;refine Y ?_;refine⟨kE gV gV,?_⟩;refine Oq (λi J s=>s=[]/\(∃(a4 a5 a6 a7 a8:Option Xv),J=[some (.d (bG n ps)),some (.d (aK k d)),some (.d (.tup (hs.map .int))),some (.d (VN n.toNat k.toNat (λi=>aU i ps) (b_ k d))),a4,a5,a6,a7,a8])/\i<=n.toNat/\NoD n k d ps hs (n.toNat-i)) ⟨rfl,⟨_,_,_,_,_,rfl⟩,by lia,λg _ q h1 h2=>by lia⟩ (λi x J s e hI=>?_) (λJ s hI=>?_)
 ·obtain⟨rfl,⟨a4,a5,a6,a7,a8,rfl⟩,iy,hI⟩:=hI;rw[Oh] at e;split at e
  ·rename_i hi;cases e;obtain⟨p,hp⟩ : ∃p:Nat,(n.toNat:Int)-1-i=p:=⟨n.toNat-1-i,by lia⟩;rw[hp];have hpl:p<hs.length:=by lia
   have hlp:=hh.lo _ (Gg (fs:=hs) (j:=p) gV gV);refine Y ?_;have ct:cut (hs.map D.int) none (some (p:Int))=(hs.take p).map .int:=by rw[zh3 (by rw[bI];lia),List.map_take]
   refine lY (l:=hs.take p) (f:=D.int) (λx=>some (aX (some [x]))) (by rw[vU];lia) ?_ (λx hx=>?_) ?_
   ·refine Y ?_;rw[ct];exact⟨rfl,rfl⟩
   ·refine Y ?_;refine⟨rfl,λ_=>?_,λhb=>by cases hb⟩;refine Y ?_;exact⟨rfl,_,rfl,rfl⟩
   refine Y ?_;refine cM (Gh gV gV) ?_;refine Y ?_;have hsl:((bM k.toNat).map D.int).length=k.toNat:=by unfold bM;simp
   have cd:cut ((bM k.toNat).map D.int) (some (at' hs p+1)) none=((bM k.toNat).drop (at' hs p+1).toNat).map .int:=by rw[ziw gV (by rw[hsl];lia),List.map_drop]
   rw[cd];refine lY (l:=List.range (n-((p:Int)+1)).toNat) (f:=λ(j:Nat)=>.int ((p:Int)+1+j)) (λ_=>some (aX (some (bM k.toNat)))) (by rw[lE];lia) ?_ (λx hx=>?_) ?_
   ·refine Y ?_;refine⟨by rw[kE gV gV,kE gV gV];rfl,?_⟩;exact⟨rfl,rfl⟩
   ·refine Y ?_;refine⟨rfl,λ_=>?_,λhb=>by cases hb⟩;refine Y ?_;exact⟨rfl,_,rfl,rfl⟩
   refine Y ?_;refine sE (yC (by rw[o7,bI,vU];show _+1<=_;lia)) ?_;refine Y ?_;refine sE (yC (by rw[o7,o7,h_,bI,bI,lE,vU];show _+1+_<=_;lia)) ?_;refine Y ?_;have eF:(hs.take p).filterMap (λx=>some (aX (some [x])))++[.tup (((bM k.toNat).drop (at' hs p+1).toNat).map .int)]++(List.range (n-((p:Int)+1)).toNat).filterMap (λ(_:Nat)=>some (aX (some (bM k.toNat))))=(qU n k hs p).map aX:=by
    unfold qU;rw[o7,o7,vW,vW,En,List.map_replicate,show (n-((p:Int)+1)).toNat=n.toNat-(p+1) by lia]
    congr 1
    rw[List.map_const',lE]
   rw[eF];refine W.bR rfl ((zkU h hr.1 hr.2.1 hr.2.2 (zo8 hh hr.2.2 hpl) (λj hj=>by
    rcases GP j p with c|c|c
    ·exact⟨_,P_ hpl c⟩
    ·subst c;exact⟨_,Qa hpl⟩
    ·exact⟨_,X5 hpl c hj⟩) hz).imp λv s hv=>?_)
   rcases hv with ⟨rfl,uz⟩|⟨g,rfl,jL,Ds,Ke⟩
   ·refine⟨_,rfl,?_⟩;refine Y ?_;refine .inl ⟨_,rfl,rfl,⟨_,_,_,_,_,rfl⟩,by lia,λg hg q q1 q2 q3 q4=>?_⟩;by_cases e:q=p
    ·subst e;exact uz ⟨λj=>at' g j,(X6 hh hpl).mpr ⟨O4 h hr.1 hg,λj hj=>q3 j hj,q4⟩⟩
    ·exact hI g hg q gV q2 q3 q4
   ·obtain⟨s1,s2,s3⟩:=(X6 hh hpl).mp Ds;have hg:=zeL h jL s1;refine⟨_,rfl,?_⟩;refine Y ?_;refine .inr ⟨_,rfl,.inr ⟨g,rfl,hg,(Gs gV).mpr ⟨p,hpl,s2,s3⟩,λg' rZ dF=>?_⟩⟩;have aad:=rZ.len;obtain⟨q,q1,q2,q3⟩:=(Gs gV).mp dF;cases e:ltI g' g with
    |false=>rfl
    |true=>
     exfalso
     obtain⟨r,r1,r2,r3⟩:=(Gs gV).mp e;have hqp:q<=p:=by
      rcases Nat.lt_or_ge p q with c|c
      ·exact absurd q3 (hI g' rZ q gV gV q2)
      ·exact c
     by_cases c:q=p
     ·subst c;have:=Ke (λj=>at' g' j) ((X6 hh hpl).mpr ⟨O4 h hr.1 rZ,λj hj=>q2 j hj,q3⟩) r gV λt ht=>(r2 t ht).symm
      lia
     ·rcases GP r q with z|z|z
      ·have:=q2 r z;have:=s2 r gV
       lia
      ·subst z;have:=s2 r gV
       lia
      ·have:=r2 q z;have:=s2 q gV
       lia
  ·cases e
 ·obtain⟨rfl,⟨a4,a5,a6,a7,a8,rfl⟩,iy,hI⟩:=hI;rw[Qw,Oo,show (n-0).toNat=n.toNat by lia,Nat.sub_self] at hI;refine Y ?_;refine .inl ⟨rfl,λg hg=>?_⟩;cases e:ltI hs g with
  |false=>rfl
  |true=>
   have jL:=hg.len;obtain⟨q,q1,q2,q3⟩:=(Gs gV).mp e;exact absurd q3 (hI g hg q (vX _) gV q2)
end
section
variable {n k d:Int}{ps:List (Int×Int)}{hs:List Int}
theorem zet{k:Nat}:∀{m:Nat} {r:List Int},r.length=m->(∀x∈r,0<=x/\x<k)->r∈allR k m
 |0,r,h,_=>by rw[List.length_eq_zero_iff.mp h];exact sW.mpr rfl
 |m+1,r,h,hx=>by
  rcases List.eq_nil_or_concat r with rfl|⟨e,x,rfl⟩
  ·cases h
  ·rw[List.concat_eq_append] at h hx ⊢;exact List.mem_flatMap.mpr ⟨e,zet (by simpa using h) λy hy=>hx y (Gx _ hy),jO.mpr ⟨x,bJ.mpr (hx x Zaa),rfl⟩⟩
theorem zec{k:Nat}:∀m,(allR k m).Pairwise RLt
 |0=>List.pairwise_singleton ..
 |m+1=>by
  unfold allR;rw[List.pairwise_flatMap];refine⟨λr hr=>?_,(zec m).imp_of_mem λ{r s} hr hs h a ha b hb=>?_⟩
  ·rw[GK];have pF:(bM k).Pairwise (·<·):=by
    unfold bM;rw[GK];exact Qn.imp λ{a b} h=>by lia
   refine pF.imp λ{x y} h=>?_;show ltI _ _=true;rw[zf4];show (if x=y then _ else decide (x<y))=true;rw[if_neg gV];exact dB h
  ·obtain⟨x,_,rfl⟩:=jO.mp ha;obtain⟨y,_,rfl⟩:=jO.mp hb;exact zf8 (by rw[(La hr).1,(La hs).1]) h
structure sU(n k d:Int)(ps:List (Int×Int))(G:List (List Int)):Prop where
 inc:G.Pairwise RLt
 mem:∀r,r∈G↔gj n k d ps r
theorem zor(w:Web n ps)(hk:1<=k):sU n k d ps (grows k d ps [[]] n.toNat) where
 inc:=by rw[zhp w];exact(zec _).filter _
 mem:=λr=>by
  have h1:=w.h1;rw[zhp w,qg]
  constructor
  ·rintro⟨a,b⟩;obtain⟨c,e⟩:=La a;exact⟨by lia,λx hx=>by have:=e x hx;lia,λp hp=>fO (dZ.mp b p hp)⟩
  ·intro h;have:=h.len;exact⟨zet gV λx hx=>by have:=h.lo x hx;lia,dZ.mpr λp hp=>dB (h.fit p hp)⟩
variable {G:List (List Int)}
noncomputable def cell(G:List (List Int))(i:Nat):D:=match G[i]? with
 |some r=>cI r
 |none=>.non
theorem zhe{i:Nat}(h:i<=G.length):(G.map cI++[D.non])[i]?=some (cell G i):=by
 unfold cell;rcases Nat.lt_or_ge i G.length with c|c
 ·rw[lD (by rw[bI];exact c),gC,cX c];rfl
 ·have:i=G.length:=by lia
  subst this;rw[nF (by rw[bI];exact bK _),bI,Nat.sub_self,yH (bK _)];rfl
theorem Lp(A:sU n k d ps G){i j:Nat}(hi:i<G.length)(hj:j<G.length):ltI G[i] G[j]=true↔i<j:=by
 have p:=Qd.mp A.inc;rcases GP i j with c|c|c
 ·exact⟨λ_=>c,λ_=>p i j hi hj c⟩
 ·subst c;rw[V0];exact⟨λh=>(by cases h),λh=>absurd h (qj _)⟩
 ·have:=p j i hj hi c;rw[zmx this];exact⟨λh=>(by cases h),λh=>by lia⟩
theorem znT(A:sU n k d ps G){i:Nat}(hi:i<G.length){v:Xv}(h:(v=.d .non/\∀g,gj n k d ps g->ltI G[i] g=false)\/∃g,v=.d (.tup (g.map .int))/\jY n k d ps G[i] g):v=.d (cell G (i+1)):=by
 rcases h with ⟨rfl,h⟩|⟨g,rfl,hg,hl,hm⟩
 ·rcases Nat.lt_or_ge (i+1) G.length with c|c
  ·have:=h G[i+1] ((A.mem _).mp (vV _));rw[(Lp A hi c).mpr gV] at this;cases this
  ·unfold cell;rw[yH c]
 ·obtain⟨j,hj,rfl⟩:=sV ((A.mem g).mpr hg);have hij:=(Lp A hi hj).mp hl;have c:i+1<G.length:=by lia
  have:=hm G[i+1] ((A.mem _).mp (vV _)) ((Lp A hi c).mpr gV);have hji:¬i+1<j:=λz=>by rw[(Lp A c hj).mpr z] at this;cases this
  have:j=i+1:=by lia
  subst this;unfold cell;rw[cX hj];rfl
theorem zln(A:sU n k d ps G){v:Xv}(h:(v=.d .non/\∀hs,¬gj n k d ps hs)\/∃hs,v=.d (.tup (hs.map .int))/\gj n k d ps hs/\∀g,gj n k d ps g->Ge g hs):v=.d (cell G 0):=by
 rcases h with ⟨rfl,h⟩|⟨hs,rfl,hh,hg⟩
 ·cases G with
  |nil=>rfl
  |cons r G=>exact absurd ((A.mem r).mp Zaa) (h r)
 ·obtain⟨j,hj,rfl⟩:=sV ((A.mem hs).mpr hh);have h0:0<G.length:=by lia
  have:=hg G[0] ((A.mem _).mp (vV _));have hj0:j=0:=by
   rcases Nat.eq_zero_or_pos j with c|c
   ·exact c
   ·exfalso
    have l1:=hh.len;have l2:=((A.mem G[0]).mp (vV _)).len;obtain⟨p,p1,p2,p3⟩:=(Gs gV).mp ((Lp A h0 hj).mpr c);have:=this p gV λi hi=>(p2 i hi).symm
    lia
  subst hj0;unfold cell;rw[cX hj];rfl
end
theorem small{n k:Int}(h5:n<=5)(hk:k<=7):cnt k.toNat n.toNat+k.toNat*cnt k.toNat (n.toNat-1)+tot k.toNat (n.toNat-1)<sizeLine:=by
 have h1:=O5 (k:=k.toNat) (k2:=7) (m:=n.toNat) (m2:=5) gV gV;have h2:=O5 (k:=k.toNat) (k2:=7) (m:=n.toNat-1) (m2:=4) gV gV;have h3:=zek (k:=k.toNat) (k2:=7) (m:=n.toNat-1) (m2:=4) gV gV;have h4:k.toNat*cnt k.toNat (n.toNat-1)<=7*cnt 7 4:=G4 gV h2;have e:cnt 7 5+7*cnt 7 4+tot 7 4<sizeLine:=by decide
 lia
theorem Dv{n k:Int}(h5:n<=5)(hk:k<=7):1+cnt k.toNat (n.toNat-1)+cnt k.toNat (n.toNat-1)+tot k.toNat (n.toNat-1)<sizeLine:=by
 have h2:=O5 (k:=k.toNat) (k2:=7) (m:=n.toNat-1) (m2:=4) gV gV;have h3:=zek (k:=k.toNat) (k2:=7) (m:=n.toNat-1) (m2:=4) gV gV;have e:1+cnt 7 4+cnt 7 4+tot 7 4<sizeLine:=by decide
 lia
theorem zph{xs:List D}:prim .ne [.fl xs,.fl []]=some (.dat (.bl (!xs.isEmpty))):=by
 cases xs with
 |nil=>rfl
 |cons x r=>rfl
theorem zgC{a:Int}{n:Nat}:(rG a n).length=n:=by unfold rG;simp
theorem zgW{a:Int}{n:Nat}{x:D}(h:x∈rG a n):∃j:Nat,x=.int (a+j)/\j<n:=by
 unfold rG at h;obtain⟨j,hj,rfl⟩:=jO.mp h;exact⟨j,rfl,tY.mp hj⟩
section
variable {n k d:Int}{ps:List (Int×Int)}{G:List (List Int)}
theorem zoc{k':Nat}{x:D}(h:Web n ps)(hr:1<=d/\d<=k/\k<=24)(hx:qe x)(hb:wD n k d ps x=false):W (call aq T (k'+10) true 47 [.d (bG n ps),.d (aK k d),.d x]) [] λv s=>v=.d (.str "hues"):=by
 refine W.call WT rfl ?_;unfold Pb;refine WS.cons (KbA ?_);refine Oi (Kbm (c:=2) (fs:=[]) ?_ λs'=>⟨⟨_,_,_,rfl⟩,_,_,_,rfl,rfl,?_⟩)
 ·refine Kbc ?_;refine Y ?_;refine WR.bR rfl ?_;refine WR.call WL rfl ?_;unfold O9;refine WE.ex (Kbc ?_);refine Y ?_;exact WR.bR rfl (zkr h hr hx.1 (λxs e=>by have:=hx.2 xs e;lia) hb)
 ·exact⟨.rt (.d (.str "hues")),s',rfl,⟨_,rfl⟩,rfl⟩
theorem zi9{k' i:Nat}(h:Web n ps)(hr:1<=d/\d<=k/\k<=7)(h5:n<=5)(A:sU n k d ps G)(hi:i<G.length):W (call aq T (k'+41) true 47 [.d (bG n ps),.d (aK k d),.d (cI G[i])]) [] λv s=>v=.d (cell G (i+1)):=by
 refine W.call WT rfl ?_;unfold Pb;refine WS.cons (Kbz ?_);unfold cI;refine Y ?_;refine W.bR rfl ((ze9 h ⟨hr.1,hr.2.1,by lia⟩ ((A.mem _).mp (vV hi)) (small h5 hr.2.2)).imp λv s hv=>?_);have:=znT A hi hv;subst this;refine⟨_,rfl,?_⟩;refine Y ?_;exact⟨⟨_,rfl⟩,rfl⟩
theorem zdv{k' i:Nat}(A:sU n k d ps G)(hn:n<=8):W (call aq T (k'+2) true 46 [.d (cell G i),.d (cell G i)]) [] λv s=>v=.d (.bl true):=by
 unfold cell;cases e:G[i]? with
 |none=>exact ziA
 |some r=>exact zh7 (by have:=((A.mem r).mp (fK e)).len;lia)
end
theorem vL(ns:List Int)(hn:ns.length<=63):∃s',call aq T 60 true 48 [.d (.fl (ns.map D.int))] []=some (.ok (.d (.bl true)),s'):=by
 suffices h:W (call aq T 60 true 48 [.d (.fl (ns.map D.int))]) [] λv _=>v=.d (.bl true) by
  obtain⟨v,s',e,rfl⟩:=h;exact⟨s',e⟩
 have hs:(20000:Nat)<=sizeLine:=by decide
 refine W.call (k:=59) zpV rfl ?_;unfold Wt;refine Y ?_;refine W.bR rfl ((zmS (k:=58)).imp λv _=>?_);rintro⟨n0,rfl⟩;refine⟨_,rfl,?_⟩;refine Y ?_;refine sE (yC ?_) ?_
 ·have:=zkh (ns:=ns) (lo:=some 1) (hi:=some 3);show 1+_<=_
  lia
 refine Y ?_;refine wz (λ_ J s=>∃(a b c d e f g h i:Option Xv),J=[some (.d (.fl (ns.map D.int))),a,b,c,d,e,f,g,h,i]) ⟨_,_,_,_,_,_,_,_,_,rfl⟩ (λi x J s hx Dw=>?_) (λJ s Dw=>?_)
 ·obtain⟨m,rfl⟩ : ∃m,x=.int m:=by
   rcases kO.mp (fK hx) with z|z
   ·rcases gF.mp z with rfl|z
    ·exact⟨_,rfl⟩
    ·cases z
   ·exact zkO z
  obtain⟨a,b,c,d,e,f,g,h',i',rfl⟩:=Dw;refine Y ?_;refine Kap rfl ((zo5 (k:=58)).imp λv s1=>?_);rintro⟨j0,o,rfl,hj,hp⟩;refine⟨j0,o,rfl,hj,?_⟩;refine Y ?_;refine KaA hp gV gV λz o1 hz hp=>?_;refine Y ?_;refine vB rfl ((zhT (k:=57) hp (n:=1+(z:Int)) gV gV).imp λv s1=>?_);rintro⟨ps,o2,rfl,rfl,hw,hp⟩;refine⟨_,_,rfl,rfl,?_⟩;refine Y ?_;refine vB rfl ((zld (k':=57) hp).imp λv s1=>?_);rintro⟨kk,dd,o3,rfl,rfl,hr,hp⟩;refine⟨_,_,rfl,rfl,?_⟩;have h18:1<=1+(z:Int)/\1+(z:Int)<=4:=by lia
  generalize 1+(z:Int)=q at hw h18;refine Y ?_;refine Kap rfl ((zpx (k':=57) hw ⟨by lia,by lia⟩ gV).imp λv s1=>?_);rintro⟨j,oo,rfl,hj,rfl⟩;refine⟨j,_,rfl,hj,?_⟩;have A:=zor (d:=dd) hw (show 1<=kk by lia);have hGl:(grows kk dd ps [[]] q.toNat).length<=2401:=by
   have p7:∀i,i<=4->7^i<=2401:=by decide
   exact jo (zeN hw _) (jo (Nat.pow_le_pow_left gV _) (p7 _ gV))
  generalize grows kk dd ps [[]] q.toNat=G at A hGl;refine Y ?_;refine W.bR rfl ((zd3 (k':=19) hw hr.1 hr.2.1 gV (Dv gV hr.2.2)).imp λv s1 hv=>?_);have:=zln A hv;subst this;refine⟨_,rfl,?_⟩;refine Y ?_;refine sE (yC (by rw[bI];show _+1<=_;lia)) ?_;refine Y ?_;refine cM (qP (j:=0) gV (zhe (G:=G) (i:=0) gV)) ?_;refine Y ?_;refine W.c0 (zdv (k':=57) A gV) ?_;refine Y ?_;refine Oz rfl ((X3 (k:=58) hp (m:=((G.map cI).length:Nat)+1) gV (by rw[bI];lia)).imp λv s1=>?_);rintro⟨_,o4,rfl,rfl,⟨fr,rfl,hf0,hf1⟩,hp⟩;refine⟨_,_,rfl,rfl,?_⟩;rw[bI] at hf1;obtain⟨fr,rfl⟩:=wH hf0;have e1:(s++[o3]).length=s.length+1:=by simp
  rw[e1];refine Y ?_;refine yx Dm ?_;refine Y ?_;rw[bI];have hm:∃u:Nat,(if (G.length:Int)<4 then (G.length:Int) else 4)=u/\u<=G.length:=by
   by_cases c:(G.length:Int)<4
   ·exact⟨G.length,by rw[if_pos c],bK _⟩
   ·exact⟨4,by rw[if_neg c];rfl,by lia⟩
  obtain⟨u,eu,hu⟩:=hm;rw[eu];refine sE (zlx (dB gV)) ?_;refine Y ?_;have hm:∃y:Int,(if (G.length:Int)<(fr:Int)+9 then (G.length:Int) else (fr:Int)+9)=y/\y<=G.length/\0<=y:=by
   by_cases c:(G.length:Int)<(fr:Int)+9
   ·exact⟨G.length,by rw[if_pos c],by lia⟩
   ·exact⟨(fr:Int)+9,by rw[if_neg c],by lia⟩
  obtain⟨y,ey,hy⟩:=hm;refine yx Dm (Kv (cM (d:=.int G.length) (by show some (Rz.dat (.int ((G.map cI).length:Nat)))=_;rw[bI]) (Vg (Gd (Gb (Gd (Gb (Kv (cM (d:=.int y) (by show some (Rz.dat (.int (if (G.length:Int)<(fr:Int)+9 then (G.length:Int) else (fr:Int)+9)))=_;rw[ey]) (Vg (Gd (Gb (Gd (Gb (Kv (sE (zn1 (dB gV)) ?_))))))))))))))));refine Y ?_;refine sE (yC (by rw[zgC,zgC];lia)) ?_;refine Y ?_;refine wz (λ_ J s'=>∃t:Option Xv,s'=s++[o4]++[.lst (G.map cI)]/\J=[some (.d (.fl (ns.map D.int))),some (.d (.int m)),some (.l s.length),some (.d (bG q ps)),some (.d (aK kk dd)),some (.l (s.length+1)),some (.d (.int fr)),t,h',i']) ⟨_,rfl,rfl⟩ (λi x J s' e hI=>?_) (λJ s' hI=>?_)
  ·obtain⟨t,rfl,rfl⟩:=hI;obtain⟨j,rfl,hj⟩ : ∃j:Nat,x=.int j/\j<G.length:=by
    rcases kO.mp (fK e) with z|z
    ·obtain⟨j,rfl,hj⟩:=zgW z;exact⟨j,by rw[Int.zero_add],by lia⟩
    ·obtain⟨j,rfl,hj⟩:=zgW z;exact⟨fr+j,by rw[Int.natCast_add],by lia⟩
   refine Y ?_;refine yx Dm ?_;refine Y ?_;refine cM (qP (j:=(j:Int)) (x:=cI G[j]) gV (by rw[oV,gC,cX hj];rfl)) ?_;refine Y ?_;refine W.c0 (zi9 (k':=18) hw hr gV A hj) ?_;refine Y ?_;refine yx Dm ?_;refine Y ?_;refine sE (yC (by rw[bI];show _+1<=_;lia)) ?_;refine Y ?_;refine cM (qP (j:=(j:Int)+1) (x:=cell G (j+1)) gV (by rw[show ((j:Int)+1).toNat=j+1 by lia];exact zhe gV)) ?_;refine Y ?_;refine W.c0 (zdv (k':=57) A gV) ?_;refine Y ?_;exact⟨_,rfl,_,rfl,rfl⟩
  obtain⟨t0,rfl,rfl⟩:=hI;refine Y ?_;refine yx Dm (Gd (Gb (Kv (cM zph (W.bool ?_)))));refine W.imp (P:=λx s1=>x=.d (.bl false)/\s1=s++[o4]++[.lst (G.map cI)]) ?_ (λx s1 hx=>?_)
  ·by_cases hG:G=[]
   ·subst hG;exact W.ret ⟨rfl,rfl⟩
   ·have hg1:G.length-1<G.length:=by have:=List.length_pos_iff.mpr hG;lia
    rw[if_pos (by cases G with
     |nil=>exact absurd rfl hG
     |cons _ _=>rfl)]
    refine Y ?_;refine yx Dm ?_;refine Y ?_;refine cM (zoh (j:=-1) (x:=cI G[G.length-1]) gV (by rw[bI];lia) (by rw[bI,show ((-1:Int)+(G.length:Nat)).toNat=G.length-1 by lia,gC,cX hg1];rfl)) ?_;refine Y ?_;refine W.c0 (zi9 (k':=18) hw hr gV A hg1) ?_;have e0:cell G (G.length-1+1)=.non:=by
     unfold cell;rw[yH gV]
    rw[e0];refine Y ?_;exact⟨rfl,rfl⟩
  obtain⟨rfl,rfl⟩:=hx;refine Y ?_;refine cM (zjb gV) ?_;refine Y ?_;refine yx Dm ?_;refine Y ?_;refine sE (yC (by rw[bI];show _+1<=_;lia)) ?_;obtain⟨rr,er,hrr⟩ : ∃rr:List Int,(G.map cI++[D.tup ((List.replicate q.toNat (0:Int)).map .int)])[fr]?=some (.tup (rr.map .int))/\rr.length<=8:=by
   by_cases c:fr<G.length
   ·refine⟨G[fr],?_,?_⟩
    ·rw[lD (by rw[bI];exact c),gC,cX c];rfl
    ·have:=((A.mem _).mp (vV c)).len;lia
   ·refine⟨List.replicate q.toNat 0,?_,by rw[DG];lia⟩;rw[nF (by rw[bI];lia),bI,show fr-G.length=0 by lia];rfl
  refine Y ?_;refine cM (qP (j:=(fr:Int)) gV er) ?_;refine Y ?_;refine Oz rfl ((zov (k:=57) hp).imp λv s1=>?_);rintro⟨od,o5,rfl,rfl,hod,hp⟩;refine⟨_,_,rfl,rfl,?_⟩;refine Y ?_;refine cM (zjb gV) ?_;refine Y ?_;refine Kau (c:=gb 0 4) (λj acc s'=>∃(o':SO),s'=s++[o']++[.lst (G.map cI)]/\nO o'/\(∀y∈acc,qe y)/\acc.length=j) ?_ (λj x acc s' e hJ=>?_) (λacc s' hJ=>?_)
  ·refine Y ?_;exact⟨rfl,rfl,_,rfl,hp,(λy hy=>by cases hy),rfl⟩
  ·obtain⟨o',rfl,hp,X7,X8⟩:=hJ;obtain⟨rfl,hj4⟩:=Vp e;refine Y ?_;refine⟨λ_=>?_,λhb=>by cases hb⟩;refine Y ?_;refine Oz rfl ((zk9 (k':=57) hp (row:=rr.map .int) (kk:=kk) (by rw[bI];exact hrr) (λy hy=>by obtain⟨_,_,rfl⟩:=jO.mp hy;rfl) gV gV).imp λv s1=>?_);rintro⟨bd,o8,rfl,rfl,hbd,hp⟩;refine⟨_,_,rfl,rfl,?_⟩;refine Y ?_;refine⟨_,rfl,by lia,o8,rfl,hp,λy hy=>?_,by rw[h_];show _+1=_;lia⟩;rcases kO.mp hy with hy|hy
   ·exact X7 y hy
   ·rw[show y=bd by simpa using hy];exact hbd
  obtain⟨o6,rfl,hp,X7,X8⟩:=hJ;rw[Oo] at X8;have aae:acc.length=4:=X8;refine Y ?_;refine sE (yC (by show 3+_<=_;lia)) ?_;refine Y ?_;refine wz (λ_ J s'=>∃t:Option Xv,J=[some (.d (.fl (ns.map D.int))),some (.d (.int m)),some (.l s.length),some (.d (bG q ps)),some (.d (aK kk dd)),some (.l (s.length+1)),some (.d (.int fr)),t0,some (.d (.tup (rr.map .int))),t]) ⟨_,rfl⟩ (λi x J s' e hI=>?_) (λJ s' hI=>?_)
  ·obtain⟨t,rfl⟩:=hI;have hx:qe x:=by
    rcases kO.mp (fK e) with z|z
    ·simp only[gF,Ed,Aw] at z;rcases z with rfl|rfl|rfl
     ·exact zmD hod
     ·exact⟨rfl,λxs e=>by cases e⟩
     ·exact zgi (by rw[DG];lia)
    ·exact X7 x z
   refine Y ?_;refine W.c0 (zfe (k':=56) hw hx.1 (λxs e=>by have:=hx.2 xs e;lia)) ?_;cases hb:wD q kk dd ps x
   ·refine Y ?_;refine W.c0 (zoc (k':=49) hw ⟨hr.1,hr.2.1,by lia⟩ hx hb) ?_;refine Y ?_;exact⟨_,rfl,_,rfl⟩
   ·refine Y ?_;exact⟨_,rfl,_,rfl⟩
  obtain⟨t,rfl⟩:=hI;refine Y ?_;exact⟨_,rfl,_,_,_,_,_,_,_,_,_,rfl⟩
 ·obtain⟨a,b,c,d,e,f,g,h',i',rfl⟩:=Dw;exact Y trivial
end eU
end Lake
open Lake
open PySem PySem.W PyProof.Rows
set_option maxRecDepth 100000 in
set_option maxHeartbeats 0 in
theorem PySem.Challenge.cw_ringhues_k10_next_hues_holds : PySem.Challenge.rw_ringhues_k10_next_hues.Holds := by
 refine PySem.W.holds_law eU.ws λsaid=>?_;refine holds_open (q:=eU.qv) (loose:=eU.loose) (Xt:=λs=>xlAt eU.qv [] s&&recOk [] s) (XP:=XL eU.qv []) (Yf:=(Mi.lZ eU.fs eU.ms eU.xs eU.lk eU.bd).obs) (Ya:=(Mi.lZ eU.fs eU.ms eU.xs eU.lk eU.bd).val) (YP:=(Mi.lZ eU.fs eU.ms eU.xs eU.lk eU.bd).says) (N:=20000) eU.left (Mi.lZ eU.fs eU.ms eU.xs eU.lk eU.bd).of (Mi.lZ eU.fs eU.ms eU.xs eU.lk eU.bd).keeps (λs e=>xl_of s (Qq.mp e).1) XL.keeps (by rfl) (by rfl) (by rfl) (λs e=>recFacts_of (Qq.mp e).2) (by rfl) said eU.wc ⟨rfl,rfl,rfl,rfl,rfl,eU.wt⟩ ?hw ?hc
 case hw=>w_witness2
 case hc=>exact Mi.K3 (l:=PySem.Challenge.rw_ringhues_k10_next_hues) (x:="_law_script") (k:=60) rfl rfl ⟨by decide,by decide,rfl⟩ (λw K mg fa h S X G XM=>eU.all_mk eU.vL S X G XM)
