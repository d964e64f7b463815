import PyProof.Rows.All
import Wide.All
import KE.KIsAll
import KE.KSortTup
import KE.KTryDeep
import KE.KDictOf
import KE.KFromBytes
import Wide.FinOn
import PySem.Challenge.RW_ringhues_k14_found_refused
set_option compiler.extract_closed false
theorem gV{p:Prop}(h:p:=by lia):p:=h
theorem Bd{p:Prop}(h:p:=by decide +kernel):p:=h
theorem UJ{p:Prop}(h:p:=by decide):p:=h
theorem Zaa{p:Prop}(h:p:=by simp):p:=h
abbrev au:=@PySem.wpAny_bind
abbrev bU:=@PySem.Heap.get?_push_of_some
abbrev aJ:=@PySem.wpAny_pure
abbrev bZ:=@List.length_map
abbrev fH:=@List.getElem?_eq_getElem
abbrev dN:=@List.mem_cons_of_mem
abbrev cG:=@Bool.and_eq_true
abbrev dh:=@List.size_toArray
abbrev bM:=@PySem.Heap.lt_size
abbrev dO:=@List.mem_cons_self
abbrev cT:=@Option.some.inj
abbrev cU:=@decide_eq_false
abbrev jt:=@List.getElem?_eq_some_iff
abbrev fK:=@List.length_append
abbrev cH:=@List.mem_cons
abbrev gD:=@List.mem_of_getElem?
abbrev bV:=@Nat.le_refl
abbrev kY:=@List.getD_eq_getElem?_getD
abbrev gF:=@PySem.Heap.get?_push_size
abbrev gj:=@Nat.lt_of_lt_of_le
abbrev cR:=@Nat.ne_of_lt
abbrev dR:=@decide_eq_true
abbrev fX:=@List.all_eq_true
abbrev jd:=@Bool.false_eq_true
abbrev gK:=@List.mem_append
abbrev oE:=@List.getElem?_append_right
abbrev ju:=@List.getElem?_map
abbrev je:=@List.length_cons
abbrev m9:=@Option.map_eq_some_iff
abbrev pQ:=@List.getElem?_append_left
abbrev pR:=@List.getElem?_eq_none_iff
abbrev oF:=@List.mem_append_right
abbrev gG:=@List.mem_map
abbrev lO:=@of_decide_eq_true
abbrev rF:=@List.pairwise_iff_getElem
abbrev wg:=@PyProof.Rows.slot_tuple_getitem
abbrev jw:=@PySem.wpAny_holding
abbrev mY:=@List.lookup_cons
abbrev mZ:=@List.not_mem_nil
abbrev jG:=@List.all_cons
abbrev nZ:=@PySem.wpAny_newObj_type
abbrev kh:=@List.map_cons
abbrev oG:=@PySem.wpAny_truthy_bool
abbrev m_:=@List.map_append
abbrev rG:=@List.mem_append_left
abbrev rH:=@List.getElem?_set_ne
abbrev sJ:=@PySem.Heap.get?_update_self
abbrev vg:=@PySem.Heap.get?_update_other
abbrev iM:=@beq_iff_eq
abbrev qJ:=@Nat.lt_succ_of_lt
abbrev wj:=@Option.bind_eq_some_iff
abbrev m5:=@Nat.lt_irrefl
abbrev oH:=@List.length_set
abbrev kj:=@PySem.wpAny_field
abbrev sO:=@List.mem_map_of_mem
abbrev jf:=@PySem.wpAny_mono
abbrev lQ:=@List.map_map
abbrev qK:=@List.getElem_mem
abbrev Ab:=@List.nodup_iff_pairwise_ne
abbrev yx:=@PySem.wpAny_callSpecial?_slot
abbrev rJ:=@PySem.wpAny_call_entry
abbrev sS:=@List.pairwise_map
abbrev yC:=@List.getElem?_set_self
abbrev n8:=@Nat.le_trans
abbrev rK:=@List.length_nil
abbrev rM:=@List.nodup_cons
abbrev Dy:=@Array.getElem?_eq_some_iff
abbrev yD:=@List.mem_iff_getElem
abbrev wk:=@PySem.Obj.data_mapFields
abbrev rN:=@PySem.Heap.size_push
abbrev iQ:=@if_false
abbrev yE:=@List.replicate_succ
abbrev wu:=@PySem.wpAny_setState_of
abbrev oJ:=@Nat.zero_le
abbrev Ga:=@PyProof.Rows.callWith_type1
abbrev oK:=@PySem.sizeLine_eq
abbrev wz:=@decide_eq_decide
abbrev Gb:=@PySem.F.excBase_ValueError
abbrev Ac:=@Array.length_toList
abbrev yF:=@Int.toNat_natCast
abbrev Ad:=@PySem.Heap.SameBut.update
abbrev vh:=@List.mem_range
abbrev vm:=@PySem.wpAny_seqItems
abbrev Gd:=@Array.getElem?_eq_getElem
abbrev Ae:=@List.pairwise_cons
abbrev yG:=@List.length_take
abbrev yH:=@beq_self_eq_true
abbrev Dz:=@PySem.Heap.get?_none_of_le
abbrev vo:=@PySem.wpAny_standAt
abbrev Oc:=@PyProof.Rows.F.plain_set_update_loop
abbrev Af:=@PySem.wpAny_loadPart_at
abbrev DG:=@PySem.mem_of_lookup
abbrev DK:=@List.getElem_of_mem
abbrev lR:=@or_false
abbrev KD:=@PySem.F.slot_tuple_iterator_next
abbrev vp:=@Nat.ne_of_gt
abbrev Ge:=@List.length_replicate
abbrev DN:=@List.zip_cons_cons
abbrev DP:=@PySem.wpAny_setField_rec
abbrev Gf:=@List.getElem?_toArray
abbrev wA:=@Bool.not_true
abbrev yI:=@PySem.wpAny_setField
abbrev Gg:=@PySem.wpAny_loadName_local
abbrev Gh:=@List.pairwise_append
abbrev Ag:=@List.append_nil
abbrev DQ:=@PySem.Value.isInt_shape
abbrev DR:=@bne_self_eq_false
abbrev DW:=@List.append_assoc
abbrev DX:=@decide_eq_true_eq
abbrev Gi:=@List.filterMap_cons
abbrev KH:=@List.getElem?_replicate
abbrev KJ:=@decide_eq_false_iff_not
abbrev Gj:=@List.map_congr_left
abbrev Ah:=@Bool.false_and
abbrev Ai:=@Bool.and_false
abbrev Gk:=@PySem.wpAny_Call_Name_kw
abbrev yJ:=@Nat.le_of_lt
abbrev yK:=@PySem.wpAny_typeOf
abbrev KN:=@PySem.Obj.isFreed_of_fields
abbrev KQ:=@List.getElem?_eq_none
abbrev DY:=@PySem.codeAny_builtin
abbrev yL:=@PySem.F.called_set
abbrev D_:=@List.nodup_nil
abbrev Wy:=@PyProof.Rows.F.entry_set_update_loop
abbrev qL:=@congrArg
abbrev Gm:=@List.length_drop
abbrev Gn:=@Nat.le_of_not_lt
abbrev KR:=@PySem.wpAny_isSubtype_exc
abbrev KY:=@PySem.Heap.get?_update_ne
abbrev Od:=@Option.isSome_iff_exists
abbrev Oe:=@PySem.F.args_tuple_add_2
abbrev Gp:=@PySem.wpAny_passesOwn
abbrev Og:=@PySem.F.entry_tuple_add
abbrev Ed:=@PySem.wpAny_attempt
abbrev Gq:=@List.forIn_cons
abbrev KZ:=@PySem.Code.quiet_builtin
abbrev Oh:=@Int.eq_ofNat_of_zero_le
abbrev Gs:=@PySem.wpAny_ite_false
abbrev Oi:=@PySem.W.cellsFrom_some
abbrev Oj:=@PySem.F.slot_tuple_add
abbrev Ol:=@List.range_succ_eq_map
abbrev yM:=@PySem.call_meets
abbrev yN:=@PySem.wpAny_call
abbrev K1:=@Bool.not_eq_true'
abbrev Aj:=@PySem.wpAny_of_eq
abbrev K3:=@PySem.Heap.get?_push_ne
abbrev K4:=@List.reverse_cons
abbrev K5:=@List.nodup_append
abbrev K6:=@List.flatten_cons
abbrev Ef:=@PySem.W.looks_findIn
abbrev Om:=@Nat.le_of_ble_eq_true
abbrev Eh:=@List.all_map
abbrev Ej:=@Nat.lt_or_ge
abbrev Oo:=@List.take_append_drop
abbrev Oq:=@Array.getElem?_toList
abbrev K7:=@Nat.zero_lt_succ
abbrev K8:=@PySem.wpAny_forIn_list
abbrev K9:=@List.take_length
abbrev K_:=@PySem.F.slot_tuple_mul
abbrev Ot:=@Bool.and_eq_true_iff
abbrev Ou:=@PySem.Calls.evalArgs_plain
abbrev Ov:=@PySem.codeAny_call_builtin
abbrev Ow:=@PySem.wpAny_updateSeq_pair
abbrev Ox:=@PySem.Around.under_plainId
abbrev Ak:=@PySem.wpAny_Name
abbrev Ld:=@PySem.wpAny_execs_nil
abbrev Le:=@List.of_mem_zip
abbrev Lf:=@PySem.F.slot_zip_next
abbrev Lg:=@PySem.F.slot_int_rmul
abbrev Oz:=@List.mem_filterMap
abbrev Gu:=@PySem.codeAny_mono
abbrev OD:=@List.contains_cons
abbrev OJ:=@List.mem_singleton
abbrev Lh:=@List.forIn_nil
abbrev Li:=@Nat.mul_le_mul
abbrev O1:=@Bool.eq_false_iff
abbrev Ek:=@PySem.wpAny_rule
abbrev O2:=@List.getElem?_inj
abbrev O4:=@Nat.lt_trichotomy
abbrev Gv:=@Nat.not_lt
set_option Elab.async false
set_option linter.all false
set_option maxRecDepth 100000
set_option maxHeartbeats 4000000
namespace L2
open PySem PySem.Spec PyProof.Rows PySem.W
noncomputable def subIn(K:W.Frag)(C D:Addr):Bool:=PySem.W.ktsIn K C "BaseException"&&PySem.W.ktsIn K D "BaseException"&&match K.lookup C with
 |some ⟨_,_,.cls cd,_⟩=>cd.mro.contains (.ref D)
 |_=>false
noncomputable def qM:List Value:=[.type "ValueError",.type "Exception",.type "BaseException",.type "object"]
noncomputable def bA:List Value->Bool
 |.ref _::r=>bA r
 |l=>l==qM
noncomputable def jH(K:Frag)(C fI:Addr):Bool:=match K.lookup C with
 |some ⟨.type "type",_,.cls cd,sl⟩=>(match cd.mro,sl.toList with
  |.ref C'::bm,[_,_,_,_,some (.builtin n),_]=>C'==C&&n=="ValueError.__new__" && !cd.hasDel&&tailIn K qM bm&&nsOkIn K cd.ns&&nsIn K cd.ns "__init__"==some (some (.ref fI))
  |_,_=>false)
 |_=>false
noncomputable def aV(s:Stmt):Arguments:=match s with
 |.FunctionDef _ a _ _ _ _ _ _ _ _=>a
 |_=>{posonlyargs:=[],args:=[],vararg:=none,kwonlyargs:=[],kw_defaults:=[],kwarg:=none,defaults:=[]}
noncomputable def aM(s:Stmt):List Stmt:=match s with
 |.FunctionDef _ _ b _ _ _ _ _ _ _=>b
 |_=>[]
noncomputable def aA(s:Stmt):Scope:=match s with
 |.FunctionDef _ _ _ _ _ _ sc _ _ _=>sc
 |_=>{kind:=.function,names:=[],isGenerator:=false,isCoroutine:=false}
end L2
namespace Mi
open PySem PySem.Spec PyProof.Rows L2 PySem.W
noncomputable def n_(n c:Nat):Nat:=if c<n then c else 0
noncomputable def jJ(n c e:Nat):Bool:=n_ n e==0||n_ n c==n_ n e
noncomputable def dI(L:List Addr)(c:Nat):Addr:=L.getD (n_ L.length c) 0
noncomputable def Lj(K:W.Frag)(C:Addr):Bool:=
 PySem.W.findIn K (.ref C) "__getattribute__"==some (some (.builtin "BaseException.__getattribute__"))&&PySem.W.findIn K (.ref C) "__getattr__"==some none&&PySem.W.findIn K (.ref C) "__class__"==some (some (.builtin "object.__class__")) &&
 PySem.W.mroIn K C (.type "BaseException")==some true&&PySem.W.mroIn K C (.type "object")==some true&&(PySem.W.clsIn K C).isSome &&
 PySem.W.specialIn K (.builtin "object.__class__") "__get__"==some (some (.builtin "getset_descriptor.__get__"))&&PySem.W.takesIn K (.builtin "object.__class__")==some true
noncomputable def pU(K:W.Frag)(L:List Addr):Bool:=(List.range L.length).all λc=>Lj K (L.getD c 0)&&PySem.W.kitOne K (.ref (L.getD c 0)) (.type "ValueError")==some true &&
 (List.range L.length).all λe=>PySem.W.kitOne K (.ref (L.getD c 0)) (.ref (L.getD e 0))==some (jJ L.length c e)
noncomputable def subB(K:W.Frag)(L:List Addr)(d:Nat):Bool:=(List.range L.length).all λc=>!(jJ L.length c d)||L2.subIn K (L.getD c 0) (dI L d)
noncomputable def rO(fd:FuncData):FuncData:={fd with kwdefaults:=.none,doc:=.none,pyModule:=.none,annotations:=none,code:=.none,closureTuple:=.none}
noncomputable def vq(x:Str)(st:Stmt):FuncData:=fnOf x x (aV st) (aM st) (aA st) .none .none .none .none none .none .none
noncomputable def Al(K:Frag)(x:Str):Option (Addr×FuncData):=match nsIn K mainGlobals x with
 |some (some (.ref f))=>(match K.lookup f with
  |some ⟨_,_,.func fd,_⟩=>(match codeIn K fd.code x&&keepIn K (.ref f) with
   |true=>some (f,fd)
   |false=>none)
  |_=>none)
 |_=>none
noncomputable def Am(K:Frag)(x:Str):Addr:=match nsIn K mainGlobals x with
 |some (some (.ref C))=>C
 |_=>0
noncomputable def wB(K:Frag)(x:Str):Bool:=match nsIn K mainGlobals x with
 |some (some (.ref _))=>true
 |_=>false
noncomputable def lU(K:Frag)(p:Str×Int):Bool:=match nsIn K mainGlobals p.1 with
 |some (some (.int i _))=>decide (i=p.2)
 |_=>false
noncomputable def pW(K:Frag)(x:Str):Bool:=match nsIn K mainGlobals x with
 |some none=>true
 |_=>false
noncomputable def Gw(K:Frag)(C:Addr):Bool:=excIn K C [.type "ValueError",.type "Exception",.type "BaseException",.type "object"] "ValueError.__new__"
structure Lk where
 Gx:List Str
 yO:List (Str×Int)
 Wz:List Str
 WD:List Nat
 WK:List Nat
noncomputable def Lk.L(l:Lk)(K:Frag):List Addr:=l.Gx.map (Am K)
noncomputable def Lk.good(l:Lk)(K:Frag):Bool:=
 l.Gx.all (wB K)&&(l.Gx.isEmpty||pU K (l.L K))&&l.WD.all (λk=>Gw K (dI (l.L K) k))&&l.WK.all (λk=>subB K (l.L K) k)&&l.yO.all (lU K)&&l.Wz.all (pW K)
noncomputable def pX(h:Heap):List Addr->Frag
 |[]=>[]
 |a::r=>match h.get? a with
  |some o=>(a,o)::pX h r
  |none=>pX h r
noncomputable def wC(s:Stmt):List Stmt:=match s with
 |.ClassDef _ _ _ b _ _ _ _ _ _ _=>b
 |_=>[]
noncomputable def Ao(q:Str)(st:Stmt):FuncData:=fnOf "__init__" q (aV st) (aM st) (aA st) .none .none .none .none none .none .none
noncomputable def Gy(K:Frag)(C:Addr):Option FuncData:=match clsIn K C with
 |some cd=>(match nsIn K cd.ns "__init__" with
  |some (some (.ref f))=>(match K.lookup f with
   |some ⟨.type "function",_,.func fd,_⟩=>(match codeIn K fd.code fd.qualname&&jH K C f&&bA cd.mro&&cd.hasDict with
    |true=>some fd
    |false=>none)
   |_=>none)
  |_=>none)
 |none=>none
noncomputable def setB(K:Frag)(C:Addr)(fs:List Str):Bool:=findIn K (.ref C) "__setattr__"==some (some (.builtin "object.__setattr__"))&&fs.all (λf=>findIn K (.ref C) f==some none)
noncomputable def Ln(K:Frag)(C:Addr)(f:Str):Bool:=findIn K (.ref C) "__getattribute__"==some (some (.builtin "BaseException.__getattribute__"))&&findIn K (.ref C) "__getattr__"==some none&&mroIn K C (.type "BaseException")==some true&&findIn K (.ref C) f==some none&&hasDictIn K C
structure wD where
 c:Nat
 q:Str
 st:Stmt
 fs:List Str
noncomputable def Gz:Nat->List Obj->Frag
 |_,[]=>[]
 |i,o::r=>match o.isFreed with
  |true=>Gz (i+1) r
  |false=>(i,o)::Gz (i+1) r
noncomputable def cg(h:Heap):Frag:=pX h [mainGlobals]++(Gz 0 h.objs.toList).reverse
noncomputable def qN(fs:List (Str×Stmt))(ms:List wD)(xs:List (Nat×Str))(l:Lk)(s:Shared):List (Option FuncData)×List (Option FuncData)×Bool:=
 (fs.map (λp=>(Al (cg s.heap) p.1).map (λq=>rO q.2)),ms.map (λm=>(Gy (cg s.heap) (dI (l.L (cg s.heap)) m.c)).map rO),
  l.good (cg s.heap)&&ms.all (λm=>setB (cg s.heap) (dI (l.L (cg s.heap)) m.c) m.fs)&&xs.all (λx=>Ln (cg s.heap) (dI (l.L (cg s.heap)) x.1) x.2))
noncomputable def sU(fs:List (Str×Stmt))(ms:List wD)(w:World):List (Option FuncData)×List (Option FuncData)×Bool:=(fs.map (λp=>some (vq p.1 p.2)),ms.map (λm=>some (Ao m.q m.st)),true)
noncomputable def Lp(fs:List (Str×Stmt))(s:Shared):List (Option FuncData):=fs.map (λp=>(Al (cg s.heap) p.1).map (λq=>rO q.2))
noncomputable def WL(ms:List wD)(xs:List (Nat×Str))(l:Lk)(s:Shared):List (Option FuncData)×Bool:=(ms.map (λm=>(Gy (cg s.heap) (dI (l.L (cg s.heap)) m.c)).map rO),
  l.good (cg s.heap)&&ms.all (λm=>setB (cg s.heap) (dI (l.L (cg s.heap)) m.c) m.fs)&&xs.all (λx=>Ln (cg s.heap) (dI (l.L (cg s.heap)) x.1) x.2))
theorem zeK{p q:Program}{loose:List Str}{Xt:Shared->Bool}{N:Nat}{fs1 qO:List (Str×Stmt)}{ms:List wD}{xs:List (Nat×Str)}{l:Lk}
  (a:∀w,(openEnds treeTable p w N).map (λs=>openSeen q loose (importedModules p.main.body) Xt true s)=some (openGood q loose))
  (b1:∀w,(openEnds treeTable p w N).map (Lp fs1)=some (fs1.map λp=>some (vq p.1 p.2)))
  (b2:∀w,(openEnds treeTable p w N).map (Lp qO)=some (qO.map λp=>some (vq p.1 p.2)))
  (c:∀w,(openEnds treeTable p w N).map (WL ms xs l)=some (ms.map (λm=>some (Ao m.q m.st)),true)):LeftO p q loose Xt (qN (fs1++qO) ms xs l) (sU (fs1++qO) ms) N:=by
 intro w;have a:=a w;have b1:=b1 w;have b2:=b2 w;have c:=c w;cases e:openEnds treeTable p w N with
 |none=>rw[e] at a;cases a
 |some s=>
  rw[e] at a b1 b2 c;have a:openSeen q loose (importedModules p.main.body) Xt true s=openGood q loose:=cT a;have b1:=cT b1;have b2:=cT b2;have c:=cT c;have c1:=qL Prod.fst c;have c2:=qL Prod.snd c;show some (_,qN (fs1++qO) ms xs l s)=_;rw[a];have:qN (fs1++qO) ms xs l s=sU (fs1++qO) ms w:=by
   unfold qN sU;rw[m_,m_];have b1:List.map _ fs1=List.map _ fs1:=b1;have b2:List.map _ qO=List.map _ qO:=b2;rw[b1,b2];exact Prod.ext rfl (Prod.ext c1 c2)
  rw[this]
inductive Tr where
 |em
 |lv (o:Obj)
 |nd (l r:Tr)
noncomputable def Tr.lf(t:Tr):Tr:=Tr.rec (motive:=λ_=>Tr) .em (λ_=>.em) (λl _ _ _=>l) t
noncomputable def Tr.rt(t:Tr):Tr:=Tr.rec (motive:=λ_=>Tr) .em (λ_=>.em) (λ_ r _ _=>r) t
noncomputable def Tr.get(d:Nat):Tr->Nat->Option Obj:=Nat.rec (motive:=λ_=>Tr->Nat->Option Obj) (λt _=>Tr.rec (motive:=λ_=>Option Obj) none (λo=>some o) (λ_ _ _ _=>none) t)
 (λ_ f t a=>cond (Nat.beq (Nat.mod a 2) 0) (f t.lf (Nat.div a 2)) (f t.rt (Nat.div a 2))) d
noncomputable def Tr.put(d:Nat):Tr->Nat->Obj->Tr:=Nat.rec (motive:=λ_=>Tr->Nat->Obj->Tr) (λ_ _ o=>.lv o)
 (λ_ f t a o=>cond (Nat.beq (Nat.mod a 2) 0) (.nd (f t.lf (Nat.div a 2) o) t.rt) (.nd t.lf (f t.rt (Nat.div a 2) o))) d
theorem O5(a:Nat):(Nat.beq (a%2) 0=true/\a%2=0)\/(Nat.beq (a%2) 0=false/\a%2=1):=by
 rcases(show a%2=0\/a%2=1 by lia) with e|e<;>rw[e]
 ·exact .inl ⟨rfl,rfl⟩
 ·exact .inr ⟨rfl,rfl⟩
theorem O6(o:Obj):∀(d:Nat) (t:Tr) (a:Nat),Tr.get d (Tr.put d t a o) a=some o
 |0,_,_=>rfl
 |d+1,t,a=>by
  have ih:=O6 o d;show cond (Nat.beq (a%2) 0) (Tr.get d (Tr.lf (cond (Nat.beq (a%2) 0) _ _)) (a/2)) (Tr.get d (Tr.rt (cond (Nat.beq (a%2) 0) _ _)) (a/2))=_;rcases O5 a with ⟨e,_⟩|⟨e,_⟩<;>rw[e]
  ·exact ih t.lf (a/2)
  ·exact ih t.rt (a/2)
theorem O7(o:Obj):∀(d:Nat) (t:Tr) (a b:Nat),a<2^d->b<2^d->a≠b->Tr.get d (Tr.put d t a o) b=Tr.get d t b
 |0,_,a,b,h1,h2,h=>by lia
 |d+1,t,a,b,h1,h2,h=>by
  have ih:=O7 o d;show cond (Nat.beq (b%2) 0) (Tr.get d (Tr.lf (cond (Nat.beq (a%2) 0) _ _)) (b/2)) (Tr.get d (Tr.rt (cond (Nat.beq (a%2) 0) _ _)) (b/2))=cond (Nat.beq (b%2) 0) _ _;rw[Nat.pow_succ] at h1 h2;rcases O5 a with ⟨e,x⟩|⟨e,x⟩<;>rw[e]<;>rcases O5 b with ⟨f,y⟩|⟨f,y⟩<;>rw[f]
  ·exact ih t.lf (a/2) (b/2) gV gV gV
  ·rfl
  ·rfl
  ·exact ih t.rt (a/2) (b/2) gV gV gV
noncomputable def ali(o:Option Obj):Option Obj:=match o with
 |some ⟨_,_,.freed,_⟩=>none
 |o=>o
noncomputable def oM(t:Tr)(z a:Nat):Option Obj:=cond (Nat.ble (Nat.succ a) z) (ali (t.get 12 a)) none
structure Rl(t:Tr)(z:Nat)(h:Heap):Prop where
 sz:h.objs.size=z
 le:z<=4096
 at_:∀a,a<z->t.get 12 a=h.objs[a]?
theorem Rl.get{t:Tr}{z:Nat}{h:Heap}(r:Rl t z h)(a:Nat):oM t z a=h.get? a:=by
 unfold oM Heap.get?;by_cases e:a<z
 ·rw[show Nat.ble (Nat.succ a) z=true from Nat.ble_eq.mpr e,r.at_ a e];rfl
 ·rw[show Nat.ble (Nat.succ a) z=false from O1.mpr λx=>e (Nat.ble_eq.mp x)];have:h.objs[a]?=none:=by simp only[Array.getElem?_eq_none_iff,r.sz];lia
  rw[this];rfl
theorem Rl.push{t:Tr}{z:Nat}{h:Heap}(r:Rl t z h)(o:Obj)(hz:z<4096):Rl (t.put 12 z o) (z+1) (h.push o):=by
 obtain⟨objs,l⟩:=h;obtain⟨sz,le,at_⟩:=r;dsimp only at sz at_;refine⟨by show (objs.push o).size=_;rw[Array.size_push,sz],hz,λa ha=>?_⟩;show _=(objs.push o)[a]?;by_cases e:a=z
 ·subst e;rw[O6,Array.getElem?_push,if_pos sz.symm]
 ·rw[O7 o 12 t z a hz (by show a<4096;lia) (Ne.symm e),at_ a gV,Array.getElem?_push,if_neg gV]
theorem Rl.upd{t:Tr}{z:Nat}{h:Heap}(r:Rl t z h){a:Nat}{o:Obj}{f:Obj->Obj}(ho:h.get? a=some o):Rl (t.put 12 a (f o)) z (h.update a f):=by
 have ha:h.objs[a]?=some o:=(Heap.get?_some_iff.mp ho).1;obtain⟨objs,l⟩:=h;obtain⟨sz,le,at_⟩:=r;dsimp only at sz at_ ha;have hl:a<objs.size:=(Dy.mp ha).1;refine⟨by show (objs.modify a f).size=_;rw[Array.size_modify,sz],le,λb hb=>?_⟩;show _=(objs.modify a f)[b]?;rw[Array.getElem?_modify];by_cases e:a=b
 ·subst e;rw[O6,if_pos rfl,ha];rfl
 ·rw[O7 _ 12 t a b (by show a<4096;lia) (by show b<4096;lia) e,at_ b hb,if_neg e]
noncomputable def WM:Sem Fin->Bool
 |.load ..=>true
 |.update ..=>true
 |.alloc ..=>true
 |.loadIfAlive ..=>true
 |_=>false
theorem zhw{den:Code->Sem Fin}{p:Program}{w:World}{h:Heap}{s s':Shared}{t t':Thread}(hn:WM t.cur=false)(e:step den p w s t=.go s' t'):step den p w {s with heap:=h} t=.go {s' with heap:=h} t':=by
 obtain⟨heap,gens,drawn,toks,os⟩:=s;obtain⟨cur,code,pos,stack⟩:=t;cases cur<;>simp only[step,finish] at e ⊢<;>(repeat' split at e)<;>first|(cases hn;done)|(cases e;done)|(cases e;rfl)|(cases e;simp_all;done)
noncomputable def lV(tb:String->Option Builtin)(p:Program)(w:World)(n₀:Nat)(ann:Option Value):Nat->Tr->Nat->Shared->Thread->Option (Tr×Nat×Shared)
 |0,_,_,_,_=>none
 |m+1,t,z,s,th=>match through th with
  |true=>some (t,z,s)
  |false=>match stepOk n₀ ann th with
   |false=>none
   |true=>match th with
    |⟨cur,code,pos,stack⟩=>match cur with
     |.load a _ k=>(match oM t z a with
      |some o=>lV tb p w n₀ ann m t z s ⟨k o,code,pos,stack⟩
      |none=>none)
     |.loadIfAlive a k=>lV tb p w n₀ ann m t z s ⟨k (oM t z a),code,pos,stack⟩
     |.update a _ f k=>(match oM t z a with
      |some o=>lV tb p w n₀ ann m (t.put 12 a (f o)) z s ⟨k (),code,pos,stack⟩
      |none=>none)
     |.alloc o k=>(match Nat.succ z with
      |0=>none
      |n+1=>match Nat.ble n 4095 with
       |true=>lV tb p w n₀ ann m (t.put 12 n o) (n+1) s ⟨k n,code,pos,stack⟩
       |false=>none)
     |c=>match step (denote tb) p w s ⟨c,code,pos,stack⟩ with
      |.go s' t'=>lV tb p w n₀ ann m t z s' t'
      |.halt _ _=>none
theorem WQ{tb:String->Option Builtin}{p:Program}{w:World}{n₀:Nat}{ann:Option Value}:∀(m:Nat) {t t':Tr} {z z':Nat} {s s':Shared} {th:Thread} {h:Heap},Rl t z h->lV tb p w n₀ ann m t z s th=some (t',z',s')->
  ∃h',Rl t' z' h'/\h'.life=h.life/\topRun tb p w n₀ ann m {s with heap:=h} th=some {s' with heap:=h'}
 |0,_,_,_,_,_,_,_,_,_,e=>by cases e
 |m+1,t,t',z,z',s,s',th,h,r,e=>by
  have ih:=@WQ tb p w n₀ ann m;unfold lV at e;unfold topRun;cases ht:through th with
  |true=>
   rw[ht] at e;cases e;exact⟨h,r,rfl,rfl⟩
  |false=>
   rw[ht] at e;cases hk:stepOk n₀ ann th with
   |false=>rw[hk] at e;cases e
   |true=>
    rw[hk] at e;dsimp only at e ⊢;obtain⟨cur,code,pos,stack⟩:=th;by_cases hn:WM cur=false
    ·have key:(match step (denote tb) p w s ⟨cur,code,pos,stack⟩ with
       |.go s' t'=>lV tb p w n₀ ann m t z s' t'
       |.halt _ _=>none)=some (t',z',s')->∃h',Rl t' z' h'/\h'.life=h.life/\(match step (denote tb) p w {s with heap:=h} ⟨cur,code,pos,stack⟩ with
        |.go s' t'=>topRun tb p w n₀ ann m s' t'
        |.halt _ _=>none)=some {s' with heap:=h'}:=λe2=>by
      cases hs:step (denote tb) p w s ⟨cur,code,pos,stack⟩ with
      |halt _ _=>rw[hs] at e2;cases e2
      |go s1 t1=>
       rw[hs] at e2;obtain⟨h',a,b,c⟩:=ih (h:=h) r e2;exact⟨h',a,b,by rw[zhw (h:=h) hn hs];exact c⟩
     cases cur<;>first|(cases hn;done)|exact key e
    ·cases cur<;>first|exact absurd rfl hn|skip
     case load a q k=>
      dsimp only at e;cases hg:oM t z a with
      |none=>rw[hg] at e;cases e
      |some o=>
       rw[hg] at e;obtain⟨h',a1,b,c⟩:=ih (h:=h) r e;refine⟨h',a1,b,?_⟩;rw[r.get] at hg;simp only[step,hg];exact c
     case loadIfAlive a k=>
      dsimp only at e;obtain⟨h',a1,b,c⟩:=ih (h:=h) r e;rw[r.get] at c;exact⟨h',a1,b,c⟩
     case update a q f k=>
      dsimp only at e;cases hg:oM t z a with
      |none=>rw[hg] at e;cases e
      |some o=>
       rw[hg] at e;rw[r.get] at hg;obtain⟨h',a1,b,c⟩:=ih (h:=h.update a f) (r.upd hg) e;refine⟨h',a1,b.trans (by cases h;rfl),?_⟩;simp only[step,hg];exact c
     case alloc o k=>
      dsimp only at e;cases hb:Nat.ble z 4095 with
      |false=>rw[hb] at e;cases e
      |true=>
       rw[hb] at e;obtain⟨h',a1,b,c⟩:=ih (h:=h.push o) (r.push o (by have:=Nat.ble_eq.mp hb;lia)) e;refine⟨h',a1,b.trans (by cases h;rfl),?_⟩;simp only[step,r.sz];exact c
noncomputable def lst(g:Nat->Option Obj):Nat->Nat->List Obj
 |0,_=>[]
 |n+1,i=>match g i with
  |some o=>o::lst g n (i+1)
  |none=>[]
theorem WT{g:Nat->Option Obj}:∀{l:List Obj} {i:Nat},(∀j,j<l.length->g (i+j)=l[j]?)->lst g l.length i=l
 |[],_,_=>rfl
 |o::l,i,h=>by
  have h0:=h 0 (K7 _);show (match g i with|some o=>o::lst g l.length (i+1)|none=>[])=_;rw[show g i=some o from h0,WT (l:=l) λj hj=>by rw[show i+1+j=i+(j+1) by lia];exact h (j+1) (Nat.succ_lt_succ hj)]
noncomputable def yP(t:Tr)(z:Nat)(l:Life):Heap:=⟨⟨lst (t.get 12) z 0⟩,l⟩
theorem Rl.yP{t:Tr}{z:Nat}{h:Heap}(r:Rl t z h):yP t z h.life=h:=by
 obtain⟨⟨objs⟩,l⟩:=h;have sz:objs.length=z:=r.sz;subst sz;unfold Mi.yP;rw[WT λj hj=>by rw[Nat.zero_add];exact(r.at_ j hj).trans Zaa]
noncomputable def Lq:List Obj->Nat->Tr->Tr
 |[],_,t=>t
 |o::r,i,t=>Lq r (i+1) (t.put 12 i o)
theorem WW{l:Life}:∀{r a:List Obj} {t:Tr},(a++r).length<=4096->Rl t a.length ⟨⟨a⟩,l⟩->Rl (Lq r a.length t) (a++r).length ⟨⟨a++r⟩,l⟩
 |[],a,t,_,h=>by rw[Ag];exact h
 |o::r,a,t,hl,h=>by
  have h2:=h.push o (by rw[fK,je] at hl;lia);have e:a++o::r=(a++[o])++r:=by simp
  rw[e] at hl ⊢;have h3:=WW (l:=l) (r:=r) (a:=a++[o]) (t:=t.put 12 a.length o) hl (by
   rw[fK];have e2:(⟨⟨a++[o]⟩,l⟩ : Heap)=Heap.push ⟨⟨a⟩,l⟩ o:=by unfold Heap.push;simp
   rw[e2];exact h2)
  rw[fK] at h3;exact h3
noncomputable def sV(p:Program)(w:World)(N:Nat):Option Shared:=(fencedOpening treeTable p w N).bind λs₀=>match s₀.heap.isNs mainGlobals&&s₀.gens.size==0&&Nat.ble s₀.heap.objs.size 4096 with
 |true=>(lV treeTable p w s₀.heap.objs.size (s₀.heap.nsMap mainGlobals "__annotations__") N (Lq s₀.heap.objs.toList 0 .em) s₀.heap.objs.size s₀ (topStub p)).bind λr=>
  match staticsOk (importedModules p.main.body) s₀.heap (yP r.1 r.2.1 s₀.heap.life)&&namesBound p (yP r.1 r.2.1 s₀.heap.life)&&gensDone r.2.2&&laidKept s₀.heap (yP r.1 r.2.1 s₀.heap.life) with
   |true=>some {r.2.2 with heap:=yP r.1 r.2.1 s₀.heap.life}
   |false=>none
 |false=>none
theorem zhP{p:Program}{w:World}{N:Nat}{s:Shared}(e:sV p w N=some s):openEnds treeTable p w N=some s:=by
 unfold sV at e;unfold openEnds;obtain⟨s₀,h0,e⟩:=wj.mp e;rw[h0];show topFrom treeTable p w N s₀=some s;unfold topFrom;cases hb:(s₀.heap.isNs mainGlobals&&s₀.gens.size==0&&Nat.ble s₀.heap.objs.size 4096) with
 |false=>rw[hb] at e;cases e
 |true=>
  rw[hb] at e;obtain⟨h1,h2⟩:=Ot.mp hb;rw[h1];obtain⟨⟨t,z,s₁⟩,h3,e⟩:=wj.mp e;have r0:Rl (Lq s₀.heap.objs.toList 0 .em) s₀.heap.objs.size s₀.heap:=WW (l:=s₀.heap.life) (r:=s₀.heap.objs.toList) (a:=[]) (t:=.em) (Nat.ble_eq.mp h2) ⟨rfl,oJ _,λa ha=>absurd ha (Nat.not_lt_zero a)⟩;obtain⟨h',r,l,c⟩:=WQ N r0 h3;dsimp only at e ⊢;rw[show ({s₀ with heap:=s₀.heap}:Shared)=s₀ from rfl] at c;rw[c];rw[<-l,r.yP] at e;exact e
theorem fe{p:Program}{w:World}{N:Nat}{α:Type}{f:Shared->α}{v:α}(e:(sV p w N).map f=some v):(openEnds treeTable p w N).map f=some v:=by
 obtain⟨s,h,e⟩:=m9.mp e;rw[zhP h,<-e];rfl
end Mi
namespace eO
open PySem PySem.Spec PyProof.Rows PySem.W L2 Mi
noncomputable def top(i:Nat):Stmt:=PySem.Challenge.pw_ringhues_k14_found_refused.main.body.getD i (.Pass ⟨0,0,0,0⟩)
noncomputable def fs1:List (Str×Stmt):=("is_whole",top 14)::("is_within",top 15)::("is_row",top 16)::("is_web",top 19)::("is_many",top 20)::("is_place",top 21)::("is_tie",top 22)::("check_web",top 23)::("is_ring",top 31)::("is_spot",top 32)::("check_ring",top 33)::("gap_of",top 34)::("are_spots",top 36)::("are_hues",top 37)::("check_hues",top 38)::("clash_of",top 39)::("first_hues",top 41)::("next_hues",top 42)::("first_known",top 43)::[]
noncomputable def qO:List (Str×Stmt):=("are_known",top 44)::("check_known",top 45)::("none_holds",top 53)::("none_for",top 54)::("_law_cell",top 61)::("_law_pen",top 62)::("_law_draw",top 63)::("_law_whole",top 64)::("_law_odd",top 65)::("_law_kind",top 66)::("_law_size",top 67)::("_law_web",top 68)::("_law_is_web",top 69)::("_law_ring",top 70)::("_law_is_ring",top 71)::("_law_bent_web",top 72)::("_law_bent_ring",top 73)::("_law_said",top 74)::("law",top 75)::[]
noncomputable abbrev fs:List (Str×Stmt):=fs1++qO
noncomputable def lk:Lk:=⟨["HueError","NoRing","NoHues","NoPlace","NoArrows","NoMap","NoPaper","Apart","NoRow","NoWeb","NoText","TooGreat"],[("MOST_PLACES",8),("MOST_SPOTS",24)],["ValueError","abs","all","bool","divmod","int","isinstance","len","list","max","min","range","set","sorted","str","tuple","zip"],[1,2],[0]⟩
noncomputable def oN:Stmt:=(wC (top 10)).getD 0 (.Pass ⟨0,0,0,0⟩)
noncomputable def ms:List wD:=[⟨9,"NoWeb.__init__",oN,["at"]⟩]
noncomputable def xs:List (Nat×Str):=[(9,"at"),(10,"at")]
noncomputable abbrev pv:Program:=PySem.Challenge.pw_ringhues_k14_found_refused
noncomputable def qv:Program:={pv with main:={pv.main with body:=[pv.main.body.getD 75 (.Pass ⟨0,0,0,0⟩)]}}
noncomputable def loose:List Str:=(["HueError","NoRing","NoHues","NoPlace","NoArrows","NoMap","NoPaper","Apart","NoRow","NoWeb","NoText","TooGreat","is_whole","is_within","is_row","MOST_PLACES","is_web","is_many","is_place","is_tie","check_web","tied_to","all_ends","Board","ring_board","MOST_SPOTS","is_ring","is_spot","check_ring","gap_of","are_spots","are_hues","check_hues","clash_of","first_hues","next_hues","first_known","are_known","check_known","first_among","first_spot","can_settle","search","END","CASE","none_holds","none_for","paper_holds","case_holds","is_stuck","paper_of","case_of","_law_cell","_law_pen","_law_draw","_law_whole","_law_odd","_law_kind","_law_size","_law_web","_law_is_web","_law_ring","_law_is_ring","_law_bent_web","_law_bent_ring","_law_said"]:List String).map Str.ofString
theorem zkO(w:World):(openEnds treeTable pv w 20000).map (λs=>openSeen qv loose (importedModules pv.main.body) (λs=>xlAt qv [] s&&recOk [] s) true s)=some (openGood qv loose):=by
 refine fe ?_
 kernel_rfl
theorem zku(w:World):(openEnds treeTable pv w 20000).map (Lp fs1)=some (fs1.map λp=>some (vq p.1 p.2)):=by
 refine fe ?_
 kernel_rfl
theorem zki(w:World):(openEnds treeTable pv w 20000).map (Lp qO)=some (qO.map λp=>some (vq p.1 p.2)):=by
 refine fe ?_
 kernel_rfl
theorem zkf(w:World):(openEnds treeTable pv w 20000).map (WL ms xs lk)=some (ms.map (λm=>some (Ao m.q m.st)),true):=by
 refine fe ?_
 kernel_rfl
theorem ws:PySem.Challenge.rw_ringhues_k14_found_refused.wellSaid=true:=by
 kernel_rfl
theorem left:LeftO pv qv loose (λs=>xlAt qv [] s&&recOk [] s) (qN fs ms xs lk) (sU fs ms) 20000:=zeK zkO zku zki zkf
end eO
namespace L2
open PySem PySem.Spec PyProof.Rows
theorem cY{α:Sort u}{β:Sort v}{A B C:α->β->Prop}{P:Prop}(h:∃x y,A x y/\B x y/\C x y)(k:∀x y,A x y->B x y->C x y->P):P:=by
 obtain⟨x,y,a,b,c⟩:=h;exact k x y a b c
theorem vA{α:Sort u}{β:Sort v}{γ:Sort w}{A B:α->β->Prop}{C D:α->β->γ->Prop}{P:Prop}(h:∃x y,A x y/\B x y/\∃z,C x y z/\D x y z)(k:∀x y,A x y->B x y->∀z,C x y z->D x y z->P):P:=by
 obtain⟨x,y,a,b,z,c,d⟩:=h;exact k x y a b z c d
theorem wF{α:Sort u}{A B:α->Prop}{P:Prop}(h:∃x,A x/\B x)(k:∀x,A x->B x->P):P:=by
 obtain⟨x,a,b⟩:=h;exact k x a b
noncomputable abbrev Key:=Sum Int Str
noncomputable def lB:Key->Value->Bool
 |.inl k,v=>Value.isInt k v
 |.inr x,v=>Value.isStrOf x v
noncomputable def O8(w:World):Key->Int
 |.inl k=>hashInt k
 |.inr x=>hashStr w x
theorem wG:∀{k:Key} {v:Value},lB k v=true->(∃i t,k=Sum.inl i/\v=Value.int i t)\/(∃x t,k=Sum.inr x/\v=Value.str x t)
 |.inl i,v,h=>by
  obtain⟨t,e⟩:=DQ (k:=i) (v:=v) h;exact .inl ⟨i,t,rfl,e⟩
 |.inr x,v,h=>by
  obtain⟨t,e⟩:=Value.isStrOf_shape (x:=x) (v:=v) h;exact .inr ⟨x,t,rfl,e⟩
theorem zfC(i:Int)(t:Tok):lB (.inl i) (.int i t)=true:=by simp[lB,Value.isInt]
theorem zfV(x:Str)(t:Tok):lB (.inr x) (.str x t)=true:=by simp[lB,Value.isStrOf]
theorem zkP(a b:Int):decide ((Sum.inl a:Key)=Sum.inl b)=(a==b):=by
 by_cases e:a=b
 ·subst e;simp
 ·have h:¬(Sum.inl a:Key)=Sum.inl b:=λq=>e (Sum.inl.inj q);rw[cU h];exact(beq_eq_false_iff_ne.mpr e).symm
theorem zlh(a b:Str):decide ((Sum.inr a:Key)=Sum.inr b)=decide (a=b):=by
 by_cases e:a=b
 ·subst e;simp
 ·have h:¬(Sum.inr a:Key)=Sum.inr b:=λq=>e (Sum.inr.inj q);rw[cU h,cU e]
theorem zlg(a:Int)(b:Str):decide ((Sum.inl a:Key)=Sum.inr b)=false:=cU (λq=>nomatch q)
theorem zlA(a:Str)(b:Int):decide ((Sum.inr a:Key)=Sum.inl b)=false:=cU (λq=>nomatch q)
noncomputable def cD(prog:Program)(w:World):PySem.KeyKind prog w Key where
 is:=lB
 hash:=O8 w
 inj:=λv a b ha hb=>by
  rcases wG ha with ⟨i,t,rfl,rfl⟩|⟨x,t,rfl,rfl⟩
  ·rcases wG hb with ⟨j,u,rfl,e⟩|⟨y,u,rfl,e⟩
   ·injection e with e1 _;rw[e1]
   ·exact nomatch e
  ·rcases wG hb with ⟨j,u,rfl,e⟩|⟨y,u,rfl,e⟩
   ·exact nomatch e
   ·injection e with e1 _;rw[e1]
 byValue:=λk v h=>by
  rcases wG h with ⟨i,t,rfl,rfl⟩|⟨x,t,rfl,rfl⟩<;>rfl
 pyHash:=λhv h=>by
  rcases wG hv with ⟨i,t,rfl,rfl⟩|⟨x,t,rfl,rfl⟩
  ·exact wpAny_pyHash_int h
  ·exact wpAny_pyHash_str h
 eqBool:=λhu hv h=>by
  rcases wG hu with ⟨i,t,rfl,rfl⟩|⟨x,t,rfl,rfl⟩
  ·rcases wG hv with ⟨j,u,rfl,rfl⟩|⟨y,u,rfl,rfl⟩
   ·rw[zkP] at h;exact wpAny_eqBool_int h
   ·rw[zlg] at h;exact SeqAt.EqAt.int_str i t y u _ _ _ _ h
  ·rcases wG hv with ⟨j,u,rfl,rfl⟩|⟨y,u,rfl,rfl⟩
   ·rw[zlA] at h;exact SeqAt.EqAt.str_int x t j u _ _ _ _ h
   ·rw[zlh] at h;exact wpAny_eqBool_str h
 «strs»:=λk x t v h=>by
  rcases wG h with ⟨i,u,rfl,e⟩|⟨y,u,rfl,e⟩
  ·exact nomatch e
  ·injection e with e1 _;subst e1;cases v<;>rfl
theorem zdL(prog:Program)(w:World)(i:Int)(t:Tok):(cD prog w).is (.inl i) (.int i t)=true:=zfC i t
theorem zdK(prog:Program)(w:World)(x:Str)(t:Tok):(cD prog w).is (.inr x) (.str x t)=true:=zfV x t
inductive V where
 |non|bl (b:Bool)|int (i:Int)|str (x:Str)|GC (b:Array UInt8)|flt (b:UInt64)|ref (a:Addr)|ty (n:String)
 deriving DecidableEq
noncomputable def RelV:V->Value->Prop
 |.non,u=>u=Value.none
 |.bl b,u=>u=Value.bool b
 |.int i,u=>∃t,u=Value.int i t
 |.str x,u=>∃t,u=Value.str x t
 |.GC b,u=>∃t,u=Value.bytes b t
 |.flt b,u=>∃t,u=Value.float b t
 |.ref a,u=>u=Value.ref a
 |.ty n,u=>u=Value.type n
noncomputable abbrev Vals:List V->List Value->Prop:=Paired RelV
theorem Vals.length{xs:List V}{us:List Value}(r:Vals xs us):xs.length=us.length:=Paired.length r
theorem Vals.get:∀{xs:List V} {us:List Value} {i:Nat} {x:V},Vals xs us->xs[i]?=some x->∃u,us[i]?=some u/\RelV x u
 |_,_,_,_,.nil,e=>by simp at e
 |_,_,0,_,.cons r _,e=>by simp at e;subst e;exact⟨_,rfl,r⟩
 |_,_,i+1,x,.cons _ t,e=>by
  obtain⟨u,h1,h2⟩:=Vals.get (i:=i) (x:=x) t (by simpa using e);exact⟨u,by simpa using h1,h2⟩
theorem Vals.set{x:V}{u:Value}(r:RelV x u):∀{xs:List V} {us:List Value} (i:Nat),Vals xs us->Vals (xs.set i x) (us.set i u)
 |_,_,_,.nil=>.nil
 |_,_,0,.cons _ t=>.cons r t
 |_,_,i+1,.cons q t=>.cons q (Vals.set r i t)
theorem Vals.append{xs ys:List V}{us ws:List Value}(h:Vals xs us)(s:Vals ys ws):Vals (xs++ys) (us++ws):=by
 induction h with
 |nil=>exact s
 |cons r _ ih=>exact .cons r ih
theorem Vals.take:∀{xs:List V} {us:List Value} (n:Nat),Vals xs us->Vals (xs.take n) (us.take n)
 |_,_,0,_=>.nil
 |_,_,_+1,.nil=>.nil
 |_,_,n+1,.cons r t=>.cons r (Vals.take n t)
theorem Vals.drop:∀{xs:List V} {us:List Value} (n:Nat),Vals xs us->Vals (xs.drop n) (us.drop n)
 |_,_,0,r=>r
 |_,_,_+1,.nil=>.nil
 |_,_,n+1,.cons _ t=>Vals.drop n t
noncomputable def Aq:Option V->Option Value->Prop
 |some v,some u=>RelV v u
 |none,none=>True
 |_,_=>False
noncomputable def KV{κ:Type}:List (κ×V)->List (κ×Value)->Prop:=Paired λ(p:κ×V) (q:κ×Value)=>p.1=q.1/\RelV p.2 q.2
noncomputable def kV:Key->V
 |.inl i=>.int i
 |.inr x=>.str x
inductive HO where
 |lst (xs:List V)
 |tup (xs:List V)
 |dK (kvs:List (Key×V))|dT (kvs:List (List Key×V))
 |set (S:Int->Bool) (n:Nat)
 |ins (C dx:Addr) (fs:List (Str×V))
 |own (x:Addr)
 |xd (fs:List (Str×V))
 |met (f x:Addr)
 |rng (lo hi:Int)
 |sW (o:Obj) (u:HO)
 |yQ (ps:Array Value)
 |ext (U:Heap->Prop)
noncomputable abbrev Hp:=Addr->Option HO
noncomputable def upd(H:Hp)(a:Addr)(o:HO):Hp:=λb=>if b=a then some o else H b
theorem kZ{H:Hp}{a:Addr}{o:HO}:upd H a o a=some o:=by unfold upd;rw[if_pos rfl]
theorem dj{H:Hp}{a b:Addr}{o:HO}(h:b≠a):upd H a o b=H b:=by unfold upd;rw[if_neg h]
theorem WX{H:Hp}{a:Addr}{o u:HO}:upd (upd H a o) a u=upd H a u:=by
 funext b;unfold upd;split<;>rfl
theorem El{H:Hp}{a b:Addr}{o:HO}(h:H a=some o)(h':H b=none):a≠b:=by
 intro e;subst e;rw[h] at h';cases h'
section
variable (P:Program)(w:World)
noncomputable def aO(H:Hp)(h:Heap)(a:Addr):HO->Prop
 |.lst xs=>xs.length<=sizeLine/\∃(its:List Value) (n:Nat),Vals xs its/\h.get? a=some {cls:=.type "list",data:=.seq its.toArray n}
 |.tup xs=>xs.length<=sizeLine/\∃its:List Value,Vals xs its/\IsTup h a its.toArray
 |.dK kvs=>kvs.length<=sizeLine/\(a==sysModules)=false/\∃vs,KV kvs vs/\h.DictOf (cD P w) a vs
 |.dT kvs=>kvs.length<=sizeLine/\(a==sysModules)=false/\∃xs:List (List Key×Addr×Value),
   Paired (λ(p:List Key×V) (q:List Key×Addr×Value)=>p.1=q.1/\H q.2.1=some (.tup (p.1.map kV))/\RelV p.2 q.2.2) kvs xs /\
   ∃o es ep,h.get? a=some o/\o.ExactDict/\o.data=.dict es ep/\es.toList=xs.map (entryOfKey (tupleKind (cD P w)))/\(xs.map (·.1)).Nodup
 |.set S n=>h.SetOf (intKind P w) a S n
 |.ins C dx fs=>H dx=some (.own a)/\fs.length<=1000/\dx≠a/\h.get? a=some (PySem.W.instObj C dx) /\
   ∃mA,h.Ns1 dx mA/\(∀f,Aq (fs.lookup f) (mA f))/\PySem.Within mA (fs.map (·.1))
 |.own _=>∃o,h.get? a=some o
 |.xd fs=>∃mA,h.Ns1 a mA/\∀f,Aq (fs.lookup f) (mA f)
 |.rng lo hi=>∃t u v,h.get? a=some {cls:=.type "range",data:=.fields #[.int lo t,.int hi u,.int 1 v]}
 |.sW o u=>h.get? a=some o/\aO H h a u
 |.yQ ps=>h.get? a=some {cls:=.none,data:=.fields ps}
 |.met f x=>h.get? a=some (PySem.W.methodObj (.ref f) (.ref x))
 |.ext U=>U h/\(∃o,h.get? a=some o)/\∀h1 h2:Heap,U h1->(∀o,h1.get? a=some o->h2.get? a=some o)->U h2
def gH(H:Hp)(h:Heap):Prop:=∀a o,H a=some o->aO P w H h a o
end
section
variable {P:Program}{w:World}{H H':Hp}{h h':Heap}{a:Addr}{o:HO}
theorem aO.lt(x:aO P w H h a o):a<h.objs.size:=by
 cases o with
 |lst xs=>obtain⟨_,_,_,_,e⟩:=x;exact bM e
 |tup xs=>obtain⟨_,_,_,p⟩:=x;exact p.lt
 |dK kvs=>obtain⟨_,_,_,_,o,_,_,e,_⟩:=x;exact bM e
 |dT kvs=>obtain⟨_,_,_,_,o,_,_,e,_⟩:=x;exact bM e
 |set S n=>obtain⟨o,_,_,_,e,_⟩:=x;exact bM e
 |ins C dx fs=>obtain⟨_,_,_,e,_⟩:=x;exact bM e
 |own y=>obtain⟨_,e⟩:=x;exact bM e
 |xd fs=>obtain⟨_,⟨_,_,_,e,_⟩,_⟩:=x;exact bM e
 |rng lo hi=>obtain⟨_,_,_,e⟩:=x;exact bM e
 |sW ob u=>obtain⟨e,_⟩:=x;exact bM e
 |yQ ps=>exact bM (show h.get? a=some _ from x)
 |met f y=>exact bM (show h.get? a=some _ from x)
 |ext U=>obtain⟨_,⟨_,e⟩,_⟩:=x;exact bM e
theorem WY{α β:Type}{F G:α->β->Prop}:∀{l₁:List α} {l₂:List β},Paired F l₁ l₂->(∀a b,F a b->G a b)->Paired G l₁ l₂
 |_,_,.nil,_=>.nil
 |_,_,.cons r t,f=>.cons (f _ _ r) (WY t f)
theorem aO.stay(x:aO P w H h a o)(k:∀b u,(b=a\/H b=some (.own a))->h.get? b=some u->h'.get? b=some u)
  (ho:∀b,H b=some (.own a)->H' b=some (.own a)) (ht:∀b xs,H b=some (.tup xs)->H' b=some (.tup xs)):aO P w H' h' a o:=by
 induction o with
 |lst xs=>obtain⟨z,its,n,r,e⟩:=x;exact⟨z,its,n,r,k _ _ (.inl rfl) e⟩
 |tup xs=>obtain⟨z,its,r,ob,e,c⟩:=x;exact⟨z,its,r,ob,k _ _ (.inl rfl) e,c⟩
 |dK kvs=>obtain⟨z,y,vs,r,ob,es,ep,e,c⟩:=x;exact⟨z,y,vs,r,ob,es,ep,k _ _ (.inl rfl) e,c⟩
 |dT kvs=>
  obtain⟨z,y,xs,r,ob,es,ep,e,c⟩:=x;exact⟨z,y,xs,WY r λp q z=>⟨z.1,ht _ _ z.2.1,z.2.2⟩,ob,es,ep,k _ _ (.inl rfl) e,c⟩
 |set S n=>obtain⟨ob,es,ep,t,e,c⟩:=x;exact⟨ob,es,ep,t,k _ _ (.inl rfl) e,c⟩
 |ins C dx fs=>
  obtain⟨d,z,ne,e,mA,⟨od,es,ep,e2,c⟩,r⟩:=x;exact⟨ho _ d,z,ne,k _ _ (.inl rfl) e,mA,⟨od,es,ep,k _ _ (.inr d) e2,c⟩,r⟩
 |own y=>obtain⟨ob,e⟩:=x;exact⟨ob,k _ _ (.inl rfl) e⟩
 |xd fs=>obtain⟨mA,⟨od,es,ep,e,c⟩,r⟩:=x;exact⟨mA,⟨od,es,ep,k _ _ (.inl rfl) e,c⟩,r⟩
 |rng lo hi=>obtain⟨t,u,v,e⟩:=x;exact⟨t,u,v,k _ _ (.inl rfl) e⟩
 |sW ob u ih=>obtain⟨e,q⟩:=x;exact⟨k _ _ (.inl rfl) e,ih q⟩
 |yQ ps=>
  have e:h.get? a=some {cls:=.none,data:=.fields ps}:=x;show h'.get? a=some {cls:=.none,data:=.fields ps};exact k a _ (.inl rfl) e
 |met f y=>
  have e:h.get? a=some (PySem.W.methodObj (.ref f) (.ref y)):=x;show h'.get? a=some (PySem.W.methodObj (.ref f) (.ref y));exact k a _ (.inl rfl) e
 |ext U=>obtain⟨p,⟨o,e⟩,st⟩:=x;exact⟨st _ _ p λo q=>k _ _ (.inl rfl) q,⟨o,k _ _ (.inl rfl) e⟩,st⟩
theorem gH.lt(x:gH P w H h)(e:H a=some o):a<h.objs.size:=(x a o e).lt
theorem gH.fresh(x:gH P w H h)(e:h.objs.size<=a):H a=none:=by
 cases q:H a with
 |none=>rfl
 |some u=>exact absurd (gj (x.lt q) e) (m5 _)
theorem gH.kept(x:gH P w H h)(k:∀b u,h.get? b=some u->h'.get? b=some u):gH P w H h':=λa o e=>
 (x a o e).stay (λb u _ q=>k b u q) (λ_ q=>q) λ_ _ q=>q
theorem gH.laid(x:gH P w H h)(k:∀b u,h.get? b=some u->h'.get? b=some u)(hp:h.objs.size<=a)(new:aO P w (upd H a o) h' a o):gH P w (upd H a o) h':=λb u e=>by
 have hn:=x.fresh hp;by_cases hb:b=a
 ·subst hb;rw[kZ] at e;cases e;exact new
 ·rw[dj hb] at e;exact(x b u e).stay (λc v _ q=>k c v q) (λc q=>by rw[dj (El q hn)];exact q) λc xs q=>by rw[dj (El q hn)];exact q
end
def Rd(H:Hp)(a:Addr)(u:HO):Prop:=H a=some u\/∃o,H a=some (.sW o u)
theorem Rd.ok{P:Program}{w:World}{H:Hp}{h:Heap}{a:Addr}{u:HO}(r:Rd H a u)(x:gH P w H h):aO P w H h a u:=by
 rcases r with r|⟨o,r⟩
 ·exact x a u r
 ·obtain⟨_,q⟩:=x a _ r;exact q
noncomputable def GD:Option HO->Prop
 |some (.lst _)=>True
 |some (.dK _)=>True
 |some (.dT _)=>True
 |some (.set _ _)=>True
 |some (.ins _ _ _)=>True
 |some (.ext _)=>True
 |_=>False
section
variable {P:Program}{w:World}{H:Hp}{h h':Heap}{x e:Addr}{o':HO}
theorem gH.write(ok:gH P w H h)(mu:GD (H x))(he:e=x\/H e=some (.own x))(k:∀b u,b≠e->h.get? b=some u->h'.get? b=some u)(Em:∃u,h'.get? e=some u)
  (new:aO P w (upd H x o') h' x o'):gH P w (upd H x o') h':=λb u q=>by
 have GF:∀c y,H c=some (.own y)->c≠x:=λc y r z=>by subst z;rw[r] at mu;exact mu
 have O9:∀c xs,H c=some (.tup xs)->c≠x:=λc xs r z=>by subst z;rw[r] at mu;exact mu
 by_cases hb:b=x
 ·subst hb;rw[kZ] at q;cases q;exact new
 ·rw[dj hb] at q;by_cases Ar:b=e
  ·have q':H b=some (.own x):=by
    rcases he with z|z
    ·exact absurd (Ar.trans z) hb
    ·rw[Ar];exact z
   rw[q] at q';cases q';obtain⟨v,hv⟩:=Em;exact⟨v,by rw[Ar];exact hv⟩
  ·refine(ok b u q).stay (λc v hc r=>k c v ?_ r) (λc r=>by rw[dj (GF c b r)];exact r) λc xs r=>by rw[dj (O9 c xs r)];exact r
   rcases hc with rfl|hc
   ·exact Ar
   ·rintro rfl;rcases he with z|z
    ·exact GF c b hc z
    ·rw[hc] at z;cases z;exact hb rfl
end
structure Un(fs ex:List Addr)(H H':Hp)(h h':Heap):Prop where
 keep:∀b o,h.get? b=some o->H b=none->b∉fs->b∉ex->h'.get? b=some o
 slot:∀b o,h.get? b=some o->H b=none->b∈fs->b∉ex->∃sl,h'.get? b=some {o with slots:=sl}
 free:∀b o,h.get? b=some o->H b=none->b∉ex->H' b=none
 there:∀b o,h.get? b=some o->b∉ex->∃o',h'.get? b=some o'
 tups:∀b xs,H b=some (.tup xs)->H' b=some (.tup xs)
 jg:∀b o u,H b=some (.sW o u)->H' b=some (.sW o u)
 jK:∀b ps,H b=some (.yQ ps)->∃more,H' b=some (.yQ (ps++more))
section
variable {fs fs' ex ex':List Addr}{H H1 H2:Hp}{h h1 h2 h':Heap}{a x e:Addr}{o:HO}
theorem Un.any(u:Un fs ex H H1 h h1){b:Addr}{ob:Obj}(q:h.get? b=some ob)(n:H b=none)(hx:b∉ex):∃sl,h1.get? b=some {ob with slots:=sl}:=by
 by_cases hb:b∈fs
 ·exact u.slot b ob q n hb hx
 ·exact⟨ob.slots,u.keep b ob q n hb hx⟩
theorem Un.kept(k:∀b u,h.get? b=some u->h'.get? b=some u):Un fs ex H H h h':=
 ⟨λb ob q _ _ _=>k b ob q,λb ob q _ _ _=>⟨ob.slots,k b ob q⟩,λ_ _ _ n _=>n,λb ob q _=>⟨ob,k b ob q⟩,λ_ _ q=>q,λ_ _ _ q=>q,λ_ ps q=>⟨#[],by rw[q];simp⟩⟩
theorem Un.refl:Un fs ex H H h h:=Un.kept λ_ _ q=>q
theorem Un.laid(k:∀b u,h.get? b=some u->h'.get? b=some u)(hp:h.objs.size<=a)(hn:H a=none):Un fs ex H (upd H a o) h h' where
 keep:=λb u q _ _ _=>k b u q
 slot:=λb u q _ _ _=>⟨u.slots,k b u q⟩
 free:=λb u q n _=>by rw[dj (cR (gj (bM q) hp))];exact n
 there:=λb u q _=>⟨u,k b u q⟩
 tups:=λb xs q=>by rw[dj (El q hn)];exact q
 jg:=λb u xs q=>by rw[dj (El q hn)];exact q
 jK:=λb ps q=>⟨#[],by rw[dj (El q hn),q];simp⟩
theorem Un.write(mu:GD (H x))(he:e=x\/H e=some (.own x))(k:∀b u,b≠e->h.get? b=some u->h'.get? b=some u)(Em:∃u,h'.get? e=some u):Un fs ex H (upd H x o) h h':=by
 have hx:∀b,H b=none->b≠x:=λb n z=>by subst z;rw[n] at mu;exact mu
 have hb:∀b,H b=none->b≠e:=λb n z=>by
  subst z;rcases he with r|r
  ·exact hx b n r
  ·rw[n] at r;cases r
 have hm:∀b u,H b=some u->¬GD (some u)->b≠x:=λb u q nm z=>by subst z;rw[q] at mu;exact nm mu
 refine⟨λb u q n _ _=>k b u (hb b n) q,λb u q n _ _=>⟨u.slots,k b u (hb b n) q⟩,λb u q n _=>by rw[dj (hx b n)];exact n,λb u q _=>?_,
  λb xs q=>by rw[dj (hm b _ q λz=>z)];exact q,λb u xs q=>by rw[dj (hm b _ q λz=>z)];exact q,λb ps q=>⟨#[],by rw[dj (hm b _ q λz=>z),q];simp⟩⟩
 by_cases Ar:b=e
 ·subst Ar;exact Em
 ·exact⟨u,k b u Ar q⟩
end
noncomputable def Lr(h:Heap)(H:Hp):List Addr:=(List.range h.objs.size).filter λa=>(H a).isSome
noncomputable def lW(h:Heap)(H:Hp):Heap:=PySem.W.hideAll h (Lr h H)
theorem zgs(h:Heap)(H:Hp):(lW h H).objs.size=h.objs.size:=PySem.W.hideAll_size _ _
theorem zhq{h:Heap}{H:Hp}{b:Addr}{o:Obj}(e:h.get? b=some o)(n:H b=none):(lW h H).get? b=some o:=
 PySem.W.hideAll_get _ e λhm=>by
  have q:(H b).isSome=true:=(List.mem_filter.mp hm).2;rw[n] at q;simp at q
theorem zix{h:Heap}{H:Hp}{b:Addr}{o:Obj}(e:(lW h H).get? b=some o):h.get? b=some o/\H b=none:=by
 have e':h.get? b=some o:=PySem.W.of_hideAll (Lr h H) e;refine⟨e',?_⟩;cases q:H b with
 |none=>rfl
 |some x=>
  have hm:b∈Lr h H:=List.mem_filter.mpr ⟨vh.mpr (bM e'),by simp[q]⟩;have z:(lW h H).get? b=none:=PySem.W.hideAll_none (Lr h H) hm;rw[z] at e;cases e
structure Mod(K:W.Frag)(mg:Str->Option Value)(base:Heap):Prop where
 yO:K.In base
 glob:base.Ns mainGlobals mg
 blt:∃mb,base.Ns builtinsNs mb/\∀x:Str,x≠"__name__"->mb x=bootBuiltins x
 nolimit:base.NoLimit
structure Cx where
 prog:Program
 w:World
 K:W.Frag
 mg:Str->Option Value
 base:Heap
 A:Around
 N:List Str
 s₀:Shared
 H₀:Hp
 env:Env
 outer:List Env
 stack:List Env
 ex:List Addr
 fn:Str->Bool
 aj:Bool
 pn:List (Addr×Obj)
 xe:Value->Shared->Prop
noncomputable def frs(l:List Env):List Addr:=l.filterMap (·.frame)
noncomputable abbrev Cx.fs(X:Cx):List Addr:=frs X.outer
def O_(sc:Scope)(x:Str):Prop:=sc.names.lookup x=some .local\/sc.names.lookup x=some .cell\/sc.names.lookup x=some .free
def Loc(sc:Scope)(x:Str):Prop:=sc.names.lookup x=some .local\/sc.names.lookup x=some .cell
def Look(env:Env)(h:Heap)(m:Str->Option Value)(x:Str)(u:Value):Prop:=
 (env.kindOf x=some .local/\m x=some u)\/((env.kindOf x=some .cell\/env.kindOf x=some .free)/\∃c,env.cells.lookup x=some c/\h.IsCell c (some u))
structure Cx.Ok(X:Cx):Prop where
 mod:Mod X.K X.mg X.base
 kind:X.env.scope.kind=.function
 glob:X.env.globals=mainGlobals
 blt:X.env.builtins=builtinsNs
 above:X.s₀.heap.objs.size<=X.env.locals
 inj:∀x y c,X.env.cells.lookup x=some c->X.env.cells.lookup y=some c->x=y
 has:∀x,(X.env.kindOf x=some .cell\/X.env.kindOf x=some .free)->∃c,X.env.cells.lookup x=some c
 cab:∀x c,X.fn x=true->X.env.cells.lookup x=some c->X.s₀.heap.objs.size<=c
 hd:X.aj=true->X.A.handled=none
 frames:X.A.frames=some X.stack
 stk:X.stack=X.outer\/(X.stack=X.env::X.outer/\X.env.frame=some X.env.locals)
 W0:∀b∈X.ex,b≠X.env.locals/\∀x c,X.env.cells.lookup x=some c->c≠b
 bs:∀b o,X.base.get? b=some o->X.s₀.heap.get? b=some o/\X.H₀ b=none
 yR:X.base.objs.size<=X.s₀.heap.objs.size
 sX:∀b o,X.base.get? b=some o->b∉X.ex
 wH:∀b∈X.ex,b∉X.fs
 jL:X.s₀.heap.FunFrames X.base X.outer
 En:∀b∈X.fs,X.H₀ b=none
structure Inv(X:Cx)(ak:List (Addr×Obj))(Z:List (Option V))(H:Hp)(s:Shared):Prop where
 ok:X.Ok
 os:s.os=X.s₀.os
 bare:AllBare s.gens
 base:Un X.fs X.ex X.H₀ H X.s₀.heap s.heap
 loc:∃m,s.heap.Ns X.env.locals m/\∀(i:Nat) (x:Str) (v:V),X.N[i]?=some x->Z[i]?=some (some v)->O_ X.env.scope x->∃u,RelV v u/\Look X.env s.heap m x u
 cell:∀x c,X.env.cells.lookup x=some c->∃v,s.heap.IsCell c v
 free:H X.env.locals=none
 d8:∀x c,X.env.cells.lookup x=some c->H c=none
 pin:∀p∈X.pn++ak,s.heap.get? p.1=some p.2/\H p.1=none/\p.1≠X.env.locals/\p.1∉X.fs/\∀v,p.2.data≠.cell v
 hok:gH X.prog X.w H s.heap
 len:Z.length=X.N.length
section
variable {X:Cx}{ak:List (Addr×Obj)}{Z:List (Option V)}{H H':Hp}{s:Shared}{h':Heap}
theorem Cx.Ok.Pa(ok:X.Ok){b:Addr}{o:Obj}(e:X.base.get? b=some o):b∉X.fs:=λhb=>by
 have:=(ok.jL.mem hb).1;rw[e] at this;cases this
theorem Inv.bs(I:Inv X ak Z H s):∀b o,X.base.get? b=some o->s.heap.get? b=some o/\H b=none:=λb o e=>
 ⟨I.base.keep b o (I.ok.bs b o e).1 (I.ok.bs b o e).2 (I.ok.Pa e) (I.ok.sX b o e),I.base.free b o (I.ok.bs b o e).1 (I.ok.bs b o e).2 (I.ok.sX b o e)⟩
theorem Inv.bk(I:Inv X ak Z H s):∀b o,X.base.get? b=some o->s.heap.get? b=some o:=λb o e=>(I.bs b o e).1
theorem Inv.mod(I:Inv X ak Z H s):Mod X.K X.mg X.base:=I.ok.mod
theorem Inv.pY(I:Inv X ak Z H s):X.K.In s.heap:=I.ok.mod.yO.keeps I.bk
theorem Inv.nolimit(I:Inv X ak Z H s):s.heap.NoLimit:=I.ok.mod.nolimit.keeps I.bk
theorem Inv.lt(I:Inv X ak Z H s):X.env.locals<s.heap.objs.size:=let ⟨_,hn,_⟩:=I.loc;hn.lt
theorem Inv.sz(I:Inv X ak Z H s):X.s₀.heap.objs.size<=s.heap.objs.size:=n8 I.ok.above (yJ I.lt)
theorem Inv.Pb(I:Inv X ak Z H s){a:Addr}(h:s.heap.objs.size<=a):a∉X.fs:=λhb=>by
 obtain⟨_,o,ho,_⟩:=I.ok.jL.mem hb;exact absurd (gj (bM ho) (n8 I.sz h)) (m5 _)
theorem Inv.wI(I:Inv X ak Z H s):∀x c,X.env.cells.lookup x=some c->c≠X.env.locals:=λx c e z=>by
 obtain⟨v,o,ho,hd⟩:=I.cell x c e;obtain⟨m,⟨o',es,ep,jM,Av,_⟩,_⟩:=I.loc;rw[z,jM] at ho;cases ho;rw[Av] at hd;cases hd
theorem Inv.jL(I:Inv X ak Z H s):s.heap.FunFrames X.base X.outer:=by
 have all:∀(l:List Env),(∀b∈frs l,b∈X.fs)->X.s₀.heap.FunFrames X.base l->s.heap.FunFrames X.base l:=by
  intro l
  induction l with
  |nil=>intro _ _;trivial
  |cons env r ih=>
   intro hs hl;obtain⟨hk,⟨L,o,hf,hn,ho,hd⟩,hr⟩:=hl;have hL:L∈X.fs:=hs L (by unfold frs;rw[Gi,hf];exact dO);obtain⟨sl,e⟩:=I.base.slot L o ho (I.ok.En L hL) hL λz=>I.ok.wH L z hL;exact⟨hk,⟨L,_,hf,hn,e,hd⟩,ih (λb hb=>hs b (by unfold frs;rw[Gi,hf];exact dN _ hb)) hr⟩
 exact all X.outer (λ_ hb=>hb) I.ok.jL
theorem Inv.stack(I:Inv X ak Z H s):s.heap.FunFrames X.base X.stack:=by
 rcases I.ok.stk with e|⟨e,hf⟩
 ·rw[e];exact I.jL
 ·rw[e];obtain⟨m,hn,_⟩:=I.loc;refine .cons (by rw[I.ok.kind];decide) hf hn ?_ I.jL;exact Dz (n8 I.ok.yR I.ok.above)
theorem Inv.lX(I:Inv X ak Z H s):∀b∈frs X.stack,b∈X.env.locals::X.fs:=λb hb=>by
 rcases I.ok.stk with e|⟨e,hf⟩
 ·rw[e] at hb;exact dN _ hb
 ·rw[e] at hb;unfold frs at hb;rw[Gi,hf] at hb;exact hb
theorem Inv.jx(I:Inv X ak Z H s):∀b∈frs X.stack,H b=none:=λb hb=>by
 rcases cH.mp (I.lX b hb) with e|hb
 ·rw[e];exact I.free
 ·obtain⟨_,o,ho,_⟩:=I.ok.jL.mem hb;exact I.base.free b o ho (I.ok.En b hb) λz=>I.ok.wH b z hb
theorem Inv.step{g':Array GenState}{t':Nat}{d':Drawn}{ch:List Addr}(I:Inv X ak Z H s)
  (vB:∀b∈ch,(b∈X.ex\/X.s₀.heap.get? b=none)/\b≠X.env.locals/\(∀x c,X.env.cells.lookup x=some c->c≠b)/\∀p∈X.pn++ak,p.1≠b)
  (keep:∀b o,b≠X.env.locals->b∉X.fs->b∉ch->s.heap.get? b=some o->H b=none->h'.get? b=some o)
  (slot:∀b o,b≠X.env.locals->b∈X.fs->b∉ch->s.heap.get? b=some o->H b=none->∃sl,h'.get? b=some {o with slots:=sl}) (free:∀b o,b∉ch->s.heap.get? b=some o->H b=none->H' b=none)
  (there:∀b o,b∉ch->s.heap.get? b=some o->∃o',h'.get? b=some o')
  (tups:∀b xs,H b=some (.tup xs)->H' b=some (.tup xs)) (jg:∀b o u,H b=some (.sW o u)->H' b=some (.sW o u)) (jK:∀b ps,H b=some (.yQ ps)->∃more,H' b=some (.yQ (ps++more)))
  (ns:∀m,s.heap.Ns X.env.locals m->h'.Ns X.env.locals m) (hok:gH X.prog X.w H' h') (hg:AllBare g') :
  Inv X ak Z H' {s with heap:=h',gens:=g',drawn:=d',toks:=t'}:=by
 have W2:∀b o,X.s₀.heap.get? b=some o->b≠X.env.locals:=λb o e=>cR (gj (bM e) I.ok.above);have Ls:∀b o,X.s₀.heap.get? b=some o->b∉X.ex->b∉ch:=λb o e hx hb=>by
  rcases(vB b hb).1 with z|z
  ·exact hx z
  ·rw[e] at z;cases z
 have cellK:∀x c,X.env.cells.lookup x=some c->∀v,s.heap.IsCell c v->h'.IsCell c v:=λx c e v hx=>wF hx λo ho hd=>by
  have GJ:c∉ch:=λz=>(vB c z).2.2.1 x c e rfl;by_cases hc:c∈X.fs
  ·obtain⟨sl,q⟩:=slot c o (I.wI x c e) hc GJ ho (I.d8 x c e);exact⟨_,q,hd⟩
  ·exact⟨o,keep c o (I.wI x c e) hc GJ ho (I.d8 x c e),hd⟩
 refine⟨I.ok,I.os,hg,⟨λb o e n hb hx=>?_,λb o e n hb hx=>?_,λb o e n hx=>?_,λb o e hx=>?_,λb xs e=>tups b xs (I.base.tups b xs e),λb o xs e=>jg b o xs (I.base.jg b o xs e),λb ps e=>?_⟩,?_,λx c e=>?_,?_,λx c e=>?_,λp hp=>?_,hok,I.len⟩
 ·exact keep b o (W2 b o e) hb (Ls b o e hx) (I.base.keep b o e n hb hx) (I.base.free b o e n hx)
 ·obtain⟨sl,e1⟩:=I.base.slot b o e n hb hx;obtain⟨sl',e2⟩:=slot b _ (W2 b o e) hb (Ls b o e hx) e1 (I.base.free b o e n hx);exact⟨sl',e2⟩
 ·obtain⟨o',e1⟩:=I.base.there b o e hx;exact free b o' (Ls b o e hx) e1 (I.base.free b o e n hx)
 ·obtain⟨o',e1⟩:=I.base.there b o e hx;exact there b o' (Ls b o e hx) e1
 ·obtain⟨m1,e1⟩:=I.base.jK b ps e;obtain⟨m2,e2⟩:=jK b _ e1;exact⟨m1++m2,by rw[e2,Array.append_assoc]⟩
 ·obtain⟨m,hn,hl⟩:=I.loc;refine⟨m,ns m hn,λi x v e1 e2 e3=>?_⟩;obtain⟨u,r,l⟩:=hl i x v e1 e2 e3;refine⟨u,r,?_⟩;rcases l with l|⟨k,c,e,z⟩
  ·exact .inl l
  ·exact .inr ⟨k,c,e,cellK x c e _ z⟩
 ·obtain⟨v,z⟩:=I.cell x c e;exact⟨v,cellK x c e v z⟩
 ·obtain⟨m,⟨o,_,_,ho,_⟩,_⟩:=I.loc;exact free _ o (λz=>(vB _ z).2.1 rfl) ho I.free
 ·obtain⟨v,o,ho,hd⟩:=I.cell x c e;exact free c o (λz=>(vB c z).2.2.1 x c e rfl) ho (I.d8 x c e)
 ·obtain⟨e,n,ne,nf,d⟩:=I.pin p hp;have GJ:p.1∉ch:=λz=>(vB p.1 z).2.2.2 p hp rfl;exact⟨keep p.1 p.2 ne nf GJ e n,free p.1 p.2 GJ e n,ne,nf,d⟩
theorem Inv.un{t':Nat}(I:Inv X ak Z H s)(u:Un X.fs [] H H' s.heap h')(hok:gH X.prog X.w H' h'):Inv X ak Z H' {s with heap:=h',toks:=t'}:=by
 obtain⟨m,⟨o,es,ep,ho,r⟩,_⟩:=id I.loc;obtain⟨sl,hL⟩:=u.any ho I.free Zaa;exact I.step (g':=s.gens) (d':=s.drawn) (ch:=[]) (λ_ z=>nomatch z) (λb o _ hb _ e n=>u.keep b o e n hb Zaa) (λb o _ hb _ e n=>u.slot b o e n hb Zaa) (λb o _ e n=>u.free b o e n Zaa) (λb o _ e=>u.there b o e Zaa) u.tups u.jg u.jK (λm' hm=>by
  obtain⟨o',es',ep',jM,r'⟩:=hm;rw[ho] at jM;cases jM;exact⟨_,es',ep',hL,r'⟩) hok I.bare
theorem Inv.call{g':Array GenState}{t':Nat}{d':Drawn}{ch:List Addr}(I:Inv X ak Z H s)(u:Un (frs X.stack) ch H H' s.heap h')(hok:gH X.prog X.w H' h')(hg:AllBare g')
  (vB:∀b∈ch,(b∈X.ex\/X.s₀.heap.get? b=none)/\b≠X.env.locals/\(∀x c,X.env.cells.lookup x=some c->c≠b)/\∀p∈X.pn++ak,p.1≠b) :
  Inv X ak Z H' {s with heap:=h',gens:=g',drawn:=d',toks:=t'}:=by
 obtain⟨m,⟨o,es,ep,ho,r⟩,_⟩:=id I.loc;obtain⟨sl,hL⟩:=u.any ho I.free λz=>(vB _ z).2.1 rfl;exact I.step (ch:=ch) vB (λb o hL hb hc e n=>u.keep b o e n (λz=>(cH.mp (I.lX b z)).elim hL hb) hc) (λb o _ _ hc e n=>u.any e n hc) (λb o hc e n=>u.free b o e n hc) (λb o hc e=>u.there b o e hc) u.tups u.jg u.jK (λm' hm=>by
  obtain⟨o',es',ep',jM,r'⟩:=hm;rw[ho] at jM;cases jM;exact⟨_,es',ep',hL,r'⟩) hok hg
theorem Inv.turned{t':Nat}{it:Addr}(I:Inv X ak Z H s)(k:∀b o,b≠it->s.heap.get? b=some o->h'.get? b=some o)(hn:H it=none)(hL:it≠X.env.locals)
  (h1:it∈X.ex\/X.s₀.heap.objs.size<=it) (h2:∀x c,X.env.cells.lookup x=some c->c≠it) (h3:∀p∈X.pn++ak,p.1≠it):Inv X ak Z H {s with heap:=h',toks:=t'}:=by
 have yS:∀b u,H b=some u->b≠it:=λb u e z=>by rw[z,hn] at e;cases e
 refine I.step (g':=s.gens) (d':=s.drawn) (ch:=[it]) (λb hb=>?_) (λb o _ _ hc e _=>k b o (λz=>hc (by simp[z])) e) (λb o _ _ hc e _=>⟨o.slots,k b o (λz=>hc (by simp[z])) e⟩) (λ_ _ _ _ n=>n)
  (λb o hc e=>⟨o,k b o (λz=>hc (by simp[z])) e⟩) (λ_ _ e=>e) (λ_ _ _ e=>e) (λb ps e=>⟨#[],by rw[e];simp⟩) (λm hm=>?_) (λb u e=>?_) I.bare
 ·have e:b=it:=by simpa using hb
  subst e;exact⟨h1.imp id λz=>Dz z,hL,h2,h3⟩
 ·obtain⟨o,es,ep,ho,r⟩:=hm;exact⟨o,es,ep,k _ o (Ne.symm hL) ho,r⟩
 ·refine(I.hok b u e).stay (λc v hc q=>k c v ?_ q) (λ_ q=>q) λ_ _ q=>q;rcases hc with z|z
  ·rw[z];exact yS b u e
  ·exact yS c _ z
theorem Inv.tok(I:Inv X ak Z H s)(t:Nat):Inv X ak Z H {s with toks:=t}:=I.un (h':=s.heap) (t':=t) Un.refl I.hok
theorem Inv.kept{t':Nat}(I:Inv X ak Z H s)(k:∀b u,s.heap.get? b=some u->h'.get? b=some u):Inv X ak Z H {s with heap:=h',toks:=t'}:=I.un (Un.kept k) (I.hok.kept k)
theorem Inv.laid{a:Addr}{o:HO}{t':Nat}(I:Inv X ak Z H s)(k:∀b u,s.heap.get? b=some u->h'.get? b=some u)(hp:s.heap.objs.size<=a)(new:aO X.prog X.w (upd H a o) h' a o) :
  Inv X ak Z (upd H a o) {s with heap:=h',toks:=t'}:=I.un (Un.laid k hp (I.hok.fresh hp)) (I.hok.laid k hp new)
theorem Inv.write{x e:Addr}{o:HO}{t':Nat}(I:Inv X ak Z H s)(mu:GD (H x))(he:e=x\/H e=some (.own x))(k:∀b u,b≠e->s.heap.get? b=some u->h'.get? b=some u)(Em:∃u,h'.get? e=some u)
  (new:aO X.prog X.w (upd H x o) h' x o):Inv X ak Z (upd H x o) {s with heap:=h',toks:=t'}:=I.un (Un.write mu he k Em) (I.hok.write mu he k Em new)
theorem Inv.lY{sY:List (Addr×Obj)}(I:Inv X ak Z H s)(h:∀p∈sY,s.heap.get? p.1=some p.2/\H p.1=none/\p.1≠X.env.locals/\p.1∉X.fs/\∀v,p.2.data≠.cell v):Inv X sY Z H s:=
 ⟨I.ok,I.os,I.bare,I.base,I.loc,I.cell,I.free,I.d8,λp hp=>(gK.mp hp).elim (λz=>I.pin p (rG _ z)) (h p),I.hok,I.len⟩
theorem Pg{N:List Str}(hN:N.Nodup){i j:Nat}{x:Str}(a:N[i]?=some x)(b:N[j]?=some x):i=j:=by
 obtain⟨h1,e1⟩:=jt.mp a;obtain⟨h2,e2⟩:=jt.mp b;exact(List.getElem_inj hN).mp (e1.trans e2.symm)
theorem zfL{M:Model}{A:Around}{E:Value->Shared->Prop}{i:Nat}{x:Str}{v:V}{u:Value}{Q:Unit->Shared->Prop}(I:Inv X ak Z H s)(hN:X.N.Nodup)(hi:X.N[i]?=some x)(hx:Loc X.env.scope x)(r:RelV v u)
  (h:∀s',Inv X ak (Z.set i (some v)) H s'->(∃a,Heap.SameBut a s.heap s'.heap/\(a=X.env.locals\/X.env.cells.lookup x=some a))->Q () s') (hf:X.fn x=true\/X.env.scope.names.lookup x=some .local:=by first|exact .inl rfl|exact .inr rfl|assumption):wpAny M A (storeName X.env x u) Q E s:=by
 obtain⟨m,hn,hl⟩:=id I.loc;have Aw:(X.env.scope.kind==.class||(X.env.scope.kind==.module&&X.env.locals != X.env.globals))=false:=by rw[I.ok.kind];rfl
 have W3:i<Z.length:=by rw[I.len];exact(jt.mp hi).1
 have wI:=I.wI;have tracked:∀{a:Addr} {h':Heap},(∃o,s.heap.get? a=some o/\H a=none)->Heap.SameBut a s.heap h'->gH X.prog X.w H h':=λ{a h'} ha hs b ob e=>by
  obtain⟨_,_,pZ⟩:=ha;refine(I.hok b ob e).stay (λc w' hc q=>(hs.2 c ?_).trans q) (λ_ q=>q) λ_ _ q=>q;rintro rfl;rcases hc with rfl|hc
  ·rw[pZ] at e;cases e
  ·rw[pZ] at hc;cases hc
 rcases hx with hk|hk
 ·refine wpAny_storeName_local hk hn (λh' wJ hs=>?_) Aw;obtain⟨oL,_,_,yU,_⟩:=id hn;refine h _ ⟨I.ok,I.os,I.bare,⟨λb o e n hb hx=>?_,λb o e n hb hx=>?_,I.base.free,λb o e hx=>?_,I.base.tups,I.base.jg,I.base.jK⟩,⟨_,wJ,λj y v' e1 e2 e3=>?_⟩,λy c e=>?_,I.free,I.d8,λp hp=>?_,tracked ⟨oL,yU,I.free⟩ hs,by simpa using I.len⟩ ⟨_,hs,.inl rfl⟩
  ·exact(hs.2 b (cR (gj (bM e) I.ok.above))).trans (I.base.keep b o e n hb hx)
  ·obtain⟨sl,e1⟩:=I.base.slot b o e n hb hx;exact⟨sl,(hs.2 b (cR (gj (bM e) I.ok.above))).trans e1⟩
  ·obtain⟨o',e1⟩:=I.base.there b o e hx;exact⟨o',(hs.2 b (cR (gj (bM e) I.ok.above))).trans e1⟩
  ·by_cases hj:j=i
   ·subst hj;rw[hi] at e1;cases e1;rw[yC W3] at e2;cases e2;exact⟨u,r,.inl ⟨hk,by simp⟩⟩
   ·rw[rH (Ne.symm hj)] at e2;obtain⟨u',r',q⟩:=hl j y v' e1 e2 e3;refine⟨u',r',?_⟩;rcases q with ⟨k,e⟩|⟨k,c,e,z⟩
    ·refine .inl ⟨k,?_⟩;have:y≠x:=λe=>hj (Pg hN e1 (e▸hi));simp[this,e]
    ·exact .inr ⟨k,c,e,z.sameBut hs (wI y c e)⟩
  ·obtain⟨w',z⟩:=I.cell y c e;exact⟨w',z.sameBut hs (wI y c e)⟩
  ·obtain⟨e,n,ne,nf,d⟩:=I.pin p hp;exact⟨(hs.2 p.1 ne).trans e,n,ne,nf,d⟩
 ·have Pj:X.fn x=true:=by
   rcases hf with z|z
   ·exact z
   ·rw[z] at hk;cases hk
  obtain⟨c,hc⟩:=I.ok.has x (.inl hk);obtain⟨w',z⟩:=I.cell x c hc;refine wpAny_storeName_cell I.ok.kind hk hc z (λh' k_ hs=>?_);obtain⟨oc,W4,Pk⟩:=id z;refine h {s with heap:=h'} ⟨I.ok,I.os,I.bare,⟨λb o e n hb hx=>?_,λb o e n hb hx=>?_,I.base.free,λb o e hx=>?_,I.base.tups,I.base.jg,I.base.jK⟩,⟨m,hn.sameBut hs (Ne.symm (wI x c hc)),λj y v' e1 e2 e3=>?_⟩,λy c' e=>?_,I.free,I.d8,λp hp=>?_,tracked ⟨oc,W4,I.d8 x c hc⟩ hs,by simpa using I.len⟩ ⟨c,hs,.inr hc⟩
  ·exact(hs.2 b (cR (gj (bM e) (I.ok.cab x c Pj hc)))).trans (I.base.keep b o e n hb hx)
  ·obtain⟨sl,e1⟩:=I.base.slot b o e n hb hx;exact⟨sl,(hs.2 b (cR (gj (bM e) (I.ok.cab x c Pj hc)))).trans e1⟩
  ·obtain⟨o',e1⟩:=I.base.there b o e hx;exact⟨o',(hs.2 b (cR (gj (bM e) (I.ok.cab x c Pj hc)))).trans e1⟩
  ·by_cases hj:j=i
   ·subst hj;rw[hi] at e1;cases e1;rw[yC W3] at e2;cases e2;exact⟨u,r,.inr ⟨.inl hk,c,hc,k_⟩⟩
   ·rw[rH (Ne.symm hj)] at e2;obtain⟨u',r',q⟩:=hl j y v' e1 e2 e3;refine⟨u',r',?_⟩;rcases q with q|⟨k,c',e,z'⟩
    ·exact .inl q
    ·refine .inr ⟨k,c',e,z'.sameBut hs ?_⟩;rintro rfl;exact hj (Pg hN e1 (I.ok.inj _ _ _ e hc▸hi))
  ·by_cases W5:c'=c
   ·subst W5;exact⟨_,k_⟩
   ·obtain⟨w2,z2⟩:=I.cell y c' e;exact⟨w2,z2.sameBut hs W5⟩
  ·obtain⟨e,n,ne,nf,d⟩:=I.pin p hp;refine⟨(hs.2 p.1 ?_).trans e,n,ne,nf,d⟩;intro q;rw[q,W4] at e;have q':oc=p.2:=cT e;exact d w' (by rw[<-q'];exact Pk)
theorem GK{M:Model}{A:Around}{E:Value->Shared->Prop}{i:Nat}{x:Str}{v:V}{u:Value}{Q:Unit->Shared->Prop}(I:Inv X ak Z H s)(hN:X.N.Nodup)(hi:X.N[i]?=some x)(hx:Loc X.env.scope x)(r:RelV v u)
  (h:∀s',Inv X ak (Z.set i (some v)) H s'->Q () s') (hf:X.fn x=true\/X.env.scope.names.lookup x=some .local:=by first|exact .inl rfl|exact .inr rfl|assumption):wpAny M A (storeName X.env x u) Q E s:=
 zfL I hN hi hx r (λs' I' _=>h s' I') hf
theorem Inv.call'{s':Shared}{ch:List Addr}(I:Inv X ak Z H s)(ho:s'.os=s.os)(u:Un (frs X.stack) ch H H' s.heap s'.heap)(hok:gH X.prog X.w H' s'.heap)(hg:AllBare s'.gens)
  (vB:∀b∈ch,(b∈X.ex\/X.s₀.heap.get? b=none)/\b≠X.env.locals/\(∀x c,X.env.cells.lookup x=some c->c≠b)/\∀p∈X.pn++ak,p.1≠b):Inv X ak Z H' s':=by
 obtain⟨h',g',d',t',o'⟩:=s';have e:o'=s.os:=ho;subst e;exact I.call (g':=g') (t':=t') (d':=d') u hok hg vB
end
noncomputable abbrev XK:=Value->Option Addr->Hp->Prop
noncomputable abbrev St:=List (Option V)
noncomputable abbrev VK:=V->Hp->Prop
noncomputable abbrev TE:=St->Hp->VK->Prop
noncomputable abbrev TT:=St->Hp->(Bool->Hp->Prop)->Prop
noncomputable abbrev TA:=St->Hp->(List V->Hp->Prop)->Prop
structure Ends where
 nx:St->Hp->Prop
 rt:VK
 bk:St->Hp->Prop:=λ_ _=>False
 ct:St->Hp->Prop:=λ_ _=>False
noncomputable abbrev TS:=Ends->St->Hp->Prop
def EP(X:Cx)(ak:List (Addr×Obj))(Z:St)(Q:VK)(u:Value)(s':Shared):Prop:=∃v H',Inv X ak Z H' s'/\RelV v u/\Q v H'
def TP(X:Cx)(ak:List (Addr×Obj))(Z:St)(Q:Bool->Hp->Prop)(b:Bool)(s':Shared):Prop:=∃H',Inv X ak Z H' s'/\Q b H'
def AP(X:Cx)(ak:List (Addr×Obj))(Z:St)(Q:List V->Hp->Prop)(us:List Value)(s':Shared):Prop:=∃vs H',Inv X ak Z H' s'/\Vals vs us/\Q vs H'
def SP(X:Cx)(ak:List (Addr×Obj))(D:Ends)(f:Flow)(s':Shared):Prop:=
 match f with
 |.next=>∃Z' H',Inv X ak Z' H' s'/\D.nx Z' H'
 |.brk=>∃Z' H',Inv X ak Z' H' s'/\D.bk Z' H'
 |.cont=>∃Z' H',Inv X ak Z' H' s'/\D.ct Z' H'
 |.ret u=>∃v Z' H',Inv X ak Z' H' s'/\RelV v u/\D.rt v H'
def PE(X:Cx)(e:Expr)(t:TE):Prop:=
 ∀(ak:List (Addr×Obj)) (s:Shared) (Z:St) (H:Hp) (Q:VK),Inv X ak Z H s->t Z H Q->wpAny (model X.prog X.w) X.A (eval e X.env) (EP X ak Z Q) X.xe s
def PT(X:Cx)(e:Expr)(t:TT):Prop:=
 ∀(ak:List (Addr×Obj)) (s:Shared) (Z:St) (H:Hp) (Q:Bool->Hp->Prop),Inv X ak Z H s->t Z H Q->wpAny (model X.prog X.w) X.A (isTrue e X.env (eval e X.env)) (TP X ak Z Q) X.xe s
def PW(X:Cx)(e:Expr)(t:TT):Prop:=
 ∀(whole:Sem Value) (ak:List (Addr×Obj)) (s:Shared) (Z:St) (H:Hp) (Q:Bool->Hp->Prop),Inv X ak Z H s->t Z H Q->wpAny (model X.prog X.w) X.A (isTrue e X.env whole) (TP X ak Z Q) X.xe s
theorem Kab{X:Cx}{e:Expr}{t:TT}(h:PW X e t):PT X e t:=h _
def PA(X:Cx)(es:List Expr)(t:TA):Prop:=
 ∀(pos:Pos) (ak:List (Addr×Obj)) (s:Shared) (Z:St) (H:Hp) (Q:List V->Hp->Prop),Inv X ak Z H s->t Z H Q->wpAny (model X.prog X.w) X.A (spliced (backTo pos (starEach es X.env))) (AP X ak Z Q) X.xe s
def PS(X:Cx)(st:Stmt)(t:TS):Prop:=
 ∀(ak:List (Addr×Obj)) (s:Shared) (Z:St) (H:Hp) (D:Ends),Inv X ak Z H s->t D Z H->wpAny (model X.prog X.w) X.A (exec st X.env) (SP X ak D) X.xe s
def oO(X:Cx)(st:List Stmt)(t:TS):Prop:=
 ∀(ak:List (Addr×Obj)) (s:Shared) (Z:St) (H:Hp) (D:Ends),Inv X ak Z H s->t D Z H->wpAny (model X.prog X.w) X.A (execs st X.env) (SP X ak D) X.xe s
theorem aX{α:Type}{t:Sem α}{Q Q':α->Shared->Prop}{M:Model}{A:Around}{E:Value->Shared->Prop}{s:Shared}(h:wpAny M A t Q E s)(hQ:∀a s,Q a s->Q' a s):wpAny M A t Q' E s:=jf h hQ λ_ _ x=>x
section
variable {X:Cx}
noncomputable def Pn(i:Nat):TE:=λZ H Q=>∃v,Z[i]?=some (some v)/\Q v H
noncomputable def tC(v:V):TE:=λ_ H Q=>Q v H
theorem zlv{i:Nat}{x:Str}{pos:Pos}(hN:X.N[i]?=some x)(hv:O_ X.env.scope x)(hd:(x==("__debug__" : Str))=false:=by decide)(lZ:(x==("__classdict__" : Str))=false:=by decide):PE X (.Name x pos) (Pn i):=by
 intro ak s Z H Q I h;obtain⟨v,e,h⟩:=h;obtain⟨m,hn,hl⟩:=I.loc;obtain⟨u,r,l⟩:=hl i x v hN e hv;have fin:EP X ak Z Q u s:=⟨v,H,I,r,h⟩;rcases l with ⟨hk,hm⟩|⟨hk,c,hc,yV⟩
 ·exact Ak (Gg I.ok.kind hk hn hm fin) hd
 ·rcases hk with hk|hk
  ·exact Ak (wpAny_loadName_cell I.ok.kind hk hc yV fin) hd
  ·exact Ak (wpAny_loadName_free I.ok.kind hk hc yV fin lZ) hd
theorem Pq{i j pos}:PE X (.Constant (.int i) j pos) (tC (.int i)):=λ_ _ _ H _ I h=>wpAny_Constant_int ⟨.int i,H,I.tok _,⟨_,rfl⟩,h⟩
theorem znd{b j pos}:PE X (.Constant (.bool b) j pos) (tC (.bl b)):=λ_ _ _ H _ I h=>Constant_bool ⟨.bl b,H,I,rfl,h⟩
theorem zkY{j pos}:PE X (.Constant .none j pos) (tC .non):=λ_ _ _ H _ I h=>Constant_none ⟨.non,H,I,rfl,h⟩
theorem W6{x j pos}:PE X (.Constant (.str x) j pos) (tC (.str x)):=λ_ _ _ H _ I h=>Calls.Constant_str ⟨.str x,H,I.tok _,⟨_,rfl⟩,h⟩
def Gl(X:Cx)(x:Str):Prop:=X.env.kindOf x=some .globalImplicit
theorem GP{E:Value->Shared->Prop}{ak:List (Addr×Obj)}{s:Shared}{Z:St}{H:Hp}{x:Str}{u:Value}{pos:Pos}{Q:Value->Shared->Prop}(I:Inv X ak Z H s)(hg:Gl X x)(hm:X.mg x=some u)(h:Q u s)
  (hd:(x==("__debug__" : Str))=false:=by decide):wpAny (model X.prog X.w) X.A (eval (.Name x pos) X.env) Q E s:=
 Calls.Name_function_global I.ok.kind hg (Calls.loadGlobal_global (by rw[I.ok.glob];exact I.mod.glob.keeps I.bk) hm h) hd
theorem yW{E:Value->Shared->Prop}{ak:List (Addr×Obj)}{s:Shared}{Z:St}{H:Hp}{x:Str}{u:Value}{pos:Pos}{Q:Value->Shared->Prop}(I:Inv X ak Z H s)(hg:Gl X x)(hm:X.mg x=none)(hv:bootBuiltins x=some u)(h:Q u s)
  (hn:x≠"__name__":=by decide) (hd:(x==("__debug__" : Str))=false:=by decide):wpAny (model X.prog X.w) X.A (eval (.Name x pos) X.env) Q E s:=by
 obtain⟨mb,h1,h2⟩:=I.mod.blt;exact Calls.Name_function_global I.ok.kind hg (Calls.loadGlobal_builtin (by rw[I.ok.glob];exact I.mod.glob.keeps I.bk) hm (by rw[I.ok.blt];exact h1.keeps I.bk) ((h2 x hn).trans hv) h) hd
theorem W7{x:Str}{v:V}{u:Value}{pos:Pos}(hg:Gl X x)(hm:X.mg x=some u)(r:RelV v u)(hd:(x==("__debug__" : Str))=false:=by decide):PE X (.Name x pos) (tC v):=
 λ_ _ _ H _ I h=>GP I hg hm ⟨v,H,I,r,h⟩ hd
variable {a b:Expr}{ta tb:TE}{pos:Pos}
def PC(X:Cx)(op:CmpOp)(a b:Expr)(t:TE):Prop:=
 ∀(ak:List (Addr×Obj)) (s:Shared) (Z:St) (H:Hp) (Q:VK),Inv X ak Z H s->t Z H Q->
  wpAny (model X.prog X.w) X.A (eval a X.env) (λv s₁=>wpAny (model X.prog X.w) X.A (eval b X.env) (λu s₂=>wpAny (model X.prog X.w) X.A (compareOp op v u) (EP X ak Z Q) X.xe s₂) X.xe s₁) X.xe s
theorem ni(b:Expr){op:CmpOp}(h:op≠.In)(h2:op≠.NotIn):behindInMarks op b=false:=by
 have e1:(op==CmpOp.In)=false:=by cases op<;>first|rfl|exact absurd rfl h
 have e2:(op==CmpOp.NotIn)=false:=by cases op<;>first|rfl|exact absurd rfl h2
 cases b<;>simp[behindInMarks,e1,e2]
noncomputable def Pu(ta:TE):TE:=λZ H Q=>ta Z H λx H1=>Q (.bl (decide (x=.non))) H1
noncomputable def GQ(ta:TE):TE:=λZ H Q=>ta Z H λx H1=>Q (.bl (!decide (x=.non))) H1
theorem RelV.nj{x:V}{v:Value}(r:RelV x v):(v==Value.none)=decide (x=.non):=by
 cases x with
 |non=>cases r;rfl
 |bl _=>cases r;rfl
 |int _=>obtain⟨t,rfl⟩:=r;rfl
 |str _=>obtain⟨t,rfl⟩:=r;rfl
 |GC _=>obtain⟨t,rfl⟩:=r;rfl
 |flt _=>obtain⟨t,rfl⟩:=r;rfl
 |ref _=>cases r;rfl
 |ty _=>cases r;rfl
theorem zli{j pos'}(ha:PE X a ta):PC X .Is a (.Constant .none j pos') (Pu ta):=by
 intro ak s Z H Q I h;refine aX (ha ak s Z H _ I h) λv s1 hx=>cY hx λx H1 I1 r1 q1=>?_;exact Constant_none (is_none_gen ⟨.bl _,H1,I1,by rw[r1.nj];rfl,q1⟩)
theorem zjl{j pos'}(ha:PE X a ta):PC X .IsNot a (.Constant .none j pos') (GQ ta):=by
 intro ak s Z H Q I h;refine aX (ha ak s Z H _ I h) λv s1 hx=>cY hx λx H1 I1 r1 q1=>?_;exact Constant_none (isnot_none_gen ⟨.bl _,H1,I1,by rw[r1.nj];rfl,q1⟩)
noncomputable def tB(t:TE):TT:=λZ H Q=>t Z H λx H1=>∃c,x=.bl c/\Q c H1
theorem zmd{op:CmpOp}{t:TE}(h:PC X op a b t)(h1:behindInMarks op b=false:=by first|exact ni _ UJ UJ|rfl):PE X (.Compare a [op] [b] pos) t:=λak s Z H Q I hw=>wpAny_Compare1 (h ak s Z H Q I hw) h1
theorem zkS{op:CmpOp}{t:TE}(h:PC X op a b t)(h1:behindInMarks op b=false:=by first|exact ni _ UJ UJ|rfl):PT X (.Compare a [op] [b] pos) (tB t):=by
 intro ak s Z H Q I hw;refine wpAny_isTrue_Compare1 (aX (h ak s Z H _ I hw) λv s1 h1=>aX h1 λu s2 h2=>aX h2 λc s3 hx=>cY hx λx H1 I1 r1 q1=>?_) h1;obtain⟨d,rfl,q⟩:=q1;cases r1;exact oG ⟨H1,I1,q⟩
theorem zlq{e:Expr}{t:TE}(h:PE X e t)(he:∀whole,isTrue e X.env whole=(do let v <-whole;standAt e.pos;holding [v] (truthy v)):=by intro _;rfl):PT X e (tB t):=by
 intro ak s Z H Q I hw;refine isTrue_plain (aX (h ak s Z H _ I hw) λv s1 hx=>cY hx λx H1 I1 r1 q1=>?_) (he _);obtain⟨d,rfl,q⟩:=q1;cases r1;exact oG ⟨H1,I1,q⟩
variable {tA Lw:TT}{rest:List Expr}
noncomputable def Px(t u:TT):TT:=λZ H Q=>t Z H λc H1=>if c=true then u Z H1 Q else Q false H1
noncomputable def tOr(t u:TT):TT:=λZ H Q=>t Z H λc H1=>if c=true then Q true H1 else u Z H1 Q
noncomputable def Py(t:TT):TT:=λZ H Q=>t Z H λc H1=>Q (!c) H1
theorem ziW(ha:PT X a tA):PW X (.BoolOp .And [a] pos) tA:=by
 intro wh ak s Z H Q I h;refine isTrue_and (aX (ha ak s Z H Q I h) λc s1 e=>?_);cases c with
 |true=>exact isTrue_and_nil e
 |false=>exact e
theorem zkA(ha:PT X a tA):PW X (.BoolOp .Or [a] pos) tA:=by
 intro wh ak s Z H Q I h;refine isTrue_or (aX (ha ak s Z H Q I h) λc s1 e=>?_);cases c with
 |false=>exact isTrue_or_nil e
 |true=>exact e
theorem zmc(ha:PT X a tA)(hb:PW X (.BoolOp .And (b::rest) pos) Lw):PW X (.BoolOp .And (a::b::rest) pos) (Px tA Lw):=by
 intro wh ak s Z H Q I h;refine isTrue_and (aX (ha ak s Z H _ I h) λc s1 hx=>wF hx λH1 I1 q1=>?_);cases c with
 |true=>exact hb wh ak s1 Z H1 Q I1 q1
 |false=>exact⟨H1,I1,q1⟩
theorem znm(ha:PT X a tA)(hb:PW X (.BoolOp .Or (b::rest) pos) Lw):PW X (.BoolOp .Or (a::b::rest) pos) (tOr tA Lw):=by
 intro wh ak s Z H Q I h;refine isTrue_or (aX (ha ak s Z H _ I h) λc s1 hx=>wF hx λH1 I1 q1=>?_);cases c with
 |true=>exact⟨H1,I1,q1⟩
 |false=>exact hb wh ak s1 Z H1 Q I1 q1
theorem zk4(ha:PT X a tA):PT X (.UnaryOp .Not a pos) (Py tA):=by
 intro ak s Z H Q I h;exact isTrue_not (ha ak s Z H (λc H1=>Q (!c) H1) I h)
noncomputable def GR(ta tb:TE):TE:=λZ H Q=>ta Z H λx H1=>∃c,x=.bl c/\if c=true then tb Z H1 Q else Q (.bl false) H1
noncomputable def Pz(ta tb:TE):TE:=λZ H Q=>ta Z H λx H1=>∃c,x=.bl c/\if c=true then Q (.bl true) H1 else tb Z H1 Q
noncomputable def GX(ta:TE):TE:=λZ H Q=>ta Z H λx H1=>∃c,x=.bl c/\Q (.bl (!c)) H1
theorem zlj{op}{t:TE}(h:PE X a t):PE X (.BoolOp op [a] pos) t:=λak s Z H Q I hw=>BoolOp_one (h ak s Z H Q I hw)
theorem zlJ(ha:PE X a ta)(hb:PE X (.BoolOp .And (b::rest) pos) tb):PE X (.BoolOp .And (a::b::rest) pos) (GR ta tb):=by
 intro ak s Z H Q I h;refine BoolOp_and (aX (ha ak s Z H _ I h) λv s1 hx=>cY hx λx H1 I1 r1 q1=>?_);obtain⟨c,rfl,q1⟩:=q1;cases r1;refine oG ?_;cases c with
 |true=>exact hb ak s1 Z H1 Q I1 q1
 |false=>exact⟨.bl false,H1,I1,rfl,q1⟩
theorem zmv(ha:PE X a ta)(hb:PE X (.BoolOp .Or (b::rest) pos) tb):PE X (.BoolOp .Or (a::b::rest) pos) (Pz ta tb):=by
 intro ak s Z H Q I h;refine BoolOp_or (aX (ha ak s Z H _ I h) λv s1 hx=>cY hx λx H1 I1 r1 q1=>?_);obtain⟨c,rfl,q1⟩:=q1;cases r1;refine oG ?_;cases c with
 |false=>exact hb ak s1 Z H1 Q I1 q1
 |true=>exact⟨.bl true,H1,I1,rfl,q1⟩
theorem zj5(ha:PE X a ta):PE X (.UnaryOp .Not a pos) (GX ta):=by
 intro ak s Z H Q I h;refine UnaryOp_ (aX (ha ak s Z H _ I h) λv s1 hx=>cY hx λx H1 I1 r1 q1=>?_);obtain⟨c,rfl,q1⟩:=q1;cases r1;exact not_of (oG ⟨.bl (!c),H1,I1,rfl,q1⟩)
noncomputable def tIf(t:TT)(ta tb:TE):TE:=λZ H Q=>t Z H λc H1=>if c=true then ta Z H1 Q else tb Z H1 Q
theorem zhk{c:Expr}(hc:PT X c tA)(ha:PE X a ta)(hb:PE X b tb):PE X (.IfExp c a b pos) (tIf tA ta tb):=by
 intro ak s Z H Q I h;refine wpAny_IfExp (aX (hc ak s Z H _ I h) λd s1 hx=>wF hx λH1 I1 q1=>?_);cases d with
 |true=>exact ha ak s1 Z H1 Q I1 q1
 |false=>exact hb ak s1 Z H1 Q I1 q1
end
def dw(K:W.Frag)(H:Hp)(a:Addr)(xs:List V):Prop:=
 Rd H a (.lst xs) \/
  ∃(o:Obj) (its:Array Value) (n:Nat),K.lookup a=some o/\o.cls=.type "list"/\o.dict=none/\o.data=.seq its n/\its.size<=sizeLine/\Vals xs its.toList
def fL(K:W.Frag)(H:Hp)(a:Addr)(xs:List V):Prop:=
 Rd H a (.tup xs) \/
  ∃(o:Obj) (its:Array Value) (n:Nat),K.lookup a=some o/\o.cls=.type "tuple"/\o.data=.seq its n/\its.size<=sizeLine/\Vals xs its.toList
noncomputable def PB:Value->Option V
 |.none=>some .non
 |.bool b=>some (.bl b)
 |.int i _=>some (.int i)
 |.str x _=>some (.str x)
 |.bytes b _=>some (.GC b)
 |.float b _=>some (.flt b)
 |.ref a=>some (.ref a)
 |.type n=>some (.ty n)
 |_=>none
theorem RelV.abs{x:V}{u:Value}(r:RelV x u):PB u=some x:=by
 cases x with
 |non=>cases r;rfl
 |bl _=>cases r;rfl
 |int _=>obtain⟨t,rfl⟩:=r;rfl
 |str _=>obtain⟨t,rfl⟩:=r;rfl
 |GC _=>obtain⟨t,rfl⟩:=r;rfl
 |flt _=>obtain⟨t,rfl⟩:=r;rfl
 |ref _=>cases r;rfl
 |ty _=>cases r;rfl
theorem RelV.inj{x y:V}{u:Value}(r:RelV x u)(q:RelV y u):x=y:=cT (r.abs.symm.trans q.abs)
theorem Vals.inj{xs ys:List V}{us:List Value}(h:Vals xs us)(h':Vals ys us):xs=ys:=by
 induction h generalizing ys with
 |nil=>cases h';rfl
 |cons r _ ih=>
  cases h' with
  |cons r' t'=>rw[r.inj r',ih t']
section
variable {X:Cx}{ak:List (Addr×Obj)}{Z:St}{H:Hp}{s:Shared}{a:Addr}{xs ys:List V}
theorem dw.of{K:W.Frag}(h:H a=some (.lst xs)):dw K H a xs:=.inl (.inl h)
theorem Inv.list(I:Inv X ak Z H s)(h:dw X.K H a xs):∃its:List Value,Vals xs its/\PlainL s.heap a its.toArray/\xs.length<=sizeLine:=by
 rcases h with h|⟨o,its,n,hk,hc,hd,hs,hz,r⟩
 ·obtain⟨z,its,n,r,e⟩:=h.ok I.hok;exact⟨its,r,⟨_,n,e,rfl,rfl,rfl⟩,z⟩
 ·refine⟨its.toList,r,⟨o,n,I.pY a o hk,hc,hd,by simpa using hs⟩,?_⟩;have e:=r.length;simp only[Ac] at e
  lia
theorem Inv.tuple(I:Inv X ak Z H s)(h:fL X.K H a xs):∃its:List Value,Vals xs its/\IsTup s.heap a its.toArray/\xs.length<=sizeLine:=by
 rcases h with h|⟨o,its,n,hk,hc,hs,hz,r⟩
 ·obtain⟨z,its,r,p⟩:=h.ok I.hok;exact⟨its,r,p,z⟩
 ·refine⟨its.toList,r,⟨o,I.pY a o hk,hc,n,by simpa using hs⟩,?_⟩;have e:=r.length;simp only[Ac] at e
  lia
theorem Inv.nq(I:Inv X ak Z H s)(h:dw X.K H a xs)(h':dw X.K H a ys):xs=ys:=by
 obtain⟨its,r,⟨o,n,e,_,_,d⟩,_⟩:=I.list h;obtain⟨its',r',⟨o',n',e',_,_,d'⟩,_⟩:=I.list h';rw[e] at e';cases e';rw[d] at d';injection d' with d1 _;have:its=its':=by simpa using qL Array.toList d1
 subst this;exact r.inj r'
theorem Inv.lC(I:Inv X ak Z H s)(h:fL X.K H a xs)(h':fL X.K H a ys):xs=ys:=by
 obtain⟨its,r,⟨o,e,_,n,d⟩,_⟩:=I.tuple h;obtain⟨its',r',⟨o',e',_,n',d'⟩,_⟩:=I.tuple h';rw[e] at e';cases e';rw[d] at d';injection d' with d1 _;have:its=its':=by simpa using qL Array.toList d1
 subst this;exact r.inj r'
end
section
variable {X:Cx}{st:Stmt}{rest:List Stmt}{t u:TS}{e:Expr}{te:TE}{pos:Pos}
noncomputable def GZ:TS:=λD Z H=>D.nx Z H
noncomputable def PJ(t u:TS):TS:=λD Z H=>t {D with nx:=u D} Z H
theorem ziM:oO X [] GZ:=λ_ _ Z H _ I h=>Ld ⟨Z,H,I,h⟩
theorem zhU(h1:PS X st t)(h2:oO X rest u):oO X (st::rest) (PJ t u):=by
 intro ak s Z H D I h;refine wpAny_execs_cons (aX (h1 ak s Z H {D with nx:=u D} I h) λf s1 q=>?_);cases f with
 |next=>
  obtain⟨Z',H',I',q⟩:=q;exact h2 ak s1 Z' H' D I' q
 |ret v=>exact q
 |brk=>exact q
 |cont=>exact q
theorem Inv.quiet{ak:List (Addr×Obj)}{Z:St}{H:Hp}{s:Shared}(I:Inv X ak Z H s):interactive X.env=false:=by simp[interactive,I.ok.kind]
noncomputable def G3(te:TE):TS:=λD Z H=>te Z H λ_ H1=>D.nx Z H1
theorem zjF(he:PE X e te)(hs:swapsWith e none pos.line X.env=pure false:=by rfl):PS X (.Expr e pos) (G3 te):=by
 intro ak s Z H D I h;exact wpAny_Expr_any (aX (he ak s Z H _ I h) λv s1 hx=>cY hx λx H1 I1 r1 q1=>⟨Z,H1,I1,q1⟩) I.quiet hs
noncomputable def PK(te:TE):TS:=λD Z H=>te Z H D.rt
theorem zkJ(he:PE X e te):PS X (.Return (some e) pos) (PK te):=by
 intro ak s Z H D I h;exact wpAny_Return_some (aX (he ak s Z H _ I h) λv s1 hx=>cY hx λx H1 I1 r1 q1=>⟨x,Z,H1,I1,r1,q1⟩)
noncomputable def PL(c:TT)(t u:TS):TS:=λD Z H=>c Z H λb H1=>if b=true then t D Z H1 else u D Z H1
theorem zmW{c:Expr}{a b:List Stmt}{tc:TT}(hc:PT X c tc)(ha:oO X a t)(hb:oO X b u):PS X (.If c a b pos) (PL tc t u):=by
 intro ak s Z H D I h;refine wpAny_If (aX (hc ak s Z H _ I h) λd s1 hx=>wF hx λH1 I1 q1=>?_);cases d with
 |true=>exact ha ak s1 Z H1 D I1 q1
 |false=>exact hb ak s1 Z H1 D I1 q1
end
noncomputable abbrev TG:=V->St->Hp->(St->Hp->Prop)->Prop
noncomputable abbrev Ax:=List V->St->Hp->(St->Hp->Prop)->Prop
def PG(X:Cx)(target:Expr)(t:TG):Prop:=
 ∀(ak:List (Addr×Obj)) (s:Shared) (Z:St) (H:Hp) (v:V) (u:Value) (Q:St->Hp->Prop),Inv X ak Z H s->RelV v u->t v Z H Q->
  wpAny (model X.prog X.w) X.A (assign target X.env u) (λ_ s'=>∃Z' H',Inv X ak Z' H' s'/\Q Z' H') X.xe s
def Lx(X:Cx)(ts:List Expr)(t:Ax):Prop:=
 ∀(ak:List (Addr×Obj)) (s:Shared) (Z:St) (H:Hp) (vs:List V) (us:List Value) (Q:St->Hp->Prop),Inv X ak Z H s->Vals vs us->t vs Z H Q->
  wpAny (model X.prog X.w) X.A (assignInOrder ((assignEach ts X.env).map (·.2)) us) (λ_ s'=>∃Z' H',Inv X ak Z' H' s'/\Q Z' H') X.xe s
noncomputable abbrev Ay:=V->V->V->Hp->(Hp->Prop)->Prop
def G4(X:Cx)(t:Ay):Prop:=
 ∀(ak:List (Addr×Obj)) (s:Shared) (Z:St) (H:Hp) (o i v:V) (ov iv u:Value) (Q:Hp->Prop),Inv X ak Z H s->RelV o ov->RelV i iv->RelV v u->t o i v H Q->
  wpAny (model X.prog X.w) X.A (setItem ov iv u) (λ_ s'=>∃H',Inv X ak Z H' s'/\Q H') X.xe s
section
variable {X:Cx}{pos:Pos}
noncomputable def d9(i:Nat):TG:=λv Z H Q=>Q (Z.set i (some v)) H
theorem Ly{i:Nat}{x:Str}(hN:X.N.Nodup)(hi:X.N[i]?=some x)(hx:Loc X.env.scope x)(hf:X.fn x=true\/X.env.scope.names.lookup x=some .local:=by first|exact .inl rfl|exact .inr rfl|assumption):PG X (.Name x pos) (d9 i):=by
 intro ak s Z H v u Q I r h;exact wpAny_assign_Name (GK I hN hi hx r (λs' I'=>⟨_,H,I',h⟩) hf)
noncomputable def sZ:Ax:=λvs Z H Q=>vs=[]/\Q Z H
noncomputable def gM(t:TG)(u:Ax):Ax:=λvs Z H Q=>∃v r,vs=v::r/\t v Z H λZ' H'=>u r Z' H' Q
theorem zi0:Lx X [] sZ:=by
 intro ak s Z H vs us Q I r h;obtain⟨e,h⟩:=h;subst e;cases r;exact assignInOrder_nil ⟨Z,H,I,h⟩
theorem W8{e:Expr}{es:List Expr}{t:TG}{u:Ax}(h1:PG X e t)(h2:Lx X es u)
  (hs:(assignEach (e::es) X.env).map (·.2)=assign e X.env::(assignEach es X.env).map (·.2):=by rfl):Lx X (e::es) (gM t u):=by
 intro ak s Z H vs us Q I r h;obtain⟨v,vr,e1,h⟩:=h;subst e1;cases r with
 |cons r rr=>
  rw[hs];refine assignInOrder_cons (aX (h1 ak s Z H _ _ _ I r h) λ_ s1 ⟨Z1,H1,I1,q1⟩=>?_);exact h2 ak s1 Z1 H1 _ _ Q I1 rr q1
noncomputable def tu(K:W.Frag)(n:Nat)(t:Ax):TG:=λv Z H Q=>∃a xs,v=.ref a/\fL K H a xs/\xs.length=n/\t xs Z H Q
theorem zlN{es:List Expr}{k:Nat}{t:Ax}{n:Nat}(hc:X.aj=true)(h:Lx X es t)
  (hn:(assignEach es X.env).length=n:=by rfl) (p7:(assignEach es X.env).findIdx? (·.1)=none:=by rfl):PG X (.Tuple es k pos) (tu X.K n t):=by
 intro ak s Z H v u Q I r hw;obtain⟨a,xs,e1,hq,hl,hw⟩:=hw;subst e1;cases r;obtain⟨its,rv,ht,hz⟩:=I.tuple hq;refine assign_Tuple_tuple (I.ok.hd hc) ht (by simp[hn,<-hl,rv.length]) p7 λh' hx=>?_;have I1:Inv X ak Z H {s with heap:=h'}:=I.kept (t':=s.toks) λb o e=>hx b o (cR (bM e)) e;exact h ak _ Z H xs _ Q I1 (by simpa using rv) hw
noncomputable def PN(to ti:TE)(t:Ay):TG:=λv Z H Q=>to Z H λo H1=>ti Z H1 λi H2=>t o i v H2 λH3=>Q Z H3
theorem zly{o i:Expr}{to ti:TE}{t:Ay}(ho:PE X o to)(hi:PE X i ti)(hs:G4 X t)
  (ha:∀v,assign (.Subscript o i pos) X.env v=(do
   let ov <-holding [v] (eval o X.env)
   let iv <-holding [v,ov] (eval i X.env)
   standAt pos
   holding [v,ov,iv] (setItem ov iv v)
   release [v,ov,iv] []):=by intro _;rfl):PG X (.Subscript o i pos) (PN to ti t):=by
 intro ak s Z H v u Q I r h;rw[ha];refine au (jw (aX (ho ak s Z H _ I h) λov s1 hx=>cY hx λx H1 I1 r1 q1=>?_));refine au (jw (aX (hi ak s1 Z H1 _ I1 q1) λiv s2 hx=>cY hx λy H2 I2 r2 q2=>?_));refine au (vo (au (jw (aX (hs ak s2 Z H2 x y v ov iv u _ I2 r1 r2 r q2) λ_ s3 hx=>wF hx λH3 I3 q3=>?_))));exact wpAny_release ⟨Z,H3,I3,q3⟩
noncomputable def G5(te:TE)(g:TG):TS:=λD Z H=>te Z H λx H1=>g x Z H1 D.nx
theorem W9{tg e:Expr}{te:TE}{g:TG}(he:PE X e te)(hg:PG X tg g)(hs:swapsWithSole [tg] e pos.line X.env=pure false:=by rfl)(hw:swappedStores [tg] e X.env=pure none:=by rfl)
  (h1:(assignEach [tg] X.env).map (·.2)=[assign tg X.env]:=by rfl):PS X (.Assign [tg] e pos) (G5 te g):=by
 intro ak s Z H D I h;refine wpAny_Assign_stores (aX (he ak s Z H _ I h) λv s1 hx=>cY hx λx H1 I1 r1 q1=>?_) hs hw;rw[h1];exact aX (hg ak s1 Z H1 x v _ I1 r1 q1) λ_ s2 q=>q
theorem zlR{i:Nat}{x:Str}{e:Expr}{te:TE}{pos':Pos}(hN:X.N.Nodup)(hi:X.N[i]?=some x)(hx:Loc X.env.scope x)(he:PE X e te)(hs:swapsWith e (some (.Name x pos')) pos.line X.env=pure false:=by rfl)(hf:X.fn x=true\/X.env.scope.names.lookup x=some .local:=by first|exact .inl rfl|exact .inr rfl|assumption) :
  PS X (.Assign [.Name x pos'] e pos) (G5 te (d9 i)):=by
 intro ak s Z H D I h;refine wpAny_Assign_Name (aX (he ak s Z H _ I h) λv s1 ⟨y,H1,I1,r1,q1⟩=>?_) hs;exact GK I1 hN hi hx r1 (λs2 I2=>⟨_,H1,I2,q1⟩) hf
noncomputable def PX(i j:Nat)(ta:TA):TS:=λD Z H=>ta Z H λvs H1=>∃v w,vs=[v,w]/\D.nx ((Z.set i (some v)).set j (some w)) H1
theorem zlD{i j:Nat}{x y:Str}{a b:Expr}{ta:TA}{px py pt:Pos}{kt k2 tD}(hc:X.aj=true)(hN:X.N.Nodup)(hi:X.N[i]?=some x)(hj:X.N[j]?=some y)(lD:i≠j)
  (hx:X.env.scope.names.lookup x=some .local) (hy:X.env.scope.names.lookup y=some .local) (ha:PA X [a,b] ta)
  (hw:swappedStores [.Tuple [.Name x px,.Name y py] kt pt] (.Tuple [a,b] k2 tD) X.env=pure (some [x,y]))
  (hs:swapsWithSole [.Tuple [.Name x px,.Name y py] kt pt] (.Tuple [a,b] k2 tD) pos.line X.env=pure false:=by rfl) :
  PS X (.Assign [.Tuple [.Name x px,.Name y py] kt pt] (.Tuple [a,b] k2 tD) pos) (PX i j ta):=by
 intro ak s Z H D I h;rw[exec_Assign_arm];refine au (vo ?_);rw[hs];refine au (aJ ?_);rw[if_neg UJ];refine au (Tuple_ (aX (ha _ ak s Z H _ I h) λus s1 ⟨vs,H1,I1,r1,q1⟩=>?_));obtain⟨v,w,e1,q1⟩:=q1;subst e1;obtain⟨u1,u2,rfl,rv,oR⟩ : ∃u1 u2,us=[u1,u2]/\RelV v u1/\RelV w u2:=by
  cases r1 with
  |cons p q=>
   cases q with
   |cons p' q'=>
    cases q';exact⟨_,_,rfl,p,p'⟩
 refine nZ ?_ (by show 2<=sizeLine;decide);have I2:Inv X ak Z H1 {s1 with heap:=s1.heap.push {cls:=.type "tuple",data:=.seq [u1,u2].toArray}}:=I1.kept (t':=s1.toks) λb o e=>bU _ e;rw[hw];refine au (aJ ?_);show wpAny (model X.prog X.w) X.A (do rule "assign.swapped-stores";let items <-unpackItems (.ref s1.heap.objs.size) 2 none;assignInOrder [λv=>bindName X.env y v,λv=>bindName X.env x v] items.reverse;pure Flow.next) _ _ _;refine au (Ek (au (unpackItems_tuple (items:=#[u1,u2]) (I.ok.hd hc) (IsTup.new s1.heap _) λh' G6=>?_)));have I3:=I2.kept (h':=h') (t':=s1.toks) λb o e=>G6 b o (cR (bM e)) e;show wpAny _ _ (assignInOrder [λv=>bindName X.env y v,λv=>bindName X.env x v] [u2,u1] >>= λ_=>pure Flow.next) _ _ _;refine au (assignInOrder_cons (wpAny_bindName (GK I3 hN hj (.inl hy) oR (λs2 I4=>?_) (.inr hy))));refine assignInOrder_cons (wpAny_bindName (GK I4 hN hi (.inl hx) rv (λs3 I5=>assignInOrder_nil (aJ ?_)) (.inr hx)));rw[List.set_comm _ _ (Ne.symm lD)] at I5;exact⟨_,H1,I5,q1⟩
end
structure It where
 go:Nat->Hp->Prop
 Az:Nat->Hp->V->Hp->Prop
 stop:Nat->Hp->Prop
def iw(X:Cx)(ak:List (Addr×Obj))(H:Hp)(b:Addr):Prop:=
 H b=none/\b≠X.env.locals/\b∉X.fs/\(b∈X.ex\/X.s₀.heap.objs.size<=b)/\(∀x c,X.env.cells.lookup x=some c->c≠b)/\∀p∈X.pn++ak,p.1≠b
theorem Inv.wK{X:Cx}{ak:List (Addr×Obj)}{Z:St}{H H':Hp}{s:Shared}{b:Addr}(I:Inv X ak Z H s)(hb:s.heap.objs.size<=b)(hn:H' b=none):iw X ak H' b:=by
 refine⟨hn,vp (gj I.lt hb),I.Pb hb,.inr (n8 I.sz hb),λx c e z=>?_,λp hp z=>?_⟩
 ·obtain⟨v,q⟩:=I.cell x c e;exact absurd (gj q.lt (by rw[z];exact hb)) (m5 _)
 ·exact absurd (gj (bM (I.pin p hp).1) (by rw[z];exact hb)) (m5 _)
structure Turn(P:Program)(w:World)(K:W.Frag)(tg:Expr)(b_:It)(fp:List Addr)(it:Addr)(tn:Nat->Heap->Prop):Prop where
 mem:it∈fp
 obj:∀i h,tn i h->∀b∈fp,∃o,h.get? b=some o/\∀v,o.data≠.cell v
 keep:∀i h h',tn i h->(∀b∈fp,∀o,h.get? b=some o->h'.get? b=some o)->tn i h'
 item:∀(X:Cx),X.prog=P->X.w=w->X.K=K->X.aj=true->∀(i:Nat) (ak:List (Addr×Obj)) (s:Shared) (Z:St) (H:Hp) (E:Value->Shared->Prop),Inv X ak Z H s->(∀b∈fp,iw X ak H b)->tn i s.heap->b_.go i H->
  wpAny (model P w) X.A (pyNext (.ref it)) (λr s1=>∃u,r=some u /\
   wpAny (model P w) X.A (letOwnedTupleGo tg (.ref it) u) (λ_ s2=>∃x H',Inv X ak Z H' s2/\RelV x u/\b_.Az i H x H'/\tn (i+1) s2.heap/\∀b∈fp,H' b=none) E s1) E s
 done:∀(X:Cx),X.prog=P->X.w=w->X.K=K->X.aj=true->∀(i:Nat) (ak:List (Addr×Obj)) (s:Shared) (Z:St) (H:Hp) (E:Value->Shared->Prop),Inv X ak Z H s->(∀b∈fp,iw X ak H b)->tn i s.heap->b_.stop i H->
  wpAny (model P w) X.A (pyNext (.ref it)) (λr s1=>r=none/\Inv X ak Z H s1) E s
 self:∀(A:Around) (i:Nat) (s:Shared) (Q:Value->Shared->Prop) (E:Value->Shared->Prop),tn i s.heap->Q (.ref it) s->wpAny (model P w) A (pyIter (.ref it)) Q E s
noncomputable abbrev TI:=St->Hp->(It->Hp->Prop)->Prop
def PIE(X:Cx)(ak:List (Addr×Obj))(Z:St)(tg:Expr)(R:It->Hp->Prop)(itv:Value)(s2:Shared):Prop:=
 ∃(it:Addr) (fp:List Addr) (tn:Nat->Heap->Prop) (b_:It) (H':Hp),itv=.ref it/\Inv X ak Z H' s2/\Turn X.prog X.w X.K tg b_ fp it tn/\tn 0 s2.heap/\(∀b∈fp,iw X ak H' b)/\R b_ H'
def PI(X:Cx)(tg iter:Expr)(wi:TI):Prop:=
 ∀(ak:List (Addr×Obj)) (s:Shared) (Z:St) (H:Hp) (R:It->Hp->Prop),Inv X ak Z H s->wi Z H R->
  wpAny (model X.prog X.w) X.A (eval iter X.env) (λv s1=>wpAny (model X.prog X.w) X.A (pyIter v) (PIE X ak Z tg R) X.xe s1) X.xe s
theorem P0{M:Model}{A:Around}{E:Value->Shared->Prop}{s:Shared}{tg:Expr}{it:Addr}{u:Value}{o:Obj}{n:String}{vs:Array Value}{Q:Unit->Shared->Prop}(ho:s.heap.get? it=some o)(hc:o.cls=.type n)(hd:o.data=.fields vs)
  (hn:["enumerate","zip","dict_itemiterator","dict_reverseitemiterator","odict_iterator","itertools.zip_longest","itertools.pairwise"].contains n=false) (hQ:Q () s):wpAny M A (letOwnedTupleGo tg (.ref it) u) Q E s:=by
 unfold letOwnedTupleGo;cases tg<;>first
  |exact aJ hQ
  | (cases u<;>first
    |exact aJ hQ
    | (refine au (wpAny_load ho ?_)
       rw[hc,hd];show wpAny M A (if (["enumerate","zip","dict_itemiterator","dict_reverseitemiterator","odict_iterator","itertools.zip_longest","itertools.pairwise"].contains n&&vs[0]?==some (rawInt _))=true then _ else _) Q E s;rw[if_neg (by intro h;rw[hn,Ah] at h;cases h)];exact aJ hQ))
noncomputable def Lz(K:W.Frag)(a:Addr):It:=
 ⟨λi H=>∃xs x,dw K H a xs/\xs[i]?=some x,λi H x H'=>H'=H/\∀xs,dw K H a xs->xs[i]?=some x,λi H=>∃xs,dw K H a xs/\xs.length<=i⟩
noncomputable def P_(K:W.Frag)(a:Addr):It:=
 ⟨λi H=>∃xs x,fL K H a xs/\xs[i]?=some x,λi H x H'=>H'=H/\∀xs,fL K H a xs->xs[i]?=some x,λi H=>∃xs,fL K H a xs/\xs.length<=i⟩
noncomputable def G7(lo:Int)(n:Nat):It:=⟨λi _=>i<n,λi H x H'=>H'=H/\x=.int (lo+i),λi _=>n<=i⟩
theorem zgI{P:Program}{w:World}{K:W.Frag}{tg:Expr}(a it:Addr):Turn P w K tg (Lz K a) [it] it (λi h=>h.IsListIter it a i) where
 mem:=by simp
 obj:=λi h st b hb=>by
  have e:b=it:=by simpa using hb
  subst e;obtain⟨o,e,c,d⟩:=st;exact⟨o,e,λv z=>by rw[d] at z;cases z⟩
 keep:=λi h h' st k=>st.at λo e=>k it Zaa o e
 item:=by
  intro X hP hw hK hc i ak s Z H E I hf st hg;subst hP hw hK;obtain⟨xs,x,hq,hx⟩:=hg;obtain⟨its,rv,p,hz⟩:=I.list hq;obtain⟨u,hu,ru⟩:=rv.get hx;obtain⟨f0,f1,f2,f3,f4,f5⟩:=hf it Zaa;refine wpAny_pyNext_list_item st p.isList (x:=u) (by simpa using hu) λh' st' sb=>?_;have I1:Inv X ak Z H {s with heap:=h'}:=I.turned (t':=s.toks) (λb o hb e=>(sb.2 b hb).trans e) f0 f1 f3 f4 f5;obtain⟨o,e,c,d⟩:=id st';exact⟨u,rfl,P0 (s:={s with heap:=h'}) e c d UJ ⟨x,H,I1,ru,⟨rfl,λys hy=>by rw[I.nq hy hq];exact hx⟩,st',λb hb=>(hf b hb).1⟩⟩
 done:=by
  intro X hP hw hK hc i ak s Z H E I hf st hg;subst hP hw hK;obtain⟨xs,hq,hx⟩:=hg;obtain⟨its,rv,p,hz⟩:=I.list hq;obtain⟨f0,f1,f2,f3,f4,f5⟩:=hf it Zaa;have hl:=rv.length;exact wpAny_pyNext_list_end (I.ok.hd hc) st p.isList (by simp;lia) λh' eb=>⟨rfl,I.turned (t':=s.toks) (λb o hb e=>eb b o hb e) f0 f1 f3 f4 f5⟩
 self:=λ_ _ _ _ _ st h=>wpAny_pyIter_listiter st h
theorem zeQ{P:Program}{w:World}{K:W.Frag}{tg:Expr}(a it:Addr):Turn P w K tg (P_ K a) [it] it (λi h=>h.IsTupleIter it a i) where
 mem:=by simp
 obj:=λi h st b hb=>by
  have e:b=it:=by simpa using hb
  subst e;obtain⟨o,e,c,d⟩:=st;exact⟨o,e,λv z=>by rw[d] at z;cases z⟩
 keep:=λi h h' st k=>st.at λo e=>k it Zaa o e
 item:=by
  intro X hP hw hK hc i ak s Z H E I hf st hg;subst hP hw hK;obtain⟨xs,x,hq,hx⟩:=hg;obtain⟨its,rv,p,hz⟩:=I.tuple hq;obtain⟨u,hu,ru⟩:=rv.get hx;obtain⟨f0,f1,f2,f3,f4,f5⟩:=hf it Zaa;refine wpAny_pyNext_tuple_item st (show s.heap.IsTuple a its.toArray from p) (x:=u) (by simpa using hu) λh' st' sb=>?_;have I1:Inv X ak Z H {s with heap:=h'}:=I.turned (t':=s.toks) (λb o hb e=>(sb.2 b hb).trans e) f0 f1 f3 f4 f5;obtain⟨o,e,c,d⟩:=id st';exact⟨u,rfl,P0 (s:={s with heap:=h'}) e c d UJ ⟨x,H,I1,ru,⟨rfl,λys hy=>by rw[I.lC hy hq];exact hx⟩,st',λb hb=>(hf b hb).1⟩⟩
 done:=by
  intro X hP hw hK hc i ak s Z H E I hf st hg;subst hP hw hK;obtain⟨xs,hq,hx⟩:=hg;obtain⟨its,rv,p,hz⟩:=I.tuple hq;obtain⟨f0,f1,f2,f3,f4,f5⟩:=hf it Zaa;have hl:=rv.length;exact wpAny_pyNext_tuple_end (I.ok.hd hc) st (show s.heap.IsTuple a its.toArray from p) (by simp;lia) λh' eb=>⟨rfl,I.turned (t':=s.toks) (λb o hb e=>eb b o hb e) f0 f1 f3 f4 f5⟩
 self:=λ_ _ _ _ _ st h=>wpAny_pyIter_tupleiter st h
theorem zeR{P:Program}{w:World}{K:W.Frag}{tg:Expr}(it:Addr)(lo:Int)(n:Nat):Turn P w K tg (G7 lo n) [it] it (λi h=>IsRangeIter h it (lo+(i:Nat)*1) ((n:Int)-(i:Nat)) 1) where
 mem:=by simp
 obj:=λi h st b hb=>by
  have e:b=it:=by simpa using hb
  subst e;exact⟨_,st,λv z=>by
   have z':Data.fields _=Data.cell v:=z;cases z'⟩
 keep:=λi h h' st k=>k it Zaa _ st
 item:=by
  intro X hP hw hK hc i ak s Z H E I hf st hg;subst hP hw hK;obtain⟨f0,f1,f2,f3,f4,f5⟩:=hf it Zaa;have W:=Walks.range (prog:=X.prog) (w:=X.w) (I.ok.hd hc) it lo 1 n;refine W.item i s _ _ hg st λv h' tk hv st' kk=>?_;obtain⟨t,rfl⟩:=hv;have I1:Inv X ak Z H {s with heap:=h',toks:=tk}:=I.turned (λb o hb e=>kk b o (by simpa using hb) e) f0 f1 f3 f4 f5;refine⟨_,rfl,P0 (s:={s with heap:=h',toks:=tk}) (n:="range_iterator") st' rfl rfl UJ ⟨.int (lo+i),H,I1,⟨t,?_⟩,⟨rfl,rfl⟩,st',λb hb=>(hf b hb).1⟩⟩;rw[Int.mul_one]
 done:=by
  intro X hP hw hK hc i ak s Z H E I hf st hg;subst hP hw hK;obtain⟨f0,f1,f2,f3,f4,f5⟩:=hf it Zaa;exact wpAny_pyNext_range_end (I.ok.hd hc) st (by have:n<=i:=hg;lia) λh' eb=>⟨rfl,I.turned (t':=s.toks) (λb o hb e=>eb b o hb e) f0 f1 f3 f4 f5⟩
 self:=λ_ _ _ _ _ st h=>wpAny_pyIter_rangeiter st h
section
variable {X:Cx}{tg:Expr}
theorem W_{ak:List (Addr×Obj)}{Z:St}{H:Hp}{s:Shared}{R:It->Hp->Prop}{E:Value->Shared->Prop}{lo hi:Int}{t u v:Tok}{tk:Nat}(I:Inv X ak Z H s)(h1 : -(2^62)<=lo)(h2:lo<2^62)(h3 : -(2^62)<=hi)(h4:hi<2^62)
  (q:R (G7 lo (hi-lo).toNat) H):wpAny (model X.prog X.w) X.A (pyIter (.ref s.heap.objs.size)) (PIE X ak Z tg R) E {s with heap:=s.heap.push {cls:=.type "range",data:=.fields #[.int lo t,.int hi u,.int 1 v]},toks:=tk}:=by
 refine wpAny_pyIter_range (IsRange.new ..) (small_one h1 h2 h3 h4) ?_;have I1:Inv X ak Z H {s with heap:=s.heap.push {cls:=.type "range",data:=.fields #[.int lo t,.int hi u,.int 1 v]},toks:=tk}:=I.kept λb o e=>bU _ e;refine⟨(s.heap.push {cls:=.type "range",data:=.fields #[.int lo t,.int hi u,.int 1 v]}).objs.size,[(s.heap.push {cls:=.type "range",data:=.fields #[.int lo t,.int hi u,.int 1 v]}).objs.size],_,_,H,rfl,
  I1.kept (t':=tk) λb o e=>bU _ e,zeR _ lo (hi-lo).toNat,?_,λb hb=>?_,q⟩
 ·have e1:lo+((0:Nat):Int)*1=lo:=by simp
  have e2:(((hi-lo).toNat:Nat):Int)-((0:Nat):Int)=Builtin.Range.rangeSize lo hi 1:=by rw[rangeSize_one];split<;>lia
  show IsRangeIter _ _ (lo+((0:Nat):Int)*1) ((((hi-lo).toNat:Nat):Int)-((0:Nat):Int)) 1;rw[e1,e2];exact gF _ rfl
 ·have e:b=(s.heap.push {cls:=.type "range",data:=.fields #[.int lo t,.int hi u,.int 1 v]}).objs.size:=by simpa using hb
  subst e;exact I1.wK (bV _) (I1.hok.fresh (bV _))
noncomputable def G8(ta:TA):TI:=λZ H R=>ta Z H λvs H1=>∃j:Int,vs=[.int j]/\-(2^62)<=j/\j<2^62/\R (G7 0 j.toNat) H1
noncomputable def G9(ta:TA):TI:=λZ H R=>ta Z H λvs H1=>∃i j:Int,vs=[.int i,.int j]/\(-(2^62)<=i/\i<2^62/\-(2^62)<=j/\j<2^62)/\R (G7 i (j-i).toNat) H1
theorem zfe{a:Expr}{ta:TA}{p pos:Pos}(hg:Gl X "range")(hm:X.mg "range"=none)(ha:PA X [a] ta)(hs:starEach [a] X.env=[(false,eval a X.env)]:=by rfl):PI X tg (.Call (.Name "range" p) [a] [] pos) (G8 ta):=by
 intro ak s Z H R I h;refine Call_ (yW I hg hm boot_range (Ga (aX (ha pos ak s Z H _ I h) λus s1 hx=>cY hx λvs H1 I1 r1 q1=>?_) hs rfl));obtain⟨j,e,q1,q2,q⟩:=q1;subst e;cases r1 with
 |cons r rr=>
  cases rr;obtain⟨t,rfl⟩:=r;exact call_range_1 (W_ I1 gV gV q1 q2 (by simpa using q))
theorem zfW{a b:Expr}{ta:TA}{p pos:Pos}(hg:Gl X "range")(hm:X.mg "range"=none)(ha:PA X [a,b] ta)(hs:starEach [a,b] X.env=[(false,eval a X.env),(false,eval b X.env)]:=by rfl)(Ep:starEach [b] X.env=[(false,eval b X.env)]:=by rfl) :
  PI X tg (.Call (.Name "range" p) [a,b] [] pos) (G9 ta):=by
 intro ak s Z H R I h;refine Call_ (yW I hg hm boot_range (Ga (aX (ha pos ak s Z H _ I h) λus s1 hx=>cY hx λvs H1 I1 r1 q1=>?_) (by rw[hs,Ep]) (by rw[Ep];rfl)));obtain⟨i,j,e,⟨q1,q2,q3,q4⟩,q⟩:=q1;subst e;cases r1 with
 |cons r rr=>
  cases rr with
  |cons r' rr=>
   cases rr;obtain⟨t,rfl⟩:=r;obtain⟨t',rfl⟩:=r';exact call_range_2 (W_ I1 q1 q2 q3 q4 q)
noncomputable def Qa(wi:TI)(g:TG)(tb:TS):TS:=λD Z H=>wi Z H λb_ H1=>∃W:Nat->Nat->St->Hp->Prop,(∃m,W 0 m Z H1)/\∀i m Z H,W i m Z H->
 (b_.stop i H/\D.nx Z H)\/(b_.go i H/\∃N:St->Hp->Prop,(∀Z' H',N Z' H'->∃m',m'<m/\W (i+1) m' Z' H')/\∀x H',b_.Az i H x H'->g x Z H' λZ2 H2=>tb {D with nx:=N,ct:=N,bk:=D.nx} Z2 H2)
noncomputable def jN(fp:List Addr)(h:Heap):List (Addr×Obj):=fp.filterMap λb=>(h.get? b).map λo=>(b,o)
theorem LC{fp:List Addr}{h:Heap}{b:Addr}{o:Obj}(hb:b∈fp)(e:h.get? b=some o):(b,o)∈jN fp h:=Oz.mpr ⟨b,hb,by rw[e];rfl⟩
theorem zgq{fp:List Addr}{h:Heap}{p:Addr×Obj}(hp:p∈jN fp h):p.1∈fp/\h.get? p.1=some p.2:=by
 obtain⟨b,hb,e⟩:=Oz.mp hp;cases q:h.get? b with
 |none=>rw[q] at e;cases e
 |some o=>
  rw[q] at e;have e':(b,o)=p:=cT e;subst e';exact⟨hb,q⟩
theorem Inv.pinned{ak:List (Addr×Obj)}{Z:St}{H:Hp}{s:Shared}{fp:List Addr}(I:Inv X ak Z H s)(hf:∀b∈fp,iw X ak H b)(ho:∀b∈fp,∃o,s.heap.get? b=some o/\∀v,o.data≠.cell v):Inv X (ak++jN fp s.heap) Z H s:=
 I.lY λp hp=>(gK.mp hp).elim (λz=>I.pin p (oF _ z)) λz=>by
  obtain⟨hb,e⟩:=zgq z;obtain⟨f0,f1,f2,_⟩:=hf p.1 hb;obtain⟨o,e',d⟩:=ho p.1 hb;rw[e] at e';cases e';exact⟨e,f0,f1,f2,d⟩
theorem Inv.gO{ak pl:List (Addr×Obj)}{Z:St}{H:Hp}{s:Shared}(I:Inv X (ak++pl) Z H s):Inv X ak Z H s:=I.lY λp hp=>I.pin p (oF _ (rG _ hp))
theorem zk6{iter:Expr}{body:List Stmt}{wi:TI}{g:TG}{tb:TS}{pos:Pos}(hp:PassesOwn (model X.prog X.w) X.A X.env X.xe)(hc:X.aj=true)(hi:PI X tg iter wi)(hg:PG X tg g)(hb:oO X body tb)
  (hs:∀x,foldedSetIterable iter X.env x=pure x:=by intro _;rfl):PS X (.For tg iter body [] pos) (Qa wi g tb):=by
 intro ak s Z H D I h;refine wpAny_For (aX (hi ak s Z H _ I h) λv s1 h1=>aX h1 λitv s2 h2=>?_) hs;obtain⟨it,fp,tn,b_,H2,e,I2,T,st2,f2,W,⟨m0,w0⟩,turn⟩:=h2;subst e;have stat:∀{H':Hp},(∀b∈fp,H' b=none)->∀b∈fp,iw X ak H' b:=λhn b hb=>⟨hn b hb,(f2 b hb).2⟩;refine codeAny_forLoop_any (λn s'=>∃i Z' H',Inv X ak Z' H' s'/\tn i s'.heap/\(∀b∈fp,H' b=none)/\W i n Z' H') ?_ m0 ⟨0,Z,H2,I2,st2,λb hb=>(f2 b hb).1,w0⟩;rintro n s3 ⟨i,Z3,H3,I3,st3,Xa,w3⟩;rcases turn i n Z3 H3 w3 with ⟨stop,qn⟩|⟨go,N,hN,step⟩
 ·refine Gp hp (aX (T.done X rfl rfl rfl hc i ak s3 Z3 H3 X.xe I3 (stat Xa) st3 stop) λr s4 ⟨hr,I4⟩=>?_);subst hr;exact Ld ⟨Z3,H3,I4,qn⟩
 ·refine Gp hp (aX (T.item X rfl rfl rfl hc i ak s3 Z3 H3 X.xe I3 (stat Xa) st3 go) λr s4 hx=>wF hx λu hr h4=>?_);subst hr;refine Gp hp (aX h4 λ_ s5 ⟨x,H5,I5,r5,y5,Er,LQ⟩=>?_);have I5':=I5.pinned (stat LQ) (T.obj _ _ Er);refine Gp hp (aX (hg _ s5 Z3 H5 x u _ I5' r5 (step x H5 y5)) λ_ s6 ⟨Z6,H6,I6,q6⟩=>?_);refine Gp hp (aX (hb _ s6 Z6 H6 _ I6 q6) λf s7 q7=>?_);have again:∀{Z7:St} {H7:Hp},Inv X (ak++jN fp s5.heap) Z7 H7 s7->N Z7 H7->∃m,m<n/\∃i Z' H',Inv X ak Z' H' s7/\tn i s7.heap/\(∀b∈fp,H' b=none)/\W i m Z' H':=λ{Z7 H7} I7 n7=>by
   obtain⟨m',hm,w7⟩:=hN Z7 H7 n7;refine⟨m',hm,i+1,Z7,H7,I7.gO,T.keep _ _ _ Er λb hb o e=>(I7.pin (b,o) (oF _ (oF _ (LC hb e)))).1,λb hb=>?_,w7⟩;obtain⟨o,e,d⟩:=T.obj _ _ Er b hb;exact(I7.pin (b,o) (oF _ (oF _ (LC hb e)))).2.1
  cases f with
  |next=>obtain⟨Z7,H7,I7,n7⟩:=q7;exact again I7 n7
  |cont=>obtain⟨Z7,H7,I7,n7⟩:=q7;exact again I7 n7
  |brk=>obtain⟨Z7,H7,I7,q7⟩:=q7;exact⟨Z7,H7,I7.gO,q7⟩
  |ret v=>obtain⟨x7,Z7,H7,I7,r7,q7⟩:=q7;exact⟨x7,Z7,H7,I7.gO,r7,q7⟩
end
noncomputable abbrev R2:=V->V->Hp->VK->Prop
def cI(X:Cx)(f:Value->Value->Sem Value)(r:R2):Prop:=
 ∀(ak:List (Addr×Obj)) (s:Shared) (Z:St) (H:Hp) (x y:V) (v u:Value) (Q:VK),Inv X ak Z H s->RelV x v->RelV y u->r x y H Q->
  wpAny (model X.prog X.w) X.A (f v u) (EP X ak Z Q) X.xe s
def LR(X:Cx)(f:Value->Sem Value)(r:V->Hp->VK->Prop):Prop:=
 ∀(ak:List (Addr×Obj)) (s:Shared) (Z:St) (H:Hp) (x:V) (v:Value) (Q:VK),Inv X ak Z H s->RelV x v->r x H Q->
  wpAny (model X.prog X.w) X.A (f v) (EP X ak Z Q) X.xe s
def cN(X:Cx)(f:Value)(r:List V->Hp->VK->Prop):Prop:=
 ∀(ak:List (Addr×Obj)) (s:Shared) (Z:St) (H:Hp) (xs:List V) (us:List Value) (Q:VK),Inv X ak Z H s->Vals xs us->r xs H Q->
  wpAny (model X.prog X.w) X.A (call f us) (EP X ak Z Q) X.xe s
noncomputable def L_(r:R2)(ta tb:TE):TE:=λZ H Q=>ta Z H λx H1=>tb Z H1 λy H2=>r x y H2 Q
noncomputable def tUn(r:V->Hp->VK->Prop)(ta:TE):TE:=λZ H Q=>ta Z H λx H1=>r x H1 Q
noncomputable def rI(C:Int->Int->Prop)(g:Int->Int->V):R2:=λx y H Q=>∃i j,x=.int i/\y=.int j/\C i j/\Q (g i j) H
noncomputable def oU(g:Int->Int->V):R2:=λx y H Q=>∃i j,x=.int i/\y=.int j/\Q (g i j) H
noncomputable def rU(g:Int->V):V->Hp->VK->Prop:=λx H Q=>∃i,x=.int i/\Q (g i) H
section
variable {X:Cx}{a b c:Expr}{ta tb tc:TE}{pos:Pos}
theorem A_(ha:PE X a ta)(hb:PE X b tb){ak:List (Addr×Obj)}{s:Shared}{Z:St}{H:Hp}{R:V->V->Hp->Prop}(I:Inv X ak Z H s)
  (h:ta Z H λx H1=>tb Z H1 λy H2=>R x y H2) {Q:Value->Shared->Prop} {f:Value->Value->Sem Value}
  (hf:∀v u s2 x y H2,Inv X ak Z H2 s2->RelV x v->RelV y u->R x y H2->wpAny (model X.prog X.w) X.A (f v u) Q X.xe s2) :
  wpAny (model X.prog X.w) X.A (eval a X.env) (λv s₁=>wpAny (model X.prog X.w) X.A (eval b X.env) (λu s₂=>wpAny (model X.prog X.w) X.A (f v u) Q X.xe s₂) X.xe s₁) X.xe s:=by
 refine aX (ha ak s Z H _ I h) λv s1 hx=>cY hx λx H1 I1 r1 q1=>?_;refine aX (hb ak s1 Z H1 _ I1 q1) λu s2 hx=>cY hx λy H2 I2 r2 q2=>?_;exact hf v u s2 x y H2 I2 r1 r2 q2
theorem zmp{op:Operator}{r:R2}(ho:cI X (binaryOp op) r)(ha:PE X a ta)(hb:PE X b tb):PE X (.BinOp a op b pos) (L_ r ta tb):=by
 intro ak s Z H Q I h;exact wpAny_BinOp (A_ ha hb I h λv u s2 x y H2 I2 rx ry q=>ho ak s2 Z H2 x y v u Q I2 rx ry q)
theorem Xb{op:UnaryOp}{r:V->Hp->VK->Prop}(ho:LR X (unaryOp op) r)(ha:PE X a ta):PE X (.UnaryOp op a pos) (tUn r ta):=by
 intro ak s Z H Q I h;exact UnaryOp_ (aX (ha ak s Z H _ I h) λv s1 hx=>cY hx λx H1 I1 r1 q1=>ho ak s1 Z H1 x v Q I1 r1 q1)
theorem Ma{f:Value->Value->Sem Value}{C:Int->Int->Prop}{g:Int->Int->Int}
  (rule:∀(i j:Int) (t u:Tok) (s:Shared) (Q:Value->Shared->Prop) (E:Value->Shared->Prop),C i j->Q (.int (g i j) s.toks) {s with toks:=s.toks+1}->wpAny (model X.prog X.w) X.A (f (.int i t) (.int j u)) Q E s) :
  cI X f (rI C λi j=>.int (g i j)):=by
 intro ak s Z H x y v u Q I rx ry h;obtain⟨i,j,rfl,rfl,hc,q⟩:=h;obtain⟨t,rfl⟩:=rx;obtain⟨t',rfl⟩:=ry;exact rule i j t t' s _ _ hc ⟨.int (g i j),H,I.tok _,⟨_,rfl⟩,q⟩
theorem G_{f:Value->Value->Sem Value}{g:Int->Int->Int}
  (rule:∀(i j:Int) (t u:Tok) (s:Shared) (Q:Value->Shared->Prop) (E:Value->Shared->Prop),Q (.int (g i j) s.toks) {s with toks:=s.toks+1}->wpAny (model X.prog X.w) X.A (f (.int i t) (.int j u)) Q E s) :
  cI X f (oU λi j=>.int (g i j)):=by
 intro ak s Z H x y v u Q I rx ry h;obtain⟨i,j,rfl,rfl,q⟩:=h;obtain⟨t,rfl⟩:=rx;obtain⟨t',rfl⟩:=ry;exact rule i j t t' s _ _ ⟨.int (g i j),H,I.tok _,⟨_,rfl⟩,q⟩
theorem wL{f:Value->Value->Sem Value}{g:Int->Int->Bool}
  (rule:∀(i j:Int) (t u:Tok) (s:Shared) (Q:Value->Shared->Prop) (E:Value->Shared->Prop),Q (.bool (g i j)) s->wpAny (model X.prog X.w) X.A (f (.int i t) (.int j u)) Q E s) :
  cI X f (oU λi j=>.bl (g i j)):=by
 intro ak s Z H x y v u Q I rx ry h;obtain⟨i,j,rfl,rfl,q⟩:=h;obtain⟨t,rfl⟩:=rx;obtain⟨t',rfl⟩:=ry;exact rule i j t t' s _ _ ⟨.bl (g i j),H,I,rfl,q⟩
def wM(i j:Int):Prop:=0<j/\j<1073741824
def Hf(i j:Int):Prop:=0<=j/\j<=1000000/\i.natAbs<2^64
def wN(i j:Int):Prop:=(-(2^64)<i/\i<2^64)\/(-(2^64)<j/\j<2^64)
theorem wN.ok{i j:Int}(h:wN i j):IntMulOk i j:=by
 rcases h with ⟨h1,h2⟩|⟨h1,h2⟩
 ·exact .of_left (intBits_le_64 h1 h2)
 ·exact .of_right (intBits_le_64 h1 h2)
theorem Ba:cI X (binaryOp .Add) (oU λi j=>.int (i+j)):=G_ λ_ _ _ _ _ _ _ q=>add_int q
theorem zkG:cI X (binaryOp .Sub) (oU λi j=>.int (i-j)):=G_ λ_ _ _ _ _ _ _ q=>sub_int q
theorem zkV:cI X (binaryOp .Mult) (rI wN λi j=>.int (i*j)):=Ma λ_ _ _ _ _ _ _ hc q=>mul_int q hc.ok
theorem zi5:cI X (binaryOp .FloorDiv) (rI wM λi j=>.int (i/j)):=Ma λi j _ _ _ _ _ hc q=>by
 have h1:(0:Int)<j:=hc.1;have h2:j<1073741824:=hc.2;exact floordiv_int gV (by rw[Int.fdiv_eq_ediv_of_nonneg i gV];exact q) (.inl (PyProof.noPylong_small gV))
theorem zkE:cI X (binaryOp .Mod) (rI (λ_ j=>0<j) λi j=>.int (i%j)):=Ma λi j _ _ _ _ _ hc q=>by
 have h1:(0:Int)<j:=hc;exact mod_int' gV (by rw[Int.fmod_eq_emod_of_nonneg i gV];exact q)
theorem zkm:cI X (binaryOp .Pow) (rI Hf λi j=>.int (i^j.toNat)):=Ma λ_ _ _ _ _ _ _ hc q=>pow_int_small hc.1 hc.2.1 hc.2.2 q
theorem unI{f:Value->Sem Value}{g:Int->Int}
  (rule:∀(i:Int) (t:Tok) (s:Shared) (Q:Value->Shared->Prop) (E:Value->Shared->Prop),Q (.int (g i) s.toks) {s with toks:=s.toks+1}->wpAny (model X.prog X.w) X.A (f (.int i t)) Q E s) :
  LR X f (rU λi=>.int (g i)):=by
 intro ak s Z H x v Q I rx h;obtain⟨i,rfl,q⟩:=h;obtain⟨t,rfl⟩:=rx;exact rule i t s _ _ ⟨.int (g i),H,I.tok _,⟨_,rfl⟩,q⟩
theorem Xc:LR X (unaryOp .USub) (rU λi=>.int (-i)):=unI λ_ _ _ _ _ q=>neg_int q
end
section
variable {X:Cx}{a b c:Expr}{ta tb tc:TE}{pos:Pos}
theorem Hg:cI X (compareOp .Lt) (oU λi j=>.bl (decide (i<j))):=wL λ_ _ _ _ _ _ _ q=>lt_int q
theorem zmw:cI X (compareOp .LtE) (oU λi j=>.bl (decide (i<=j))):=wL λ_ _ _ _ _ _ _ q=>le_int q
theorem zmU:cI X (compareOp .Gt) (oU λi j=>.bl (decide (j<i))):=wL λ_ _ _ _ _ _ _ q=>gt_int q
theorem zm0:cI X (compareOp .GtE) (oU λi j=>.bl (decide (j<=i))):=wL λ_ _ _ _ _ _ _ q=>ge_int q
theorem cI.or{f:Value->Value->Sem Value}{r r':R2}(h:cI X f r)(h':cI X f r'):cI X f (λx y H Q=>r x y H Q\/r' x y H Q):=by
 intro ak s Z H x y v u Q I rx ry q;rcases q with q|q
 ·exact h ak s Z H x y v u Q I rx ry q
 ·exact h' ak s Z H x y v u Q I rx ry q
theorem zjK{op:CmpOp}{r:R2}(ho:cI X (compareOp op) r)(ha:PE X a ta)(hb:PE X b tb)(hm:behindInMarks op b=false):PE X (.Compare a [op] [b] pos) (L_ r ta tb):=by
 intro ak s Z H Q I h;exact wpAny_Compare1 (A_ ha hb I h λv u s2 x y H2 I2 rx ry q=>ho ak s2 Z H2 x y v u Q I2 rx ry q) hm
noncomputable def yX(t:TE):TT:=λZ H Q=>t Z H λx H'=>∃k,x=.bl k/\Q k H'
theorem ziO{op:CmpOp}{r:R2}(ho:cI X (compareOp op) r)(ha:PE X a ta)(hb:PE X b tb)(hm:behindInMarks op b=false):PT X (.Compare a [op] [b] pos) (yX (L_ r ta tb)):=by
 intro ak s Z H Q I h;refine wpAny_isTrue_Compare1 (aX (ha ak s Z H _ I h) λv s1 hx=>cY hx λx H1 I1 r1 q1=>aX (hb ak s1 Z H1 _ I1 q1) λu s2 hx=>cY hx λy H2 I2 r2 q2=>
  aX (ho ak s2 Z H2 x y v u _ I2 r1 r2 q2) λc s3 hx=>vA hx λz H3 I3 r3 k e q3=>?_) hm
 subst e;cases r3;exact oG ⟨H3,I3,q3⟩
noncomputable def tG(r r':R2)(ta tb tc:TE):TE:=λZ H Q=>ta Z H λx H1=>tb Z H1 λy H2=>r x y H2 λz H3=>∃k,z=.bl k /\
 (if k=true then tc Z H3 λw' H4=>r' y w' H4 Q else Q (.bl false) H3)
theorem zhS{op op':CmpOp}{r r':R2}(ho:cI X (compareOp op) r)(jM:cI X (compareOp op') r')(ha:PE X a ta)(hb:PE X b tb)(hc:PE X c tc)
  (hm:lastMarks [op,op'] [b,c]=false:=by with_unfolding_all rfl):PE X (.Compare a [op,op'] [b,c] pos) (tG r r' ta tb tc):=by
 intro ak s Z H Q I h;refine Compare_chain (aX (ha ak s Z H _ I h) λv s1 hx=>cY hx λx H1 I1 r1 q1=>chain_link (aX (hb ak s1 Z H1 _ I1 q1) λu s2 hx=>cY hx λy H2 I2 r2 q2=>
  aX (ho ak s2 Z H2 x y v u _ I2 r1 r2 q2) λd s3 hx=>vA hx λz H3 I3 r3 k e q3=>?_)) hm
 subst e;cases r3;refine oG ?_;cases k with
 |false=>exact ite_ff ⟨.bl false,H3,I3,rfl,q3⟩
 |true=>exact ite_tt (chain_last (aX (hc ak s3 Z H3 _ I3 q3) λw' s4 hx=>cY hx λz' H4 I4 r4 q4=>jM ak s4 Z H4 y z' u w' Q I4 r2 r4 q4))
theorem zg0{op op':CmpOp}{r r':R2}(ho:cI X (compareOp op) r)(jM:cI X (compareOp op') r')(ha:PE X a ta)(hb:PE X b tb)(hc:PE X c tc)
  (hm:lastMarks [op,op'] [b,c]=false:=by with_unfolding_all rfl):PT X (.Compare a [op,op'] [b,c] pos) (yX (tG r r' ta tb tc)):=by
 intro ak s Z H Q I h;refine isTrue_chain (aX (ha ak s Z H _ I h) λv s1 hx=>cY hx λx H1 I1 r1 q1=>test_link (aX (hb ak s1 Z H1 _ I1 q1) λu s2 hx=>cY hx λy H2 I2 r2 q2=>
  aX (ho ak s2 Z H2 x y v u _ I2 r1 r2 q2) λd s3 hx=>vA hx λz H3 I3 r3 k e q3=>?_)) hm
 subst e;cases r3;refine oG ?_;cases k with
 |false=>
  obtain⟨k',e',q'⟩:=q3;cases e';exact ite_ff ⟨H3,I3,q'⟩
 |true=>
  refine ite_tt (test_last (aX (hc ak s3 Z H3 _ I3 q3) λw' s4 hx=>cY hx λz' H4 I4 r4 q4=>aX (jM ak s4 Z H4 y z' u w' _ I4 r2 r4 q4) λd' s5 hx=>vA hx λz2 H5 I5 r5 k2 e2 q5=>?_));subst e2;cases r5;exact oG ⟨H5,I5,q5⟩
theorem jO:(sizeLine:Nat)<2^63:=by rw[oK];decide
theorem ze2:cI X (binaryOp .Add) (λx y H Q=>∃i j,x=.str i/\y=.str j/\i.length+j.length<=sizeLine/\Q (.str (i++j)) H):=by
 intro ak s Z H x y v u Q I rx ry h;obtain⟨i,j,rfl,rfl,hz,q⟩:=h;obtain⟨t,rfl⟩:=rx;obtain⟨t',rfl⟩:=ry;exact add_str (λt' tk=>⟨.str (i++j),H,I.tok _,⟨_,rfl⟩,q⟩) hz
theorem vals1{x:V}{us:List Value}(r:Vals [x] us):∃u,us=[u]/\RelV x u:=by
 cases r with
 |cons r1 r2=>cases r2;exact⟨_,rfl,r1⟩
theorem vals2{x y:V}{us:List Value}(r:Vals [x,y] us):∃u w',us=[u,w']/\RelV x u/\RelV y w':=by
 cases r with
 |cons r1 r2=>
  cases r2 with
  |cons r3 r4=>cases r4;exact⟨_,_,rfl,r1,r3⟩
theorem zhD:cN X (.builtin "abs") (λxs H Q=>∃i,xs=[.int i]/\Q (.int (if i<0 then -i else i)) H):=by
 intro ak s Z H xs us Q I r h;obtain⟨i,rfl,q⟩:=h;obtain⟨u,rfl,t,rfl⟩:=vals1 r;exact call_abs_int λu tk=>⟨.int (if i<0 then -i else i),H,I.tok _,⟨_,rfl⟩,q⟩
theorem zgi(hc:X.aj=true):cN X (.builtin "max") (λxs H Q=>∃i j,xs=[.int i,.int j]/\Q (.int (if j>i then j else i)) H):=by
 intro ak s Z H xs us Q I r h;obtain⟨i,j,rfl,q⟩:=h;obtain⟨u,w',rfl,⟨t,rfl⟩,⟨t',rfl⟩⟩:=vals2 r;refine max_two_ints (I.ok.hd hc) λh' tk k=>⟨_,H,I.kept k,?_,q⟩;by_cases hj:j>i
 ·rw[if_pos hj,if_pos hj];exact⟨_,rfl⟩
 ·rw[if_neg hj,if_neg hj];exact⟨_,rfl⟩
theorem zfY(hc:X.aj=true):cN X (.builtin "min") (λxs H Q=>∃i j,xs=[.int i,.int j]/\Q (.int (if j<i then j else i)) H):=by
 intro ak s Z H xs us Q I r h;obtain⟨i,j,rfl,q⟩:=h;obtain⟨u,w',rfl,⟨t,rfl⟩,⟨t',rfl⟩⟩:=vals2 r;refine min_two_ints (I.ok.hd hc) λh' tk k=>⟨_,H,I.kept k,?_,q⟩;by_cases hj:j<i
 ·rw[if_pos hj,if_pos hj];exact⟨_,rfl⟩
 ·rw[if_neg hj,if_neg hj];exact⟨_,rfl⟩
theorem zgn:cN X (.type "int") (λxs H Q=>(∃i,xs=[.int i]/\Q (.int i) H)\/∃k,xs=[.bl k]/\Q (.int (if k then 1 else 0)) H):=by
 intro ak s Z H xs us Q I r h;rcases h with ⟨i,rfl,q⟩|⟨k,rfl,q⟩
 ·obtain⟨u,rfl,t,rfl⟩:=vals1 r;exact call_int_int ⟨.int i,H,I,⟨_,rfl⟩,q⟩
 ·obtain⟨u,rfl,r1⟩:=vals1 r;cases r1;exact call_int_bool ⟨.int (if k then 1 else 0),H,I.tok _,⟨_,rfl⟩,q⟩
theorem zdE:cN X (.builtin "divmod") (λxs H Q=>∃i j,xs=[.int i,.int j]/\wM i j/\∀p,H p=none->Q (.ref p) (upd H p (.tup [.int (i/j),.int (i%j)]))):=by
 intro ak s Z H xs us Q I r h;obtain⟨i,j,rfl,⟨h1,h2⟩,q⟩:=h;obtain⟨u,w',rfl,⟨t,rfl⟩,⟨t',rfl⟩⟩:=vals2 r;refine divmod_int gV ?_ (.inl (PyProof.noPylong_small gV));rw[Int.fdiv_eq_ediv_of_nonneg i gV,Int.fmod_eq_emod_of_nonneg i gV];have hn:H s.heap.objs.size=none:=I.hok.fresh (bV _);refine⟨.ref s.heap.objs.size,_,?_,rfl,q _ hn⟩;refine I.laid (λb o e=>bU _ e) (bV _) ⟨by simp only[je,rK];rw[oK];decide,[.int (i/j) s.toks,.int (i%j) (s.toks+1)],.cons ⟨_,rfl⟩ (.cons ⟨_,rfl⟩ .nil),?_⟩;exact⟨_,gF s.heap rfl,rfl,0,rfl⟩
end
section
variable {X:Cx}{ak:List (Addr×Obj)}{Z:St}{H:Hp}{s:Shared}{a C dx:Addr}{fs:List (Str×V)}{f:Str}{v:V}{A:Around}{E:Value->Shared->Prop}
theorem ziK{prog:Program}{w:World}{env:Env}{e:Expr}{f:Str}{pos:Pos}{s:Shared}{Q:Value->Shared->Prop}(hb:attributeBase e f env (eval e env)=eval e env)
  (h:wpAny (model prog w) A (eval e env) (λo s₁=>wpAny (model prog w) A (getAttr o f true) Q E s₁) E s):wpAny (model prog w) A (eval (.Attribute e f pos) env) Q E s:=
 Attribute_any_ h (by rw[arm_eval_Attribute,hb])
end
structure bW(k:Nat)(A:Around):Prop where
 dp:A.depth+3*k+5<recursionLimit
 un:A.units+16*k+200<cLine
 gd:A.guards=some []
theorem bW.deeper{k:Nat}{A:Around}(r:bW (k+1) A)(env:Env):bW k (A.deeper env):=
 ⟨by have:=r.dp;show A.depth+1+3*k+5<_;lia,by have:=r.un;show A.units+3+16*k+200<_;lia,r.gd⟩
theorem bW.depth{k:Nat}{A:Around}(r:bW k A):A.depth<recursionLimit:=by have:=r.dp;lia
noncomputable def Qc:TA:=λ_ H Q=>Q [] H
noncomputable def Hj(ta:TE)(tr:TA):TA:=λZ H Q=>ta Z H λx H1=>tr Z H1 λxs H2=>Q (x::xs) H2
section
variable {X:Cx}{e:Expr}{es:List Expr}{te:TE}{t:TA}{pos:Pos}
theorem Et:PA X [] Qc:=λ_ _ _ _ H Q I h=>Calls.spliced_nil ⟨[],H,I,.nil,h⟩
theorem vC(ha:PE X e te)(hr:PA X es t)(hs:starEach (e::es) X.env=(false,eval e X.env)::starEach es X.env:=by rfl):PA X (e::es) (Hj te t):=by
 intro pos ak s Z H Q I h;rw[hs];show wpAny _ _ (spliced ((false,eval e X.env)::backTo pos (starEach es X.env))) _ _ s;refine Calls.spliced_cons (aX (ha ak s Z H _ I h) λu s1 hx=>cY hx λx H1 I1 r1 q1=>?_);exact aX (hr pos ak s1 Z H1 _ I1 q1) λus s2 hx=>cY hx λxs H2 I2 r2 q2=>⟨x::xs,H2,I2,.cons r1 r2,q2⟩
noncomputable def Qd(t:TA):TE:=λZ H Q=>t Z H λxs H1=>xs.length<=sizeLine/\∀p,H1 p=none->Q (.ref p) (upd H1 p (.tup xs))
noncomputable def Qe(t:TA):TE:=λZ H Q=>t Z H λxs H1=>xs.length<=sizeLine/\∀p,H1 p=none->Q (.ref p) (upd H1 p (.lst xs))
theorem zkt{x1}(h:PA X es t):PE X (.Tuple es x1 pos) (Qd t):=by
 intro ak s Z H Q I hq;refine wpAny_Tuple_spliced (aX (h pos ak s Z H _ I hq) λus s1 ⟨xs,H1,I1,r,z,q⟩=>⟨by rw[<-r.length];exact z,?_⟩);have hf:H1 s1.heap.objs.size=none:=I1.hok.fresh (bV _);refine⟨.ref s1.heap.objs.size,upd H1 s1.heap.objs.size (.tup xs),I1.laid (t':=s1.toks) (λb u e=>bU _ e) (bV _) ?_,rfl,q _ hf⟩;exact⟨z,us,r,⟨_,gF _ rfl,rfl,_,rfl⟩⟩
theorem zko(h:PA X es t):PE X (.List es pos) (Qe t):=by
 intro ak s Z H Q I hq;refine wpAny_List_spliced (aX (h pos ak s Z H _ I hq) λus s1 ⟨xs,H1,I1,r,z,q⟩=>⟨by rw[<-r.length];exact z,?_⟩);have hf:H1 s1.heap.objs.size=none:=I1.hok.fresh (bV _);refine⟨.ref s1.heap.objs.size,upd H1 s1.heap.objs.size (.lst xs),I1.laid (t':=s1.toks) (λb u e=>bU _ e) (bV _) ?_,rfl,q _ hf⟩;exact⟨z,us,0,r,gF _ rfl⟩
end
noncomputable abbrev Sp:=List V->Hp->VK->XK->Prop
noncomputable abbrev rP:=List Env->Hp->Shared->XK->Value->Shared->Prop
structure wO(P:Program)(w:World)(K:W.Frag)(mg:Str->Option Value)(base:Heap)(A:Around)(outer:List Env)(s:Shared)(H:Hp):Prop where
 frames:A.frames=some outer
 mod:Mod K mg base
 bs:∀b o,base.get? b=some o->s.heap.get? b=some o/\H b=none
 yR:base.objs.size<=s.heap.objs.size
 jL:s.heap.FunFrames base outer
 En:∀b∈frs outer,H b=none
 hok:gH P w H s.heap
 bare:AllBare s.gens
def CE(outer:List Env)(P:Program)(w:World)(H:Hp)(s:Shared)(Q:VK)(u:Value)(s':Shared):Prop:=
 ∃v H',s'.os=s.os/\AllBare s'.gens/\Un (frs outer) [] H H' s.heap s'.heap/\gH P w H' s'.heap/\RelV v u/\Q v H'
def CR(CX:rP)(outer:List Env)(P:Program)(w:World)(H:Hp)(s:Shared)(Q:VK)(E:XK)(r:Result)(s':Shared):Prop:=
 match r with
 |.ok (.ret u)=>CE outer P w H s Q u s'
 |.ok _=>False
 |.error e=>CX outer H s E e s'
structure eE(P:Program)(w:World)(K:W.Frag)(mg:Str->Option Value)(base:Heap)(CX:rP)(cm:Bool)(k:Nat)(f:Addr)(fd:FuncData)(ps:List Str)(sp:Sp):Prop where
 len:∀vs H Q E,sp vs H Q E->vs.length=ps.length
 run:∀(A:Around) (outer:List Env) (s:Shared) (H:Hp) (args:Args) (us:List Value) (vs:List V) (Q:VK) (E:XK),(cm=true->A.handled=none)->bW k A->wO P w K mg base A outer s H->BindsTo s fd args (ps.zip us)->Vals vs us->sp vs H Q E->
  codeAny (model P w) A (.call (.ref f) args) (CR CX outer P w H s Q E) s
theorem eE.imp{P:Program}{w:World}{K:W.Frag}{mg:Str->Option Value}{base:Heap}{CX:rP}{cm:Bool}{k:Nat}{f:Addr}{fd:FuncData}{ps:List Str}{sp Xd:Sp}(F:eE P w K mg base CX cm k f fd ps sp)
  (h:∀vs H Q E,Xd vs H Q E->sp vs H Q E):eE P w K mg base CX cm k f fd ps Xd:=
 ⟨λvs H Q E q=>F.len vs H Q E (h _ _ _ _ q),λA outer s H args us vs Q E qP hr he hb hv hs=>F.run A outer s H args us vs Q E qP hr he hb hv (h _ _ _ _ hs)⟩
section
variable {X:Cx}{ak:List (Addr×Obj)}{Z:St}{H:Hp}{s s':Shared}
theorem Inv.env0(I:Inv X ak Z H s):wO X.prog X.w X.K X.mg X.base X.A X.stack s H:=
 ⟨I.ok.frames,I.ok.mod,I.bs,n8 I.ok.yR I.sz,I.stack,I.jx,I.hok,I.bare⟩
theorem Inv.after{Q:VK}{u:Value}(I:Inv X ak Z H s)(h:CE X.stack X.prog X.w H s Q u s'):EP X ak Z Q u s':=by
 obtain⟨v,H',os,bare,un,hok,r,q⟩:=h;obtain⟨hh,g,d,t,os'⟩:=s';obtain rfl:os'=s.os:=os;exact⟨v,H',I.call (h':=hh) (g':=g) (d':=d) (t':=t) (ch:=[]) un hok bare (λb z=>absurd z Zaa),r,q⟩
end
def Binds(K:W.Frag)(fd:FuncData)(ps:List Str)(ds:List Value):Prop:=
 ∀(s:Shared) (us:List Value),K.In s.heap->(us++ds).length=ps.length->BindsTo s fd ⟨us,[]⟩ (ps.zip (us++ds))
theorem Binds.all{K:W.Frag}{fd:FuncData}{ps:List Str}(h:∀us:List Value,us.length=ps.length->bindArgs fd ⟨us,[]⟩=pure (ps.zip us)):Binds K fd ps []:=λs us _ hl=>by
 rw[Ag] at hl ⊢;exact .of_eq (h us hl)
structure fM(N P:List Str)(sc:Scope):Prop where
 kind:sc.kind=.function
 co:sc.isCoroutine=false
 gen:sc.isGenerator=false
 nd:N.Nodup
 pre:N.take P.length=P
 par:∀x∈P,sc.names.lookup x=some .local\/sc.names.lookup x=some .cell
 Bb:∀y∈sc.names,y.2≠.free
theorem Xe{kindOf:Str->Option NameKind}{x:Str}:∀{binds:List (Str×Value)} {m:Str->Option Value},(∀v,(x,v)∉binds)->bindL kindOf binds m x=m x
 |[],_,_=>rfl
 |(n,v)::r,m,h=>by
  unfold bindL;rw[Xe λw hw=>h w (dN _ hw)]
  split
  ·have:x≠n:=by rintro rfl;exact h v dO
   simp[this]
  ·rfl
theorem Xf{kindOf:Str->Option NameKind}{x:Str}:∀{binds:List (Str×Value)} {m:Str->Option Value},(∀v,(x,v)∉binds)->bindC kindOf binds m x=m x
 |[],_,_=>rfl
 |(n,v)::r,m,h=>by
  unfold bindC;rw[Xf λw hw=>h w (dN _ hw)]
  split
  ·rfl
  ·have:x≠n:=by rintro rfl;exact h v dO
   simp[this]
theorem Xg{kindOf:Str->Option NameKind}{x:Str}{v:Value}:∀{P:List Str} {vs:List Value} {i:Nat} {m:Str->Option Value},P.Nodup->P[i]?=some x->vs[i]?=some v->kindOf x=some .local->
  bindL kindOf (P.zip vs) m x=some v
 |[],_,_,_,_,h,_,_=>by simp at h
 |_::_,[],_,_,_,_,h,_=>by simp at h
 |p::P,w::vs,0,m,nd,h1,h2,hk=>by
  simp at h1 h2;subst h1;subst h2;show bindL kindOf ((p,w)::P.zip vs) m p=_;unfold bindL;rw[Xe λv hv=>(rM.mp nd).1 (Le hv).1,if_pos hk];simp
 |p::P,w::vs,i+1,m,nd,h1,h2,hk=>by
  show bindL kindOf ((p,w)::P.zip vs) m x=_;unfold bindL;exact Xg (i:=i) (rM.mp nd).2 (by simpa using h1) (by simpa using h2) hk
theorem Xh{kindOf:Str->Option NameKind}{x:Str}{v:Value}:∀{P:List Str} {vs:List Value} {i:Nat} {m:Str->Option Value},P.Nodup->P[i]?=some x->vs[i]?=some v->kindOf x≠some .local->
  bindC kindOf (P.zip vs) m x=some v
 |[],_,_,_,_,h,_,_=>by simp at h
 |_::_,[],_,_,_,_,h,_=>by simp at h
 |p::P,w::vs,0,m,nd,h1,h2,hk=>by
  simp at h1 h2;subst h1;subst h2;show bindC kindOf ((p,w)::P.zip vs) m p=_;unfold bindC;rw[Xf λv hv=>(rM.mp nd).1 (Le hv).1,if_neg hk];simp
 |p::P,w::vs,i+1,m,nd,h1,h2,hk=>by
  show bindC kindOf ((p,w)::P.zip vs) m x=_;unfold bindC;exact Xh (i:=i) (rM.mp nd).2 (by simpa using h1) (by simpa using h2) hk
noncomputable def start(N:List Str)(vs:List V):St:=vs.map some++List.replicate (N.length-vs.length) none
noncomputable def iy(CX:rP)(P:Program)(w:World)(K:W.Frag)(mg:Str->Option Value)(base:Heap)(N:List Str)(qual:Str)(scope:Scope)(f:Addr)(cd:Value)(A:Around)(outer:List Env)(s:Shared)(H:Hp)(E:XK)(cm:Bool):Cx where
 prog:=P
 w:=w
 K:=K
 mg:=mg
 base:=base
 A:=A.deeper (envOfC qual scope s.heap.objs.size f cd)
 N:=N
 s₀:=s
 H₀:=H
 env:=envOfC qual scope s.heap.objs.size f cd
 outer:=outer
 stack:=envOfC qual scope s.heap.objs.size f cd::outer
 ex:=[]
 aj:=cm
 fn:=λ_=>true
 pn:=[]
 xe:=λe s'=>wpAny (model P w) (A.deeper (envOfC qual scope s.heap.objs.size f cd)) (leaving (envOfC qual scope s.heap.objs.size f cd) e) (λ_ s''=>CX outer H s E e s'') (λe' s''=>CX outer H s E e' s'') s'
theorem Xi{sc:Scope}{n:Nat}{x:Str}(h:sc.names.lookup x=some .cell):∃c,(cellsFrom n sc.names []).lookup x=some c:=by
 have q:=Oi sc.names n [] (.inl h);exact Od.mp q
theorem zgu{CX:rP}{P:Program}{w:World}{K:W.Frag}{mg:Str->Option Value}{base:Heap}{N ps:List Str}{qual:Str}{scope:Scope}{f:Addr}{cd:Value}{A:Around}{outer:List Env}{s s1:Shared}{H:Hp}{E:XK}{us:List Value}{vs:List V}
  {cm:Bool} (S:fM N ps scope) (hd:cm=true->A.handled=none) (e0:wO P w K mg base A outer s H) (hl:vs.length=ps.length) (r:Vals vs us)
  (x:InCallC s s.heap.objs.size (bindL (envOfC qual scope s.heap.objs.size f cd).kindOf (ps.zip us) λ_=>none) (cellsFrom (s.heap.objs.size+1) scope.names []) (bindC (envOfC qual scope s.heap.objs.size f cd).kindOf (ps.zip us) λ_=>none) s1) :
  Inv (iy CX P w K mg base N qual scope f cd A outer s H E cm) [] (start N vs) H s1:=by
 have bG:ps.length<=N.length:=by have:=qL List.length S.pre;rw[yG] at this;lia
 obtain⟨h1,tk,rfl,hk⟩:=x.done;have Hl:∀b:Addr,b∉(iy CX P w K mg base N qual scope f cd A outer s H E cm).ex:=λb z=>absurd (show b∈([]:List Addr) from z) Zaa;refine⟨⟨e0.mod,S.kind,rfl,rfl,bV _,λy z c h1 h2=>?_,λy hy=>?_,λy c _ h=>?_,hd,Around.frames_deeper e0.frames,.inr ⟨rfl,rfl⟩,λb z=>absurd z (Hl b),e0.bs,e0.yR,λb _ _=>Hl b,λb z=>absurd z (Hl b),e0.jL,e0.En⟩,
  rfl,e0.bare,Un.kept hk,⟨_,x.toInCall.ns,λi y v h1 h2 h3=>?_⟩,λy c h=>⟨_,x.cell y c h⟩,e0.hok.fresh (bV _),λy c h=>?_,λp hp=>absurd (show p∈([]:List (Addr×Obj)) from hp) Zaa,e0.hok.kept hk,?_⟩
 ·exact name_of_addr x.apart (DG h1) (DG h2)
 ·have hy:scope.names.lookup y=some .cell\/scope.names.lookup y=some .free:=hy;rcases hy with hy|hy
  ·exact Xi hy
  ·exact absurd rfl (S.Bb _ (DG hy))
 ·exact yJ (x.above y c (DG h))
 ·have hi:i<vs.length:=by
   unfold start at h2;by_cases hi:i<vs.length
   ·exact hi
   ·rw[oE (by simpa using hi)] at h2;rw[KH] at h2;split at h2<;>cases h2
  have ha:vs[i]?=some v:=by
   unfold start at h2;rw[pQ (by simpa using hi),ju] at h2;cases e:vs[i]? with
   |none=>rw[e] at h2;cases h2
   |some a=>rw[e] at h2;cases h2;rfl
  obtain⟨u,hu,rv⟩:=r.get ha;have hp:ps[i]?=some y:=by
   rw[<-S.pre,List.getElem?_take_of_lt gV];exact h1
  have Xj:ps.Nodup:=by rw[<-S.pre];exact S.nd.sublist (List.take_sublist _ _)
  refine⟨u,rv,?_⟩;rcases S.par y (gD hp) with k|k
  ·exact .inl ⟨k,Xg Xj hp hu k⟩
  ·obtain⟨c,e⟩:=Xi (n:=s.heap.objs.size+1) k;refine .inr ⟨.inl k,c,e,?_⟩;have q:=x.cell y c e;rw[Xh Xj hp hu (by show scope.names.lookup y≠_;rw[k];decide)] at q;exact q
 ·exact e0.hok.fresh (yJ (x.above y c (DG h)))
 ·unfold start;show _=N.length;rw[fK,bZ,Ge]
  lia
theorem zmC{CX:rP}{cm:Bool}{P:Program}{w:World}{K:W.Frag}{mg:Str->Option Value}{base:Heap}{k:Nat}{f:Addr}{name qual:Str}{params:Arguments}{body:List Stmt}{scope:Scope}{dV kV doc pm cdv ct oc:Value}{an od:Option Addr}
  {osl:Array (Option Value)} {N ps:List Str} {sp:Sp} (lk:K.lookup f=some ⟨oc,od,.func (PySem.W.fnOf name qual params body scope dV kV doc pm an cdv ct),osl⟩) (lZ:PySem.W.codeIn K cdv qual=true) (S:fM N ps scope)
  (len:∀vs H Q E,sp vs H Q E->vs.length=ps.length)
  (Ho:∀(A:Around) (outer:List Env) (s:Shared) (H:Hp) (vs:List V) (Q:VK) (E:XK),bW (k+1) A->sp vs H Q E->
   ∃t,oO (iy CX P w K mg base N qual scope f cdv A outer s H E cm) body t/\t {nx:=λ_ H'=>Q .non H',rt:=Q} (start N vs) H) :
  eE P w K mg base CX cm (k+1) f (PySem.W.fnOf name qual params body scope dV kV doc pm an cdv ct) ps sp:=by
 refine⟨len,λA outer s H args us vs Q E qP hr e0 hb r Bc=>?_⟩;have hl:=len _ _ _ _ Bc;have KX:K.In s.heap:=e0.mod.yO.keeps λb o e=>(e0.bs b o e).1;have lim:s.heap.NoLimit:=e0.mod.nolimit.keeps λb o e=>(e0.bs b o e).1;have Hq:∀y∈ps.zip us,scope.names.lookup y.1=some .local\/(scope.names.lookup y.1=some .cell/\((cellsFrom (s.heap.objs.size+1) scope.names []).lookup y.1).isSome=true):=λ⟨n,v⟩ hy=>by
  rcases S.par n (Le hy).1 with q|q
  ·exact .inl q
  ·exact .inr ⟨q,Oi _ _ _ (.inl q)⟩
 refine codeAny_call_function hr.depth (KX _ _ lk) rfl S.co S.gen rfl (PySem.W.codeRec_of KX lZ) (hb _ _ _ _ ?_);refine wpAny_newFunctionEnv_cells S.kind Hq λenv he s1 x=>?_;subst he;refine⟨lim.keeps x.toInCall.keep,codeAny_func ?_⟩;obtain⟨t,ht,hq⟩:=Ho A outer s H vs Q E hr Bc;have I:Inv (iy CX P w K mg base N qual scope f cdv A outer s H E cm) [] (start N vs) H s1:=zgu S qP e0 hl r x;refine jf (ht [] s1 (start N vs) H _ I hq) (λfl s' hs=>?_) λe s' hs=>hs;have fin:∀{Z':St} {H':Hp} {v:V} {u:Value},Inv (iy CX P w K mg base N qual scope f cdv A outer s H E cm) [] Z' H' s'->RelV v u->Q v H'->CE outer P w H s Q u s':=
  λ{Z' H' v u} b_ rv q=>⟨v,H',b_.os,b_.bare,b_.base,b_.hok,rv,q⟩
 cases fl with
 |ret u=>
  obtain⟨v,Z',H',b_,rv,q⟩:=hs;exact fin b_ rv q
 |next=>
  obtain⟨Z',H',b_,q⟩:=hs;exact fin (v:=V.non) (u:=Value.none) b_ rfl q
 |brk=>
  obtain⟨_,_,_,q⟩:=hs;exact False.elim q
 |cont=>
  obtain⟨_,_,_,q⟩:=hs;exact False.elim q
section
variable {X:Cx}{x:Str}{p pos:Pos}{e:Expr}{es:List Expr}{t:TA}{id T:String}{r:List V->Hp->VK->Prop}
noncomputable def Qf(r:List V->Hp->VK->Prop)(t:TA):TE:=λZ H Q=>t Z H λvs H1=>r vs H1 Q
theorem Xk(hc:cN X (.builtin id) r)(hg:Gl X x)(hm:X.mg x=none)(hv:bootBuiltins x=some (.builtin id))(ha:PA X (e::es) t)(hn:x≠"__name__":=by decide)(jP:(x==("__debug__" : Str))=false:=by decide)
  (he:starEach (e::es) X.env=(false,eval e X.env)::starEach es X.env:=by rfl) (bG:(backTo pos (starEach es X.env)).any (·.1)=false:=by rfl):PE X (.Call (.Name x p) (e::es) [] pos) (Qf r t):=by
 intro ak s Z H Q I h;refine Gk (yW I hg hm hv ?_ hn jP);exact PyProof.Rows.callWith_builtin1 (aX (ha pos ak s Z H _ I h) λus s1 hx=>cY hx λvs H1 I1 r1 q1=>hc ak s1 Z H1 vs us Q I1 r1 q1) he bG
theorem zgj(hc:cN X (.type T) r)(hg:Gl X x)(hm:X.mg x=none)(hv:bootBuiltins x=some (.type T))(ha:PA X (e::es) t)(hn:x≠"__name__":=by decide)(jP:(x==("__debug__" : Str))=false:=by decide)
  (he:starEach (e::es) X.env=(false,eval e X.env)::starEach es X.env:=by rfl) (bG:(backTo pos (starEach es X.env)).any (·.1)=false:=by rfl):PE X (.Call (.Name x p) (e::es) [] pos) (Qf r t):=by
 intro ak s Z H Q I h;refine Gk (yW I hg hm hv ?_ hn jP);exact Ga (aX (ha pos ak s Z H _ I h) λus s1 hx=>cY hx λvs H1 I1 r1 q1=>hc ak s1 Z H1 vs us Q I1 r1 q1) he bG
end
end L2
namespace HT
open PySem PyProof.Rows
noncomputable def lexLt:List Int->List Int->Bool
 |[],[]=>false
 |[],_::_=>true
 |_::_,[]=>false
 |x::xs,y::ys=>if x=y then lexLt xs ys else decide (x<y)
theorem jQ(x y:Int)(xs ys:List Int):lexLt (x::xs) (y::ys)=if x=y then lexLt xs ys else decide (x<y):=rfl
theorem zcI:lexLt [] []=false:=rfl
theorem zb4(y:Int)(ys:List Int):lexLt [] (y::ys)=true:=rfl
theorem zb3(x:Int)(xs:List Int):lexLt (x::xs) []=false:=rfl
theorem zhN(A:Around)(s:Shared)(a:Int)(t:Tok)(c:Int)(u:Tok):∃e,SeqAt.EqAt A s (.int a t) (.int c u) e/\(e=true↔a=c):=
 ⟨(a==c),SeqAt.EqAt.int_int a t c u,by simp⟩
theorem zhn(A:Around)(s:Shared)(a:Int)(t:Tok)(c:Int)(u:Tok)(prog:Program)(w:World)(E:Value->Shared->Prop)(Q:Value->Shared->Prop)(h:Q (.bool (decide (a<c))) s) :
  wpAny (model prog w) A (richCompare .Lt (.int a t) (.int c u)) Q E s:=
 (PyProof.Rows.lt_int h:wpAny (model prog w) A (compareOp .Lt (.int a t) (.int c u)) Q E s)
section
open PySem.SeqAt
open PySem.AutoSeq1 (wpAny_loadPart')
open PySem.MeetsSeq PySem.MeetsSeq2 PySem.MeetsSeq3
theorem zcN(l b:Addr)(items items2:Array Value)(n n2:Nat)(dd dd2:Option Addr)(sl sl2:Array (Option Value))(ns ms:List Int)(hi:IntsAre items.toList ns)(hj:IntsAre items2.toList ms) :
  Meets (Builtin.«tuple.__lt__» ⟨[.ref l,.ref b],[]⟩)
   (λ_ R s=>s.heap.get? l=some {cls:=.type "tuple",dict:=dd,data:=.seq items n,slots:=sl}/\s.heap.get? b=some {cls:=.type "tuple",dict:=dd2,data:=.seq items2 n2,slots:=sl2} /\
    R (.ok (.ret (.bool (lexLt ns ms)))) s):=
 .of_wp λprog w A R s h=>by
  obtain⟨hp,g,d,tk,os⟩:=s;obtain⟨hl,hb,h⟩:=h;have f2:=AutoSeq1.sub_tuple_tuple;have z1:items.size=ns.length:=by rw[<-hi.length];simp
  have z2:items2.size=ms.length:=by rw[<-hj.length];simp
  wp_walk using wpAny_loadPart' hl,wpAny_loadPart' hb,K8 _ (λrest b s'=>b.1=none/\s'=⟨hp,g,d,tk,os⟩/\∃(vs ws:List Value) (ns' Eu:List Int),rest=vs.zip ws /\
   IntsAre vs ns'/\IntsAre ws Eu/\ns'.length+items2.size=Eu.length+items.size/\R (.ok (.ret (.bool (lexLt ns' Eu)))) ⟨hp,g,d,tk,os⟩) _
  case turn=>
   rintro⟨y,x⟩ rest b s' ⟨hb',rfl,vs,ws,ns',Eu,hz,Qg,Mf,hlen,hR⟩;cases Qg with
   |nil=>rw[List.zip_nil_left] at hz;cases hz
   |cons a t Qh=>
    cases Mf with
    |nil=>rw[List.zip_nil_right] at hz;cases hz
    |cons c u Qi=>
     rw[DN] at hz;injection hz with hyx hrest;injection hyx with hy hx;subst hy hx;rw[jQ] at hR;simp only[je] at hlen;obtain⟨e,he,Hr⟩:=zhN A.in1 ⟨hp,g,d,tk,os⟩ a t c u;refine au (he prog w _ _ ?_);cases e with
     |true=>
      rw[if_pos (Hr.mp rfl)] at hR
      wp_walk
      exact⟨rfl,rfl,_,_,_,_,hrest,Qh,Qi,by lia,hR⟩
     |false=>
      rw[if_neg (λq=>absurd (Hr.mpr q) Bool.false_ne_true)] at hR;have hri:=zhn A.in1 ⟨hp,g,d,tk,os⟩ a t c u prog w
      wp_walk using hri
      exact⟨_,rfl,by simpa using hR⟩
  case fin=>
   rintro⟨b1,b2⟩ s' ⟨hb',rfl,vs,ws,ns',Eu,hz,Qg,Mf,hlen,hR⟩;simp only at hb';subst hb';have hv:lexLt ns' Eu=decide (items.size<items2.size):=by
    cases Qg with
    |nil=>
     cases Mf with
     |nil=>
      simp only[rK] at hlen;rw[zcI];exact(cU gV).symm
     |cons c u hw=>
      simp only[rK,je] at hlen;rw[zb4];exact(dR gV).symm
    |cons a t hv=>
     cases Mf with
     |nil=>
      simp only[rK,je] at hlen;rw[zb3];exact(cU gV).symm
     |cons c u hw=>
      rw[DN] at hz;cases hz
   rw[hv] at hR
   wp_walk
   exact⟨_,rfl,by simpa [Builtin.Tuple.tupleCompareSizes] using hR⟩
  case h=>
   exact⟨rfl,rfl,items.toList,items2.toList,ns,ms,rfl,hi,hj,by lia,h⟩
end
section
variable {prog:Program}{w:World}{A:Around}{E:Value->Shared->Prop}{s:Shared}
theorem oV{l b:Addr}{items items2:Array Value}{ns ms:List Int}{Q:Value->Shared->Prop}(hl:IsTup s.heap l items)(hb:IsTup s.heap b items2)(hi:IntsAre items.toList ns)(hj:IntsAre items2.toList ms)
  (hu:A.units<cLine) (h:Q (.bool (lexLt ns ms)) s):wpAny (model prog w) A (compareOp .Lt (.ref l) (.ref b)) Q E s:=by
 obtain⟨⟨cls,dd,data,sl⟩,ho,hc,n,hd⟩:=id hl;obtain⟨⟨cls2,dd2,data2,sl2⟩,nu,p8,n2,hd2⟩:=id hb;simp only at hc hd p8 hd2;subst hc hd p8 hd2;exact richCompare_meets_room (op:=.Lt) ⟨_,ho,rfl⟩ ⟨_,nu,rfl⟩ PySem.F.slot_tuple_lt PySem.F.entry_tuple_lt (PySem.F.args_tuple_lt_2 _ _) (zcN l b items items2 n n2 dd dd2 sl sl2 ns ms hi hj)
  ⟨ho,nu,show Value.bool (lexLt ns ms)≠Value.notImplemented/\Q (.bool (lexLt ns ms)) s from ⟨(λx=>nomatch x),h⟩⟩ hu
theorem wQ{t b:Addr}{vs ws:List Value}{Q:Value->Shared->Prop}(ht:IsTup s.heap t vs.toArray)(hb:IsTup s.heap b ws.toArray)(hv:vs≠[])
  (h1:ws=[]->Q (.ref t) s) (h2:ws≠[]->Q (.ref s.heap.objs.size) {s with heap:=s.heap.push {cls:=.type "tuple",data:=.seq (vs++ws).toArray}})
  (jh:vs.length+ws.length<=sizeLine):wpAny (model prog w) A (binaryOp .Add (.ref t) (.ref b)) Q E s:=by
 obtain⟨⟨cls,dd,data,sl⟩,ho,hc,n,hd⟩:=id ht;obtain⟨⟨cls2,dd2,data2,sl2⟩,nu,p8,n2,hd2⟩:=id hb;simp only at hc hd p8 hd2;subst hc hd p8 hd2;have e:vs.toArray++ws.toArray=(vs++ws).toArray:=by simp
 by_cases hw:ws=[]
 ·exact concat_meets ⟨_,ho,rfl⟩ ⟨_,nu,rfl⟩ noFill_tuple_add seq_tuple_add Oj Og (Oe _ _)
   (tuple_addW1 t b vs.toArray ws.toArray n n2 dd dd2 sl sl2 (by simpa using hv) (by simp[hw])) ⟨ho,nu,h1 hw⟩
 ·refine concat_meets ⟨_,ho,rfl⟩ ⟨_,nu,rfl⟩ noFill_tuple_add seq_tuple_add Oj Og (Oe _ _)
   (tuple_addW2 t b vs.toArray ws.toArray n n2 dd dd2 sl sl2 (by simpa using hv) (by simpa using hw) (by rw[dh,dh];exact jh)) ⟨ho,nu,?_⟩
  rw[e];exact h2 hw
noncomputable def bN(n d:Nat):Option Int->Nat
 |none=>d
 |some v=>if v<0 then (v+(n:Int)).toNat else min v.toNat n
theorem tH(n d:Nat):bN n d none=d:=rfl
theorem wR(n d k:Nat):bN n d (some (k:Int))=min k n:=by
 show (if (k:Int)<0 then ((k:Int)+(n:Int)).toNat else min (k:Int).toNat n)=min k n;rw[if_neg gV,yF]
theorem zk5(n d:Nat)(hd:d<=n)(o:Option Int):bN n d o<=n:=by
 cases o with
 |none=>exact hd
 |some v=>
  show (if v<0 then (v+(n:Int)).toNat else min v.toNat n)<=n;by_cases hv:v<0
  ·rw[if_pos hv];lia
  ·rw[if_neg hv];exact Nat.min_le_right _ _
theorem Xl(v:Int)(n d:Nat):(if v<0 then max (v+(n:Int)) 0 else min v (n:Int))=((bN n d (some v):Nat):Int):=by
 show (if v<0 then max (v+(n:Int)) 0 else min v (n:Int))=(((if v<0 then (v+(n:Int)).toNat else min v.toNat n):Nat):Int);by_cases hv:v<0
 ·simp only[if_pos hv];lia
 ·simp only[if_neg hv];lia
theorem zeJ(lo hi:Option Int)(n:Nat):Builtin.Slice.sliceAdjust lo hi 1 (n:Int)=(((bN n 0 lo:Nat):Int),((bN n n hi:Nat):Int)):=by
 have h1:¬((1:Int)<0):=by lia
 unfold Builtin.Slice.sliceAdjust;simp only[h1,iQ];refine Prod.ext ?_ ?_
 ·cases lo with
  |none=>rfl
  |some v=>exact Xl v n 0
 ·cases hi with
  |none=>rfl
  |some v=>exact Xl v n n
theorem zeX(i j:Nat):Builtin.Slice.slicePlaces (i:Int) (j:Int) 1=j-i:=by
 unfold Builtin.Slice.slicePlaces;have h1:(1:Int)>0:=by lia
 simp only[h1,if_true,Int.ediv_one]
 split<;>lia
theorem Qj{v:Value}{o:Option Int}{Q:Option Int->Shared->Prop}(p:IsPart v o)(h:Q o s):wpAny (model prog w) A (Builtin.Slice.slicePartIndex v) Q E s:=by
 cases p with
 |none=>exact slicePart_none h
 |int i t=>exact slicePart_int h
theorem Xm{sl:Addr}{vl vu:Value}{lo hi:Option Int}{n:Nat}{Q:Int×Int×Nat->Shared->Prop}(hs:s.heap.IsSliceOf sl vl vu .none)(pl:IsPart vl lo)(pu:IsPart vu hi)
  (h:Q (((bN n 0 lo:Nat):Int),1,bN n n hi-bN n 0 lo) s):wpAny (model prog w) A (Builtin.Slice.sliceApplied (.ref sl) (pure (n:Int))) Q E s:=by
 obtain⟨os,qQ,Bf,vD⟩:=id hs;unfold Builtin.Slice.sliceApplied Builtin.Slice.sliceFields;refine au (au (kj qQ vD (x:=vl) rfl (au (kj qQ vD (x:=vu) rfl (au (kj qQ vD (x:=.none) rfl (aJ ?_)))))));refine au (slicePart_none ?_);show wpAny _ _ (if ((1:Int)==0)=true then _ else _) _ _ s;rw[if_neg UJ];refine au (Qj pl (au (Qj pu (au (aJ ?_)))));show wpAny _ _ (match Builtin.Slice.sliceAdjust lo hi 1 (n:Int) with|(lo,hi)=>pure (lo,(1:Int),Builtin.Slice.slicePlaces lo hi 1)) _ _ s;rw[zeJ lo hi n];show wpAny _ _ (pure (((bN n 0 lo:Nat):Int),(1:Int),Builtin.Slice.slicePlaces ((bN n 0 lo:Nat):Int) ((bN n n hi:Nat):Int) 1)) _ _ s;rw[zeX];exact aJ h
theorem zhh(xs:Array Value)(i k:Nat):((List.range k).filterMap λ(m:Nat)=>xs[((i:Int)+(m:Int)*1).toNat]?).toArray=((xs.toList.drop i).take k).toArray:=by
 have e:(λ(m:Nat)=>xs[((i:Int)+(m:Int)*1).toNat]?)=λm=>xs[i+m]?:=by
  funext m
  have:((i:Int)+(m:Int)*1).toNat=i+m:=by lia
  rw[this]
 rw[e];have:=pick_run xs i k;rw[List.filterMap_map] at this;have e2:((λx=>xs[x]?)∘λx=>i+x)=λm=>xs[i+m]?:=rfl;rw[e2] at this;rw[this]
theorem gP{t sl:Addr}{items:Array Value}{vl vu:Value}{lo hi:Option Int}{Q:Value->Shared->Prop}(ht:IsTup s.heap t items)(hs:s.heap.IsSliceOf sl vl vu .none)(pl:IsPart vl lo)(pu:IsPart vu hi)
  (hw:¬(bN items.size 0 lo=0/\bN items.size items.size hi=items.size))
  (h:Q (.ref s.heap.objs.size) {s with heap:=s.heap.push {cls:=.type "tuple",data:=.seq ((items.toList.drop (bN items.size 0 lo)).take (bN items.size items.size hi-bN items.size 0 lo)).toArray}})
  (jh:items.size<=sizeLine):wpAny (model prog w) A (getItem (.ref t) (.ref sl)) Q E s:=by
 have gQ:sizeOk (.seq ((items.toList.drop (bN items.size 0 lo)).take (bN items.size items.size hi-bN items.size 0 lo)).toArray):=by
  show ((items.toList.drop (bN items.size 0 lo)).take (bN items.size items.size hi-bN items.size 0 lo)).toArray.size<=sizeLine;rw[dh,yG,Gm,Ac]
  lia
 have hj:bN items.size items.size hi<=items.size:=zk5 _ _ (bV _) hi;obtain⟨os,qQ,Bf,vD⟩:=id hs;have Hs:s.TypeIs (.ref sl) "slice":=⟨os,qQ,Bf⟩;unfold getItem
 try with_reducible refine jw ?_
 first|refine au (aJ ?_)|skip
 refine au (wpAny_sequenceKey ht.typeIs UJ ?_);refine au (yx (name:=Str.ofString "__getitem__") ht.typeIs wg
  (rJ wg ht.typeIs entry_tuple_getitem ?_ (args_tuple_getitem _ _)))
 show wpAny _ _ (Builtin.Tuple.tupleItemsOf (.ref t) >>= _) _ _ s;refine au (tupleItemsOf_ ht ?_);refine au (yK Hs ?_);rw[if_pos UJ];refine au (Xm hs pl pu ?_);have Ht:¬((((bN items.size 0 lo:Nat):Int)==0&&(1:Int)==1&&(bN items.size items.size hi-bN items.size 0 lo)==items.size)=true):=by
  intro q;rw[cG,cG] at q;have q1:((bN items.size 0 lo:Nat):Int)=0:=eq_of_beq q.1.1;have q2:bN items.size items.size hi-bN items.size 0 lo=items.size:=eq_of_beq q.2;exact hw ⟨by lia,by lia⟩
 show wpAny _ _ (if (((bN items.size 0 lo:Nat):Int)==0&&(1:Int)==1&&(bN items.size items.size hi-bN items.size 0 lo)==items.size)=true then _ else _) _ _ s;rw[if_neg Ht,zhh]
 first
  |exact au (m:=Builtin.Tuple.tupleExact _) (nZ (aJ ⟨_,rfl,aJ h⟩) gQ)
  |exact au (m:=Builtin.Tuple.tupleExact _) (nZ (au (aJ (aJ ⟨_,rfl,aJ h⟩))) gQ)
  |exact au (au (m:=Builtin.Tuple.tupleExact _) (nZ (aJ (aJ ⟨_,rfl,aJ h⟩)) gQ))
  |exact au (au (m:=Builtin.Tuple.tupleExact _) (nZ (aJ ⟨_,rfl,aJ h⟩) gQ))
end
end HT
namespace L2
open PySem PySem.Spec PyProof.Rows
noncomputable abbrev TO:=St->Hp->(Option Int->Hp->Prop)->Prop
def PO(X:Cx)(e:Option Expr)(t:TO):Prop:=
 ∀(ak:List (Addr×Obj)) (s:Shared) (Z:St) (H:Hp) (Q:Option Int->Hp->Prop),Inv X ak Z H s->t Z H Q->
  wpAny (model X.prog X.w) X.A (evalPart e X.env) (λu s'=>∃o H',Inv X ak Z H' s'/\IsPart u o/\Q o H') X.xe s
noncomputable def wU:TO:=λ_ H Q=>Q none H
noncomputable def Hu(t:TE):TO:=λZ H Q=>t Z H λx H1=>∃i,x=.int i/\Q (some i) H1
theorem Xn{ns:List Int}:∀{us:List Value},Vals (ns.map V.int) us->IntsAre us ns:=by
 induction ns with
 |nil=>intro us r;rw[List.map_nil] at r;cases r;exact .nil
 |cons n ns ih=>
  intro us r;rw[kh] at r;cases r with
  |cons r1 r2=>
   obtain⟨t,e⟩:=r1;subst e;exact .cons n t (ih r2)
section
variable {X:Cx}{e:Expr}{te:TE}{lo hi:Option Expr}{tl th:TO}{pos p2:Pos}
theorem ziC:PO X none wU:=by
 intro ak s Z H Q I h;rw[evalPart_none];exact aJ ⟨none,H,I,.none,h⟩
theorem ziZ(h:PE X e te):PO X (some e) (Hu te):=by
 intro ak s Z H Q I hw;rw[evalPart_some];refine aX (h ak s Z H _ I hw) λu s1 hx=>cY hx λx H1 I1 r1 q1=>?_;obtain⟨i,rfl,q⟩:=q1;obtain⟨t,rfl⟩:=r1;exact⟨some i,H1,I1,.int i t,q⟩
def wV(X:Cx)(r:V->Option Int->Option Int->Hp->VK->Prop):Prop:=
 ∀(ak:List (Addr×Obj)) (s:Shared) (Z:St) (H:Hp) (x:V) (v vl vu:Value) (lo hi:Option Int) (sl:Addr) (Q:VK),Inv X ak Z H s->RelV x v->s.heap.IsSliceOf sl vl vu .none->IsPart vl lo->IsPart vu hi->r x lo hi H Q->
  ∃T id,typeLookup (.type T) "__getitem__"=pure (some (.builtin id))/\s.TypeIs v T/\wpAny (model X.prog X.w) X.A (getItem v (.ref sl)) (EP X ak Z Q) X.xe s
theorem wV.or{r r':V->Option Int->Option Int->Hp->VK->Prop}(h:wV X r)(h':wV X r'):wV X (λx lo hi H Q=>r x lo hi H Q\/r' x lo hi H Q):=by
 intro ak s Z H x v vl vu lo hi sl Q I rx hs pl pu q;rcases q with q|q
 ·exact h ak s Z H x v vl vu lo hi sl Q I rx hs pl pu q
 ·exact h' ak s Z H x v vl vu lo hi sl Q I rx hs pl pu q
noncomputable def tSl(r:V->Option Int->Option Int->Hp->VK->Prop)(te:TE)(tl th:TO):TE:=λZ H Q=>te Z H λx H1=>tl Z H1 λl H2=>th Z H2 λu H3=>r x l u H3 Q
theorem zhg{r:V->Option Int->Option Int->Hp->VK->Prop}(hr:wV X r)(he:PE X e te)(hl:PO X lo tl)(hu:PO X hi th):PE X (.Subscript e (.Slice lo hi none p2) pos) (tSl r te tl th):=by
 intro ak s Z H Q I h;refine Subscript_ (aX (he ak s Z H _ I h) λv s1 hx=>cY hx λx H1 I1 r1 q1=>?_);refine wpAny_Slice (aX (hl ak s1 Z H1 _ I1 q1) λvl s2 hx=>cY hx λl H2 I2 pl q2=>aX (hu ak s2 Z H2 _ I2 q2) λvu s3 hx=>cY hx λu H3 I3 pu q3=>?_);rw[evalPart_none];refine aJ ?_;have I4:Inv X ak Z H3 {s3 with heap:=s3.heap.push {cls:=.type "slice",data:=.fields #[vl,vu,.none]}}:=I3.kept (t':=s3.toks) λb ob q=>bU _ q;obtain⟨T,id,hT,ht,hg⟩:=hr ak {s3 with heap:=s3.heap.push {cls:=.type "slice",data:=.fields #[vl,vu,.none]}} Z H3 x v vl vu l u s3.heap.objs.size Q I4 r1 (Heap.IsSliceOf.new ..) pl pu q3;show wpAny (model X.prog X.w) X.A (subscriptTail e (.Slice lo hi none p2) v (.ref s3.heap.objs.size)) (EP X ak Z Q) X.xe {s3 with heap:=s3.heap.push {cls:=.type "slice",data:=.fields #[vl,vu,.none]}};exact tail_any (ops:=[.ref s3.heap.objs.size,v]) ht hT hg (by with_unfolding_all rfl)
noncomputable def mj(xs:List V)(lo hi:Option Int):List V:=(xs.drop (HT.bN xs.length 0 lo)).take (HT.bN xs.length xs.length hi-HT.bN xs.length 0 lo)
theorem Xo(xs:List V)(lo hi:Option Int):(mj xs lo hi).length<=xs.length:=by
 unfold mj;rw[yG,Gm]
 lia
noncomputable def Qk(K:W.Frag):V->Option Int->Option Int->Hp->VK->Prop:=λx lo hi H Q=>∃a xs,x=.ref a/\fL K H a xs /\
 ¬(HT.bN xs.length 0 lo=0/\HT.bN xs.length xs.length hi=xs.length)/\∀p,H p=none->Q (.ref p) (upd H p (.tup (mj xs lo hi)))
theorem zkv:wV X (Qk X.K):=by
 intro ak s Z H x v vl vu lo hi sl Q I rx hs pl pu h;obtain⟨a,xs,rfl,hx,hw,q⟩:=h;cases rx;obtain⟨its,r,ht,hz⟩:=I.tuple hx;have hlen:its.toArray.size=xs.length:=by rw[dh];exact r.length.symm
 refine⟨"tuple",_,wg.lookup,ht.typeIs,?_⟩;refine HT.gP ht hs pl pu (by rw[hlen];exact hw) ?_ (by rw[hlen];exact hz);rw[hlen];refine⟨.ref s.heap.objs.size,_,I.laid (t':=s.toks) (o:=.tup (mj xs lo hi)) (λb ob q=>bU _ q) (bV _) ?_,rfl,q _ (I.hok.fresh (bV _))⟩;exact⟨n8 (Xo xs lo hi) hz,_,(r.drop (HT.bN xs.length 0 lo)).take (HT.bN xs.length xs.length hi-HT.bN xs.length 0 lo),IsTup.new _ _⟩
noncomputable def Hv(K:W.Frag):R2:=λx y H Q=>∃a b ns ms,x=.ref a/\y=.ref b/\fL K H a (ns.map V.int)/\fL K H b (ms.map V.int)/\Q (.bl (HT.lexLt ns ms)) H
theorem zj9(hu:X.A.units<cLine):cI X (compareOp .Lt) (Hv X.K):=by
 intro ak s Z H x y v u Q I rx ry h;obtain⟨a,b,ns,ms,rfl,rfl,ha,hb,q⟩:=h;cases rx;cases ry;obtain⟨its,r1,p1,_⟩:=I.tuple ha;obtain⟨its2,r2,p2,_⟩:=I.tuple hb;have i1:IntsAre its.toArray.toList ns:=Xn r1;have i2:IntsAre its2.toArray.toList ms:=Xn r2;exact HT.oV p1 p2 i1 i2 hu ⟨.bl (HT.lexLt ns ms),H,I,rfl,q⟩
theorem Vals.mq{xs:List V}{us:List Value}(r:Vals xs us):us=[]↔xs=[]:=by
 cases r with
 |nil=>simp
 |cons _ _=>simp
end
noncomputable def wW(n:Nat)(i:Int):Option Nat:=if 0<=i then (if i<n then some i.toNat else none) else if -(n:Int)<=i then some (i+n).toNat else none
noncomputable def tK{α:Type}(xs:List α)(i:Int):Option α:=(wW xs.length i).bind λj=>xs[j]?
theorem Xp{n:Nat}{i:Int}{j:Nat}(h:wW n i=some j):seqIndex? i n=some j/\j<n/\-(n:Int)<=i/\i<n:=by
 unfold wW at h;by_cases h0:0<=i
 ·rw[if_pos h0] at h;by_cases h1:i<n
  ·rw[if_pos h1] at h;have e:i.toNat=j:=cT h;exact⟨by rw[seqIndex_of h0 h1,e],by lia,by lia,h1⟩
  ·rw[if_neg h1] at h;cases h
 ·rw[if_neg h0] at h;by_cases h1 : -(n:Int)<=i
  ·rw[if_pos h1] at h;have e:(i+n).toNat=j:=cT h;exact⟨by rw[seqIndex_neg gV h1,e],by lia,h1,by lia⟩
  ·rw[if_neg h1] at h;cases h
theorem Ql{α:Type}{xs:List α}{i:Int}{v:α}(h:tK xs i=some v):∃j,seqIndex? i xs.length=some j/\xs[j]?=some v/\j<xs.length/\-(xs.length:Int)<=i/\i<xs.length:=by
 unfold tK at h;cases e:wW xs.length i with
 |none=>rw[e] at h;cases h
 |some j=>
  rw[e] at h;obtain⟨h1,h2,h3,h4⟩:=Xp e;exact⟨j,h1,h,h2,h3,h4⟩
def qb(b:Expr):Prop:=∀o i,subscripted b false o i=operate [o,i] (getItem o i)
def wX(X:Cx)(r:R2):Prop:=
 ∀(value slice:Expr) (ak:List (Addr×Obj)) (s:Shared) (Z:St) (H:Hp) (x y:V) (v u:Value) (Q:VK),Inv X ak Z H s->RelV x v->RelV y u->r x y H Q->
  subscripted slice false v u=operate [v,u] (getItem v u)->wpAny (model X.prog X.w) X.A (subscriptTail value slice v u) (EP X ak Z Q) X.xe s
def Mg(X:Cx)(id:String)(r:V->List V->Hp->VK->Prop):Prop:=
 ∀(ak:List (Addr×Obj)) (s:Shared) (Z:St) (H:Hp) (x:V) (xs:List V) (v:Value) (us:List Value) (Q:VK),Inv X ak Z H s->RelV x v->Vals xs us->r x xs H Q->
  wpAny (model X.prog X.w) X.A (call (.builtin id) (v::us)) (EP X ak Z Q) X.xe s
section
variable {X:Cx}{a b:Expr}{ta tb:TE}{pos:Pos}
theorem wX.or{r r':R2}(h:wX X r)(h':wX X r'):wX X (λx y H Q=>r x y H Q\/r' x y H Q):=by
 intro value slice ak s Z H x y v u Q I rx ry q hs;rcases q with q|q
 ·exact h value slice ak s Z H x y v u Q I rx ry q hs
 ·exact h' value slice ak s Z H x y v u Q I rx ry q hs
theorem zmx{r:R2}(hr:wX X r)(ha:PE X a ta)(hb:PE X b tb)(hs:qb b):PE X (.Subscript a b pos) (L_ r ta tb):=by
 intro ak s Z H Q I h;exact Subscript_ (A_ ha hb I h λv u s2 x y H2 I2 rx ry q=>hr a b ak s2 Z H2 x y v u Q I2 rx ry q (hs _ _))
noncomputable def Hw(K:W.Frag):R2:=λx y H Q=>∃p xs i v,x=.ref p/\y=.int i/\dw K H p xs/\tK xs i=some v/\Q v H
noncomputable def Hx(K:W.Frag):R2:=λx y H Q=>∃p xs i v,x=.ref p/\y=.int i/\fL K H p xs/\tK xs i=some v/\Q v H
noncomputable def Hy:R2:=λx y H Q=>∃z i c,x=.str z/\y=.int i/\z.length<=sizeLine/\tK z.cps.toList i=some c/\Q (.str ⟨#[c]⟩) H
theorem wY:wX X (Hw X.K):=by
 intro value slice ak s Z H x y v u Q I rx ry h hs;obtain⟨p,xs,i,z,rfl,rfl,hq,he,q⟩:=h;cases rx;obtain⟨t,rfl⟩:=ry;obtain⟨its,r,pl,hz⟩:=I.list hq;obtain⟨j,h1,h2,h3,h4,h5⟩:=Ql he;obtain⟨w,ew,oR⟩:=r.get h2;have hl:=r.length;have hn:=jO;have fin:EP X ak Z Q w s:=⟨z,H,I,oR,q⟩;by_cases h0:0<=i
 ·have hj:i.toNat=j:=by
   rw[seqIndex_of h0 h5] at h1;exact cT h1
  exact item_listR pl.isList h0 gV (by rw[hj];simpa using ew) fin hs
 ·have hj:(i+(its.toArray.size:Int)).toNat=j:=by
   rw[seqIndex_neg gV h4] at h1;rw[dh,<-hl];exact cT h1
  exact subscriptTail_builtinR (x:=w) pl.isList.typeIs slot_list_getitem.lookup
   (wpAny_getItem_list_neg (Q:=λr s'=>r=w/\EP X ak Z Q r s') pl.isList gV (by rw[dh]<;>lia) gV (by rw[hj];simpa using ew) ⟨rfl,fin⟩) hs
theorem Bg:wX X (Hx X.K):=by
 intro value slice ak s Z H x y v u Q I rx ry h hs;obtain⟨p,xs,i,z,rfl,rfl,hq,he,q⟩:=h;cases rx;obtain⟨t,rfl⟩:=ry;obtain⟨its,r,pl,hz⟩:=I.tuple hq;obtain⟨j,h1,h2,h3,h4,h5⟩:=Ql he;obtain⟨w,ew,oR⟩:=r.get h2;have hl:=r.length;have hn:=jO;have fin:EP X ak Z Q w s:=⟨z,H,I,oR,q⟩;exact subscriptTail_builtinR (x:=w) pl.typeIs slot_tuple_getitem.lookup
  (getItem_tuple (j:=j) (Q:=λr s'=>r=w/\EP X ak Z Q r s') pl gV gV (by rw[dh,<-hl];exact h1) (by simpa using ew) ⟨rfl,fin⟩) hs
theorem zlS:wX X Hy:=by
 intro value slice ak s Z H x y v u Q I rx ry h hs;obtain⟨z,i,c,rfl,rfl,hz,he,q⟩:=h;obtain⟨t,rfl⟩:=rx;obtain⟨t',rfl⟩:=ry;obtain⟨j,h1,h2,h3,h4,h5⟩:=Ql he;have hl:z.cps.toList.length=z.length:=by simp[Str.length]
 rw[hl] at h1 h4 h5;have hn:=jO;exact tail_any (typeIs_str s z t) slot_str_getitem.lookup (getItem_str (c:=c) (by
  have e1:decide (i < -(2^63:Int))=false:=cU gV;have e2:decide (i>=2^63)=false:=cU gV;rw[e1,e2,Bool.or_false]) (by rw[h1];simpa using h2) ⟨.str ⟨#[c]⟩,H,I.tok _,⟨_,rfl⟩,q⟩) hs
noncomputable def Qm(K:W.Frag):R2:=λx y H Q=>Hw K x y H Q\/Hx K x y H Q\/Hy x y H Q
theorem zmh:wX X (Qm X.K):=wY.or (Bg.or zlS)
theorem zeF(its:List Value)(n j:Nat)(u:Value):Obj.mapSeq (·.setIfInBounds j u) {cls:=.type "list",data:=.seq its.toArray n}={cls:=.type "list",data:=.seq (its.set j u).toArray n}:=by
 simp[Obj.mapSeq]
theorem Inv.lst{ak:List (Addr×Obj)}{Z:St}{H:Hp}{s:Shared}{p:Addr}{xs:List V}(I:Inv X ak Z H s)(h:H p=some (.lst xs)) :
  ∃(its:List Value) (n:Nat),Vals xs its/\s.heap.get? p=some {cls:=.type "list",data:=.seq its.toArray n}/\xs.length<=sizeLine:=by
 obtain⟨z,its,n,r,e⟩:=I.hok p _ h;exact⟨its,n,r,e,z⟩
theorem Inv.Bh{ak:List (Addr×Obj)}{Z:St}{H:Hp}{s:Shared}{p:Addr}{xs ys:List V}{its its':List Value}{n n':Nat}{f:Obj->Obj}(I:Inv X ak Z H s)(h:H p=some (.lst xs))
  (ho:s.heap.get? p=some {cls:=.type "list",data:=.seq its.toArray n}) (hf:f {cls:=.type "list",data:=.seq its.toArray n}={cls:=.type "list",data:=.seq its'.toArray n'}) (r:Vals ys its') (hz:ys.length<=sizeLine) (t:Nat) :
  Inv X ak Z (upd H p (.lst ys)) {s with heap:=s.heap.update p f,toks:=t}:=by
 have e:(s.heap.update p f).get? p=some {cls:=.type "list",data:=.seq its'.toArray n'}:=by
  rw[sJ f ho (by rw[hf]<;>rfl),hf]
 refine I.write (x:=p) (e:=p) (by rw[h];trivial) (.inl rfl) (λb u hb q=>(vg _ _ (Ne.symm hb)).trans q) ⟨_,e⟩ ?_;exact⟨hz,its',n',r,e⟩
noncomputable def Hz:V->V->V->Hp->(Hp->Prop)->Prop:=λo i v H Q=>∃p xs k j,o=.ref p/\i=.int k/\H p=some (.lst xs)/\wW xs.length k=some j/\Q (upd H p (.lst (xs.set j v)))
theorem zgZ:G4 X Hz:=by
 intro ak s Z H o i v ov iv u Q I ro ri rv h;obtain⟨p,xs,k,j,rfl,rfl,hp,hj,q⟩:=h;cases ro;obtain⟨t,rfl⟩:=ri;obtain⟨its,n,r,ho,hz⟩:=I.lst hp;obtain⟨h1,h2,h3,h4⟩:=Xp hj;have hl:=r.length;have hn:=jO;have I':Inv X ak Z (upd H p (.lst (xs.set j v))) {s with heap:=s.heap.update p (Obj.mapSeq (·.setIfInBounds j u))}:=
  I.Bh hp ho (zeF its n j u) (r.set rv j) (by rw[oH];exact hz) s.toks
 by_cases h0:0<=k
 ·have hk:k.toNat=j:=by
   rw[seqIndex_of h0 h4] at h1;exact cT h1
  exact PySem.W.ki_setAt ho h0 gV (by rw[dh,<-hl];exact h4) (by rw[hk];exact⟨_,I',q⟩)
 ·have hk:(k+(its.toArray.size:Int)).toNat=j:=by
   rw[seqIndex_neg gV h3] at h1;rw[dh,<-hl];exact cT h1
  exact PySem.W.ki_setBack ho gV (by rw[dh,<-hl];exact h3) gV (by rw[hk];exact⟨_,I',q⟩)
theorem zcW(lo hi:Option Int)(n:Nat):(sliceBounds lo hi none n).1=((HT.bN n 0 lo:Nat):Int)/\(sliceBounds lo hi none n).2.1=((HT.bN n n hi:Nat):Int)/\(sliceBounds lo hi none n).2.2=1:=by
 refine⟨?_,?_,rfl⟩
 ·cases lo with
  |none=>simp[sliceBounds,HT.bN]
  |some i=>
   simp only[sliceBounds,HT.bN,Option.getD_none,show (1:Int)>0 by decide,if_true];by_cases h:i<0
   ·simp only[h,if_true]<;>lia
   ·simp only[h,iQ]<;>lia
 ·cases hi with
  |none=>simp[sliceBounds,HT.bN]
  |some i=>
   simp only[sliceBounds,HT.bN,Option.getD_none,show (1:Int)>0 by decide,if_true];by_cases h:i<0
   ·simp only[h,if_true]<;>lia
   ·simp only[h,iQ]<;>lia
theorem zcp(its:List Value)(lo hi:Option Int):slicePick its.toArray lo hi none=((its.drop (HT.bN its.length 0 lo)).take (HT.bN its.length its.length hi-HT.bN its.length 0 lo)).toArray:=by
 obtain⟨h1,h2,h3⟩:=zcW lo hi its.toArray.size;unfold slicePick;rw[h1,h2,h3];simp only[sliceRange_one,pick_run,dh]<;>rfl
noncomputable def HB(K:W.Frag):V->Option Int->Option Int->Hp->VK->Prop:=λx lo hi H Q=>∃a xs,x=.ref a/\dw K H a xs/\∀p,H p=none->Q (.ref p) (upd H p (.lst (mj xs lo hi)))
theorem wZ:wV X (HB X.K):=by
 intro ak s Z H x v vl vu lo hi sl Q I rx hs pl pu h;obtain⟨a,xs,rfl,hx,q⟩:=h;cases rx;obtain⟨its,r,ht,hz⟩:=I.list hx;have hlen:=r.length;refine⟨"list",_,slot_list_getitem.lookup,ht.isList.typeIs,?_⟩;refine wpAny_getItem_list_slice ht.isList hs pl pu .none Zaa ?_ (by rw[dh]<;>lia);rw[zcp,<-hlen];refine⟨.ref s.heap.objs.size,_,I.laid (t':=s.toks) (o:=.lst (mj xs lo hi)) (λb ob q=>bU _ q) (bV _) ?_,rfl,q _ (I.hok.fresh (bV _))⟩;exact⟨n8 (Xo xs lo hi) hz,_,0,(r.drop (HT.bN xs.length 0 lo)).take (HT.bN xs.length xs.length hi-HT.bN xs.length 0 lo),gF _ rfl⟩
theorem zcU:cN X (.builtin "len") (λxs H Q=>∃p ys,xs=[.ref p]/\(dw X.K H p ys\/fL X.K H p ys)/\Q (.int ys.length) H):=by
 intro ak s Z H xs us Q I r h;obtain⟨p,ys,rfl,hq,q⟩:=h;obtain⟨u,rfl,rx⟩:=vals1 r;cases rx;have hn:=jO;rcases hq with hq|hq
 ·obtain⟨its,r',pl,hz⟩:=I.list hq;have hlen:=r'.length;exact Calls.call_len_list pl.isList (by simp only[dh]<;>lia) ⟨.int ys.length,H,I.tok _,⟨s.toks+1,by rw[dh,hlen]⟩,q⟩
 ·obtain⟨its,r',pl,hz⟩:=I.tuple hq;have hlen:=r'.length;exact len_tuple pl (by simp only[dh]<;>lia) ⟨.int ys.length,H,I.tok _,⟨s.toks+1,by rw[dh,hlen]⟩,q⟩
theorem zcX:cN X (.type "list") (λxs H Q=>∃p ys,xs=[.ref p]/\(dw X.K H p ys\/fL X.K H p ys)/\∀l,H l=none->Q (.ref l) (upd H l (.lst ys))):=by
 intro ak s Z H xs us Q I r h;obtain⟨p,ys,rfl,hq,q⟩:=h;obtain⟨u,rfl,rx⟩:=vals1 r;cases rx;have fin:∀(its:List Value),Vals ys its->ys.length<=sizeLine->∀(h':Heap) (c':Nat),(∀b o',s.heap.get? b=some o'->h'.get? b=some o')->
   h'.get? s.heap.objs.size=some {cls:=.type "list",dict:=none,data:=.seq its.toArray c',slots:=#[]}->EP X ak Z Q (.ref s.heap.objs.size) {s with heap:=h'}:=λits r' hz h' c' kp e=>
  ⟨.ref s.heap.objs.size,_,I.laid (t':=s.toks) kp (bV _) (show aO X.prog X.w _ h' _ (.lst ys) from ⟨hz,its,c',r',e⟩),rfl,q _ (I.hok.fresh (bV _))⟩
 rcases hq with hq|hq
 ·obtain⟨its,r',pl,hz⟩:=I.list hq;have hlen:=r'.length;obtain⟨o,ho,hc,n,hd⟩:=pl.isList;exact call_list_seq p (.inl rfl) ho hc hd (λh' c' kp e=>fin its r' hz h' c' kp e) (by simp only[dh]<;>lia)
 ·obtain⟨its,r',pl,hz⟩:=I.tuple hq;have hlen:=r'.length;obtain⟨o,ho,hc,n,hd⟩:=pl;exact call_list_seq p (.inr rfl) ho hc hd (λh' c' kp e=>fin its r' hz h' c' kp e) (by simp only[dh]<;>lia)
theorem zcG:cN X (.type "tuple") (λxs H Q=>∃p ys,xs=[.ref p]/\((dw X.K H p ys/\∀l,H l=none->Q (.ref l) (upd H l (.tup ys)))\/(fL X.K H p ys/\Q (.ref p) H))):=by
 intro ak s Z H xs us Q I r h;obtain⟨p,ys,rfl,h⟩:=h;obtain⟨u,rfl,rx⟩:=vals1 r;cases rx;rcases h with ⟨hq,q⟩|⟨hq,q⟩
 ·obtain⟨its,r',pl,hz⟩:=I.list hq;have hlen:=r'.length;refine call_tuple_list pl.isList (λh' kp=>?_) (by simp only[dh]<;>lia);have I1:Inv X ak Z H {s with heap:=h'}:=I.kept (t':=s.toks) kp;have I2:Inv X ak Z (upd H h'.objs.size (.tup ys)) {s with heap:=h'.push {cls:=.type "tuple",data:=.seq its.toArray}}:=
   I1.laid (t':=s.toks) (λb o e=>bU _ e) (bV _) (show aO X.prog X.w _ _ _ (.tup ys) from ⟨hz,its,r',IsTup.new _ _⟩)
  exact⟨.ref h'.objs.size,_,I2,rfl,q _ (I1.hok.fresh (bV _))⟩
 ·obtain⟨its,r',pl,hz⟩:=I.tuple hq;exact call_tuple_same pl ⟨.ref p,H,I,rfl,q⟩
def Qn(K:W.Frag)(T:String)(x:V)(H:Hp):Prop:=match x with
 |.str _=>T="str"
 |.int _=>T="int"
 |.ref p=>(T="list"/\∃xs,dw K H p xs)\/(T="tuple"/\∃o,K.lookup p=some o/\o.cls=.type "tuple"/\o.dict=none) \/
   (T="dict"/\((∃kvs,H p=some (.dK kvs))\/∃kvs,H p=some (.dT kvs)))\/(T="set"/\∃S n,H p=some (.set S n))
 |_=>False
theorem zlU{ak:List (Addr×Obj)}{Z:St}{H:Hp}{s:Shared}{T:String}{x:V}{v:Value}(I:Inv X ak Z H s)(r:RelV x v)(ty:Qn X.K T x H) :
  s.TypeIs v T/\∀a,v=.ref a->∃ob,s.heap.get? a=some ob/\ob.dict=none:=by
 cases x with
 |str z=>
  obtain⟨t,rfl⟩:=r;cases (show T="str" from ty);exact⟨typeIs_str s z t,λ_ e=>nomatch e⟩
 |int i=>
  obtain⟨t,rfl⟩:=r;cases (show T="int" from ty);exact⟨typeIs_int s i t,λ_ e=>nomatch e⟩
 |ref p=>
  cases r;rcases ty with ⟨rfl,xs,hq⟩|⟨rfl,o,hk,hc,hd⟩|⟨rfl,hk⟩|⟨rfl,S,n,hk⟩
  ·obtain⟨its,_,pl,_⟩:=I.list hq;refine⟨pl.isList.typeIs,λa e=>?_⟩;cases e;obtain⟨o,n,e,c,hd,_⟩:=pl;exact⟨o,e,hd⟩
  ·refine⟨⟨o,I.pY p o hk,hc⟩,λa e=>?_⟩;cases e;exact⟨o,I.pY _ o hk,hd⟩
  ·have z:∃o,s.heap.get? p=some o/\o.ExactDict:=by
    rcases hk with ⟨kvs,hk⟩|⟨kvs,hk⟩
    ·obtain⟨_,_,_,_,o,_,_,e,ex,_⟩:=I.hok p _ hk;exact⟨o,e,ex⟩
    ·obtain⟨_,_,_,_,o,_,_,e,ex,_⟩:=I.hok p _ hk;exact⟨o,e,ex⟩
   obtain⟨o,e,ex⟩:=z;refine⟨⟨o,e,ex.1⟩,λa e2=>?_⟩;cases e2;exact⟨o,e,ex.2.1⟩
  ·obtain⟨o,_,_,_,e,ex,_⟩:=I.hok p _ hk;refine⟨⟨o,e,ex.1⟩,λa e2=>?_⟩;cases e2;exact⟨o,e,ex.2.1⟩
 |_=>exact False.elim ty
noncomputable def tBM(K:W.Frag)(T:String)(r:V->List V->Hp->VK->Prop)(to:TE)(t:TA):TE:=λZ H Q=>to Z H λx H1=>Qn K T x H1/\t Z H1 λxs H2=>r x xs H2 Q
variable {o e:Expr}{es:List Expr}{to:TE}{t:TA}{name:Str}{apos cpos:Pos}{T id:String}{r:V->List V->Hp->VK->Prop}
theorem znk(pa:PlainAttrs T)(slot:Slot T name id)(Qo:typeOf (.builtin id)=pure (.type "method_descriptor"))(hm:Mg X id r)(ho:PE X o to)(ha:PA X (e::es) t)
  (dJ:attributeBase o name X.env (eval o X.env)=eval o X.env:=by rfl)
  (oW:((backTo cpos (starEach (e::es) X.env)).all (λx=>!x.1)&&(backToKw cpos (keywordEach [] X.env)).all (λx=>x.1.isSome)
  &&decide ((e::es).length+([]:List Keyword).length+(if ([]:List Keyword).isEmpty then 0 else 1)<30))=true:=by rfl)
  (jR:(apos.endLine==cpos.line)=true:=by rfl) (hs:starEach (e::es) X.env=(false,eval e X.env)::starEach es X.env:=by rfl) (cV:(backTo cpos (starEach es X.env)).any (·.1)=false:=by rfl) :
  PE X (.Call (.Attribute o name apos) (e::es) [] cpos) (tBM X.K T r to t):=by
 intro ak s Z H Q I h;refine wpAny_Call_method_late dJ oW jR rfl (aX (ho ak s Z H _ I h) λv s1 ⟨x,H1,I1,r1,ty,q1⟩=>?_);obtain⟨h1,h2⟩:=zlU I1 r1 ty;refine⟨T,id,pa,slot,Qo,h1,h2,?_⟩;have hA:=ha cpos ak s1 Z H1 _ I1 q1;rw[hs] at hA ⊢;refine Calls.callWith_builtin (by show (false||(backTo cpos (starEach es X.env)).any (·.1))=false;rw[cV]<;>rfl) (Ou ?_);exact aX hA λus s2 hx=>cY hx λvs H2 I2 r2 q2=>hm ak s2 Z H2 x vs v us Q I2 r1 r2 q2
end
def MtM(X:Cx)(id:String)(r:V->List V->Hp->VK->Prop):Prop:=
 ∀(ak:List (Addr×Obj)) (s:Shared) (Z:St) (H:Hp) (x:V) (xs:List V) (v:Value) (us:List Value) (Q:VK),Inv X ak Z H s->RelV x v->Vals xs us->r x xs H Q->
  wpAny (model X.prog X.w) X.A (call (.builtin id) (v::us)) (EP X ak Z Q) X.xe s
theorem Vals.one{x:V}{us:List Value}(h:Vals [x] us):∃u,us=[u]/\RelV x u:=by
 cases h with
 |cons r t=>cases t;exact⟨_,rfl,r⟩
theorem Vals.two{x y:V}{us:List Value}(h:Vals [x,y] us):∃u v,us=[u,v]/\RelV x u/\RelV y v:=by
 cases h with
 |cons r t=>
  obtain⟨v,rfl,q⟩:=Vals.one t;exact⟨_,_,rfl,r,q⟩
section
variable {X:Cx}{ak:List (Addr×Obj)}{Z:St}{H:Hp}{s:Shared}{l b:Addr}{xs ys zs:List V}
theorem Inv.Qp{its its':List Value}{n:Nat}{f:Array Value->Array Value}{t':Nat}(I:Inv X ak Z H s)(hH:H l=some (.lst xs))
  (e:s.heap.get? l=some {cls:=.type "list",data:=.seq its.toArray n}) (hf:f its.toArray=its'.toArray) (hv:Vals ys its') (hz:ys.length<=sizeLine) :
  Inv X ak Z (upd H l (.lst ys)) {s with heap:=s.heap.update l (Obj.mapSeq f),toks:=t'}:=by
 have q:=PySem.IsL.update e f;rw[hf] at q;refine I.write (x:=l) (e:=l) (by rw[hH];exact trivial) (.inl rfl) (λb' u hb hu=>(vg s.heap (Obj.mapSeq f) (Ne.symm hb)).trans hu) ⟨_,q⟩ ?_;exact⟨hz,its',_,hv,q⟩
theorem Inv.Qq{its:List Value}{t':Nat}(I:Inv X ak Z H s)(hv:Vals ys its)(hz:ys.length<=sizeLine) :
  Inv X ak Z (upd H s.heap.objs.size (.lst ys)) {s with heap:=s.heap.push {cls:=.type "list",data:=.seq its.toArray},toks:=t'}:=
 I.laid (λ_ _ q=>bU _ q) (bV _) ⟨hz,its,0,hv,gF _ rfl⟩
theorem Inv.fresh(I:Inv X ak Z H s):H s.heap.objs.size=none:=I.hok.fresh (bV _)
theorem Inv.Qs(I:Inv X ak Z H s)(hH:H l=some (.lst xs)):xs.length<=sizeLine/\∃(its:List Value) (n:Nat),Vals xs its/\xs.length=its.length/\s.heap.get? l=some {cls:=.type "list",data:=.seq its.toArray n}:=by
 obtain⟨z,its,n,r,e⟩:=I.hok l _ hH;exact⟨z,its,n,r,r.length,e⟩
end
section
variable {X:Cx}
noncomputable def xg:V->List V->Hp->VK->Prop:=λx vs H Q=>∃l xs y,x=.ref l/\vs=[y]/\H l=some (.lst xs)/\xs.length<sizeLine/\Q .non (upd H l (.lst (xs++[y])))
theorem zgo:MtM X "list.append" xg:=by
 intro ak s Z H x vs v us Q I rx rv h;obtain⟨l,xs,y,rfl,rfl,hH,hz,q⟩:=h;cases rx;obtain⟨u,rfl,ru⟩:=rv.one;obtain⟨z,its,n,r,hl,e⟩:=I.Qs hH;refine yM F.slot_list_append ⟨_,e,rfl⟩ F.entry_list_append (F.args_list_append_2 _ _) (PySem.list_append l its.toArray n u (by rw[dh];lia)) ⟨e,?_⟩;refine⟨.non,_,I.Qp (its':=its++[u]) hH e Zaa (r.append (.cons ru .nil)) ?_,rfl,q⟩;rw[fK,List.length_singleton]
 lia
end
section
variable {prog:Program}{w:World}{A:Around}{E:Value->Shared->Prop}{s:Shared}
set_option maxRecDepth 100000 in
end
end L2
namespace Xq
open PySem PySem.W PySem.Calls PyProof.Rows
theorem zbV{P:Params}{h:Heap}:∀(ns:List Int) (vs:List Value),WellAll P h vs (ns.map WData.int)->IntsAre vs ns:=by
 intro ns
 induction ns with
 |nil=>
  intro vs w;rw[List.map_nil] at w;cases w;exact .nil
 |cons n ns ih=>
  intro vs w;rw[kh] at w;cases w with
  |cons a b=>
   cases a;exact .cons _ _ (ih _ b)
theorem zgF{l:OpenLaw}{n:Nat}(hn:l.most=some n){P:Params}{h:Heap}{args:List WData}{vals:List Value}
  (hpre:l.row.toRowW.claim.pre args=true) (Qt:WellAll P h vals args) :
  ∃a vs ns,vals=[Value.ref a]/\args=[WData.list (ns.map WData.int)]/\h.get? a=some {cls:=.type "list",data:=.seq vs.toArray}/\IntsAre vs ns/\ns.length<=n:=by
 have hsh:WShape.hasAll [] args [.list .int]=true:=(pre_splitW hpre).1;have hc:l.pre.holds [] {args:=args}=true:=(pre_splitW hpre).2;obtain⟨d,r,rfl,h1,h2⟩:=hasAllW_cons hsh;obtain rfl:=hasAllW_nil h2;obtain⟨xs,rfl,h3⟩:=hasW_list h1;obtain⟨ns,rfl⟩:=items_int h3;have hlen:ns.length<=n:=by
  unfold OpenLaw.pre at hc;have h4:(WTm.not (.lt (.lit (.int (n:Int))) (.len (.arg 0)))).holds [] {args:=[.list (ns.map .int)]}=true:=by
   have h4:=(holds_andW hc).1;rw[hn] at h4;exact h4
  have h5:=condW_of h4 (w_not (w_lt w_lit (w_len_list (w_arg rfl))));rw[bZ] at h5;refine Gn λq=>?_;have q':(n:Int)<((ns.length:Nat):Int):=by lia
  first
   |(rw[dR q'] at h5;exact absurd h5 UJ)
   |(simp at h5;lia)
 cases Qt with
 |cons w1 w2=>
  cases w2;cases w1 with
  |list ho lg=>exact⟨_,_,ns,rfl,rfl,ho,zbV ns _ lg,hlen⟩
theorem zfk(l:OpenLaw)(args:List WData):l.row.toRowW.claim.post args (.bool true) args=true:=
 postW_of (r:=l.row.toRowW) (X:=(true==true))
  (show WShape.has [] (.bool true) .bool=true by first|rfl|decide|simp[WShape.has,WShape.arms,WShape.armsAll])
  (show (WTm.eq .res (.lit (.bool true))).value [] {args:=args,res:=some (.bool true),after:=args}=some (.bool (true==true)) from w_eq_bool (w_res rfl) w_lit) rfl
theorem nA{l:OpenLaw}{n:Nat}{q:Program}{loose:List Str}{XP:(Str->Option Value)->Heap->Prop}{YP:World->Heap->Prop}{d:DefRec}
  (hn:l.most=some n) (Qu:d.params.defaults=[])
  (call:∀(w:World) (s₀ s₁:Shared) (mg mb:Str->Option Value) (fa:Addr) (o:Obj) (pm cd doc:Value) (a:Addr) (vs:List Value) (ns:List Int),
   Ground q loose [] XP w s₀ mg mb s₁.heap->YP w s₁.heap->
   s₁.heap.get? fa=some o->o.data=.func (docDef d.name d.params d.body d.scope pm cd doc)->s₁.heap.CodeRec cd d.name->mg d.name=some (.ref fa)->
   s₁.heap.get? a=some {cls:=.type "list",data:=.seq vs.toArray}->IntsAre vs ns->ns.length<=n->s₁.gens=#[]->
   codeAny (model l.prog w) callerA (.call (.ref fa) ⟨[.ref a],[]⟩) (λr s'=>r=.ok (.ret (.bool true))/\OldK s₁.heap s'.heap/\s'.os=s₁.os/\AllBare s'.gens) s₁) :
  WalkO q loose XP YP l.row.toRowW d [] (λf vs=>PySem.call f vs):=by
 intro w s₀ s₁ mg mb G Y fa o pm cd doc dV kV ho hd lZ hD hmg hg args vals as hpre aac hrd Qt Xr;obtain rfl:dV=.none:=Dflts.none hD Qu;obtain rfl:kV=.none:=Dflts.noKw hD;obtain⟨a,vs,ns,rfl,rfl,Bj,hints,hlen⟩:=zgF hn hpre Qt;refine enter_call (Gu (call w s₀ s₁ mg mb fa o pm cd doc a vs ns G Y ho (fd_plain hd) lZ hmg Bj hints hlen hg) λr s' hq=>?_);obtain⟨rfl,h2,h3,h4⟩:=hq;exact⟨.inl ⟨.bool true,.bool true,[],rfl,λ_=>rfl,.bool true,zfk l _,λ_=>⟨List.Pairwise.nil,λ_ hm=>(nomatch hm)⟩⟩,h2,h3,h4⟩
end Xq
namespace L2
open PySem PySem.Spec PyProof.Rows
theorem Xu:∀{vs:List Value} {ns:List Int},IntsAre vs ns->Vals (ns.map V.int) vs
 |_,_,.nil=>.nil
 |_,_,.cons n t h=>.cons ⟨t,rfl⟩ (Xu h)
def Only(H:Hp):Prop:=∀b,H b=none\/∃o xs,H b=some (.sW o (.lst xs))
theorem zhr{P:Program}{w:World}{K:W.Frag}{mg mb:Str->Option Value}{CX:rP}{k:Nat}{fa a:Addr}{fd:FuncData}{x:Str}{sp:Sp}{s₁:Shared}{vs:List Value}{ns:List Int}
  (KX:K.In s₁.heap) (HD:s₁.heap.Ns mainGlobals mg) (hb:s₁.heap.Ns builtinsNs mb) (hbb:∀x:Str,x≠"__name__"->mb x=bootBuiltins x) (Qv:s₁.heap.NoLimit) (hg:s₁.gens=#[])
  (ha:s₁.heap.get? a=some {cls:=.type "list",data:=.seq vs.toArray}) (hi:IntsAre vs ns) (hl:ns.length<=sizeLine) (hr:bW k callerA)
  (F:∀base:Heap,K.In base->base.Ns mainGlobals mg->eE P w K mg base CX true k fa fd [x] sp) (tL:∀(s:Shared) (u:Value),BindsTo s fd ⟨[u],[]⟩ [(x,u)])
  (Bc:∀H:Hp,Only H->dw K H a (ns.map V.int)->sp [.ref a] H (λv _=>v=.bl true) λ_ _ _=>False)
  (hCX:∀H e s',CX [] H s₁ (λ_ _ _=>False) e s'->False) :
  codeAny (model P w) callerA (.call (.ref fa) ⟨[.ref a],[]⟩) (λr s'=>r=.ok (.ret (.bool true))/\OldK s₁.heap s'.heap/\s'.os=s₁.os/\AllBare s'.gens) s₁:=by
 have rv:=Xu hi;have lenV:=hi.length;have core:∀H:Hp,Only H->dw K H a (ns.map V.int)->gH P w H s₁.heap->(∀b,H b≠none->b=a)->(H a≠none->K.lookup a=none)->
   codeAny (model P w) callerA (.call (.ref fa) ⟨[.ref a],[]⟩) (λr s'=>r=.ok (.ret (.bool true))/\OldK s₁.heap s'.heap/\s'.os=s₁.os/\AllBare s'.gens) s₁:=by
  intro H hO hS hok hA hK;have qd:∀{b:Addr} {o:Obj},s₁.heap.get? b=some o->H b=none->(lW s₁.heap H).get? b=some o:=λe n=>zhq e n;have Hl:∀{b:Addr} {o:Obj} {es:Array DictEntry} {ep:Nat},s₁.heap.get? b=some o->o.data=.dict es ep->H b=none:=λ{b o es ep} e d=>by
   cases q:H b with
   |none=>rfl
   |some u=>
    have e':b=a:=hA b (by rw[q];simp);subst e';rw[ha] at e;cases e;have d':Data.seq vs.toArray _=Data.dict es ep:=d;cases d'
  have Mh:∀{b:Addr} {m:Str->Option Value},s₁.heap.Ns b m->(lW s₁.heap H).Ns b m:=λ{b m} ⟨o,es,ep,e,d,r⟩=>⟨o,es,ep,qd e (Hl e d),d,r⟩;have Xw:K.In (lW s₁.heap H):=λb o e=>qd (KX b o e) (by
   cases q:H b with
   |none=>rfl
   |some u=>
    have e':b=a:=hA b (by rw[q];simp);subst e';rw[hK (by rw[q];simp)] at e;cases e)
  have hM:Mod K mg (lW s₁.heap H):=⟨Xw,Mh HD,⟨mb,Mh hb,hbb⟩,let ⟨mc,h1,h2⟩:=Qv;⟨mc,Mh h1,h2⟩⟩;have e0:wO P w K mg (lW s₁.heap H) callerA [] s₁ H:=⟨rfl,hM,λb o e=>zix e,Nat.le_of_eq (zgs _ _),trivial,λb hb=>absurd (show b∈([]:List Addr) from hb) Zaa,hok,.of_eq hg⟩;refine Gu ((F _ Xw (Mh HD)).run callerA [] s₁ H ⟨[.ref a],[]⟩ [.ref a] [.ref a] _ _ (λ_=>rfl) hr e0 (tL s₁ (.ref a)) (.cons rfl .nil) (Bc H hO hS)) λr s' h=>?_;cases r with
  |error e=>exact(hCX H e s' h).elim
  |ok fl=>
   cases fl with
   |next=>exact False.elim h
   |brk=>exact False.elim h
   |cont=>exact False.elim h
   |ret u=>
    obtain⟨v,H',os,bare,un,Qw,r',q⟩:=h;have q':v=.bl true:=q;subst q';obtain rfl:u=Value.bool true:=r';refine⟨rfl,OldK.of_keep λb o e=>?_,os,bare⟩;cases q:H b with
    |none=>exact un.keep b o e q (by intro z;exact absurd (show b∈([]:List Addr) from z) Zaa) Zaa
    |some u=>
     rcases hO b with z|⟨ob,xs,z⟩
     ·rw[q] at z;cases z
     ·have z2:=un.jg b ob _ z;obtain⟨e1,_⟩:=hok b _ z;obtain⟨e2,_⟩:=Qw b _ z2;rw[e] at e1;cases e1;exact e2
 cases hk:K.lookup a with
 |some o=>
  have e:=KX a o hk;rw[ha] at e;cases e;refine core (λ_=>none) (λ_=>.inl rfl) (.inr ⟨_,vs.toArray,_,hk,rfl,rfl,rfl,by rw[dh,lenV];exact hl,by simpa using rv⟩) (λb u z=>by have z':(none:Option HO)=some u:=z;cases z') (λb z=>absurd rfl z) λz=>absurd rfl z
 |none=>
  refine core (λb=>if b=a then some (.sW {cls:=.type "list",data:=.seq vs.toArray} (.lst (ns.map V.int))) else none) (λb=>?_) (.inl (.inr ⟨{cls:=.type "list",data:=.seq vs.toArray},if_pos rfl⟩)) (λb u z=>?_) (λb z=>?_) λ_=>hk
  ·by_cases hb:b=a
   ·exact .inr ⟨_,_,if_pos hb⟩
   ·exact .inl (if_neg hb)
  ·by_cases hb:b=a
   ·have z':=(if_pos hb).symm.trans z;cases z';subst hb;exact⟨ha,by rw[bZ];exact hl,vs,_,rv,ha⟩
   ·have z':=(if_neg hb).symm.trans z;cases z'
  ·by_cases hb:b=a
   ·exact hb
   ·exact absurd (if_neg hb) z
def Qx(h0:Heap)(H:Hp)(h:Heap)(e:Addr)(hd:Value):Prop:=
 hd=.none\/∃T oT ts,hd=.ref T/\h0.get? T=none/\H T=none/\T≠e/\h.get? T=some oT/\oT.data=.fields ts/\ts[3]?=some .none
structure Exc(h0:Heap)(H:Hp)(h:Heap)(e C:Addr)(dx:Option Addr):Prop where
 new:h0.get? e=none
 un:H e=none
 ob:∃oe vs hd,h.get? e=some oe/\oe.cls=.ref C/\oe.dict=dx/\oe.data=.fields vs/\vs[1]?=some hd/\Qx h0 H h e hd
structure HF(h0:Heap)(H:Hp)(fr:List Addr)(h h':Heap)(ch:List Addr):Prop where
 rec_:∀b∈ch,h0.get? b=none/\H b=none/\∃o vs,h.get? b=some o/\o.data=.fields vs
 keep:∀b o,h.get? b=some o->b∉fr->b∉ch->h'.get? b=some o
 slot:∀b o,h.get? b=some o->b∈fr->∃sl,h'.get? b=some {o with slots:=sl}
 there:∀b o,h.get? b=some o->∃o',h'.get? b=some o'
noncomputable def tM(head:Value)(L:Addr)(pl:List Value):Obj:=
 {cls:=.type "traceback",dict:=none,data:=.fields ([head,.ref L,.none,rawInt L,.none]++(if pl.isEmpty then List.replicate 6 Value.none else pl)).toArray}
theorem Xx(o:Obj)(f:Array Value->Array Value):(o.mapFields f).dict=o.dict:=by
 obtain⟨c,d,dt,sl⟩:=o;cases dt<;>rfl
theorem Xy(o:Obj)(f:Array Value->Array Value):(o.mapFields f).cls=o.cls:=by
 obtain⟨c,d,dt,sl⟩:=o;cases dt<;>rfl
section
variable {M:Model}{A:Around}{E:Value->Shared->Prop}{s:Shared}{base h0:Heap}{env:Env}{outer:List Env}{L e C:Addr}{dx:Option Addr}{H:Hp}{Q:Unit->Shared->Prop}
theorem Xz(hfr:A.frames=some (env::outer))(hl:s.heap.FunFrames base (env::outer))(hf:env.frame=some L)
  (he:s.heap.get? e=some oe) (hd:oe.data=.fields vs) (jh:1<vs.size)
  (k:∀h' T oT ts,s.heap.objs.size<=T->(∀b o,s.heap.get? b=some o->b∉frs (env::outer)->b≠e->h'.get? b=some o)->(∀b o,s.heap.get? b=some o->b∈frs (env::outer)->∃sl,h'.get? b=some {o with slots:=sl})->
   h'.get? e=some (oe.mapFields (·.setIfInBounds 1 (.ref T)))->h'.get? T=some oT->oT.data=.fields ts->3<ts.size->ts[3]?=some (rawInt L)->Q () {s with heap:=h'}) :
  wpAny M A (do let a <-frameOf env;let pl <-entryPlaceOf L hn;let b <-EntryCells.newEntry head a .none (rawInt L) .none pl;setField (.ref e) 1 b) Q E s:=by
 have HJ:e∉frs (env::outer):=λhm=>by
  obtain⟨_,o,ho,hx⟩:=hl.mem hm;rw[he] at ho;cases ho;exact hx vs hd
 refine au (wpAny_frameOf_fun hfr hl hf λh₁ sl₁=>?_);refine au (wpAny_entryPlaceOf λpl bG=>?_);unfold EntryCells.newEntry newFields;refine au (nZ ?_ (bG.sizeOk5 _ _ _ _ _));have e1:h₁.get? e=some oe:=(sl₁.2.1 e HJ).trans he;have e2:(h₁.push (tM head L pl)).get? e=some oe:=bU _ e1;refine yI e2 hd jh ?_;have ne:h₁.objs.size≠e:=vp (bM e1);have d3:=wk hd (·.setIfInBounds 1 (Value.ref h₁.objs.size));have kp:∀b o,h₁.get? b=some o->b≠e->((h₁.push (tM head L pl)).update e (Obj.mapFields (·.setIfInBounds 1 (Value.ref h₁.objs.size)))).get? b=some o:=λb o q n=>by
  rw[vg _ _ n.symm];exact bU _ q
 refine k _ h₁.objs.size (tM head L pl) _ (by rw[sl₁.1];exact bV _) (λb o q n1 n2=>kp b o ((sl₁.2.1 b n1).trans q) n2) (λb o q m=>?_) (sJ _ e2 (KN d3)) ?_ rfl ?_ ?_
 ·obtain⟨sl,z⟩:=sl₁.2.2 b o q;exact⟨sl,kp b _ z λy=>HJ (y▸m)⟩
 ·rw[vg _ _ ne.symm];exact gF _ rfl
 ·simp only[dh,fK,je,rK]<;>lia
 ·first
   |(simp;done)
   |(rcases bG with rfl|⟨_,_,_,_,_,_,_,rfl⟩<;>simp)
theorem zg3(hfr:A.frames=some (env::outer))(hl:s.heap.FunFrames base (env::outer))(hf:env.frame=some L)(x:Exc h0 H s.heap e C dx)
  (k:∀h' T oT oe ts vs ch,HF h0 H (frs (env::outer)) s.heap h' ch->s.heap.objs.size<=T->h'.get? e=some oe->oe.cls=.ref C->oe.dict=dx->oe.data=.fields vs->vs[1]?=some (.ref T)->h'.get? T=some oT->oT.data=.fields ts->
   3<ts.size->ts[3]?=some (rawInt L)->Q () {s with heap:=h'}):wpAny M A (noteFrame (.ref e) env) Q E s:=by
 obtain⟨oe,vs,hd,he,hc,yZ,lE,h1,tb⟩:=x.ob;have jh:1<vs.size:=(Dy.mp h1).1;have HJ:∀b o ws,s.heap.get? b=some o->o.data=.fields ws->b∉frs (env::outer):=λb o ws q d hm=>by
  obtain⟨_,o',ho,hx⟩:=hl.mem hm;rw[q] at ho;cases ho;exact hx ws d
 unfold noteFrame;simp only[hf];refine au (kj he lE h1 ?_);rcases tb with rfl|⟨T,oT,ts,rfl,nT,uT,neT,gT,dT,h3⟩
 ·rw[if_neg UJ];refine Xz hfr hl hf he lE jh λh' T oT ts lt kp sl ge gT dT z3 z4=>?_;refine k h' T oT _ ts _ [e] ⟨λb hb=>?_,λb o q n1 n2=>kp b o q n1 λz=>n2 (by rw[z];exact .head _),sl,λb o q=>?_⟩ lt ge ((Xy _ _).trans hc) ((Xx _ _).trans yZ) (wk lE _) (by simp[jh]) gT dT z3 z4
  ·obtain rfl:b=e:=by simpa using hb
   exact⟨x.new,x.un,oe,vs,he,lE⟩
  ·by_cases z:b=e
   ·subst z;exact⟨_,ge⟩
   ·by_cases m:b∈frs (env::outer)
    ·obtain⟨w,q'⟩:=sl b o q m;exact⟨_,q'⟩
    ·exact⟨o,kp b o q m z⟩
 ·rw[if_pos (show (Value.ref T != Value.none)=true from by simp)];refine au (kj gT dT h3 ?_);rw[if_neg (show ¬((Value.none==rawInt L)=true) from by simp[rawInt])];have z3:3<ts.size:=(Dy.mp h3).1;refine au (yI gT dT z3 ?_);have oth:∀b,b≠T->(s.heap.update T (Obj.mapFields (·.setIfInBounds 3 Value.none))).get? b=s.heap.get? b:=λb n=>vg _ _ n.symm;have Mj:(s.heap.update T (Obj.mapFields (·.setIfInBounds 3 Value.none))).FunFrames base (env::outer):=hl.of_keeps λb o q nd=>⟨o,(oth b λz=>by subst z;rw[gT] at q;cases q;exact nd ts dT).trans q,rfl⟩;have sT:(s.heap.update T (Obj.mapFields (·.setIfInBounds 3 Value.none))).get? T=some (oT.mapFields (·.setIfInBounds 3 Value.none)):=sJ _ gT (KN (wk dT _));refine Xz hfr Mj hf ((oth e neT.symm).trans he) lE jh λh' T' oT' ts' lt kp sl ge gT' dT' z3' z4'=>?_;have lt':s.heap.objs.size<=T':=by
   have:=lt;simp only[Heap.size_after_update] at this;exact this
  refine k h' T' oT' _ ts' _ [e,T] ⟨λb hb=>?_,λb o q n1 n2=>kp b o ((oth b λz=>n2 (by simp[z])).trans q) n1 λz=>n2 (by simp[z]),λb o q m=>?_,λb o q=>?_⟩ lt' ge ((Xy _ _).trans hc) ((Xx _ _).trans yZ) (wk lE _) (by simp[jh]) gT' dT' z3' z4'
  ·have hb':b=e\/b=T:=by simpa using hb
   rcases hb' with rfl|rfl
   ·exact⟨x.new,x.un,oe,vs,he,lE⟩
   ·exact⟨nT,uT,oT,ts,gT,dT⟩
  ·exact sl b o ((oth b λz=>by subst z;exact HJ b o ts q (by rw[gT] at q;cases q;exact dT) m).trans q) m
  ·by_cases z:b=e
   ·subst z;exact⟨_,ge⟩
   ·by_cases y:b=T
    ·subst y;exact⟨_,kp b _ sT (HJ b oT ts gT dT) z⟩
    ·by_cases m:b∈frs (env::outer)
     ·obtain⟨w,q'⟩:=sl b o ((oth b y).trans q) m;exact⟨_,q'⟩
     ·exact⟨o,kp b o ((oth b y).trans q) m z⟩
theorem XD(he:s.heap.get? e=some oe)(hd:oe.data=.fields vs)(h1:vs[1]?=some (.ref T))(gT:s.heap.get? T=some oT)(dT:oT.data=.fields ts)(z3:3<ts.size)
  (k:∀h',(∀b o,b≠T->s.heap.get? b=some o->h'.get? b=some o)->h'.get? T=some (oT.mapFields (·.setIfInBounds 3 Value.none))->Q () {s with heap:=h'}):wpAny M A (setFlight (.ref e) none) Q E s:=by
 unfold setFlight;refine au (kj he hd h1 ?_);rw[if_pos (show (Value.ref T != Value.none)=true from by simp)];exact yI gT dT z3 (k _ (λb o n q=>(vg _ _ n.symm).trans q) (sJ _ gT (KN (wk dT _))))
theorem XH(hfr:A.frames=some (env::outer))(hl:s.heap.FunFrames base (env::outer))(hf:env.frame=some L)(x:Exc h0 H s.heap e C dx)
  (pZ:∀b,s.heap.objs.size<=b->H b=none) (h0s:∀b o,h0.get? b=some o->∃o',s.heap.get? b=some o')
  (k:∀h' ch,HF h0 H (frs (env::outer)) s.heap h' ch->Exc h0 H h' e C dx->Q () {s with heap:=h'}) :
  wpAny M A (noteFrame (.ref e) env) (λ_ s₁=>wpAny M A (setFlight (.ref e) none) Q E s₁) E s:=by
 have ele:∃o,s.heap.get? e=some o:=let ⟨oe,_,_,he,_⟩:=x.ob;⟨oe,he⟩;refine zg3 hfr hl hf x λh' T oT oe ts vs ch t lt ge hc yZ lE h1 gT dT z3 z4=>?_;have neT:T≠e:=λz=>by
  obtain⟨o,q⟩:=ele;exact absurd (gj (bM q) (z▸lt)) (m5 _)
 refine XD (s:={s with heap:=h'}) ge lE h1 gT dT z3 λh2 kp gT2=>?_;have nT:∀b o,s.heap.get? b=some o->b≠T:=λb o q z=>absurd (gj (bM q) (z▸lt)) (m5 _);refine k h2 ch ⟨t.rec_,λb o q n1 n2=>kp b o (nT b o q) (t.keep b o q n1 n2),λb o q m=>?_,λb o q=>?_⟩ ⟨x.new,x.un,oe,vs,.ref T,kp e oe neT.symm ge,hc,yZ,lE,h1,.inr ⟨T,_,_,rfl,?_,pZ T lt,neT,gT2,wk dT _,by simp[z3]⟩⟩
 ·obtain⟨sl,q'⟩:=t.slot b o q m;exact⟨sl,kp b _ (nT b o q) q'⟩
 ·obtain⟨o',q'⟩:=t.there b o q;exact⟨o',kp b o' (nT b o q) q'⟩
 ·cases z:h0.get? T with
  |none=>rfl
  |some o=>
   obtain⟨o',q⟩:=h0s T o z;exact absurd rfl (nT T o' q)
end
noncomputable abbrev XS:=St->Value->Option Addr->Hp->Prop
def Sub(h0 h:Heap):Prop:=∀b o,h0.get? b=some o->∃o',h.get? b=some o'
theorem Sub.none{h0 h:Heap}(x:Sub h0 h){b:Addr}(e:h.get? b=none):h0.get? b=none:=by
 cases q:h0.get? b with
 |none=>rfl
 |some o=>
  obtain⟨o',z⟩:=x b o q;rw[e] at z;cases z
theorem Exc.older{h0 h1:Heap}{H:Hp}{h:Heap}{e C:Addr}{dx:Option Addr}(x:Exc h1 H h e C dx)(y:Sub h0 h1):Exc h0 H h e C dx:=by
 obtain⟨oe,vs,hd,a,b,c,d,f,tb⟩:=x.ob;refine⟨y.none x.new,x.un,oe,vs,hd,a,b,c,d,f,?_⟩;rcases tb with z|⟨T,oT,ts,z1,z2,z3⟩
 ·exact .inl z
 ·exact .inr ⟨T,oT,ts,z1,y.none z2,z3⟩
section
variable {X:Cx}{ak:List (Addr×Obj)}{Z:St}{H:Hp}{s:Shared}{h0 h':Heap}{ch fr:List Addr}
theorem gH.HN{P:Program}{w:World}{h:Heap}(x:gH P w H h)(t:HF h0 H fr h h' ch)(hf:∀b∈fr,H b=none):gH P w H h':=λa o e=>by
 have st:∀b u,(b=a\/H b=some (.own a))->h.get? b=some u->h'.get? b=some u:=λb u z q=>by
  have nb:H b≠none:=by
   rcases z with z|z
   ·rw[z,e];simp
   ·rw[z];simp
  exact t.keep b u q (λm=>nb (hf b m)) λm=>nb (t.rec_ b m).2.1
 exact(x a o e).stay st (λ_ z=>z) λ_ _ z=>z
theorem Inv.HN(I:Inv X ak Z H s)(t:HF h0 H (frs X.stack) s.heap h' ch)(hs:∀b o,X.s₀.heap.get? b=some o->b∉X.ex->∃o',h0.get? b=some o')(hp:∀p∈X.pn++ak,∃o,h0.get? p.1=some o):Inv X ak Z H {s with heap:=h'}:=by
 refine I.call (g':=s.gens) (d':=s.drawn) (t':=s.toks) (ch:=ch) ⟨λb o q _ n1 n2=>t.keep b o q n1 n2,λb o q _ m _=>t.slot b o q m,λ_ _ _ n _=>n,λb o q _=>t.there b o q,λ_ _ q=>q,λ_ _ _ q=>q,λ_ ps q=>⟨#[],by rw[q];simp⟩⟩ (I.hok.HN t I.jx) I.bare λb hb=>?_;obtain⟨n0,_,o,vs,q,d⟩:=t.rec_ b hb;refine⟨?_,λz=>?_,λx c e z=>?_,λp hq z=>?_⟩
 ·by_cases m:b∈X.ex
  ·exact .inl m
  ·refine .inr ?_;cases z:X.s₀.heap.get? b with
   |none=>rfl
   |some u=>
    obtain⟨o',z'⟩:=hs b u z m;rw[n0] at z';cases z'
 ·subst z;obtain⟨m,⟨ol,es,ep,e1,e2,_⟩,_⟩:=I.loc;rw[q] at e1;cases e1;rw[d] at e2;cases e2
 ·subst z;obtain⟨v,oc,e1,e2⟩:=I.cell x c e;rw[q] at e1;cases e1;rw[d] at e2;cases e2
 ·obtain⟨u,e1⟩:=hp p hq;rw[z,n0] at e1;cases e1
end
def Raises(X:Cx)(EX:XS):Prop:=
 ∀(ak:List (Addr×Obj)) (Z:St) (H:Hp) (s:Shared) (h0:Heap) (e C:Addr) (dx:Option Addr),Inv X ak Z H s->(∀b o,X.s₀.heap.get? b=some o->b∉X.ex->∃o',h0.get? b=some o')->
  (∀p∈X.pn++ak,∃o,h0.get? p.1=some o)->Sub h0 s.heap->Exc h0 H s.heap e C dx->EX Z (.ref C) dx H->X.xe (.ref e) s
noncomputable def lq(P:Program)(w:World):rP:=λouter H s E e s'=>
 ∃(a C:Addr) (dx:Option Addr) (H':Hp),e=.ref a/\s'.os=s.os/\AllBare s'.gens/\Un (frs outer) [] H H' s.heap s'.heap/\gH P w H' s'.heap/\Exc s.heap H' s'.heap a C dx/\E (.ref C) dx H'
theorem zeD{P:Program}{w:World}{K:W.Frag}{mg:Str->Option Value}{base:Heap}{N:List Str}{qual:Str}{scope:Scope}{f:Addr}{cd:Value}{A:Around}{outer:List Env}{s:Shared}{H:Hp}{E:XK}{cm:Bool} :
  Raises (iy (lq P w) P w K mg base N qual scope f cd A outer s H E cm) (λ_ C dx H'=>E C dx H'):=by
 intro ak Z H1 s1 h0 e C dx I hs hp h01 x ex;have I0:Inv (iy (lq P w) P w K mg base N qual scope f cd A outer s H E cm) [] Z H1 s1:=I.lY λp z=>absurd z Zaa;show wpAny (model P w) (A.deeper (envOfC qual scope s.heap.objs.size f cd)) (leaving (envOfC qual scope s.heap.objs.size f cd) (.ref e)) _ _ s1;unfold leaving;have hsub:Sub s.heap h0:=λb o q=>hs b o q (by show b∉([]:List Addr);simp);refine au (XH (base:=base) (outer:=outer) (L:=s.heap.objs.size) I0.ok.frames I0.stack rfl x (λb z=>I0.hok.fresh z) h01 λh' ch t x'=>?_);have fin:∀b o,s.heap.get? b=some o->b∉ch:=λb o q m=>by
  have z:=hsub.none (t.rec_ b m).1;rw[q] at z;cases z
 have nL:∀b o,s.heap.get? b=some o->b∉frs outer->b∉frs (envOfC qual scope s.heap.objs.size f cd::outer):=λb o q n m=>by
  have m':b∈s.heap.objs.size::frs outer:=m;rcases cH.mp m' with z|z
  ·exact absurd (bM q) (by rw[z];exact m5 _)
  ·exact n z
 refine⟨e,C,dx,H1,rfl,I0.os,I0.bare,⟨λb o q n hb _=>?_,λb o q n hb _=>?_,λb o q n _=>I0.base.free b o q n (by show b∉([]:List Addr);simp),λb o q _=>?_,I0.base.tups,I0.base.jg,I0.base.jK⟩,I0.hok.HN t I0.jx,x'.older hsub,ex⟩
 ·exact t.keep b o (I0.base.keep b o q n hb (by show b∉([]:List Addr);simp)) (nL b o q hb) (fin b o q)
 ·obtain⟨sl,q1⟩:=I0.base.slot b o q n hb (by show b∉([]:List Addr);simp);obtain⟨sl',q2⟩:=t.slot b _ q1 (show b∈s.heap.objs.size::frs outer from dN _ hb);exact⟨sl',q2⟩
 ·obtain⟨o',q1⟩:=I0.base.there b o q (by show b∉([]:List Addr);simp);exact t.there b o' q1
section
variable {X:Cx}{cm:Bool}{k:Nat}{f C:Addr}{fd:FuncData}{ps:List Str}{sp:Sp}{EX:XS}{x m:Str}{p pos apos:Pos}{e o:Expr}{es:List Expr}{ta:TE}{t:TA}
theorem Raises.pass(R:Raises X EX)(I:Inv X ak Z H s)(h:lq X.prog X.w X.stack H s (EX Z) v s'):X.xe v s':=by
 obtain⟨a,C,dx,H',rfl,os,bare,un,hok,x,q⟩:=h;have ao:Sub s.heap s'.heap:=λb o z=>un.there b o z Zaa;refine R ak Z H' s' s.heap a C dx (I.call' os un hok bare λb z=>absurd z Zaa) (λb o z n=>I.base.there b o z n) (λp hp=>?_) ao x q;exact⟨p.2,(I.pin p hp).1⟩
noncomputable def Bk(sp:Sp)(EX:XS)(t:TA):TE:=λZ H Q=>t Z H λvs H1=>sp vs H1 Q (EX Z)
theorem zjN(F:eE X.prog X.w X.K X.mg X.base (lq X.prog X.w) cm k f fd ps sp)(qP:cm=true->X.aj=true)(hr:bW k X.A)(hb:Binds X.K fd ps [])(R:Raises X EX)
  (I:Inv X ak Z H s) (r:Vals vs us) (h:sp vs H Q (EX Z)):wpAny (model X.prog X.w) X.A (call (.ref f) us) (EP X ak Z Q) X.xe s:=by
 have hl:us.length=ps.length:=by rw[<-r.length];exact F.len _ _ _ _ h
 have hb':=hb s us I.pY (by rw[Ag];exact hl);rw[Ag] at hb';refine yN (Gu (F.run X.A X.stack s H ⟨us,[]⟩ us vs Q (EX Z) (λz=>I.ok.hd (qP z)) hr I.env0 hb' r h) λr s' hq=>?_);cases r with
 |error v=>exact R.pass I hq
 |ok fl=>
  cases fl with
  |ret u=>exact I.after hq
  |next=>exact False.elim hq
  |brk=>exact False.elim hq
  |cont=>exact False.elim hq
theorem zg1(F:eE X.prog X.w X.K X.mg X.base (lq X.prog X.w) cm k f fd ps sp)(qP:cm=true->X.aj=true)(hr:bW k X.A)(hg:Gl X x)(hm:X.mg x=some (.ref f))(hk:PySem.W.keepIn X.K (.ref f)=true)(hb:Binds X.K fd ps [])(R:Raises X EX)
  (ha:PA X (e::es) t) (jP:(x==("__debug__" : Str))=false:=by decide) (he:starEach (e::es) X.env=(false,eval e X.env)::starEach es X.env:=by rfl) (bG:(backTo pos (starEach es X.env)).any (·.1)=false:=by rfl) :
  PE X (.Call (.Name x p) (e::es) [] pos) (Bk sp EX t):=by
 intro ak s Z H Q I h;refine Gk (GP I hg hm ?_ jP);exact PySem.W.callWith_K (h₀:=X.base) I.ok.mod.yO hk (aX (ha pos ak s Z H _ I h) λus s1 ⟨vs,H1,I1,r,q⟩=>⟨I1.pY,zjN F qP hr hb R I1 r q⟩) he bG
theorem aO.there{P:Program}{w:World}{H:Hp}{h:Heap}{a:Addr}{o:HO}(x:aO P w H h a o):∃ob,h.get? a=some ob:=by
 cases o with
 |lst xs=>obtain⟨_,_,_,_,q⟩:=x;exact⟨_,q⟩
 |tup xs=>obtain⟨_,_,_,ob,q,_⟩:=x;exact⟨_,q⟩
 |dK kvs=>obtain⟨_,_,_,_,ob,_,_,q,_⟩:=x;exact⟨_,q⟩
 |dT kvs=>obtain⟨_,_,_,_,ob,_,_,q,_⟩:=x;exact⟨_,q⟩
 |set S n=>obtain⟨ob,_,_,_,q,_⟩:=x;exact⟨_,q⟩
 |ins C dx fs=>obtain⟨_,_,_,q,_⟩:=x;exact⟨_,q⟩
 |own y=>exact x
 |xd fs=>obtain⟨_,⟨_,_,_,q,_⟩,_⟩:=x;exact⟨_,q⟩
 |rng lo hi=>obtain⟨_,_,_,q⟩:=x;exact⟨_,q⟩
 |sW ob u=>obtain⟨q,_⟩:=x;exact⟨_,q⟩
 |yQ ps=>exact⟨_,(show h.get? a=some _ from x)⟩
 |met f y=>exact⟨_,(show h.get? a=some _ from x)⟩
 |ext U=>obtain⟨_,q,_⟩:=x;exact q
theorem zjz{K:W.Frag}{h:Heap}{C:Addr}{bmB:List Value}{newId:String}(XI:K.In h)(q:PySem.W.excIn K C bmB newId=true) :
  ∃bm N nm qn bs hdct sn ao ab col dd k0 k1 k2 k3 k5 mN,h.get? C=some (excClassObj nm qn C N bs bm hdct sn ao ab col dd k0 k1 k2 k3 k5 newId)/\h.Ns N mN/\mN "__init__"=none/\OwnTail h bmB bm:=by
 unfold PySem.W.excIn at q;split at q
 ·rename_i dd cd sl lk;split at q
  ·rename_i C' bm k0 k1 k2 k3 nw k5 em es;simp only[cG,iM,K1] at q;obtain⟨⟨⟨⟨⟨rfl,rfl⟩,nD⟩,tl⟩,Ew⟩,HS⟩:=q;obtain⟨nm,bs,mro,ns,qn,hd,sn,ao,ab,col,del⟩:=cd;dsimp only at em nD Ew HS;subst em nD;have esl:sl=#[k0,k1,k2,k3,some (.builtin nw),k5]:=by
    obtain⟨ll⟩:=sl;simp only at es;rw[es]
   subst esl;exact⟨bm,ns,nm,qn,bs,hd,sn,ao,ab,col,dd,k0,k1,k2,k3,k5,_,XI _ _ lk,.of_isNs (PySem.W.isNs_of_in XI Ew),PySem.W.nsMap_none_of_in XI Ew HS,PySem.W.tail_of_in XI tl⟩
  ·cases q
 ·cases q
noncomputable def Bl(EX:XS)(C:Addr)(t:TA):TS:=λ_ Z H=>t Z H λvs H1=>vs.length<=sizeLine/\EX Z (.ref C) none H1
theorem zhC{B Bn newId nid initId inN:String}{bmB bmN:List Value}(Fn:ExcBaseFacts Bn newId inN bmN)(vG:bmB.contains (.type Bn)=true)(FB:ExcBaseFacts B nid initId bmB)(hc:X.aj=true)(hX:PySem.W.excIn X.K C bmB newId=true)(hg:Gl X x)(hm:X.mg x=some (.ref C))
  (R:Raises X EX) (ha:PA X (e::es) t) (jP:(x==("__debug__" : Str))=false:=by decide) (he:starEach (e::es) X.env=(false,eval e X.env)::starEach es X.env:=by rfl) (bG:(backTo apos (starEach es X.env)).any (·.1)=false:=by rfl) :
  PS X (.Raise (some (.Call (.Name x p) (e::es) [] apos)) none pos) (Bl EX C t):=by
 intro ak s Z H D I h;obtain⟨bm,N,nm,qn,bs,hdct,sn,ao,ab,col,dd,k0,k1,k2,k3,k5,mN,hC,hN,Bm,T⟩:=zjz I.mod.yO hX;refine wpAny_Raise_call_subU (C:=C) (nm:=nm) (q:=qn) (N:=N) (bs:=bs) (bm:=bm) (hdct:=hdct) (sn:=sn) («sub»:=ao) (ab:=ab) (col:=col) (dd:=dd) (k0:=k0) (k1:=k1) (k2:=k2) (k3:=k3) (k5:=k5)
  Fn vG FB (mN:=mN) (T.hasType FB.hasBase) (I.ok.hd hc) (by rw[he];show (false||(backTo apos (starEach es X.env)).any (·.1))=false;rw[bG];rfl) Bm (GP I hg hm ⟨rfl,?_⟩ jP)
 have h2:=ha apos ak s Z H _ I h;rw[he] at h2 ⊢;refine Ou (aX h2 λus s2 ⟨vs,H2,I2,r,z,q⟩=>⟨rfl,by rw[<-r.length];exact z,I2.bk _ _ hC,hN.keeps I2.bk,T.keeps I2.bk,λh' a mx=>?_⟩);obtain⟨tt,ge,_,_⟩:=mx.there;have un:H2 a=none:=by
  cases z:H2 a with
  |none=>rfl
  |some u=>
   have lt:=I2.hok.lt z;obtain⟨ob,z'⟩ : ∃ob,s2.heap.get? a=some ob:=by
    have:=I2.hok a u z;exact aO.there this
   rw[mx.new] at z';cases z'
 exact R ak Z H2 _ s2.heap a C none (I2.kept (t':=s2.toks) mx.keeps) (λb ob z n=>I2.base.there b ob z n) (λq hq=>⟨q.2,(I2.pin q hq).1⟩) (λb ob z=>⟨ob,mx.keeps b ob z⟩) ⟨mx.new,un,_,_,_,ge,rfl,rfl,rfl,rfl,.inl rfl⟩ q
end
noncomputable def iz(a C:Addr)(dx:Option Addr):HO:=.ext λh=>∃oe vs,h.get? a=some oe/\oe.cls=.ref C/\oe.dict=dx/\oe.data=.fields vs
theorem zim(x:Exc h0 H0 h a C dx):aO P w H h a (iz a C dx):=by
 obtain⟨oe,vs,hd,q,c,d,f,_⟩:=x.ob;exact⟨⟨oe,vs,q,c,d,f⟩,⟨oe,q⟩,λh1 h2 ⟨o1,v1,q1,c1,d1,f1⟩ k=>⟨o1,v1,k o1 q1,c1,d1,f1⟩⟩
section
variable {X:Cx}{ak:List (Addr×Obj)}{Z:St}{H:Hp}{s:Shared}{e:Addr}{o:HO}
theorem Inv.track(I:Inv X ak Z H s)(hn:X.s₀.heap.get? e=none)(un:H e=none)(hp:∀p∈X.pn++ak,p.1≠e)(hL:e≠X.env.locals)(hc:∀x c,X.env.cells.lookup x=some c->c≠e)
  (new:aO X.prog X.w (upd H e o) s.heap e o):Inv X ak Z (upd H e o) s:=by
 have ne:∀b u,H b=some u->b≠e:=λb u q z=>by rw[z,un] at q;cases q
 have n0:∀b u,X.s₀.heap.get? b=some u->b≠e:=λb u q z=>by rw[z,hn] at q;cases q
 refine⟨I.ok,I.os,I.bare,⟨I.base.keep,I.base.slot,λb u q n hx=>?_,I.base.there,λb xs q=>?_,λb u v q=>?_,λb ps q=>?_⟩,I.loc,I.cell,?_,λx c q=>?_,λp q=>?_,λb u q=>?_,I.len⟩
 ·rw[dj (n0 b u q)];exact I.base.free b u q n hx
 ·have z:=I.base.tups b xs q;rw[dj (ne b _ z)];exact z
 ·have z:=I.base.jg b u v q;rw[dj (ne b _ z)];exact z
 ·obtain⟨m,z⟩:=I.base.jK b ps q;exact⟨m,by rw[dj (ne b _ z)];exact z⟩
 ·rw[dj hL.symm];exact I.free
 ·rw[dj (hc x c q)];exact I.d8 x c q
 ·obtain⟨a1,a2,a3⟩:=I.pin p q;exact⟨a1,by rw[dj (hp p q)];exact a2,a3⟩
 ·by_cases z:b=e
  ·subst z;rw[kZ] at q;cases q;exact new
  ·rw[dj z] at q;exact(I.hok b u q).stay (λ_ _ _ r=>r) (λc r=>by rw[dj (ne c _ r)];exact r) λc xs r=>by rw[dj (ne c _ r)];exact r
noncomputable def Cx.seen(X:Cx)(A:Around)(aj:Bool)(pn:List (Addr×Obj))(E:Value->Shared->Prop):Cx:={X with A:=A,aj:=aj,pn:=pn,xe:=E}
theorem Inv.seen(I:Inv X ak Z H s)(hA:A.frames=X.A.frames)(hc:c=true->A.handled=none)(hp:∀p∈pn++ps,p∈X.pn++ak):Inv (X.seen A c pn E) ps Z H s:=
 ⟨⟨I.ok.mod,I.ok.kind,I.ok.glob,I.ok.blt,I.ok.above,I.ok.inj,I.ok.has,I.ok.cab,hc,hA.trans I.ok.frames,I.ok.stk,I.ok.W0,I.ok.bs,I.ok.yR,I.ok.sX,I.ok.wH,I.ok.jL,I.ok.En⟩,I.os,I.bare,I.base,I.loc,I.cell,I.free,I.d8,λp z=>I.pin p (hp p z),I.hok,I.len⟩
theorem Inv.eU(I:Inv (X.seen A c pn E) ps Z H s)(hA:X.A.frames=A.frames)(hc:X.aj=true->X.A.handled=none)(hp:∀p∈X.pn++ak,p∈pn++ps):Inv X ak Z H s:=
 ⟨⟨I.ok.mod,I.ok.kind,I.ok.glob,I.ok.blt,I.ok.above,I.ok.inj,I.ok.has,I.ok.cab,hc,hA.trans I.ok.frames,I.ok.stk,I.ok.W0,I.ok.bs,I.ok.yR,I.ok.sX,I.ok.wH,I.ok.jL,I.ok.En⟩,I.os,I.bare,I.base,I.loc,I.cell,I.free,I.d8,λp z=>I.pin p (hp p z),I.hok,I.len⟩
theorem SP.eU(h:SP (X.seen A c pn E) ps D f s)(hA:X.A.frames=A.frames)(hc:X.aj=true->X.A.handled=none)(hp:∀p∈X.pn++ak,p∈pn++ps):SP X ak D f s:=by
 cases f with
 |next=>obtain⟨a,b,b_,q⟩:=h;exact⟨a,b,b_.eU hA hc hp,q⟩
 |brk=>obtain⟨a,b,b_,q⟩:=h;exact⟨a,b,b_.eU hA hc hp,q⟩
 |cont=>obtain⟨a,b,b_,q⟩:=h;exact⟨a,b,b_.eU hA hc hp,q⟩
 |ret u=>obtain⟨v,a,b,b_,r,q⟩:=h;exact⟨v,a,b,b_.eU hA hc hp,r,q⟩
theorem Inv.gone(I:Inv X ak Z H s)(hN:X.N.Nodup)(hi:X.N[i]?=some n)(hl:X.env.kindOf n=some .local)(hm:s.heap.Ns X.env.locals m)
  (hn:h'.Ns X.env.locals (λx=>if x=n then v else m x)) (sb:Heap.SameBut X.env.locals s.heap h'):Inv X ak (Z.set i none) H {s with heap:=h',toks:=t'}:=by
 have kp:∀b u,b≠X.env.locals->s.heap.get? b=some u->h'.get? b=some u:=λb u z q=>(sb.2 b z).trans q;have n0:∀b u,X.s₀.heap.get? b=some u->b≠X.env.locals:=λb u q=>cR (gj (bM q) I.ok.above);have nH:∀b u,H b=some u->b≠X.env.locals:=λb u q z=>by rw[z,I.free] at q;cases q
 refine⟨I.ok,I.os,I.bare,⟨λb u q n hb hx=>kp b u (n0 b u q) (I.base.keep b u q n hb hx),λb u q n hb hx=>?_,I.base.free,λb u q hx=>?_,I.base.tups,I.base.jg,I.base.jK⟩,⟨_,hn,λj x w e1 e2 e3=>?_⟩,λx c q=>?_,I.free,I.d8,λp q=>?_,λb u q=>?_,by rw[oH];exact I.len⟩
 ·obtain⟨sl,z⟩:=I.base.slot b u q n hb hx;exact⟨sl,kp b _ (n0 b u q) z⟩
 ·obtain⟨u',z⟩:=I.base.there b u q hx;exact⟨u',kp b u' (n0 b u q) z⟩
 ·have XJ:i≠j:=λz=>by
   subst z;by_cases hl:i<Z.length
   ·rw[yC hl] at e2;cases e2
   ·rw[KQ (by rw[oH];lia)] at e2;cases e2
  rw[rH XJ] at e2;obtain⟨m2,Ml,tO⟩:=I.loc;obtain⟨u,r,l⟩:=tO j x w e1 e2 e3;refine⟨u,r,?_⟩;rcases l with ⟨k1,k2⟩|⟨k1,c,k2,oc,k3,k4⟩
  ·refine .inl ⟨k1,?_⟩;have nx:x≠n:=λz=>XJ (Pg hN (by rw[z] at e1;exact hi) (z▸e1));have em:m=m2:=by
    obtain⟨o1,es1,ep1,g1,d1,t1,f1⟩:=hm;obtain⟨o2,es2,ep2,g2,d2,t2,f2⟩:=Ml;rw[g1] at g2;cases g2;rw[d1] at d2;cases d2
    funext y
    rw[<-f1,<-f2]
   show (if x=n then v else m x)=some u;rw[if_neg nx,em];exact k2
  ·exact .inr ⟨k1,c,k2,oc,kp c oc (I.wI x c k2) k3,k4⟩
 ·obtain⟨u,oc,k3,k4⟩:=I.cell x c q;exact⟨u,oc,kp c oc (I.wI x c q) k3,k4⟩
 ·obtain⟨a1,a2,a3,a4⟩:=I.pin p q;exact⟨kp _ _ a3 a1,a2,a3,a4⟩
 ·exact(I.hok b u q).stay (λc w z r=>kp c w (z.elim (λy=>y▸nH b u q) λy=>nH c _ y) r) (λ_ r=>r) λ_ _ r=>r
end
theorem zhG(x:Exc h0 H s.heap e C dx)(hf:∀b∈fr,∀o vs,s.heap.get? b=some o->o.data≠.fields vs)
  (k:∀h' ch,HF h0 H fr s.heap h' ch->Exc h0 H h' e C dx->Q () {s with heap:=h'}):wpAny M A (setFlight (.ref e) none) Q E s:=by
 obtain⟨oe,vs,hd,he,hc,yZ,lE,h1,tb⟩:=x.ob;rcases tb with rfl|⟨T,oT,ts,rfl,nT,uT,neT,gT,dT,h3⟩
 ·unfold setFlight;refine au (kj he lE h1 ?_);rw[if_neg UJ];exact aJ (k s.heap [] {rec_:=(λ_ z=>nomatch z),keep:=(λb o q _ _=>q),slot:=(λb o q _=>⟨o.slots,q⟩),there:=(λb o q=>⟨o,q⟩)} x)
 ·refine XD he lE h1 gT dT (Dy.mp h3).1 λh' kp g'=>?_;have z3:3<ts.size:=(Dy.mp h3).1;refine k h' [T] ⟨λb z=>?_,λb o q _ n=>kp b o (λz=>n (by simp[z])) q,λb o q m=>?_,λb o q=>?_⟩ ⟨x.new,x.un,oe,vs,.ref T,kp e oe neT.symm he,hc,yZ,lE,h1,.inr ⟨T,_,_,rfl,nT,uT,neT,g',wk dT _,by simp[z3]⟩⟩
  ·obtain rfl:b=T:=by simpa using z
   exact⟨nT,uT,oT,ts,gT,dT⟩
  ·refine⟨o.slots,kp b o (λz=>?_) q⟩;subst z;rw[gT] at q;cases q;exact hf b m _ ts gT dT
  ·by_cases z:b=T
   ·subst z;exact⟨_,g'⟩
   ·exact⟨o,kp b o z q⟩
theorem zb2{M:Model}{A:Around}{E:Value->Shared->Prop}{K:W.Frag}{h:Heap}{g:Array GenState}{d:Drawn}{t:Nat}{os:OsState}{e C D:Addr}{oe:Obj}{Q:Bool->Shared->Prop}(KI:K.In h)(q:subIn K C D=true)
  (he:h.get? e=some oe) (Aw:oe.cls=.ref C) (hq:Q true ⟨h,g,d,t,os⟩):wpAny M A (excMatches (.ref e) (.ref D)) Q E ⟨h,g,d,t,os⟩:=by
 unfold subIn at q;simp only[cG] at q;obtain⟨⟨q1,q2⟩,q3⟩:=q;obtain⟨nm,qn,N,bs,bm,hdct,sn,ao,ab,col,dd,k0,k1,k2,k3,k5,newId,hC,_,_⟩:=PySem.W.kts_cls KI q1;obtain⟨nm',qn',N',bs',bm',XM,sn',sub',ab',col',Qy,k0',k1',k2',k3',k5',newId',hD,hb',_⟩:=PySem.W.kts_cls KI q2;have m1:(Value.ref C::bm).contains (.ref D)=true:=by
  split at q3
  ·rename_i c0 d0 cd sl lk;have z:=KI _ _ lk;rw[hC] at z;cases z;exact q3
  ·cases q3
 have m2:(Value.ref D::bm').contains (.type "BaseException")=true:=by rw[OD,hb',Bool.or_true]
 have f:=tc_notTuple;unfold excMatches
 repeat (first|(with_reducible refine Af he ?_;rw[Aw])|with_reducible refine Af hD ?_|(with_reducible refine KR hD ?_;rw[m2])|(with_reducible refine KR hC ?_;rw[m1])|wp_step)
 exact hq
noncomputable def tQ(D:Ends)(i:Nat):Ends:={nx:=λZ H=>D.nx (Z.set i none) H,rt:=D.rt,bk:=λZ H=>D.bk (Z.set i none) H,ct:=λZ H=>D.ct (Z.set i none) H}
noncomputable def HW(K:W.Frag)(Dc:Addr)(i:Nat)(th:TS)(D:Ends):XS:=λZ C dx H=>∃Ca,C=.ref Ca/\subIn K Ca Dc=true/\∀a,H a=none->th (tQ D i) (Z.set i (some (.ref a))) (upd H a (iz a Ca dx))
section
variable {X:Cx}{x n:Str}{np tR pos:Pos}{b₀:Stmt}{body suite:List Stmt}{Dc:Addr}{i:Nat}{tb:XS->TS}{th:TS}
theorem zle(hex:X.ex=[])(p7:X.stack=X.env::X.outer/\X.env.frame=some X.env.locals)(hg:Gl X x)(hm:X.mg x=some (.ref Dc))(hN:X.N.Nodup)(hi:X.N[i]?=some n)(hl:X.env.scope.names.lookup n=some .local)
  (hb:∀(pn:List (Addr×Obj)) (E':Value->Shared->Prop) (rQ:XS),Raises (X.seen X.A X.aj pn E') rQ->PassesOwn (model X.prog X.w) X.A X.env E'->oO (X.seen X.A X.aj pn E') body (tb rQ))
  (hh:∀e:Value,oO (X.seen (X.A.mark (some e)) false X.pn (λ_ _=>False)) (b₀::suite) th) (jP:(x==("__debug__" : Str))=false:=by decide) :
  PS X (.Try body [.ExceptHandler (some (.Name x np)) (some n) (b₀::suite) tR] [] [] pos) (λD Z H=>tb (HW X.K Dc i th D) D Z H):=by
 intro ak s Z H D I h;refine wpAny_Try_except ?_;have B:=hb (X.pn++ak) (λe s₁=>wpAny (model X.prog X.w) X.A (noteFrame e X.env) (λ_ s₂=>wpAny (model X.prog X.w) X.A (setFlight e none) (λ_ s₃=>wpAny (model X.prog X.w) X.A (handleBy e X.env [.ExceptHandler (some (.Name x np)) (some n) (b₀::suite) tR]) (SP X ak D) X.xe s₃) X.xe s₂) X.xe s₁) (HW X.K Dc i th D) ?R PassesOwn.looking [] s Z H D (I.seen rfl I.ok.hd (by intro p z;simpa using z)) h
 case R=>
  intro sY Z' H' s' h0 e C dx b_ hs hp ao xc ⟨Ca,eC,sI,k⟩;cases eC;have I1:Inv X ak Z' H' s':=b_.eU rfl I.ok.hd (λp z=>rG _ z);have Qz:∀p∈X.pn++ak,∃o,h0.get? p.1=some o:=λp z=>hp p (rG _ z);show wpAny (model X.prog X.w) X.A (noteFrame (.ref e) X.env) _ X.xe s';refine XH (base:=X.base) (outer:=X.outer) (L:=X.env.locals) (I1.ok.frames.trans (qL some p7.1)) (p7.1▸I1.stack) p7.2 xc (λb z=>I1.hok.fresh z) ao λh1 ch1 t1 x1=>?_;have I2:=I1.HN (p7.1▸t1) hs Qz;refine wpAny_handleBy_cons (codeAny_handlers_test ?_) (by intro z;cases z);have I2h:Inv (X.seen (X.A.mark (some (.ref e))) false X.pn (λ_ _=>False)) ak Z' H' {s' with heap:=h1}:=I2.seen rfl (λz=>by cases z) (λp z=>z);refine GP (E:=_) I2h hg hm ?_ jP;obtain⟨oe,vs,hd,g1,c1,d1,f1,_⟩:=x1.ob;refine zb2 I2.pY sI g1 c1 ?_;refine codeAny_handlers_suite_as ?_;have QB:∀b∈frs X.stack,∀o vs,h1.get? b=some o->o.data≠.fields vs:=λb hb o vs q d=>by
   obtain⟨_,o',q',nd⟩:=I2.stack.mem hb;have q'':h1.get? b=some o':=q';rw[q] at q'';cases q'';exact nd vs d
  refine zhG (s:={s' with heap:=h1}) (fr:=frs X.stack) x1 QB λh2 rT t2 x2=>?_;have I3:Inv X ak Z' H' {s' with heap:=h2}:=I2.HN t2 hs Qz;obtain⟨oe2,vs2,hd2,g2,c2,d2,f2,_⟩:=x2.ob;have ns0:X.s₀.heap.get? e=none:=by
   cases z:X.s₀.heap.get? e with
   |none=>rfl
   |some u=>
    obtain⟨u',z'⟩:=hs e u z (by show e∉X.ex;rw[hex];simp);rw[x2.new] at z';cases z'
  have nL:e≠X.env.locals:=λz=>by
   obtain⟨m,⟨ol,es,ep,e1,e2,_⟩,_⟩:=I3.loc;have e1':h2.get? X.env.locals=some ol:=e1;rw[<-z,g2] at e1';cases e1';rw[f2] at e2;cases e2
  have nC:∀y c,X.env.cells.lookup y=some c->c≠e:=λy c q z=>by
   obtain⟨v,oc,e1,e2⟩:=I3.cell y c q;have e1':h2.get? c=some oc:=e1;rw[z,g2] at e1';cases e1';rw[f2] at e2;cases e2
  have I4:=I3.track (o:=iz e C dx) ns0 x2.un (λp z y=>by
   obtain⟨u,q⟩:=Qz p z;rw[y,x2.new] at q;cases q) nL nC (zim x2)
  have I4h:Inv (X.seen (X.A.mark (some (.ref e))) false X.pn (λ_ _=>False)) ak Z' (upd H' e (iz e C dx)) {s' with heap:=h2}:=I4.seen rfl (λz=>by cases z) (λp z=>z);refine GK (X:=X.seen (X.A.mark (some (.ref e))) false X.pn (λ_ _=>False)) (v:=.ref e) I4h hN hi (.inl hl) rfl (λs5 I5=>?_) (.inr hl);refine jf (hh (.ref e) ak s5 _ _ (tQ D i) I5 (k e x2.un)) (λf s6 q6=>?_) (λ_ _ z=>z.elim);have hkd:(X.env.scope.kind==.class||(X.env.scope.kind==.module&&X.env.locals != X.env.globals))=false:=by rw[I.ok.kind];rfl
  have fin:∀{Z6:St} {H6:Hp} {Q:Shared->Prop},Inv (X.seen (X.A.mark (some (.ref e))) false X.pn (λ_ _=>False)) ak Z6 H6 s6->(∀s7,Inv X ak (Z6.set i none) H6 s7->Q s7)->
    wpAny (model X.prog X.w) X.A (do bindName X.env n .none;unbindBehindTheSuite X.env n tR) (λ_ s7=>Q s7) X.xe s6:=λ{Z6 H6 Q} iB kq=>by
   have b_:Inv X ak Z6 H6 s6:=iB.eU rfl I.ok.hd (λp z=>z);obtain⟨m,XQ,_⟩:=id b_.loc;exact wpAny_nameGoes_keeps hl XQ hkd λh' v wJ sb=>kq _ (b_.gone hN hi hl XQ wJ sb)
  cases f with
  |next=>obtain⟨Z6,H6,iB,q⟩:=q6;exact fin iB λs7 mz=>⟨_,_,mz,q⟩
  |brk=>obtain⟨Z6,H6,iB,q⟩:=q6;exact fin iB λs7 mz=>⟨_,_,mz,q⟩
  |cont=>obtain⟨Z6,H6,iB,q⟩:=q6;exact fin iB λs7 mz=>⟨_,_,mz,q⟩
  |ret u=>obtain⟨v,Z6,H6,iB,r,q⟩:=q6;exact fin iB λs7 mz=>⟨v,_,_,mz,r,q⟩
 refine jf B (λf s1 q=>?_) λ_ _ z=>z;have q':SP X ak D f s1:=SP.eU q rfl I.ok.hd (by intro p z;simpa using z);cases f with
 |next=>exact Ld q'
 |brk=>exact q'
 |cont=>exact q'
 |ret u=>exact q'
end
end L2
namespace L2
open PySem PySem.Spec PyProof.Rows PySem.W Builtin.ObjectAttr
section
variable {prog:Program}{w:World}{A:Around}{E:Value->Shared->Prop}{s:Shared}{K:Frag}{x C:Addr}{ox:Obj}{od:Option Obj}{name:Str}{tk:Tok}
theorem zjj(XI:K.In s.heap)(I:InstAt s.heap x ox C od)(hf:findObj K C od name=some r)
  (h:match r with|.value v=>Q (.done (.ret v)) s|.bind g a=>wpAny (model prog w) A (call g [a,.ref x,.ref C]) (λv s'=>Q (.done (.ret v)) s') E s|.missing=>False) :
  wpAny (model prog w) A (Builtin.«object.__getattribute__» ⟨[.ref x,.str name tk],[]⟩) Q E s:=by
 obtain⟨hh,g,d,t,os⟩:=s;have L0:=I.type (M:=model prog w);have L1:=looks_find (M:=model prog w) XI I hf;unfold Builtin.«object.__getattribute__»;refine au (Aj (a:=(Value.ref x,[Value.str name tk])) (by rfl) ?_);refine au (Aj (a:=name) (by rfl) ?_);refine au (L0.at (au (L1.at ?_)));cases r with
 |value v=>exact aJ h
 |bind g a=>
  show wpAny _ _ (holding [a] (call g [a,.ref x,.ref C]) >>= ret) _ _ _;exact au (jw (jf h (λv s' z=>aJ z) λ_ _ z=>z))
 |missing=>exact h.elim
theorem XR(XI:K.In s.heap)(I:InstAt s.heap x ox C od)(hb:mroIn K C (.type "BaseException")=some true)(hf:findObj K C od name=some r)
  (h:match r with|.value v=>R (.ok (.ret v)) s|.bind g a=>wpAny (model prog w) A.in1 (call g [a,.ref x,.ref C]) (λv s'=>R (.ok (.ret v)) s') (λe s'=>R (.error e) s') s|.missing=>False) :
  codeAny (model prog w) A (.call (.builtin "BaseException.__getattribute__") ⟨[.ref x,.str name tk],[]⟩) R s:=by
 have hk:builtinKind "BaseException.__getattribute__"=some .slot:=by decide +kernel
 have Bo:splitId "BaseException.__getattribute__"=some ("BaseException","__getattribute__"):=by decide +kernel
 have ha:=F.args_bexc_ga (.ref x) (.str name tk);refine Ov F.attr_ValueError.ga.plain F.entry_bexc_ga ?_;have fin:wpAny (model prog w) A.in1 (Builtin.«object.__getattribute__» ⟨[.ref x,.str name tk],[]⟩) (λfin s'=>match fin with|.done f=>R (.ok f) s'|.again c'=>c'.quiet=true/\codeAny (model prog w) A c' R s') (λe s'=>R (.error e) s') s:=by
  refine zjj XI I hf ?_;cases r with
  |value v=>exact h
  |bind g a=>exact h
  |missing=>exact h.elim
 have chk:∀Q:Unit->Shared->Prop,Q () s->wpAny (model prog w) A.in1 (checkBuiltinCall "BaseException.__getattribute__" ⟨[.ref x,.str name tk],[]⟩) Q (λe s'=>R (.error e) s') s:=λQ hq=>by
  obtain⟨hh,g,d,t,os⟩:=s;have L0:=I.type (M:=model prog w);have L1:=looks_mroIn (M:=model prog w) XI hb;have LI:Looks (model prog w) hh (isInstance (.ref x) (.type "BaseException")) true:=L0.andThen L1;simp only[checkBuiltinCall,hk,Bo];refine au ?_
  repeat (first|with_reducible exact hq|with_reducible refine LI.at ?_|wp_step)
 exact chk _ fin
theorem bexc_get?(XI:K.In s.heap)(I:InstAt s.heap x ox C od)(hb:mroIn K C (.type "BaseException")=some true)(QC:findIn K (.ref C) "__getattribute__"=some (some (.builtin "BaseException.__getattribute__")))
  (QD:findIn K (.ref C) "__getattr__"=some none) (hf:findObj K C od name=some r)
  (h:match r with|.value v=>wpAny (model prog w) A (handedOut v) (λu s'=>Q (some u) s') (λ_ _=>False) {s with toks:=s.toks+1}|.bind g a=>wpAny (model prog w) A.in1 (call g [a,.ref x,.ref C]) (λv s'=>wpAny (model prog w) A (handedOut v) (λu s''=>Q (some u) s'') (λ_ _=>False) s') (λ_ _=>False) {s with toks:=s.toks+1}|.missing=>False) :
  wpAny (model prog w) A (getAttr? (.ref x) name) Q E s:=by
 obtain⟨hh,g,d,t,os⟩:=s;have L0:=I.type (M:=model prog w);have L1:=Ef (M:=model prog w) XI QC;have L2:=Ef (M:=model prog w) XI QD;have xq:(Value.builtin "BaseException.__getattribute__"==Value.builtin "object.__getattribute__")=false:=by decide +kernel
 unfold getAttr? getAttrBy? getAttrBy;refine au (wpAny_mkText (au (Ed (jw (au (L0.at (au (L1.at ?_))))))));show wpAny _ _ (if (onTheHeap (.ref C)&&(Value.builtin "BaseException.__getattribute__"==Value.builtin "object.__getattribute__"))=true then _ else getAttrByItsOwn _ _ _ _ _ _) _ _ _;rw[xq,Ai,if_neg UJ];unfold getAttrByItsOwn hookBefore callGetattribute boundAndCalled;refine au (L2.at ?_);refine au (Ed (jw (au (Aj (F.attr_ValueError.ga.bind (.ref x)) ?_))));refine yN (XR XI I hb hf ?_);cases r with
 |value v=>exact jf h (λv s'' hv=>aJ hv) (λ_ _ z=>z.elim)
 |bind g a=>exact jf h (λv s' hv=>jf hv (λu s'' z=>aJ z) λ_ _ z=>z.elim) (λ_ _ z=>z.elim)
 |missing=>exact h.elim
end
structure XC(K:Frag)(C:Addr):Prop where
 ga:findIn K (.ref C) "__getattribute__"=some (some (.builtin "BaseException.__getattribute__"))
 gn:findIn K (.ref C) "__getattr__"=some none
 cl:findIn K (.ref C) "__class__"=some (some (.builtin "object.__class__"))
 mb:mroIn K C (.type "BaseException")=some true
 mo:mroIn K C (.type "object")=some true
 cd:(clsIn K C).isSome=true
 dg:specialIn K (.builtin "object.__class__") "__get__"=some (some (.builtin "getset_descriptor.__get__"))
 dt:takesIn K (.builtin "object.__class__")=some true
theorem zfI{K:Frag}{C:Addr}{od:Option Obj}{name:Str}{a g:Value}(hc:(clsIn K C).isSome=true)(ha:findIn K (.ref C) name=some (some a))(hg:specialIn K a "__get__"=some (some g))(ht:takesIn K a=some true):findObj K C od name=some (.bind g a):=by
 obtain⟨cd,z⟩:=Od.mp hc;simp only[findObj,z,ha,hg,ht,Option.bind_some]
theorem X3{K:Frag}{e C:Addr}(c:XC K C):KitX K (.ref e) (.ref C) (λh=>∃ox od,InstAt h e ox C od) where
 ty:=λ_ _ _ ⟨_,_,I⟩=>I.type
 it:=λ_ _ XI _=>by
  have q:=c.cd;unfold clsIn at q;split at q
  ·rename_i c' d' cd' sl' lk;intro A' Q' E' s' k z;unfold isType loadHead;exact au (wpAny_loadPart (k _ _ (XI _ _ lk)) (aJ z))
  ·cases q
 ne:=λh tp dd its n sl XI htp=>by
  refine O1.mpr λz=>?_;have ee:C=tp:=Value.ref.inj (iM.mp z);subst ee;have q:=c.cd;unfold clsIn at q;split at q
  ·rename_i c' d' cd' sl' lk;have y:=(XI _ _ lk).symm.trans htp;cases y
  ·cases q
 ca:=λ{prog w A E Q s} XI ⟨ox,od,I⟩ k=>by
  have hf:findObj K C od "__class__"=some (.bind (.builtin "getset_descriptor.__get__") (.builtin "object.__class__")):=zfI c.cd c.cl c.dg c.dt;refine bexc_get? XI I c.mb c.ga c.gn hf ?_;exact yN (class_get (s:={s with toks:=s.toks+1}) (ox:=ox) (od:=od) XI I c.mo (handed_on rfl k))
end L2
namespace L2
open PySem PySem.Spec PyProof.Rows
theorem zeV:∀(names:List (Str×NameKind)) (cs:List (Str×Addr)),(∀x∈names,x.2=.free->∃c,env.cells.lookup x.1=some c)->(∀x c,cs.lookup x=some c->env.cells.lookup x=some c)->
  ∃cl,(forIn names cs λx r=>(do
    if x.2==.free then
     let a <-cellOf env x.1
     pure (ForInStep.yield ((x.1,a)::r))
    else pure (ForInStep.yield r)):Sem (List (Str×Addr)))=pure cl/\(∀x c,cl.lookup x=some c->env.cells.lookup x=some c)/\(∀x c,cs.lookup x=some c->cl.lookup x=some c)/\∀x∈names,x.2=.free->∃c,cl.lookup x.1=some c:=by
 intro names
 induction names with
 |nil=>intro cs _ h;exact⟨cs,rfl,h,λ_ _ q=>q,λx z=>nomatch z⟩
 |cons y r ih=>
  intro cs h1 h2;obtain⟨n,k⟩:=y;by_cases hk:k=.free
  ·subst hk;obtain⟨c,hc⟩:=h1 (n,.free) dO rfl;have hc:env.cells.lookup n=some c:=hc;have h3:∀x d,((n,c)::cs).lookup x=some d->env.cells.lookup x=some d:=λx d q=>by
    rw[mY] at q;by_cases z:x=n
    ·subst z;simp at q;subst q;exact hc
    ·have z':(x==n)=false:=by simpa using z
     rw[z'] at q;exact h2 x d q
   obtain⟨cl,e,a,b,d⟩:=ih ((n,c)::cs) (λx z=>h1 x (dN _ z)) h3;have hco:cellOf env n=pure c:=by
    unfold cellOf;rw[hc]
   refine⟨cl,?_,a,λx q z=>?_,λx z q=>?_⟩
   ·rw[Gq];simp only[yH,if_true,hco];exact e
   ·by_cases y:x=n
    ·subst y;have z1:=h2 x q z;rw[hc] at z1;cases z1;exact b x c Zaa
    ·have y':(x==n)=false:=by simpa using y
     exact b x q (by rw[mY,y'];exact z)
   ·rcases cH.mp z with z|z
    ·subst z;exact⟨c,b n c Zaa⟩
    ·exact d x z q
  ·have hb:(k==NameKind.free)=false:=by simpa using hk
   obtain⟨cl,e,a,b,d⟩:=ih cs (λx z=>h1 x (dN _ z)) h2;refine⟨cl,?_,a,b,λx z q=>?_⟩
   ·rw[Gq];simp only[hb,jd,iQ];exact e
   ·rcases cH.mp z with z|z
    ·subst z;exact absurd q hk
    ·exact d x z q
theorem ze1(h:∀x∈scope.names,x.2=.free->∃c,env.cells.lookup x.1=some c):∃cl,closureFor scope env=pure cl/\(∀x c,cl.lookup x=some c->env.cells.lookup x=some c)/\∀x∈scope.names,x.2=.free->∃c,cl.lookup x.1=some c:=by
 obtain⟨cl,e,a,_,d⟩:=zeV scope.names [] h (λx c q=>by cases q);refine⟨cl,?_,a,d⟩;unfold closureFor;have e':=e;simp only[pure_bind,bind_pure] at e' ⊢;exact e'
theorem QF{env:Env}{k:NameKind}:∀{names:List (Str×NameKind)} {x:Str},(names.map λ(n,k)=>if (k==NameKind.free&&env.scope.kind==.function&&env.kindOf n==some .cell) then (n,NameKind.cell) else (n,k)).lookup x=some k->
  names.lookup x=some k\/(k=.cell/\names.lookup x=some .free)
 |[],x,h=>by simp at h
 |(n,q)::r,x,h=>by
  rw[kh,mY] at h;rw[mY];have hd:∀c:Bool,(if c=true then (n,NameKind.cell) else (n,q)).1=n:=λc=>by cases c<;>rfl
  rw[hd] at h;by_cases z:x=n
  ·subst z;simp only[yH] at h ⊢;split at h
   ·rename_i y;simp only[cG,iM] at y;cases h;exact .inr ⟨rfl,by rw[y.1.1]⟩
   ·cases h;exact .inl rfl
  ·have z':(x==n)=false:=by simpa using z
   simp only[z'] at h ⊢;exact QF h
theorem QG{env:Env}:∀{names:List (Str×NameKind)} {x:Str},names.lookup x=some .free->
  (names.map λ(n,k)=>if (k==NameKind.free&&env.scope.kind==.function&&env.kindOf n==some .cell) then (n,NameKind.cell) else (n,k)).lookup x=some .cell \/
  (names.map λ(n,k)=>if (k==NameKind.free&&env.scope.kind==.function&&env.kindOf n==some .cell) then (n,NameKind.cell) else (n,k)).lookup x=some .free
 |[],x,h=>by simp at h
 |(n,q)::r,x,h=>by
  rw[mY] at h;rw[kh,mY];have hd:∀c:Bool,(if c=true then (n,NameKind.cell) else (n,q)).1=n:=λc=>by cases c<;>rfl
  rw[hd];by_cases z:x=n
  ·subst z;simp only[yH] at h ⊢;cases h
   split
   ·exact .inl rfl
   ·exact .inr rfl
  ·have z':(x==n)=false:=by simpa using z
   simp only[z'] at h ⊢;exact QG h
structure nF(n:Nat)(h1:Heap)(names:List (Str×NameKind))(cl jy:List (Str×Addr)):Prop where
 d1:∀x c,jy.lookup x=some c->(cl.lookup x=some c/\(x,NameKind.cell)∉names)\/((x,NameKind.cell)∈names/\n<c/\h1.IsCell c none)
 d2:∀x y c,n<c->jy.lookup x=some c->jy.lookup y=some c->x=y
 d3:∀x,names.lookup x=some .cell->∃c,jy.lookup x=some c
 d4:∀x c,(x,NameKind.cell)∉names->cl.lookup x=some c->jy.lookup x=some c
theorem cc:(NameKind.cell==NameKind.cell)=true:=by decide
theorem HX:∀(names:List (Str×NameKind)) (h:Heap) (b:Addr) (o:Obj),h.get? b=some o->(pushCells h names).get? b=some o
 |[],h,b,o,e=>e
 |(x,k)::r,h,b,o,e=>by
  rw[pushCells]
  split
  ·exact HX r _ b o (bU _ e)
  ·exact HX r h b o e
theorem QJ:∀(names:List (Str×NameKind)) (h:Heap) (acc:List (Str×Addr)) (x:Str) (c:Addr),(cellsFrom h.objs.size names acc).lookup x=some c->
  (acc.lookup x=some c/\(x,NameKind.cell)∉names)\/((x,NameKind.cell)∈names/\h.objs.size<=c/\(pushCells h names).IsCell c none)
 |[],h,acc,x,c,e=>.inl ⟨e,by simp⟩
 |(y,k)::r,h,acc,x,c,e=>by
  rw[cellsFrom] at e;rw[pushCells];by_cases hk:k=.cell
  ·subst hk;rw[if_pos cc] at e ⊢;have sz:(h.push {cls:=Value.type "cell",data:=Data.cell none}).objs.size=h.objs.size+1:=by unfold Heap.push;simp
   rw[<-sz] at e;rcases QJ r _ _ x c e with ⟨a,b⟩|⟨a,b,d⟩
   ·rw[mY] at a;by_cases z:x=y
    ·subst z;simp at a;subst a;exact .inr ⟨dO,bV _,_,HX r _ _ _ (gF _ rfl),rfl⟩
    ·have z':(x==y)=false:=by simpa using z
     rw[z'] at a;exact .inl ⟨a,by simp[z,b]⟩
   ·exact .inr ⟨dN _ a,by lia,d⟩
  ·have hb:(k==NameKind.cell)=false:=by simpa using hk
   rw[if_neg (by rw[hb];decide)] at e ⊢;rcases QJ r _ _ x c e with ⟨a,b⟩|⟨a,b,d⟩
   ·exact .inl ⟨a,by simp[b];intro _ q;exact hk q.symm⟩
   ·exact .inr ⟨dN _ a,b,d⟩
theorem QK:∀(names:List (Str×NameKind)) (n:Nat) (acc:List (Str×Addr)) (x y:Str) (c:Addr),(∀u v,acc.lookup u=some c->acc.lookup v=some c->u=v)->(∀u a,acc.lookup u=some a->a<n\/a≠c)->(cellsFrom n names acc).lookup x=some c->(cellsFrom n names acc).lookup y=some c->x=y
 |[],n,acc,x,y,c,h,_,e1,e2=>h x y e1 e2
 |(z,k)::r,n,acc,x,y,c,h,hl,e1,e2=>by
  rw[cellsFrom] at e1 e2;by_cases hk:k=.cell
  ·subst hk;rw[if_pos cc] at e1 e2;refine QK r (n+1) _ x y c (λu v a b=>?_) (λu a q=>?_) e1 e2
   ·rw[mY] at a b;by_cases u1:u=z
    ·by_cases v1:v=z
     ·rw[u1,v1]
     ·have v':(v==z)=false:=by simpa using v1
      subst u1;simp at a;rw[v'] at b;subst a;have b:acc.lookup v=some n:=b;rcases hl v n b with q|q
      ·exact absurd q (m5 _)
      ·exact absurd rfl q
    ·have u':(u==z)=false:=by simpa using u1
     rw[u'] at a;have a:acc.lookup u=some c:=a;by_cases v1:v=z
     ·subst v1;simp at b;subst b;rcases hl u n a with q|q
      ·exact absurd q (m5 _)
      ·exact absurd rfl q
     ·have v':(v==z)=false:=by simpa using v1
      rw[v'] at b;exact h u v a b
   ·rw[mY] at q;by_cases u1:u=z
    ·subst u1;simp at q;subst q;exact .inl (Nat.lt_succ_self _)
    ·have u':(u==z)=false:=by simpa using u1
     rw[u'] at q;exact(hl u a q).imp (λq=>qJ q) id
  ·have hb:(k==NameKind.cell)=false:=by simpa using hk
   rw[if_neg (by rw[hb];decide)] at e1 e2;exact QK r n acc x y c h hl e1 e2
theorem QL:∀(names:List (Str×NameKind)) (n:Nat) (acc:List (Str×Addr)) (x:Str) (c:Addr),(x,NameKind.cell)∉names->acc.lookup x=some c->(cellsFrom n names acc).lookup x=some c
 |[],n,acc,x,c,_,e=>e
 |(z,k)::r,n,acc,x,c,h,e=>by
  rw[cellsFrom];have hr:(x,NameKind.cell)∉r:=λq=>h (dN _ q);by_cases hk:k=.cell
  ·subst hk;rw[if_pos cc];refine QL r (n+1) _ x c hr ?_;have:x≠z:=λq=>h (by rw[q];exact dO);have z':(x==z)=false:=by simpa using this
   rw[mY,z'];exact e
  ·have hb:(k==NameKind.cell)=false:=by simpa using hk
   rw[if_neg (by rw[hb];decide)];exact QL r n acc x c hr e
theorem QM:∀(names:List (Str×NameKind)) (acc:List (Str×Addr)) (s:Shared) (Q:List (Str×Addr)->Shared->Prop),
  Q (cellsFrom s.heap.objs.size names acc) {s with heap:=pushCells s.heap names}->
  wpAny M A (forIn names acc λx (cells:List (Str×Addr))=>match x with
   |(name,kind)=>if (kind==NameKind.cell)=true then do
     let a <-alloc {cls:=Value.type "cell",data:=Data.cell none}
     pure (ForInStep.yield ((name,a)::cells))
    else pure (ForInStep.yield cells)) Q E s
 |[],acc,s,Q,h=>by
  rw[Lh];exact aJ h
 |(z,k)::r,acc,s,Q,h=>by
  rw[Gq];rw[cellsFrom,pushCells] at h;by_cases hk:k=.cell
  ·subst hk;rw[if_pos cc,if_pos cc] at h;refine au ?_;dsimp only;rw[if_pos cc];refine au (wpAny_alloc (aJ ?_));refine QM r _ _ Q ?_;have sz:(s.heap.push {cls:=Value.type "cell",data:=Data.cell none}).objs.size=s.heap.objs.size+1:=by unfold Heap.push;simp
   rw[sz];exact h
  ·have hb:(k==NameKind.cell)=false:=by simpa using hk
   rw[if_neg (by rw[hb];decide),if_neg (by rw[hb];decide)] at h;refine au ?_;dsimp only;rw[if_neg (by rw[hb];decide)];exact aJ (QM r _ _ Q h)
theorem zfN(old:∀x c,cl.lookup x=some c->c<s.heap.objs.size)(inj:∀x y c,cl.lookup x=some c->cl.lookup y=some c->x=y)
  (h:∀h1 jy,h1.Ns s.heap.objs.size (λ_=>none)->(∀b o,s.heap.get? b=some o->h1.get? b=some o)->nF s.heap.objs.size h1 scope.names cl jy->Q {scope:=scope,locals:=s.heap.objs.size,globals:=globals,cells:=jy,qual:=qual,func:=none,code:=env.code,frame:=env.frame,builtins:=env.builtins} {s with heap:=h1}) :
  wpAny M A (newFunctionEnv scope globals cl [] qual none .none (some env)) Q E s:=by
 unfold newFunctionEnv;refine au (wpAny_alloc ?_);refine au ?_;refine QM scope.names cl _ _ ?_;dsimp only;rw[Lh];refine au (aJ (aJ ?_));have sz:(s.heap.push {cls:=Value.type (if (some env).isSome=true then "dict" else "frame"),data:=Data.dict #[]}).objs.size=s.heap.objs.size+1:=by unfold Heap.push;simp
 refine h _ _ ?_ (λb o e=>HX _ _ _ _ (bU _ e)) ⟨λx c e=>?_,λx y c hc e1 e2=>?_,λx e=>?_,λx c hx e=>QL _ _ _ x c hx e⟩
 ·refine⟨_,#[],_,HX _ _ _ _ (gF _ rfl),rfl,?_,λ_=>rfl⟩;intro e he;simp at he
 ·rcases QJ _ _ _ x c e with ⟨a,b⟩|⟨a,b,d⟩
  ·exact .inl ⟨a,b⟩
  ·rw[sz] at b;exact .inr ⟨a,by lia,d⟩
 ·exact QK _ _ _ x y c (λu v a b=>inj u v c a b) (λu a q=>.inl (by rw[sz];exact qJ (old u a q))) e1 e2
 ·have:=Oi scope.names (s.heap.push {cls:=Value.type (if (some env).isSome=true then "dict" else "frame"),data:=Data.dict #[]}).objs.size cl (.inl e);exact Od.mp this
noncomputable def Cx.blk(X:Cx)(scope:Scope)(cl:List (Str×Addr))(N:List Str)(C:Addr)(s3:Shared)(H3:Hp)(fp:List Addr)(ak:List (Addr×Obj)):Cx where
 prog:=X.prog
 w:=X.w
 K:=X.K
 mg:=X.mg
 base:=X.base
 A:=X.A
 N:=N
 s₀:=s3
 H₀:=H3
 env:=compEnvC scope cl C X.env
 outer:=X.stack
 stack:=X.stack
 ex:=fp
 fn:=λx=>scope.names.lookup x==some .cell
 aj:=X.aj
 pn:=X.pn++ak
 xe:=λ_ _=>False
structure iR(sc scope:Scope):Prop where
 kind:scope.kind=.function
 cel:∀y∈scope.names,y.2=.cell->scope.names.lookup y.1=some .cell
 free:∀y∈scope.names,y.2=.free->sc.names.lookup y.1=some .cell\/sc.names.lookup y.1=some .free
 loc:∀y∈scope.names,y.2=.local->scope.names.lookup y.1=some .local
section
variable {X:Cx}{ak:List (Addr×Obj)}{Z:St}{H:Hp}{s:Shared}{scope:Scope}{cl:List (Str×Addr)}{N:List Str}{fp:List Addr}{ZY:St}
theorem zjG{h1:Heap}{t:Nat}{jy:List (Str×Addr)}(I:Inv X ak Z H s)(B:iR X.env.scope scope)(c1:∀x c,cl.lookup x=some c->X.env.cells.lookup x=some c)(c2:∀x∈scope.names,x.2=.free->∃c,cl.lookup x.1=some c)
  (f:∀b∈fp,iw X ak H b) (fo:∀b∈fp,∃o,s.heap.get? b=some o) (hn:h1.Ns s.heap.objs.size (λ_=>none)) (kp:∀b o,s.heap.get? b=some o->h1.get? b=some o) (CN:nF s.heap.objs.size h1 scope.names cl jy)
  (hl:ZY.length=N.length) (hZ:∀(i:Nat) (x:Str) (v:V),N[i]?=some x->ZY[i]?=some (some v)->scope.names.lookup x=some .free/\∃j:Nat,X.N[j]?=some x/\Z[j]?=some (some v)) :
  Inv (X.blk scope jy N s.heap.objs.size s H fp ak) [] ZY H {s with heap:=h1,toks:=t}:=by
 have lt:∀b o,s.heap.get? b=some o->b≠s.heap.objs.size:=λb o q=>cR (bM q);have X4:∀b,b≠X.env.locals->b∉X.fs->b∉frs X.stack:=λb a c z=>(cH.mp (I.lX b z)).elim a c;have mem_of:∀x k,scope.names.lookup x=some k->(x,k)∈scope.names:=λx k q=>DG q;have old:∀x c,cl.lookup x=some c->c<s.heap.objs.size:=λx c q=>by
  obtain⟨v,o,q1,q2⟩:=I.cell x c (c1 x c q);exact bM q1
 have X5:∀x,scope.names.lookup x=some .free->(x,NameKind.cell)∉scope.names:=λx q z=>by
  have:=B.cel _ z rfl;have this:scope.names.lookup x=some .cell:=this;rw[q] at this;cases this
 refine⟨⟨I.ok.mod,B.kind,I.ok.glob,I.ok.blt,bV _,λx y c a b=>?_,λx hx=>?_,λx c z q=>?_,I.ok.hd,I.ok.frames,.inl rfl,λb hb=>?_,I.bs,n8 I.ok.yR I.sz,λb o q hb=>?_,λb hb=>X4 b (f b hb).2.1 (f b hb).2.2.1,I.stack,I.jx⟩,
  rfl,I.bare,Un.kept kp,⟨_,hn,λi x v e1 e2 e3=>?_⟩,λx c q=>?_,I.hok.fresh (bV _),λx c q=>?_,λp hp=>?_,I.hok.kept kp,hl⟩
 ·by_cases hc:s.heap.objs.size<c
  ·exact CN.d2 x y c hc a b
  ·rcases CN.d1 x c a with ⟨a1,_⟩|⟨_,a1,_⟩
   ·rcases CN.d1 y c b with ⟨b1,_⟩|⟨_,b1,_⟩
    ·exact I.ok.inj x y c (c1 x c a1) (c1 y c b1)
    ·exact absurd b1 hc
   ·exact absurd a1 hc
 ·have hx:(relabel scope X.env).names.lookup x=some .cell\/(relabel scope X.env).names.lookup x=some .free:=hx;have fr:scope.names.lookup x=some .cell\/scope.names.lookup x=some .free:=by
   rcases hx with hx|hx
   ·rcases QF hx with z|⟨_,z⟩
    ·exact .inl z
    ·exact .inr z
   ·rcases QF hx with z|⟨z,_⟩
    ·exact .inr z
    ·cases z
  rcases fr with fr|fr
  ·exact CN.d3 x fr
  ·obtain⟨c,hc⟩:=c2 (x,.free) (mem_of x _ fr) rfl;exact⟨c,CN.d4 x c (X5 x fr) hc⟩
 ·rcases CN.d1 x c q with ⟨_,q1⟩|⟨_,q1,_⟩
  ·have z:(scope.names.lookup x==some NameKind.cell)=true:=z;exact absurd (mem_of x _ (by simpa using z)) q1
  ·exact yJ q1
 ·obtain⟨o,q⟩:=fo b hb;refine⟨lt b o q,λx c z=>?_⟩;rcases CN.d1 x c z with ⟨q1,_⟩|⟨_,q1,_⟩
  ·exact(f b hb).2.2.2.2.1 x c (c1 x c q1)
  ·exact λe=>absurd (bM q) (by rw[<-e];exact Gv.mpr (yJ q1))
 ·obtain⟨_,_,_,z,_⟩:=f b hb;rcases z with z|z
  ·exact I.ok.sX b o q z
  ·exact absurd (gj (bM q) (n8 I.ok.yR z)) (m5 _)
 ·obtain⟨fr,j,hj,hv⟩:=hZ i x v e1 e2;have hk:=B.free (x,.free) (mem_of x _ fr) rfl;obtain⟨m,hm,QS⟩:=I.loc;obtain⟨u,r,l⟩:=QS j x v hj hv (hk.elim (λz=>.inr (.inl z)) λz=>.inr (.inr z));obtain⟨c',k_⟩:=c2 (x,.free) (mem_of x _ fr) rfl;have k_:cl.lookup x=some c':=k_;refine⟨u,r,.inr ⟨QG fr,c',CN.d4 x c' (X5 x fr) k_,?_⟩⟩;rcases l with ⟨k1,_⟩|⟨_,c,k2,oc,k3,k4⟩
  ·have k1:X.env.scope.names.lookup x=some .local:=k1;rcases hk with hk|hk
   ·have hk:X.env.scope.names.lookup x=some .cell:=hk;rw[k1] at hk;cases hk
   ·have hk:X.env.scope.names.lookup x=some .free:=hk;rw[k1] at hk;cases hk
  ·have e:=c1 x c' k_;rw[k2] at e;cases e;exact⟨oc,kp _ oc k3,k4⟩
 ·rcases CN.d1 x c q with ⟨q1,_⟩|⟨_,_,q1⟩
  ·obtain⟨v,o,q1,q2⟩:=I.cell x c (c1 x c q1);exact⟨v,o,kp c o q1,q2⟩
  ·exact⟨none,q1⟩
 ·rcases CN.d1 x c q with ⟨q1,_⟩|⟨_,q1,_⟩
  ·exact I.d8 x c (c1 x c q1)
  ·exact I.hok.fresh (yJ q1)
 ·have hp:p∈X.pn++ak:=by
   have z:p∈(X.pn++ak)++[]:=hp;simpa using z
  obtain⟨a1,a2,a3,a4,a5⟩:=I.pin p hp;exact⟨kp _ _ a1,a2,lt _ _ a1,X4 _ a3 a4,a5⟩
theorem zdF(I:Inv X ak Z H s)(f:∀b∈fp,iw X ak H b)(b_:Inv (X.blk scope cl N s.heap.objs.size s H fp ak) [] Z' H' s'):Inv X ak Z H' s':=
 I.call' (ch:=fp) b_.os b_.base b_.hok b_.bare λb hb=>by
  obtain⟨_,a2,_,a4,a5,a6⟩:=f b hb;exact⟨a4.imp id λz=>Dz z,a2,a5,a6⟩
theorem zc7{Z':St}{H':Hp}{s':Shared}{h2:Heap}{C:Addr}(b_:Inv X ak Z H' s')(hC:X.s₀.heap.objs.size<=C)(n1:H' C=none)(n2:C≠X.env.locals)(n3:∀x c,X.env.cells.lookup x=some c->c≠C)(n4:∀p∈X.pn++ak,p.1≠C)
  (sb:Heap.SameBut C s'.heap h2):Inv X ak Z H' {s' with heap:=h2}:=
 b_.turned (t':=s'.toks) (λb o z q=>(sb.2 b z).trans q) n1 n2 (.inr hC) n3 n4
end
noncomputable abbrev qe(ifs:List Expr)(env:Env):Sem Bool:=forIn ifs true λc r=>if r=true then do let ok <-isTrue c env (eval c env);pure (ForInStep.yield ok) else pure (ForInStep.yield r)
theorem zfq{prog:Program}{w:World}{A:Around}{R:Result->Shared->Prop}{s:Shared}{elt target iter:Expr}{ifs:List Expr}{scope:Scope}{pos:Pos}{it acc:Value}{env:Env}(V:Nat->Shared->Prop)
  (turn:∀n s,V n s->wpAny (model prog w) A (pyNext it) (λr s₁=>match r with
   |none=>R (.ok .next) s₁
   |some v=>wpAny (model prog w) A (letOwnedTupleGo target it v) (λ_ s₂=>wpAny (model prog w) A (assign target env v) (λ_ s₃=>
     wpAny (model prog w) A (qe ifs env) (λok s₄=>
      if ok=true then wpAny (model prog w) A (eval elt env) (λx s₅=>wpAny (model prog w) A (call (.builtin "list.append") [acc,x]) (λ_ s₆=>∃m,m<n/\V m s₆) (λ_ _=>False) s₅) (λ_ _=>False) s₄
      else ∃m,m<n/\V m s₄) (λ_ _=>False) s₃) (λ_ _=>False) s₂) (λ_ _=>False) s₁) (λ_ _=>False) s)
  (n:Nat) (h:V n s):codeAny (model prog w) A (.compLoop (.ListComp elt [⟨target,iter,ifs,0⟩] scope pos) 0 it acc env) R s:=by
 refine codeAny_loop rfl V (λn s hV=>?_) n h;show wpAny _ A ((compTurn (.ListComp elt [⟨target,iter,ifs,0⟩] scope pos) 0 it acc env).onRaise (λx=>do noteFrame x env;theTreesLotGoes x)) _ _ s;refine wpAny_noted ?_;rw[compTurn_list];refine au (vo (au (jf (turn n s hV) (λr s₁ h₁=>?_) λ_ _ z=>z.elim)));cases r with
 |none=>exact aJ h₁
 |some v=>
  refine au (jf h₁ (λ_ s₂ h₂=>?_) λ_ _ z=>z.elim);refine au (jf h₂ (λ_ s₃ h₃=>au (jf h₃ (λok s₄ h₄=>?_) λ_ _ z=>z.elim)) λ_ _ z=>z.elim);cases ok with
  |true=>
   simp only[if_true] at h₄ ⊢;exact au (au (jf h₄ (λx s₅ h₅=>au (jf h₅ (λ_ s₆ h₆=>aJ (aJ ⟨rfl,h₆⟩)) λ_ _ z=>z.elim)) λ_ _ z=>z.elim))
  |false=>
   simp only[jd,iQ] at h₄ ⊢;exact aJ ⟨rfl,h₄⟩
def Mp(X:Cx)(ifs:List Expr)(t:TT):Prop:=
 ∀(ak:List (Addr×Obj)) (s:Shared) (Z:St) (H:Hp) (Q:Bool->Hp->Prop),Inv X ak Z H s->t Z H Q->wpAny (model X.prog X.w) X.A (qe ifs X.env) (TP X ak Z Q) X.xe s
noncomputable def QT:TT:=λ_ H Q=>Q true H
theorem ziy:Mp X [] QT:=λ_ _ _ H _ I h=>wpAny_tests_nil ⟨H,I,h⟩
theorem zjP(h:PT X c t):Mp X [c] t:=λak s Z H Q I hq=>wpAny_tests_one (h ak s Z H Q I hq)
def HY(ZY:St->St)(g:TG)(tt:TT)(te:TE)(b_:It)(Z:St)(H:Hp)(Q:VK):Prop:=∀D,H D=none->∃W:Nat->Nat->St->Hp->Prop,(∃m,W 0 m (ZY Z) (upd H D (.lst [])))/\∀i m Z' H',W i m Z' H'->
 (b_.stop i H'/\Q (.ref D) H')\/(b_.go i H'/\∃N:St->Hp->Prop,(∀Z2 H2,N Z2 H2->∃m',m'<m/\W (i+1) m' Z2 H2)/\∀x H2,b_.Az i H' x H2->g x Z' H2 λZ3 H3=>tt Z3 H3 λok H4=>
  if ok=true then te Z3 H4 λy H5=>∃ys,H5 D=some (.lst ys)/\ys.length<sizeLine/\N Z3 (upd H5 D (.lst (ys++[y]))) else N Z3 H4)
section
variable {X:Cx}{elt tg iter:Expr}{ifs:List Expr}{scope:Scope}{pos:Pos}{N:List Str}{ZY:St->St}{wi:TI}{g:TG}{tt:TT}{te:TE}
structure Parts(X:Cx)(elt tg:Expr)(ifs:List Expr)(scope:Scope)(N:List Str)(g:TG)(tt:TT)(te:TE):Prop where
 tgt:∀cl C s3 H3 fp ak,PG (X.blk scope cl N C s3 H3 fp ak) tg g
 tst:∀cl C s3 H3 fp ak,Mp (X.blk scope cl N C s3 H3 fp ak) ifs tt
 el:∀cl C s3 H3 fp ak,PE (X.blk scope cl N C s3 H3 fp ak) elt te
theorem zfj(hc:X.aj=true)(B:iR X.env.scope scope)(P:Parts X elt tg ifs scope N g tt te)(hl:∀Z,(ZY Z).length=N.length)
  (hZ:∀(Z:St) (i:Nat) (x:Str) (v:V),N[i]?=some x->(ZY Z)[i]?=some (some v)->scope.names.lookup x=some .free/\∃j:Nat,X.N[j]?=some x/\Z[j]?=some (some v))
  {ak:List (Addr×Obj)} {s:Shared} {Z:St} {H:Hp} {Q:VK} {it:Addr} {fp:List Addr} {tn:Nat->Heap->Prop} {b_:It} (I:Inv X ak Z H s) (T:Turn X.prog X.w X.K tg b_ fp it tn) (st:tn 0 s.heap) (f:∀b∈fp,iw X ak H b) (h:HY ZY g tt te b_ Z H Q)
  {cl:List (Str×Addr)} (c1:∀x c,cl.lookup x=some c->X.env.cells.lookup x=some c) (c2:∀x∈scope.names,x.2=.free->∃c,cl.lookup x.1=some c) {R:Value->Addr->Result->Shared->Prop} {E:Value->Shared->Prop}
  (k:∀D C s' H',Inv X ak Z H' s'->X.s₀.heap.objs.size<=C->H' C=none->C≠X.env.locals->(∀x c,X.env.cells.lookup x=some c->c≠C)->(∀p∈X.pn++ak,p.1≠C)->(∃m,s'.heap.Ns C m)->Q (.ref D) H'->R (.ref D) C (.ok .next) s') :
  wpAny (model X.prog X.w) X.A (newList []) (λacc s₃=>wpAny (model X.prog X.w) X.A (newFunctionEnv scope X.env.globals cl [] X.env.qual none .none (some X.env)) (λcenv s₄=>
   codeAny (model X.prog X.w) X.A (.compStart (.ListComp elt [⟨tg,iter,ifs,0⟩] scope pos) 0 (.ref it) acc {cenv with scope:=relabel scope X.env}) (R acc cenv.locals) s₄) E s₃) E s:=by
 refine nZ ?_;have hD:H s.heap.objs.size=none:=I.hok.fresh (bV _);have I3:Inv X ak Z (upd H s.heap.objs.size (.lst [])) {s with heap:=s.heap.push {cls:=.type "list",dict:=none,data:=.seq ([]:List Value).toArray}}:=
  I.laid (t':=s.toks) (λb u q=>bU _ q) (bV _) ⟨oJ _,[],0,.nil,gF _ rfl⟩
 have f3:∀b∈fp,iw X ak (upd H s.heap.objs.size (.lst [])) b:=λb hb=>by
  obtain⟨a1,a2⟩:=f b hb;obtain⟨o,q,_⟩:=T.obj 0 _ st b hb;exact⟨by rw[dj (cR (bM q))];exact a1,a2⟩
 have st3:tn 0 (s.heap.push {cls:=.type "list",dict:=none,data:=.seq ([]:List Value).toArray}):=T.keep _ _ _ st λb hb o q=>bU _ q;obtain⟨W,⟨m0,w0⟩,turn⟩:=h s.heap.objs.size hD;generalize QV:({s with heap:=s.heap.push {cls:=.type "list",dict:=none,data:=.seq ([]:List Value).toArray}}:Shared)=s3 at *;have Bp:tn 0 s3.heap:=by rw[<-QV];exact st3
 generalize hH3:upd H s.heap.objs.size (.lst [])=H3 at *;refine zfN (λx c q=>by obtain⟨v,o,q1,_⟩:=I3.cell x c (c1 x c q);exact bM q1) (λx y c a b=>I3.ok.inj x y c (c1 x c a) (c1 y c b)) λh1 jy hn kp CN=>?_;have QW:Inv (X.blk scope jy N s3.heap.objs.size s3 H3 fp ak) [] (ZY Z) H3 {s3 with heap:=h1}:=
  zjG (t:=s3.toks) I3 B c1 c2 f3 (λb hb=>let ⟨o,q,_⟩:=T.obj 0 _ Bp b hb;⟨o,q⟩) hn kp CN (hl Z) (hZ Z)
 have X6:tn 0 h1:=T.keep _ _ _ Bp λb hb o q=>kp b o q;have fY:∀{H':Hp},(∀b∈fp,H' b=none)->∀b∈fp,iw (X.blk scope jy N s3.heap.objs.size s3 H3 fp ak) [] H' b:=λ{H'} z b hb=>by
  obtain⟨a1,a2,a3,a4,a5,a6⟩:=f3 b hb;obtain⟨o,q,_⟩:=T.obj 0 _ Bp b hb;refine⟨z b hb,cR (bM q),λy=>(cH.mp (I3.lX b y)).elim a2 a3,.inl hb,λx c y=>?_,λp hp=>a6 p ?_⟩
  ·rcases CN.d1 x c y with ⟨q1,_⟩|⟨_,q1,_⟩
   ·exact a5 x c (c1 x c q1)
   ·exact λe=>absurd (bM q) (by rw[<-e];exact Gv.mpr (yJ q1))
  have y:p∈(X.pn++ak)++[]:=hp;simpa using y
 have loop:codeAny (model X.prog X.w) X.A (.compLoop (.ListComp elt [⟨tg,iter,ifs,0⟩] scope pos) 0 (.ref it) (.ref s.heap.objs.size) (compEnvC scope jy s3.heap.objs.size X.env)) (R (.ref s.heap.objs.size) s3.heap.objs.size) {s3 with heap:=h1}:=by
  refine zfq (λn s'=>∃i Z' H',Inv (X.blk scope jy N s3.heap.objs.size s3 H3 fp ak) [] Z' H' s'/\tn i s'.heap/\(∀b∈fp,H' b=none)/\W i n Z' H') ?_ m0 ⟨0,ZY Z,H3,QW,X6,λb hb=>(f3 b hb).1,w0⟩;rintro n s5 ⟨i,Z5,H5,H_,Er,LQ,w5⟩;rcases turn i n Z5 H5 w5 with ⟨stop,q⟩|⟨go,Nx,hN,step⟩
  ·refine aX (T.done (X.blk scope jy N s3.heap.objs.size s3 H3 fp ak) rfl rfl rfl hc i [] s5 Z5 H5 _ H_ (fY LQ) Er stop) λr s6 ⟨hr,iB⟩=>?_;subst hr;have JX:=zdF I3 f3 iB;refine k s.heap.objs.size s3.heap.objs.size s6 H5 JX I3.sz iB.free (vp I3.lt) (λx c y z=>?_) (λp hp z=>?_) ?_ q
   ·obtain⟨v,qc⟩:=I3.cell x c y;exact absurd qc.lt (by rw[z];exact m5 _)
   ·exact absurd (bM (I3.pin p hp).1) (by rw[z];exact m5 _)
   ·obtain⟨m,hm,_⟩:=iB.loc;exact⟨m,hm⟩
  ·refine aX (T.item (X.blk scope jy N s3.heap.objs.size s3 H3 fp ak) rfl rfl rfl hc i [] s5 Z5 H5 _ H_ (fY LQ) Er go) λr s6 hx=>wF hx λu hr h6=>?_;subst hr;refine aX h6 λ_ s7 ⟨x,H7,mz,r7,y7,QX,fr7⟩=>?_;have Ia:=mz.pinned (fY fr7) (T.obj _ _ QX);refine aX (P.tgt jy s3.heap.objs.size s3 H3 fp ak _ s7 Z5 H7 x u _ Ia r7 (step x H7 y7)) λ_ s8 ⟨Z8,H8,QZ,q8⟩=>?_;refine aX (P.tst jy s3.heap.objs.size s3 H3 fp ak _ s8 Z8 H8 _ QZ q8) λok s9 hx=>wF hx λH9 Ib q9=>?_;have again:∀{H':Hp} {s':Shared},Inv (X.blk scope jy N s3.heap.objs.size s3 H3 fp ak) ([]++jN fp s7.heap) Z8 H' s'->Nx Z8 H'->∃m,m<n/\∃i Z' H',Inv (X.blk scope jy N s3.heap.objs.size s3 H3 fp ak) [] Z' H' s'/\tn i s'.heap/\(∀b∈fp,H' b=none)/\W i m Z' H':=λ{H' s'} tU n'=>by
    obtain⟨m',hm,w'⟩:=hN Z8 H' n';refine⟨m',hm,i+1,Z8,H',tU.gO,T.keep _ _ _ QX λb hb o e=>(tU.pin (b,o) (oF _ (oF _ (LC hb e)))).1,λb hb=>?_,w'⟩;obtain⟨o,e,d⟩:=T.obj _ _ QX b hb;exact(tU.pin (b,o) (oF _ (oF _ (LC hb e)))).2.1
   cases ok with
   |false=>
    rw[if_neg UJ] at q9 ⊢;exact again Ib q9
   |true=>
    rw[if_pos rfl] at q9 ⊢;refine aX (P.el jy s3.heap.objs.size s3 H3 fp ak _ s9 Z8 H9 _ Ib q9) λv s10 ⟨y,H10,Ie,r10,ys,Q0,hz,q10⟩=>?_;refine aX (zgo (X:=(X.blk scope jy N s3.heap.objs.size s3 H3 fp ak)) _ s10 Z8 H10 (.ref s.heap.objs.size) [y] (.ref s.heap.objs.size) [v] (λ_ H'=>Nx Z8 H') Ie rfl (.cons r10 .nil) ⟨s.heap.objs.size,ys,y,rfl,rfl,Q0,hz,q10⟩) λ_ s11 hx=>cY hx λ_ H11 Ig _ q11=>again Ig q11
 exact codeAny_compStart_list loop (T.self _ 0 _ _ _ X6 loop)
end
noncomputable def zc(wi:TI)(ZY:St->St)(g:TG)(tt:TT)(te:TE):TE:=λZ H Q=>wi Z H λb_ H1=>HY ZY g tt te b_ Z H1 Q
section
variable {X:Cx}{elt tg iter:Expr}{ifs:List Expr}{scope:Scope}{pos spos py:Pos}{N:List Str}{ZY:St->St}{wi:TI}{g:TG}{tt:TT}{te:TE}{i:Nat}{y:Str}
theorem zi3(I:Inv X ak Z H s)(B:iR X.env.scope scope):∃cl,closureFor scope X.env=pure cl/\(∀x c,cl.lookup x=some c->X.env.cells.lookup x=some c)/\∀x∈scope.names,x.2=.free->∃c,cl.lookup x.1=some c:=
 ze1 λx hx hf=>I.ok.has x.1 (B.free x hx hf)
theorem zi1(hc:X.aj=true)(B:iR X.env.scope scope)(hi:PI X tg iter wi)(P:Parts X elt tg ifs scope N g tt te)(hl:∀Z,(ZY Z).length=N.length)
  (hZ:∀(Z:St) (i:Nat) (x:Str) (v:V),N[i]?=some x->(ZY Z)[i]?=some (some v)->scope.names.lookup x=some .free/\∃j:Nat,X.N[j]?=some x/\Z[j]?=some (some v))
  (hs:∀x,foldedSetIterable iter X.env x=pure x:=by intro _;rfl):PE X (.ListComp elt [⟨tg,iter,ifs,0⟩] scope pos) (zc wi ZY g tt te):=by
 intro ak s Z H Q I h;obtain⟨cl,jT,c1,c2⟩:=zi3 I B;rw[eval_ListComp];refine wpAny_comprehension_free (use:=none) rfl hs jT B.kind B.loc (aX (hi ak s Z H _ I h) λxv s1 h1=>aX h1 λitv s2 h2=>?_);obtain⟨it,fp,tn,b_,H2,e,I2,T,st2,f2,hq⟩:=h2;subst e;exact zfj hc B P hl hZ I2 T st2 f2 hq c1 c2 (R:=λacc C=>compPost (model X.prog X.w) X.A X.xe none (EP X ak Z Q) acc C) λD C s' H' tU a b c d e ⟨m,hm⟩ q=>⟨m,hm,λh' sb=>⟨.ref D,H',zc7 (Z':=Z) tU a b c d e sb,rfl,q⟩⟩
end
end L2
namespace L2
open PySem PySem.Spec PyProof.Rows PySem.W
noncomputable def bD{α:Type}(lt:Nat->Nat->Option Bool):KasT α->Option α
 |.ret a=>some a
 |.ask i j k=>match lt i j with
  |some b=>bD lt (k b)
  |none=>none
theorem X7{α:Type}{lt:Nat->Nat->Option Bool}{cmp:Nat->Nat->(Bool->Shared->Prop)->Shared->Prop}{Q:α->Shared->Prop}{s:Shared}(hc:∀i j b C,lt i j=some b->C b s->cmp i j C s){a:α}(q:Q a s):∀{t:KasT α},bD lt t=some a->t.kasWp cmp Q s
 |.ret a',h=>by
  unfold bD at h;cases h;exact q
 |.ask i j k,h=>by
  unfold bD at h;cases e:lt i j with
  |none=>rw[e] at h;cases h
  |some b=>
   rw[e] at h;exact hc i j b _ e (X7 hc q h)
noncomputable def fP(vs:List Value)(p:Array Nat):Array Value:=if vs.length<2 then vs.toArray else List.toArray (p.toList.map λi=>vs.getD i Value.none)
section
variable {prog:Program}{w:World}{A:Around}{E:Value->Shared->Prop}{s:Shared}{κ:SortKind}{lt:Nat->Nat->Option Bool}{p:Array Nat}
theorem X8{a:Addr}{vs:List Value}{n:Nat}{P:PySem.Fin->Shared->Prop}(ho:s.heap.get? a=some (seqObj "list" vs.toArray n))(xr:vs.length<64)
  (hk:2<=vs.length->∀(s':Shared) (Q:SortKind->Shared->Prop),(∀b o,b≠a->s.heap.get? b=some o->s'.heap.get? b=some o)->Q κ s'->wpAny (model prog w) A (keyKind' vs.toArray) Q E s')
  (hlt:2<=vs.length->∀(s':Shared) i j b C,(∀b o,b≠a->s.heap.get? b=some o->s'.heap.get? b=some o)->lt i j=some b->C b s'->kas_ask prog w A κ vs i j C s') (hr:2<=vs.length->bD lt (kas_sort vs.length)=some p) (Ih:2<=vs.length->p.size=vs.length)
  (h:P (.done (.ret .none)) {s with heap:=sortedHeap s.heap a vs (fP vs p)}) :
  wpAny (model prog w) A (Builtin.«list.sort» ⟨[.ref a],[]⟩) P E s:=by
 rw[list_sort_plain];have ha:a<s.heap.objs.size:=bM ho;refine au (listItems_at ho rfl ?_);refine au (listUpdate_at ho rfl ?_ (by rw[dh,oK];lia) (oJ _));obtain⟨e1,Ey⟩ : ∃e1,(s.heap.update a (Obj.mapSeq λ_=>#[])).get? a=some (seqObj "list" #[] e1):=⟨_,get?_update_seq ho (λ_=>#[])⟩;refine au (seqEpoch_at Ey rfl ?_);refine au (wpAny_newTuple ?_ (by show vs.length<=_;rw[oK];lia));refine au (wpAny_newList ?_ (oJ _));refine jw ?_;have keep:∀b o,b≠a->s.heap.get? b=some o->(((s.heap.update a (Obj.mapSeq λ_=>(#[]:Array Value))).push (seqObj "tuple" vs.toArray 0)).push (seqObj "list" #[] 0)).get? b=some o:=λb o nb e=>
  bU _ (bU _ ((KY _ _ _ _ nb).trans e))
 have Mq:(((s.heap.update a (Obj.mapSeq λ_=>(#[]:Array Value))).push (seqObj "tuple" vs.toArray 0)).push (seqObj "list" #[] 0)).get? a=some (seqObj "list" #[] e1):=by
  rw[K3 _ _ _ (by rw[size_push',Heap.size_update];exact cR (qJ ha)),K3 _ _ _ (by rw[Heap.size_update];exact cR ha)];exact Ey
 show wpAny (model prog w) A _ P E {s with heap:=((s.heap.update a (Obj.mapSeq λ_=>#[])).push (seqObj "tuple" vs.toArray 0)).push (seqObj "list" #[] 0)};dsimp only;have jh:vs.toArray.size=vs.length:=by simp
 by_cases h2:vs.toArray.size<2
 ·rw[if_pos h2,if_pos h2];refine au (aJ ?_);rw[StateT.run_pure];refine au (aJ ?_);dsimp only;refine au (seqEpoch_at Mq rfl ?_);refine au (listUpdate_at Mq rfl ?_ (oJ _) (by rw[Array.size_map];show (pairsOf vs).size<=_;rw[pairsOf_size,oK];lia));simp only[DR,jd,iQ];have e:((vs.toArray.zip vs.toArray).map (·.2))=fP vs p:=by
   unfold fP;rw[if_pos (by rw[jh] at h2;exact h2)];apply Array.toList_inj.mp;simp[List.map_snd_zip]
  refine aJ ?_;have h':=h;rw[<-e] at h';exact h'
 ·rw[if_neg h2,if_neg h2];have h2':2<=vs.length:=by lia
  refine au (hk h2' _ _ keep ?_);refine au (jf (kat_run (κ:=κ) (ks:=vs) (vs:=vs) (G:=λp' s'=>p'=p/\s'={s with heap:=((s.heap.update a (Obj.mapSeq λ_=>#[])).push (seqObj "tuple" vs.toArray 0)).push (seqObj "list" #[] 0)})
   (Q:=λst' s'=>arrOf st'=p.map (kas_item (vs.toArray.zip vs.toArray))/\failedOf st'=none/\s'={s with heap:=((s.heap.update a (Obj.mapSeq λ_=>#[])).push (seqObj "tuple" vs.toArray 0)).push (seqObj "list" #[] 0)})
   rfl h2' xr (λp' st' s' a1 a2 a3 a4=>⟨by rw[a2,a4.1],a3,a4.2⟩) (X7 (λi j b C hl hC=>hlt h2' _ i j b C keep hl hC) ⟨rfl,rfl⟩ (hr h2'))) ?_ λ_ _ e=>e)
  rintro⟨⟨⟩,st'⟩ s' ⟨Mr,hf,rfl⟩;dsimp only;have hout:=kat_snds (ks:=vs) (vs:=vs) rfl Mr;have e:List.toArray (p.toList.map λi=>vs.getD i Value.none)=fP vs p:=by
   unfold fP;rw[if_neg gV]
  rw[hout,e];have hso:(fP vs p).size=vs.length:=by rw[<-e,dh,bZ,Ac,Ih h2']
  refine au (seqEpoch_at Mq rfl ?_);refine au (listUpdate_at Mq rfl ?_ (oJ _) (by rw[hso,oK];lia));rw[hf];simp only[DR,jd,iQ];exact aJ h
theorem Q5(hl:s.heap.IsList l vs.toArray)(xr:vs.length<64)
  (hk:2<=vs.length->∀(s':Shared) (Q:SortKind->Shared->Prop) E,(∀b o,s.heap.get? b=some o->s'.heap.get? b=some o)->Q κ s'->wpAny (model prog w) A.in1.in1 (keyKind' vs.toArray) Q E s')
  (hlt:2<=vs.length->∀(s':Shared) i j b C,(∀b o,s.heap.get? b=some o->s'.heap.get? b=some o)->lt i j=some b->C b s'->kas_ask prog w A.in1.in1 κ vs i j C s') (hr:2<=vs.length->bD lt (kas_sort vs.length)=some p) (Ih:2<=vs.length->p.size=vs.length)
  (h:Q (.ref (s.heap.objs.size+1)) {s with heap:=sortedAll s.heap vs (fP vs p)}) :
  wpAny (model prog w) A (call (.builtin "sorted") [.ref l]) Q E s:=by
 refine Calls.call_function_entry kind_sorted plain_sorted entry_sorted (args_sorted1 _) ?_;unfold Builtin.«sorted»;refine au (m:=checkCount "sorted" 1 1 _) (aJ ?_);refine au (collect_list hl ?_ (by rw[oK];lia));refine au (wpAny_newList ?_ (by rw[oK];lia));have jh:((s.heap.push (seqObj "list" #[] 0)).update s.heap.objs.size (Obj.mapSeq (·++vs.toArray))).objs.size=s.heap.objs.size+1:=by
  rw[Heap.size_update,size_push']
 have yU:(((s.heap.push (seqObj "list" #[] 0)).update s.heap.objs.size (Obj.mapSeq (·++vs.toArray))).push (seqObj "list" vs.toArray 0)).get? (s.heap.objs.size+1)=some (seqObj "list" vs.toArray 0):=by
  rw[<-jh];exact gF _ rfl
 have keep:∀b o,s.heap.get? b=some o->(((s.heap.push (seqObj "list" #[] 0)).update s.heap.objs.size (Obj.mapSeq (·++vs.toArray))).push (seqObj "list" vs.toArray 0)).get? b=some o:=λb o q=>by
  have hlt:b<s.heap.objs.size:=bM q;rw[K3 _ _ _ (by rw[jh];exact cR (qJ hlt)),KY _ _ _ _ (cR hlt),K3 _ _ _ (cR hlt)];exact q
 show wpAny _ _ _ _ _ {s with heap:=((s.heap.push (seqObj "list" #[] 0)).update s.heap.objs.size (Obj.mapSeq (·++vs.toArray))).push (seqObj "list" vs.toArray 0)};rw[jh];have nn:∀b o,s.heap.get? b=some o->b≠s.heap.objs.size+1:=λb o e=>cR (qJ (bM e));refine au (jw (rJ slot_list_sort ⟨_,yU,rfl⟩ entry_list_sort (X8 (κ:=κ) (lt:=lt) (p:=p) yU xr (λh2 s' Q' k q=>hk h2 s' Q' _ (λb o e=>k b o (nn b o e) (keep b o e)) q) (λh2 s' i j b C k e q=>hlt h2 s' i j b C (λb o e=>k b o (nn b o e) (keep b o e)) e q) hr Ih ⟨_,rfl,?_⟩) (args_list_sort _)));exact aJ ⟨_,rfl,h⟩
end
noncomputable def ji:List V->List V->Option Bool
 |[],ys=>some (decide (0<ys.length))
 |_::_,[]=>some false
 |.int x::xs,.int y::ys=>if x=y then ji xs ys else some (decide (x<y))
 |_::_,_::_=>none
theorem X_{prog:Program}{w:World}{A:Around}{s:Shared}{fin:Bool}{C:Bool->Shared->Prop}{b:Bool}:∀{us ws:List V} {its jts:List Value} {i:Nat},Vals us its->Vals ws jts->ji us ws=some b->fin=decide (us.length<ws.length)->C b s->KatLex prog w A true fin C (its.zip jts) i s:=by
 intro us ws its jts i r1
 induction r1 generalizing ws jts i with
 |nil=>
  intro _ h hf hc;rw[List.zip_nil_left];unfold ji at h;cases h;rw[hf];exact kat_nil hc
 |@cons x u us its rx ri ih=>
  intro r2 h hf hc;cases r2 with
  |nil=>
   rw[List.zip_nil_right];unfold ji at h;cases h;rw[hf];exact kat_nil (by simpa using hc)
  |@cons y v ws jts ry rj=>
   rw[DN];cases x with
   |int a=>
    cases y with
    |int c=>
     obtain⟨t,rfl⟩:=rx;obtain⟨t',rfl⟩:=ry;unfold ji at h;refine kat_cons (wpAny_eqBool_int ?_);by_cases e:a=c
     ·rw[if_pos e] at h;subst e;rw[yH];exact kat_yes (ih rj h (by rw[hf];simp) hc)
     ·rw[if_neg e] at h;cases h;rw[show (a==c)=false by simpa using e];refine kat_no ?_;by_cases hi:i=0
      ·subst hi;exact oneLt_int hc
      ·rw[show (true&&i==0)=false by simpa using hi];exact kat_one _ _ (wpAny_lt_int hc)
    |_=>cases h
   |_=>cases y<;>cases h
def tV(K:W.Frag)(H:Hp)(ys:List V)(lt:Nat->Nat->Option Bool):Prop:=
 ((∀v∈ys,∃i,v=V.int i)/\∀i j b,lt i j=some b->∃x y,ys[i]?=some (.int x)/\ys[j]?=some (.int y)/\b=decide (x<y)) \/
 ((∀v∈ys,∃a i r,v=.ref a/\fL K H a (.int i::r))/\∀i j b,lt i j=some b->∃a c us ws,ys[i]?=some (.ref a)/\ys[j]?=some (.ref c)/\fL K H a us/\fL K H c ws/\ji us ws=some b)
noncomputable def lu(ys:List V)(p:Array Nat):List V:=if ys.length<2 then ys else p.toList.map λi=>ys.getD i .non
theorem Q6(r:Vals ys its):∀l:List Nat,Vals (l.map λi=>ys.getD i .non) (l.map λi=>its.getD i Value.none)
 |[]=>.nil
 |i::l=>by
  refine .cons ?_ (Q6 r l);cases e:ys[i]? with
  |some y=>
   obtain⟨u,e1,e2⟩:=r.get e;show RelV (ys.getD i .non) (its.getD i Value.none);rw[kY,kY,e,e1];exact e2
  |none=>
   have e1:its[i]?=none:=by rw[pR] at e ⊢;rw[<-r.length];exact e
   show RelV (ys.getD i .non) (its.getD i Value.none);rw[kY,kY,e,e1];rfl
theorem zgY{ys:List V}{its:List Value}(r:Vals ys its)(p:Array Nat):Vals (lu ys p) (fP its p).toList:=by
 unfold lu fP;rw[r.length];by_cases h:its.length<2
 ·rw[if_pos h,if_pos h];exact r
 ·rw[if_neg h,if_neg h];exact Q6 r p.toList
theorem zgT{ys:List V}{its:List Value}(r:Vals ys its):∀u∈its,∃v∈ys,RelV v u:=by
 induction r with
 |nil=>intro u hu;cases hu
 |cons h t ih=>
  intro u hu;rcases cH.mp hu with rfl|hu
  ·exact⟨_,dO,h⟩
  ·obtain⟨v,a,b⟩:=ih u hu;exact⟨v,dN _ a,b⟩
section
variable {X:Cx}
theorem zgk{prog:Program}{w:World}{A:Around}{E:Value->Shared->Prop}{s:Shared}{its:List Value}{Q:SortKind->Shared->Prop}(h2:2<=its.length)(hi:∀u∈its,∃i t,u=Value.int i t)(q:Q oneType' s):wpAny (model prog w) A (keyKind' its.toArray) Q E s:=
 kas_kind (T:=.type "int") h2 (λv hv=>by obtain⟨i,t,rfl⟩:=hi v hv;exact .of_pure rfl) UJ UJ q
theorem zjO{K:W.Frag}{ak:List (Addr×Obj)}{s:Shared}{Z:St}{H:Hp}(I:Inv X ak Z H s){h':Heap}(k:∀b o,s.heap.get? b=some o->h'.get? b=some o):∀{ys:List V} {its:List Value},Vals ys its->(∀v∈ys,∃a i r,v=.ref a/\fL X.K H a (.int i::r))->∃fs:List Value,fs.length=its.length/\(∀f∈fs,∃i t,f=Value.int i t)/\KatTups h' its fs:=by
 intro ys its r0
 induction r0 with
 |nil=>exact λ_=>⟨[],rfl,(λf hf=>by cases hf),trivial⟩
 |@cons v u ys its r rs ih=>
  intro h;obtain⟨a,i,r',rfl,hq⟩:=h _ dO;obtain⟨fs,l,hf,kt⟩:=ih λv hv=>h v (dN _ hv);obtain⟨its',rv,⟨o,ho,hc,n,hd⟩,_⟩:=I.tuple hq;cases (show u=Value.ref a from r);cases rv with
  |cons ri rr=>
   obtain⟨t,rfl⟩:=ri;refine⟨Value.int i t::fs,by simp[l],λf hf'=>?_,KatTups.cons (k _ _ ho) hc hd Zaa kt⟩;rcases cH.mp hf' with rfl|z
   ·exact⟨i,t,rfl⟩
   ·exact hf f z
theorem Yb{prog:Program}{w:World}{A:Around}{E:Value->Shared->Prop}{s:Shared}{its fs:List Value}{Q:SortKind->Shared->Prop}(h2:2<=its.length)(hl:fs.length=its.length)(hi:∀u∈fs,∃i t,u=Value.int i t)(kt:KatTups s.heap its fs)(q:Q (tuples' true) s):wpAny (model prog w) A (keyKind' its.toArray) Q E s:=
 kat_kind (T:=.type "int") kt gV (λv hv=>by obtain⟨i,t,rfl⟩:=hi v hv;exact .of_pure rfl) UJ q
theorem Bq{its:List Value}{i:Nat}{u:Value}(h:its[i]?=some u):its.getD i Value.none=u:=by rw[kY,h];rfl
theorem zdB:cN X (.builtin "sorted") (λxs H Q=>∃l ys lt p,xs=[.ref l]/\dw X.K H l ys/\ys.length<64/\(2<=ys.length->tV X.K H ys lt/\bD lt (kas_sort ys.length)=some p/\p.size=ys.length)/\∀r,H r=none->Q (.ref r) (upd H r (.lst (lu ys p)))):=by
 intro ak s Z H xs us Q I r h;obtain⟨l,ys,lt,p,rfl,hq,xr,hs,q⟩:=h;obtain⟨u,rfl,rx⟩:=vals1 r;cases rx;obtain⟨its,rv,pl,hz⟩:=I.list hq;have hlen:=rv.length;have fin:EP X ak Z Q (.ref (s.heap.objs.size+1)) {s with heap:=sortedAll s.heap its (fP its p)}:=by
  obtain⟨e,he⟩:=sortedAll_at s.heap its (fP its p);have hn:H (s.heap.objs.size+1)=none:=I.hok.fresh (Nat.le_succ _);refine⟨.ref (s.heap.objs.size+1),_,I.laid (t':=s.toks) (λb u q=>sortedAll_old q) (Nat.le_succ _) (show aO X.prog X.w _ _ _ (.lst (lu ys p)) from ⟨?_,(fP its p).toList,e,zgY rv p,by rw[Array.toArray_toList];exact he⟩),rfl,q _ hn⟩;unfold lu;by_cases h2:ys.length<2
  ·rw[if_pos h2];exact hz
  ·rw[if_neg h2,bZ,Ac,(hs gV).2.2];exact hz
 by_cases h2:2<=ys.length
 ·obtain⟨hS,hr,hp⟩:=hs h2;rcases hS with ⟨hI,hlt⟩|⟨hT,hlt⟩
  ·refine Q5 (κ:=oneType') (lt:=lt) (p:=p) pl.isList gV (λh2' s' Q' E' k q'=>zgk h2' (λu hu=>?_) q') (λ_ s' i j b C k e hC=>?_) (λ_=>by rw[<-hlen];exact hr) (λ_=>by lia) fin
   ·obtain⟨v,hv,rr⟩:=zgT rv u hu;obtain⟨i,rfl⟩:=hI v hv;obtain⟨t,rfl⟩:=rr;exact⟨i,t,rfl⟩
   ·obtain⟨x,y,e1,e2,rfl⟩:=hlt i j b e;obtain⟨u1,f1,g1⟩:=rv.get e1;obtain⟨u2,f2,g2⟩:=rv.get e2;obtain⟨t1,rfl⟩:=g1;obtain⟨t2,rfl⟩:=g2;show wpAny _ _ (keyLt' oneType' (its.getD i Value.none) (its.getD j Value.none)) C _ s';rw[Bq f1,Bq f2];exact kat_lt_int hC
  ·refine Q5 (κ:=tuples' true) (lt:=lt) (p:=p) pl.isList gV (λh2' s' Q' E' k q'=>?_) (λ_ s' i j b C k e hC=>?_) (λ_=>by rw[<-hlen];exact hr) (λ_=>by lia) fin
   ·obtain⟨fs,l1,hf,kt⟩:=zjO (K:=X.K) I k rv hT;exact Yb h2' l1 hf kt q'
   ·obtain⟨a,c,us,ws,e1,e2,q1,q2,e3⟩:=hlt i j b e;obtain⟨u1,f1,g1⟩:=rv.get e1;obtain⟨u2,f2,g2⟩:=rv.get e2;cases (show u1=Value.ref a from g1);cases (show u2=Value.ref c from g2);obtain⟨i1,r1,⟨o1,Ey,Yc,n1,Q7⟩,_⟩:=I.tuple q1;obtain⟨i2,r2,⟨o2,nu,p8,n2,hd2⟩,_⟩:=I.tuple q2;show wpAny _ _ (keyLt' (tuples' true) (its.getD i Value.none) (its.getD j Value.none)) C _ s';rw[Bq f1,Bq f2];refine kat_lt (k _ _ Ey) Q7 (k _ _ nu) hd2 (X_ r1 r2 e3 ?_ hC);rw[r1.length,r2.length];simp
 ·exact Q5 (κ:=oneType') (lt:=lt) (p:=p) pl.isList gV (λh2'=>absurd h2' gV) (λh2'=>absurd h2' gV) (λh2'=>absurd h2' gV) (λh2'=>absurd h2' gV) fin
end
end L2
namespace L2
open PySem PySem.Spec PyProof.Rows PySem.W PySem.Calls PySem.Builtin PySem.Builtin.ObjectAttr
theorem Yd(self:Value):∀{l:List Value},bA l=true->refuseLoop self "__setattr__" l=pure ()
 |.ref c::r,e=>by rw[refuseLoop_ref];exact Yd self (by unfold bA at e;exact e)
 |[],e=>by cases e
 |.type n::r,e=>by
  have e':(Value.type n::r)=qM:=by unfold bA at e;exact iM.mp e
  rw[e'];exact PySem.F.store_ValueError.passes self
 |.none::r,e=>by unfold bA at e;cases (iM.mp e)
 |.bool _::r,e=>by unfold bA at e;cases (iM.mp e)
 |.int _ _::r,e=>by unfold bA at e;cases (iM.mp e)
 |.str _ _::r,e=>by unfold bA at e;cases (iM.mp e)
 |.bytes _ _::r,e=>by unfold bA at e;cases (iM.mp e)
 |.float _ _::r,e=>by unfold bA at e;cases (iM.mp e)
 |.builtin _::r,e=>by unfold bA at e;cases (iM.mp e)
theorem Ye:∀{l:List Value},bA l=true->l.contains (.type "object")=true
 |.ref c::r,e=>by rw[OD,Ye (l:=r) (by unfold bA at e;exact e),Bool.or_true]
 |[],e=>by cases e
 |.type n::r,e=>by
  have e':(Value.type n::r)=qM:=by unfold bA at e;exact iM.mp e
  rw[e']
  decide
 |.none::r,e=>by unfold bA at e;cases (iM.mp e)
 |.bool _::r,e=>by unfold bA at e;cases (iM.mp e)
 |.int _ _::r,e=>by unfold bA at e;cases (iM.mp e)
 |.str _ _::r,e=>by unfold bA at e;cases (iM.mp e)
 |.bytes _ _::r,e=>by unfold bA at e;cases (iM.mp e)
 |.float _ _::r,e=>by unfold bA at e;cases (iM.mp e)
 |.builtin _::r,e=>by unfold bA at e;cases (iM.mp e)
section
variable {prog:Program}{w:World}{A:Around}{R:Result->Shared->Prop}{E:Value->Shared->Prop}{s:Shared}{K:W.Frag}{x C:Addr}{ox:Obj}{cd:ClassData}{name:Str}{v:Value}{mA:Str->Option Value}{ns:List Str}
theorem zj(hx:h.get? x=some ox)(hc:ox.cls=.ref C):Looks M h (typeOf (.ref x)) (.ref C):=by
 rw[<-hc];exact(Looks.ld hx).andThen .now
theorem Q8(X:K.In s.heap)(hx:s.heap.get? x=some ox)(hc:ox.cls=.ref C)(tW:∀c,ox.data≠.cls c)(jT:clsIn K C=some cd)(hm:bA cd.mro=true)(tX:cd.hasDict=true)(ht:findIn K (.ref C) name=some none)
  (hd:(ox.dict=none/\∀n,mA n=none)\/∃dx,ox.dict=some dx/\dx≠x/\s.heap.Ns1 dx mA) (hw:Within mA ns) (jh:ns.length<=1000)
  (hq:∀h' tk' d,h'.get? x=some {ox with dict:=some d}->d≠x->h'.Ns1 d (λy=>if y=name then some v else mA y)->((ox.dict=none/\s.heap.objs.size<=d)\/ox.dict=some d)->(∀b o,b≠x->b≠d->s.heap.get? b=some o->h'.get? b=some o)->R (.ok (.ret .none)) {s with heap:=h',toks:=tk'}) :
  codeAny (model prog w) A (.call (.builtin "object.__setattr__") ⟨[.ref x,.str name tk,v],[]⟩) R s:=by
 have SF:=PySem.F.store_object;have ne:cd.mro.isEmpty=false:=by cases q:cd.mro with|nil=>rw[q] at hm;cases hm|cons _ _=>rfl
 have I:Looks (model prog w) s.heap (typeOf (.ref x)) (.ref C):=zj hx hc;have ao:Looks (model prog w) s.heap (isInstance (.ref x) (.type "object")) true:=I.andThen (looks_mroIn X (by unfold mroIn;rw[jT,Option.bind_some,if_neg (by rw[ne];decide),Ye hm]));refine Ov SF.slot.plain SF.entry (@check_slot (model prog w) _ _ s "object.__setattr__" "object" "__setattr__" (.ref x) [.str name tk,v] [] _ SF.kind SF.split ao (SF.args (.ref x) (.str name tk) v) ?_);have Br:Looks (model prog w) s.heap (mroOf (.ref C)) cd.mro:=(looks_clsIn X jT).andThen .now;rw[osa_eq,refuse_eq];refine au (au (I.here (au (Br.here ?_))));rw[Yd _ hm];refine aJ (au (I.here (au ((Ef X ht).here (au (aJ ?_))))));obtain⟨oc,odi,oda,osl⟩:=ox;dsimp only at hc hd hq tW;subst hc;refine au (aJ (au (au (wpAny_loadPart hx (au ((looks_clsIn X jT).here ?_))))));rw[tX];rcases hd with ⟨rfl,hn⟩|⟨dx,rfl,nx,n1⟩
 ·have hfr:=(Heap.get?_some_iff.mp hx).2;have hx₁:(s.heap.push {cls:=.type "dict",data:=.dict #[]}).get? x=some ⟨.ref C,none,oda,osl⟩:=bU _ hx;have Q9:x≠s.heap.objs.size:=cR (bM hx);have key:wpAny (model prog w) A.in1 (do
    let d <-alloc {cls:=Value.type "dict",data:=Data.dict #[]}
    update x λo=>{cls:=o.cls,dict:=some d,data:=o.data,slots:=o.slots}
    dictMade (Value.ref C) x d) (λa s'=>wpAny (model prog w) A.in1 (match a with
    |some d=>storeInDict d (Value.str name tk) name v
    |none=>noDictFor (Value.ref x) (Value.ref C) name (Option.isSome (none:Option Value)))
    (λfin s'=>match fin with
     |Fin.done f=>R (Except.ok f) s'
     |Fin.again c'=>c'.quiet=true/\codeAny (model prog w) A c' R s')
    (λe s'=>R (Except.error e) s') s') (λe s'=>R (Except.error e) s') s:=by
   refine au (wpAny_alloc' ?_);refine au (wpAny_update' hx₁ ?_);refine aJ (a:=some s.heap.objs.size) ?_;have hgd:((s.heap.push {cls:=.type "dict",data:=.dict #[]}).update x λo=>{cls:=o.cls,dict:=some s.heap.objs.size,data:=o.data,slots:=o.slots}).get? s.heap.objs.size
    =some {cls:=.type "dict",data:=.dict #[]}:=
    (KY _ _ _ _ Q9.symm).trans (Heap.get?_push_at rfl rfl)
   have vH:((s.heap.push {cls:=.type "dict",data:=.dict #[]}).update x λo=>{cls:=o.cls,dict:=some s.heap.objs.size,data:=o.data,slots:=o.slots}).Ns s.heap.objs.size (λ_=>none):=
    ⟨_,#[],_,hgd,rfl,λe he=>absurd he Zaa,λ_=>rfl⟩
   show wpAny _ _ (storeInDict s.heap.objs.size (.str name tk) name v) _ _ _;unfold storeInDict newKeyGuard;refine au (aJ (au (wpAny_nsSet1 (Heap.Ns1.of_empty vH) λh' wJ hs=>?_)));obtain⟨oD,esD,epD,Q_,Ra,Rb⟩:=wJ.count (Within.cons name v Within.nil);refine au (wpAny_lookBehind Q_ (by rw[Ra];exact pastItsLine_dict (n8 Rb (by rw[je,rK,oK];lia))) ?_);refine aJ (hq h' _ s.heap.objs.size ?_ Q9.symm ?_ (.inl ⟨rfl,bV _⟩) λb ob hbx _ hb=>?_)
   ·refine(hs.2 x Q9).trans (sJ _ hx₁ ?_);cases oda<;>first|rfl|exact hfr
   ·obtain⟨o',es,ep,e1,e2,e3,eu,e4⟩:=wJ;exact⟨o',es,ep,e1,e2,e3,eu,λy=>by rw[e4 y];by_cases hy:y=name<;>simp[hy,hn]⟩
   ·exact(hs.2 b (cR (bM hb))).trans ((KY _ _ _ _ hbx).trans (bU _ hb))
  cases oda<;>first|exact key|exact absurd rfl (tW _)
 ·refine aJ (a:=some dx) ?_;show wpAny _ _ (storeInDict dx (.str name tk) name v) _ _ _;unfold storeInDict newKeyGuard;refine au (aJ (au (wpAny_nsSet1 n1 λh' wJ hs=>?_)));obtain⟨oD,esD,epD,Q_,Ra,Rb⟩:=wJ.count (Within.cons name v hw);refine au (wpAny_lookBehind Q_ (by rw[Ra];exact pastItsLine_dict (n8 Rb (by rw[je,oK];lia))) ?_);exact aJ (hq h' _ dx ((hs.2 x nx.symm).trans hx) nx wJ (.inr rfl) λb o _ nb e=>(hs.2 b nb).trans e)
theorem Ii(X:K.In s.heap)(hx:s.heap.get? x=some ox)(hc:ox.cls=.ref C)(tW:∀c,ox.data≠.cls c)(hs:findIn K (.ref C) "__setattr__"=some (some (.builtin "object.__setattr__")))(jT:clsIn K C=some cd)(hm:bA cd.mro=true)(tX:cd.hasDict=true)(ht:findIn K (.ref C) name=some none)
  (hd:(ox.dict=none/\∀n,mA n=none)\/∃dx,ox.dict=some dx/\dx≠x/\s.heap.Ns1 dx mA) (hw:Within mA ns) (jh:ns.length<=1000)
  (hq:∀h' tk' d,h'.get? x=some {ox with dict:=some d}->d≠x->h'.Ns1 d (λy=>if y=name then some v else mA y)->((ox.dict=none/\s.heap.objs.size<=d)\/ox.dict=some d)->(∀b o,b≠x->b≠d->s.heap.get? b=some o->h'.get? b=some o)->Q () {s with heap:=h',toks:=tk'}) :
  wpAny (model prog w) A (setAttr (.ref x) name v) Q E s:=by
 refine au (wpAny_mkText (au (au (au (zj hx hc _ _ _ _ (λ_ _ e=>e) (Ef X hs _ _ _ _ (λ_ _ e=>e) (jw ?_)))))));rw[PySem.F.store_object.slot.bind];refine au (aJ (au (yN (Q8 (s:={s with toks:=s.toks+1}) X hx hc tW jT hm tX ht hd hw jh λh' tk' d a1 a2 a3 a4 a5=>?_))));exact aJ (aJ (hq h' tk' d a1 a2 a3 a4 a5))
end
end L2
namespace L2
open PySem PySem.Spec PyProof.Rows PySem.W PySem.Calls
noncomputable def xu:Stmt->Option (Str×Str×Str)
 |.Assign [.Attribute (.Name a _) x _] (.Name y _) _=>some (a,x,y)
 |_=>none
theorem zi2{st:Stmt}{t:Str×Str×Str}(h:xu st=some t):∃p1 p2 p3 p4,st=.Assign [.Attribute (.Name t.1 p1) t.2.1 p2] (.Name t.2.2 p3) p4:=by
 unfold xu at h;split at h
 ·cases h;exact⟨_,_,_,_,rfl⟩
 ·cases h
noncomputable def gR(sf:Str):List Stmt->List Str->Bool
 |[],fs=>fs.isEmpty
 |st::rest,fs=>match fs with
  |[]=>false
  |f::fs=>xu st==some (sf,f,f)&&gR sf rest fs
theorem Yg{sf f:Str}{fs:List Str}{body:List Stmt}(h:gR sf body (f::fs)=true):∃p1 p2 p3 p4 rest,body=.Assign [.Attribute (.Name sf p1) f p2] (.Name f p3) p4::rest/\gR sf rest fs=true:=by
 cases body with
 |nil=>cases h
 |cons st rest=>
  have h:(xu st==some (sf,f,f)&&gR sf rest fs)=true:=h;obtain⟨h1,h2⟩:=(cG _ _).mp h;obtain⟨p1,p2,p3,p4,e⟩:=zi2 (eq_of_beq h1);exact⟨p1,p2,p3,p4,rest,by rw[e],h2⟩
noncomputable def jU:List (Str×Value)->(Str->Option Value)->Str->Option Value
 |[],m=>m
 |(f,u)::r,m=>jU r (λy=>if y=f then some u else m y)
section
variable {prog:Program}{w:World}{K:W.Frag}{C e:Addr}{cd:ClassData}{env:Env}{m:Str->Option Value}{A:Around}{E:Value->Shared->Prop}{sf:Str}
theorem Yh(hk:env.scope.kind=.function)(nG:m sf=some (.ref e))(mC:env.scope.names.lookup sf=some .local)(Ij:(sf==("__debug__" : Str))=false)(tY:findIn K (.ref C) "__setattr__"=some (some (.builtin "object.__setattr__")))(jT:clsIn K C=some cd)(hm:bA cd.mro=true)(tX:cd.hasDict=true)
  (Ik:∀b o,K.lookup b=some o->b≠e) (hL:env.locals≠e):∀(fs:List Str) (us:List Value) (body:List Stmt) (ox:Obj) (mA:Str->Option Value) (ns:List Str) (s:Shared) (Q:Flow->Shared->Prop),gR sf body fs=true->fs.length=us.length->
  (∀(i:Nat) f u,fs[i]?=some f->us[i]?=some u->m f=some u)->(∀f∈fs,env.scope.names.lookup f=some .local/\(f==("__debug__" : Str))=false/\findIn K (.ref C) f=some none)->
  K.In s.heap->s.heap.Ns env.locals m->s.heap.get? e=some ox->ox.cls=.ref C->(∀c,ox.data≠.cls c)->(∃dx,ox.dict=some dx/\dx≠e/\s.heap.Ns1 dx mA/\dx≠env.locals/\∀b o,K.lookup b=some o->b≠dx)->Within mA ns->ns.length+fs.length<=1000->
  (∀h' tk',h'.get? e=some ox->(∀dx,ox.dict=some dx->h'.Ns1 dx (jU (fs.zip us) mA))->(∀b o,b≠e->(∀dx,ox.dict=some dx->b≠dx)->s.heap.get? b=some o->h'.get? b=some o)->Q .next {s with heap:=h',toks:=tk'})->
  wpAny (model prog w) A (execs body env) Q E s
 |[],us,[],ox,mA,ns,s,Q,hb,hl,hv,hf,X,hN,he,hc,tW,⟨dx,h1,h2,h3,h4,h5⟩,hw,hz,q=>by
  cases us with
  |cons _ _=>cases hl
  |nil=>exact Ld (q s.heap s.toks he (λd hd=>by rw[h1] at hd;cases hd;exact h3) λb o _ _ e=>e)
 |[],us,st::rest,ox,mA,ns,s,Q,hb,_,_,_,_,_,_,_,_,_,_,_,_=>by
  cases hb
 |f::fs,[],body,ox,mA,ns,s,Q,hb,hl,_,_,_,_,_,_,_,_,_,_,_=>by cases hl
 |f::fs,u::us,body,ox,mA,ns,s,Q,hb,hl,hv,hf,X,hN,he,hc,tW,⟨dx,h1,h2,h3,h4,h5⟩,hw,hz,q=>by
  obtain⟨p1,p2,p3,p4,rest,rfl,zm⟩:=Yg hb;obtain⟨k1,k2,k3⟩:=hf _ dO;have hu:=hv 0 _ _ rfl rfl;refine wpAny_execs_cons ?_;refine plainObj_wpAny_Assign_Attribute ?_ rfl;refine Ak (Gg hk k1 hN hu ?_) k2;refine Ak (Gg hk mC hN nG ?_) Ij;refine Ii (ns:=ns) X he hc tW tY jT hm tX k3 (.inr ⟨dx,h1,h2,h3⟩) hw gV λh' tk' d a1 a2 a3 a4 a5=>?_;have ed:d=dx:=by
   rcases a4 with ⟨z,_⟩|z
   ·rw[h1] at z;cases z
   ·rw[h1] at z;cases z;rfl
  subst ed;have eo:({ox with dict:=some d}:Obj)=ox:=by rw[<-h1]
  rw[eo] at a1;have X':K.In h':=λb o z=>a5 b o (Ik b o z) (h5 b o z) (X b o z);have Rg:h'.Ns env.locals m:=let ⟨o,es,ep,e1,r⟩:=hN;⟨o,es,ep,a5 _ _ hL h4.symm e1,r⟩;refine Yh hk nG mC Ij tY jT hm tX Ik hL fs us rest ox _ (f::ns) {s with heap:=h',toks:=tk'} Q zm (by simpa using hl) (λi f u e1 e2=>hv (i+1) f u (by simpa using e1) (by simpa using e2)) (λf hf'=>hf f (dN _ hf')) X' Rg a1 hc tW ⟨d,h1,h2,a3,h4,h5⟩ (Within.cons f u hw) (by simp at hz ⊢;lia) λh2' tk2 b1 b2 b3=>q h2' tk2 b1 (λdx' Av=>?_) λb o nb nd e'=>b3 b o nb nd (a5 b o nb (nd d h1) e');exact b2 dx' Av
theorem zdG(hk:env.scope.kind=.function)(nG:m sf=some (.ref e))(mC:env.scope.names.lookup sf=some .local)(Ij:(sf==("__debug__" : Str))=false)(tY:findIn K (.ref C) "__setattr__"=some (some (.builtin "object.__setattr__")))(jT:clsIn K C=some cd)(hm:bA cd.mro=true)(tX:cd.hasDict=true)
  (Ik:∀b o,K.lookup b=some o->b≠e) (hL:env.locals≠e) {f:Str} {fs:List Str} {u:Value} {us:List Value} {body:List Stmt} {ox:Obj} {s:Shared} {Q:Flow->Shared->Prop} (hb:gR sf body (f::fs)=true) (hl:fs.length=us.length) (hz:fs.length<=900)
  (hv:∀(i:Nat) g v,(f::fs)[i]?=some g->(u::us)[i]?=some v->m g=some v) (hf:∀g∈f::fs,env.scope.names.lookup g=some .local/\(g==("__debug__" : Str))=false/\findIn K (.ref C) g=some none)
  (X:K.In s.heap) (hN:s.heap.Ns env.locals m) (he:s.heap.get? e=some ox) (hc:ox.cls=.ref C) (tW:∀c,ox.data≠.cls c) (hd:ox.dict=none)
  (q:∀h' tk' d,s.heap.objs.size<=d->h'.get? e=some {ox with dict:=some d}->h'.Ns1 d (jU ((f::fs).zip (u::us)) λ_=>none)->(∀b o,b≠e->b≠d->s.heap.get? b=some o->h'.get? b=some o)->Q .next {s with heap:=h',toks:=tk'}) :
  wpAny (model prog w) A (execs body env) Q E s:=by
 obtain⟨p1,p2,p3,p4,rest,rfl,zm⟩:=Yg hb;obtain⟨k1,k2,k3⟩:=hf _ dO;have hu:=hv 0 _ _ rfl rfl;refine wpAny_execs_cons ?_;refine plainObj_wpAny_Assign_Attribute ?_ rfl;refine Ak (Gg hk k1 hN hu ?_) k2;refine Ak (Gg hk mC hN nG ?_) Ij;refine Ii (ns:=[]) (mA:=λ_=>none) X he hc tW tY jT hm tX k3 (.inl ⟨hd,λ_=>rfl⟩) Within.nil (oJ _) λh' tk' d a1 a2 a3 a4 a5=>?_;have fd:s.heap.objs.size<=d:=by
  rcases a4 with ⟨_,z⟩|z
  ·exact z
  ·rw[hd] at z;cases z
 have nd:∀b o,s.heap.get? b=some o->b≠d:=λb o z=>cR (gj (bM z) fd);have X':K.In h':=λb o z=>a5 b o (Ik b o z) (nd b o (X b o z)) (X b o z);have Rg:h'.Ns env.locals m:=let ⟨o,es,ep,e1,r⟩:=hN;⟨o,es,ep,a5 _ _ hL (nd _ _ e1) e1,r⟩;have nL:d≠env.locals:=let ⟨o,es,ep,e1,r⟩:=hN;(nd _ _ e1).symm;refine Yh hk nG mC Ij tY jT hm tX Ik hL fs us rest {ox with dict:=some d} _ [f] {s with heap:=h',toks:=tk'} Q zm hl (λi g v e1 e2=>hv (i+1) g v (by simpa using e1) (by simpa using e2)) (λg hg=>hf g (dN _ hg)) X' Rg a1 hc tW ⟨d,rfl,a2,a3,nL,λb o z=>nd b o (X b o z)⟩ (Within.cons f u Within.nil) (by simp;lia) λh2 tk2 b1 b2 b3=>q h2 tk2 d fd b1 (b2 d rfl) λb o n1 n2 z=>b3 b o n1 (λdx hx=>by cases hx;exact n2) (a5 b o n1 n2 z)
end
end L2
namespace PySem
open Sem (wp)
section
variable {prog:Program}{w:World}{A:Around}{E:Value->Shared->Prop}{h:Heap}{g:Array GenState}{d:Drawn}{t:Nat}{os:OsState}
variable {nm q:Str}{C N:Addr}{bs bm bmB:List Value}{hdct:Bool}{sn:List Str}{ao:List Value}{ab:Bool}{col:Option Bool}{dd:Option Addr}{k0 k1 k2 k3 k5:Option Value}{B Bn newId nid initId inN:String}{bmN:List Value}
theorem zaE(Fn:ExcBaseFacts Bn newId inN bmN)(vG:bmB.contains (.type Bn)=true)(F:ExcBaseFacts B nid initId bmB)(T:OwnTail h bmB bm)
  (hC:h.get? C=some (excClassObj nm q C N bs bm hdct sn ao ab col dd k0 k1 k2 k3 k5 newId)) (hn:h.Ns N mN) (hi:mN "__init__"=some (.ref fI))
  (Bs:h.get? fI=some oI) (Il:oI.cls=.type "function")
  (hq:wpAny (model prog w) A (call (.ref fI) (.ref (h.objs.size+1)::rest)) (λr s'=>r=.none/\Q (.done (.ret (.ref (h.objs.size+1)))) s') E
   ⟨(h.push {cls:=.type "tuple",data:=.seq rest.toArray}).push {cls:=.ref C,data:=.fields #[.ref h.objs.size,.none,.none,.none,.bool false,.none]},g,d,t,os⟩) (hrest:rest.length<=sizeLine:=by size_fits) :
  wpAny (model prog w) A (Builtin.«type.__call__» ⟨.ref C::rest,[]⟩) Q E ⟨h,g,d,t,os⟩:=by
 repeat (first|with_reducible refine Af hC ?_|with_reducible refine wpAny_madeBy_exc hC ?_|wp_step)
 refine codeAny_call_builtin_code (KZ _ Fn.quiet) (wpAny_check_new_subU Fn vG T hC ?_);refine codeAny_exc_new_subU Fn vG F T hC ?_ hrest;show wpAny _ _ _ _ _ _;have hC₁:=bU {cls:=.ref C,data:=.fields #[.ref h.objs.size,.none,.none,.none,.bool false,.none]}
  (bU {cls:=.type "tuple",data:=.seq rest.toArray} hC)
 have Bs₁:=bU {cls:=.ref C,data:=.fields #[.ref h.objs.size,.none,.none,.none,.bool false,.none]}
  (bU {cls:=.type "tuple",data:=.seq rest.toArray} Bs)
 have hn₁:((h.push {cls:=.type "tuple",data:=.seq rest.toArray}).push {cls:=.ref C,data:=.fields #[.ref h.objs.size,.none,.none,.none,.bool false,.none]}).Ns N mN:=
  let ⟨o,es,ep,e,r⟩:=hn;⟨o,es,ep,bU _ (bU _ e),r⟩
 have qR:((h.push {cls:=.type "tuple",data:=.seq rest.toArray}).push
   {cls:=.ref C,data:=.fields #[.ref h.objs.size,.none,.none,.none,.bool false,.none]}).get? (h.objs.size+1)=some
   {cls:=.ref C,data:=.fields #[.ref h.objs.size,.none,.none,.none,.bool false,.none]}:=by heap_get
 have hcC:(Value.ref C::bm).contains (.ref C)=true:=by simp
 have T₁:=T.keeps (h':=(h.push {cls:=.type "tuple",data:=.seq rest.toArray}).push {cls:=.ref C,data:=.fields #[.ref h.objs.size,.none,.none,.none,.bool false,.none]})
  λb o e=>bU _ (bU _ e)
 unfold isInstance
 repeat (first|with_reducible refine Af qR ?_|(with_reducible refine KR hC₁ ?_;rw[hcC])|wp_step)
 show wpAny _ _ (typeLookup (.ref C) _) _ _ _;refine wpAny_typeLookup_tail hC₁ hn₁ T₁ F.mroIs F.init.lookup ?_;rw[hi];refine jw (au ?_);unfold bindSpecial;refine au (yK (T:="function") ⟨_,Bs₁,Il⟩ ?_);rw[if_pos UJ];refine aJ (au (jf hq (λr s' hr=>?_) λ_ _ x=>x));obtain⟨rfl,hQ⟩:=hr
 wp_walk
 exact hQ
theorem za4(Fn:ExcBaseFacts Bn newId inN bmN)(vG:bmB.contains (.type Bn)=true)(F:ExcBaseFacts B nid initId bmB)(T:OwnTail h bmB bm)
  (hC:h.get? C=some (excClassObj nm q C N bs bm hdct sn ao ab col dd k0 k1 k2 k3 k5 newId)) (hn:h.Ns N mN) (hi:mN "__init__"=some (.ref fI))
  (Bs:h.get? fI=some oI) (Il:oI.cls=.type "function")
  (hq:wpAny (model prog w) (A.under (.builtin "type.__call__" ⟨.ref C::rest,[]⟩)) (call (.ref fI) (.ref (h.objs.size+1)::rest)) (λr s'=>r=.none/\Q (.ref (h.objs.size+1)) s') E
   ⟨(h.push {cls:=.type "tuple",data:=.seq rest.toArray}).push {cls:=.ref C,data:=.fields #[.ref h.objs.size,.none,.none,.none,.bool false,.none]},g,d,t,os⟩) (hrest:rest.length<=sizeLine:=by size_fits) :
  wpAny (model prog w) A (call (.ref C) rest) Q E ⟨h,g,d,t,os⟩:=by
 have f1:=tc_lookup;have f2:=tc_bind (.ref C);have hT:(⟨h,g,d,t,os⟩ : Shared).TypeIs (.ref C) "type":=⟨_,hC,rfl⟩;refine yN (codeAny_of_tree ?_);show wpAny _ _ (callAny (.ref C) _) _ _ _
 repeat (any_goals (first|assumption|with_reducible refine Af hC ?_|wp_step))
 refine⟨rfl,?_⟩;refine codeAny_call_builtin_at (KZ _ Bd) entry_typeCall (wpAny_check_type_call_sub hC (zaE (hrest:=hrest) Fn vG F T hC hn hi Bs Il ?_));exact hq
end
section
variable {prog:Program}{w:World}{A:Around}{E:Value->Shared->Prop}{s:Shared}{env:Env}
variable {nm q:Str}{C N:Addr}{bs bm bmB:List Value}{hdct:Bool}{sn:List Str}{ao:List Value}{ab:Bool}{col:Option Bool}{dd:Option Addr}{k0 k1 k2 k3 k5:Option Value}{B Bn newId nid initId inN:String}{bmN:List Value}
theorem Rh(dJ:bm.contains (.type "BaseException")=true)(hh:A.handled=none)
  (h:wpAny M A x (λv s₁=>∃e t dx,v=.ref e/\s₁.heap.get? C=some (excClassObj nm q C N bs bm hdct sn ao ab col dd k0 k1 k2 k3 k5 newId) /\
   s₁.heap.get? e=some {cls:=.ref C,dict:=dx,data:=.fields #[.ref t,.none,.none,.none,.bool false,.none]}/\E (.ref e) s₁) E s) :
  wpAny M A (raiseStmt env (some x) none) Q E s:=by
 have hcB:(Value.ref C::bm).contains (.type "BaseException")=true:=by rw[OD,dJ,Bool.or_true]
 unfold raiseStmt;refine au (jf h (λv s₁ h₁=>?_) λ_ _ x=>x);obtain⟨e,t,dx,rfl,hC,he,hE⟩:=h₁;obtain⟨hp,g,d,tk,os⟩:=s₁
 repeat (first|with_reducible refine Af he ?_|with_reducible refine Af hC ?_|(with_reducible refine KR hC ?_;rw[hcB])|wp_step)
 exact wpAny_raiseNew_none hh hE
theorem zaS(Fn:ExcBaseFacts Bn newId inN bmN)(vG:bmB.contains (.type Bn)=true)(F:ExcBaseFacts B nid initId bmB){mN:Str->Option Value}{fI:Addr}{oI:Obj}{x:Str}{np cpos pos:Pos}{args:List Expr}{Q:Flow->Shared->Prop}
  (dJ:bm.contains (.type "BaseException")=true) (hh:A.handled=none) (cV:(backTo cpos (starEach args env)).any (·.1)=false) (hi:mN "__init__"=some (.ref fI)) (Il:oI.cls=.type "function")
  (h:wpAny (model prog w) A (eval (.Name x np) env) (λf s₁=>f=.ref C/\wpAny (model prog w) A (evalArgs (.ref C) true (backTo cpos (starEach args env)) [])
   (λa s₂=>a.kw=[]/\a.pos.length<=sizeLine/\s₂.heap.get? C=some (excClassObj nm q C N bs bm hdct sn ao ab col dd k0 k1 k2 k3 k5 newId)/\s₂.heap.Ns N mN/\OwnTail s₂.heap bmB bm/\s₂.heap.get? fI=some oI /\
    wpAny (model prog w) (A.under (.builtin "type.__call__" ⟨.ref C::a.pos,[]⟩)) (call (.ref fI) (.ref (s₂.heap.objs.size+1)::a.pos)) (λr s'=>r=.none/\(∃dx t0,s'.heap.get? (s₂.heap.objs.size+1)=some {cls:=.ref C,dict:=dx,data:=.fields #[.ref t0,.none,.none,.none,.bool false,.none]})/\s'.heap.get? C=some (excClassObj nm q C N bs bm hdct sn ao ab col dd k0 k1 k2 k3 k5 newId)/\E (.ref (s₂.heap.objs.size+1)) s') E
     {s₂ with heap:=(s₂.heap.push {cls:=.type "tuple",data:=.seq a.pos.toArray}).push {cls:=.ref C,data:=.fields #[.ref s₂.heap.objs.size,.none,.none,.none,.bool false,.none]}}) E s₁) E s) :
  wpAny (model prog w) A (exec (.Raise (some (.Call (.Name x np) args [] cpos)) none pos) env) Q E s:=by
 rw[arm_exec_Raise]
 first
  |refine au (vo (Rh (C:=C) (nm:=nm) (q:=q) (N:=N) (bs:=bs) (bm:=bm) (hdct:=hdct) (sn:=sn) (ao:=ao) (ab:=ab) (col:=col) (dd:=dd) (k0:=k0) (k1:=k1) (k2:=k2) (k3:=k3) (k5:=k5) (newId:=newId) dJ hh (au (jf (wpAny_Call_ofName (jf h (λf s₁ h₁=>?_) λ_ _ x=>x)) (λv s₃ h₃=>au (vo (aJ h₃))) λ_ _ x=>x))))
  |(simp only[evalOpt,Option.map];refine au (vo (Rh (C:=C) (nm:=nm) (q:=q) (N:=N) (bs:=bs) (bm:=bm) (hdct:=hdct) (sn:=sn) (ao:=ao) (ab:=ab) (col:=col) (dd:=dd) (k0:=k0) (k1:=k1) (k2:=k2) (k3:=k3) (k5:=k5) (newId:=newId) dJ hh (au (jf (wpAny_Call_ofName (jf h (λf s₁ h₁=>?_) λ_ _ x=>x)) (λv s₃ h₃=>au (vo (aJ h₃))) λ_ _ x=>x)))))
  |(refine au (vo (Rh (C:=C) (nm:=nm) (q:=q) (N:=N) (bs:=bs) (bm:=bm) (hdct:=hdct) (sn:=sn) (ao:=ao) (ab:=ab) (col:=col) (dd:=dd) (k0:=k0) (k1:=k1) (k2:=k2) (k3:=k3) (k5:=k5) (newId:=newId) dJ hh ?_));refine au (jf (wpAny_Call_ofName (jf h (λf s₁ h₁=>?_) λ_ _ x=>x)) (λv s₃ h₃=>au (vo (aJ h₃))) λ_ _ x=>x))
 obtain⟨rfl,h₁⟩:=h₁;unfold callWith;refine au (jw (jf h₁ (λa s₂ h₂=>au (vo ?_)) λ_ _ x=>x));obtain⟨apos,akw⟩:=a;obtain⟨hkw,hlen,hC,hn,T,Bs,h₂⟩:=h₂;obtain rfl:akw=[]:=hkw;obtain⟨hp,g,d,tk,os⟩:=s₂;simp only[cV];refine au (wpAny_keeperOf_exc hC ?_);refine au (za4 (hrest:=hlen) Fn vG F T hC hn hi Bs Il (jf h₂ (λr s' hr=>?_) λ_ _ x=>x));obtain⟨rfl,⟨dx,t0,ht⟩,hC',hE⟩:=hr;exact⟨rfl,au (jw (wpAny_point (aJ ⟨_,t0,dx,rfl,hC',ht,hE⟩)))⟩
end
end PySem
namespace L2
open PySem PySem.Spec PyProof.Rows PySem.W PySem.Calls
theorem Ri{α:Type}:∀{l:List (Str×α)} {f:Str} {u:α},(l.map (·.1)).Nodup->(f,u)∈l->l.lookup f=some u
 |(g,v)::r,f,u,hn,hm=>by
  rw[kh,rM] at hn;rw[mY];rcases cH.mp hm with e|hm
  ·cases e;simp
  ·have:f≠g:=λz=>hn.1 (by rw[<-z];exact gG.mpr ⟨(f,u),hm,rfl⟩);rw[show (f==g)=false by simpa using this];exact Ri hn.2 hm
theorem Yi{α:Type}{fs:List Str}{us:List α}{i:Nat}{f:Str}{u:α}(h1:fs[i]?=some f)(h2:us[i]?=some u):(f,u)∈fs.zip us:=by
 refine gD (i:=i) ?_;exact(List.getElem?_zip_eq_some (z:=(f,u))).mpr ⟨h1,h2⟩
theorem Yj{α:Type}{fs:List Str}{us:List α}(h:fs.length=us.length):(fs.zip us).map (·.1)=fs:=by
 rw[List.map_fst_zip]
 lia
theorem zeH{α:Type}{fs:List Str}{us:List α}(hn:fs.Nodup)(hl:fs.length=us.length){i:Nat}{f:Str}{u:α}(h1:fs[i]?=some f)(h2:us[i]?=some u):(fs.zip us).reverse.lookup f=some u:=by
 refine Ri ?_ (List.mem_reverse.mpr (Yi h1 h2));rw[List.map_reverse,Yj hl,List.Nodup,List.pairwise_reverse];exact List.Pairwise.imp (λh=>h.symm) hn
theorem Yk:∀{l:List (Str×Value)} {m:Str->Option Value} {f:Str},(l.map (·.1)).Nodup->jU l m f=match l.lookup f with|some u=>some u|none=>m f
 |[],m,f,_=>rfl
 |(g,v)::r,m,f,hn=>by
  rw[kh,rM] at hn;unfold jU;rw[Yk hn.2,mY];by_cases e:f=g
  ·subst e;have:r.lookup f=none:=by
    cases z:r.lookup f with
    |none=>rfl
    |some u=>
     exfalso
     apply hn.1;clear hn
     induction r with
     |nil=>cases z
     |cons p r ih=>
      rw[mY] at z;by_cases e:f=p.1
      ·rw[e];exact dO
      ·rw[show (f==p.1)=false by simpa using e] at z;exact dN _ (ih z)
   rw[this];simp
  ·rw[show (f==g)=false by simpa using e,if_neg e]
theorem zg2{fs:List Str}:∀{vs:List V} {us:List Value},Vals vs us->∀f,Aq ((fs.zip vs).lookup f) ((fs.zip us).lookup f):=by
 induction fs with
 |nil=>intro vs us _ f;exact trivial
 |cons g r ih=>
  intro vs us h f;cases h with
  |nil=>exact trivial
  |cons h t=>
   rw[DN,DN,mY,mY];by_cases e:f=g
   ·rw[show (f==g)=true by simpa using e];exact h
   ·rw[show (f==g)=false by simpa using e];exact ih t f
theorem zg9{K:Frag}{h:Heap}{C fI:Addr}(XI:K.In h)(q:jH K C fI=true) :
  ∃bm N nm qn bs hdct sn ao ab col dd k0 k1 k2 k3 k5 mN,h.get? C=some (excClassObj nm qn C N bs bm hdct sn ao ab col dd k0 k1 k2 k3 k5 "ValueError.__new__")/\h.Ns N mN/\mN "__init__"=some (.ref fI)/\OwnTail h qM bm:=by
 unfold jH at q;split at q
 ·rename_i dd cd sl lk;split at q
  ·rename_i C' bm k0 k1 k2 k3 nw k5 em es;simp only[cG,iM,K1] at q;obtain⟨⟨⟨⟨⟨rfl,rfl⟩,nD⟩,tl⟩,Ew⟩,HS⟩:=q;obtain⟨nm,bs,mro,ns,qn,hd,sn,ao,ab,col,del⟩:=cd;dsimp only at em nD Ew HS;subst em nD;have esl:sl=#[k0,k1,k2,k3,some (.builtin "ValueError.__new__"),k5]:=by
    obtain⟨ll⟩:=sl;simp only at es;rw[es]
   subst esl;have Yl:h.Ns ns (h.nsMap ns):=.of_isNs (isNs_of_in XI Ew);refine⟨bm,ns,nm,qn,bs,hd,sn,ao,ab,col,dd,k0,k1,k2,k3,k5,_,XI _ _ lk,Yl,?_,tail_of_in XI tl⟩;exact oX XI Yl HS
  ·cases q
 ·cases q
where
 oX {K:Frag} {h:Heap} {N:Addr} {x:Str} {v:Value} {m:Str->Option Value} (X:K.In h) (G:h.Ns N m) (e:nsIn K N x=some (some v)):m x=some v:=by
  obtain⟨o,es,ep,ho,hd,_,hf⟩:=G;unfold nsIn at e;split at e
  ·rename_i c d es' n' sl q;have:=X _ _ q;rw[ho] at this;cases this;cases hd;rw[<-hf x];split at e
   ·rename_i z;cases e;unfold nsFind findBy;rw[<-Array.find?_toList,z];rfl
   ·split at e<;>cases e
  ·cases e
structure jV(K:Frag)(C:Addr)(ar:Arguments)(bd:List Stmt)(sc:Scope)(fs:List Str):Prop where
 ex:∃(fI:Addr) (od:Option Addr) (kV doc pm:Value) (an:Option Addr) (cdv ct:Value) (osl:Array (Option Value)) (qual:Str) (cd:ClassData),
  K.lookup fI=some ⟨.type "function",od,.func (fnOf "__init__" qual ar bd sc .none kV doc pm an cdv ct),osl⟩/\codeIn K cdv qual=true/\jH K C fI=true/\clsIn K C=some cd/\bA cd.mro=true/\cd.hasDict=true /\
  (∀us:List Value,us.length=fs.length+1->bindArgs (fnOf "__init__" qual ar bd sc .none kV doc pm an cdv ct) ⟨us,[]⟩=pure ((("self" : Str)::fs).zip us))
 set:findIn K (.ref C) "__setattr__"=some (some (.builtin "object.__setattr__"))
 nd:("self"::fs:List Str).Nodup
 ne:fs≠[]
 few:fs.length<=900
 body:gR "self" bd fs=true
 oY:∀x∈sc.names,x.2≠.cell
 loc:∀f∈("self"::fs:List Str),sc.names.lookup f=some .local/\(f==("__debug__" : Str))=false
 fld:∀f∈fs,findIn K (.ref C) f=some none
 co:sc.isCoroutine=false
 gen:sc.isGenerator=false
 kind:sc.kind=.function
section
variable {X:Cx}{EX:XS}{C:Addr}{ar:Arguments}{bd:List Stmt}{sc:Scope}{fs:List Str}{t:TA}{x:Str}{p apos pos:Pos}{e:Expr}{es:List Expr}
noncomputable def xG(EX:XS)(C:Addr)(fs:List Str)(t:TA):TS:=λ_ Z H=>t Z H λvs H1=>vs.length=fs.length/\vs.length<=sizeLine/\∀d,H1 d=none->EX Z (.ref C) (some d) (upd H1 d (.xd (fs.zip vs)))
theorem zfA{k:Nat}(hr:bW k X.A)(hc:X.aj=true)(IO:jV X.K C ar bd sc fs)(hg:Gl X x)(hm:X.mg x=some (.ref C))
  (R:Raises X EX) (ha:PA X (e::es) t) (jP:(x==("__debug__" : Str))=false:=by decide) (he:starEach (e::es) X.env=(false,eval e X.env)::starEach es X.env:=by rfl) (bG:(backTo apos (starEach es X.env)).any (·.1)=false:=by rfl) :
  PS X (.Raise (some (.Call (.Name x p) (e::es) [] apos)) none pos) (xG EX C fs t):=by
 intro ak s Z H D I h;obtain⟨fI,od,kV,doc,pm,an,cdv,ct,osl,qual,cd,lk,lZ,hX,jT,Im,tX,tL⟩:=IO.ex;obtain⟨bm,N,nm,qn,bs,hdct,sn,ao,ab,col,dd,k0,k1,k2,k3,k5,mN,hC,hN,Bm,T⟩:=zg9 I.mod.yO hX;refine zaS (C:=C) (nm:=nm) (q:=qn) (N:=N) (bs:=bs) (bm:=bm) (hdct:=hdct) (sn:=sn) (ao:=ao) (ab:=ab) (col:=col) (dd:=dd) (k0:=k0) (k1:=k1) (k2:=k2) (k3:=k3) (k5:=k5) (bmB:=qM)
  Gb Bd Gb (mN:=mN) (fI:=fI) (T.hasType Gb.hasBase) (I.ok.hd hc) (by rw[he];show (false||(backTo apos (starEach es X.env)).any (·.1))=false;rw[bG];rfl) Bm (oI:=⟨.type "function",od,.func (fnOf "__init__" qual ar bd sc .none kV doc pm an cdv ct),osl⟩) rfl (GP I hg hm ⟨rfl,?_⟩ jP)
 have h2:=ha apos ak s Z H _ I h;rw[he] at h2 ⊢;refine Ou (aX h2 λus s2 ⟨vs,H2,I2,r,hl,z,q⟩=>⟨rfl,by rw[<-r.length];exact z,I2.bk _ _ hC,hN.keeps I2.bk,T.keeps I2.bk,I2.pY _ _ lk,?_⟩);have Ez:us.length=fs.length:=by rw[<-r.length];exact hl
 dsimp only;generalize hS:({s2 with heap:=(s2.heap.push {cls:=.type "tuple",data:=.seq us.toArray}).push {cls:=.ref C,data:=.fields #[.ref s2.heap.objs.size,.none,.none,.none,.bool false,.none]}}:Shared)=s3;have Io:s3.heap.objs.size=s2.heap.objs.size+2:=by rw[<-hS];simp[rN]
 have tZ:∀b o,s2.heap.get? b=some o->s3.heap.get? b=some o:=λb o q=>by rw[<-hS];exact bU _ (bU _ q)
 have he3:s3.heap.get? (s2.heap.objs.size+1)=some {cls:=.ref C,data:=.fields #[.ref s2.heap.objs.size,.none,.none,.none,.bool false,.none]}:=by
  rw[<-hS];have:=gF (s2.heap.push {cls:=.type "tuple",data:=.seq us.toArray}) (o:={cls:=.ref C,data:=.fields #[.ref s2.heap.objs.size,.none,.none,.none,.bool false,.none]}) rfl;rw[rN] at this;exact this
 have Rj:X.K.In s3.heap:=I2.pY.keeps tZ;have Rm:s3.heap.NoLimit:=I2.nolimit.keeps tZ;have nK:∀b o,X.K.lookup b=some o->b≠s2.heap.objs.size+1:=λb o q=>cR (qJ (bM (I2.pY b o q)));have hlen:("self"::fs:List Str).length=(Value.ref (s2.heap.objs.size+1)::us).length:=by simp[Ez]
 refine yN (codeAny_call_def (fd:=fnOf "__init__" qual ar bd sc .none kV doc pm an cdv ct) (binds:=(("self" : Str)::fs).zip (Value.ref (s2.heap.objs.size+1)::us)) (by have:=hr.dp;show X.A.depth+(Code.builtin "type.__call__" {pos:=Value.ref C::us}).weight<recursionLimit;have w:(Code.builtin "type.__call__" {pos:=Value.ref C::us}).weight<=1:=(by show (Code.builtin "type.__call__" {pos:=Value.ref C::us}).weight<=1;first|exact bV _|exact oJ _|exact Om (by kernel_rfl)|(simp[Code.weight,Code.frames,Code.isGuard,Code.isCaller]));lia) (Rj _ _ lk) rfl Rm (codeRec_of Rj lZ) rfl
  (.of_eq (tL _ (by simp[Ez]))) IO.oY (λy hy=>(IO.loc y.1 (Le hy).1).1) (λh₀ HD Rn=>?_) IO.co IO.gen IO.kind)
 obtain⟨f0,fr,rfl⟩ : ∃f0 fr,fs=f0::fr:=by
  cases hfs:fs with
  |nil=>exact absurd hfs IO.ne
  |cons a b=>exact⟨a,b,rfl⟩
 obtain⟨u0,ur,rfl⟩ : ∃u0 ur,us=u0::ur:=by
  cases hus:us with
  |nil=>rw[hus] at Ez;cases Ez
  |cons a b=>exact⟨a,b,rfl⟩
 have get:∀(i:Nat) g v,("self"::f0::fr:List Str)[i]?=some g->(Value.ref (s2.heap.objs.size+1)::u0::ur)[i]?=some v->((("self" : Str)::f0::fr).zip (Value.ref (s2.heap.objs.size+1)::u0::ur)).reverse.lookup g=some v:=λi g v e1 e2=>zeH IO.nd hlen e1 e2;refine zdG (K:=X.K) (C:=C) (cd:=cd) (sf:="self") (e:=s2.heap.objs.size+1) (m:=λx=>((("self" : Str)::f0::fr).zip (Value.ref (s2.heap.objs.size+1)::u0::ur)).reverse.lookup x) (fs:=fr) (us:=ur) (ox:={cls:=.ref C,data:=.fields #[.ref s2.heap.objs.size,.none,.none,.none,.bool false,.none]})
  IO.kind (get 0 _ _ rfl rfl) (IO.loc _ dO).1 (IO.loc _ dO).2 IO.set jT Im tX nK (vp (by show _<s3.heap.objs.size;rw[Io];lia)) IO.body (by simpa using Ez.symm) (by have:=IO.few;simp at this;lia)
  (λi g v e1 e2=>get (i+1) g v (by simpa using e1) (by simpa using e2)) (λg hg=>⟨(IO.loc g (dN _ hg)).1,(IO.loc g (dN _ hg)).2,IO.fld g hg⟩)
  (Rj.keeps Rn) HD (Rn _ _ he3) rfl (λc z=>by cases z) rfl λh' tk' d hd a1 a2 a3=>?_
 have hd3:s3.heap.objs.size<=d:=by
  refine n8 ?_ hd;by_cases z:h₀.objs.size<s3.heap.objs.size
  ·exfalso
   have e1:=HD.lt;exact absurd (Nat.lt_trans e1 z) (m5 _)
  ·exact Gn z
 have mD:∀b o,s2.heap.get? b=some o->h'.get? b=some o:=λb o q=>a3 b o (cR (qJ (bM q))) (cR (gj (bM q) (by rw[Io] at hd3;lia))) (Rn _ _ (tZ _ _ q));have hne:d≠s2.heap.objs.size+1:=by lia
 have und:H2 d=none:=I2.hok.fresh gV;refine⟨rfl,⟨some d,_,a1⟩,mD _ _ (I2.bk _ _ hC),?_⟩;have new:aO X.prog X.w (upd H2 d (.xd ((f0::fr).zip vs))) h' d (.xd ((f0::fr).zip vs)):=⟨_,a2,λf=>by
  rw[Yk (by rw[Yj Ez.symm];exact(rM.mp IO.nd).2)];have:=zg2 (fs:=f0::fr) r f
  revert this
  cases ((f0::fr).zip (u0::ur)).lookup f<;>exact id⟩
 have I3:Inv X ak Z (upd H2 d (.xd ((f0::fr).zip vs))) {s3 with heap:=h',toks:=tk'}:=by
  have:=I2.laid (t':=tk') mD gV new;rw[<-hS];exact this
 have une:upd H2 d (.xd ((f0::fr).zip vs)) (s2.heap.objs.size+1)=none:=by
  rw[dj (Ne.symm hne)];exact I2.hok.fresh (Nat.le_succ _)
 refine R ak Z _ _ s2.heap (s2.heap.objs.size+1) C (some d) I3 (λb ob z n=>I2.base.there b ob z n) (λq hq=>⟨q.2,(I2.pin q hq).1⟩) (λb ob z=>⟨ob,mD b ob z⟩) ⟨Dz (Nat.le_succ _),une,_,_,_,a1,rfl,rfl,rfl,rfl,.inl rfl⟩ (q d und)
end
section
variable {prog:Program}{w:World}{A:Around}{E:Value->Shared->Prop}{s:Shared}{K:Frag}{x C:Addr}{ox:Obj}{od:Option Obj}{name:Str}
theorem zhb{v:Value}{Q:Value->Shared->Prop}(XI:K.In s.heap)(I:InstAt s.heap x ox C od)(hb:mroIn K C (.type "BaseException")=some true)(QC:findIn K (.ref C) "__getattribute__"=some (some (.builtin "BaseException.__getattribute__")))
  (QD:findIn K (.ref C) "__getattr__"=some none) (hf:findObj K C od name=some (.value v)) (h:wpAny (model prog w) A (handedOut v) Q E {s with toks:=s.toks+1}) :
  wpAny (model prog w) A (getAttr (.ref x) name true) Q E s:=by
 obtain⟨hh,g,d,t,os⟩:=s;have L0:=I.type (M:=model prog w);have L1:=Ef (M:=model prog w) XI QC;have L2:=Ef (M:=model prog w) XI QD;have xq:(Value.builtin "BaseException.__getattribute__"==Value.builtin "object.__getattribute__")=false:=by decide +kernel
 unfold getAttr getAttrBy;refine au (wpAny_mkText (jw (au (L0.at (au (L1.at ?_))))));show wpAny _ _ (if (onTheHeap (.ref C)&&(Value.builtin "BaseException.__getattribute__"==Value.builtin "object.__getattribute__"))=true then _ else getAttrByItsOwn _ _ _ _ _ _) _ _ _;rw[xq,Ai,if_neg UJ];unfold getAttrByItsOwn hookBefore callGetattribute boundAndCalled;refine au (L2.at ?_);refine au (Ed (jw (au (Aj (F.attr_ValueError.ga.bind (.ref x)) ?_))));refine yN (XR XI I hb hf ?_);exact h
end
structure XF(K:Frag)(C:Addr)(f:Str):Prop where
 ga:findIn K (.ref C) "__getattribute__"=some (some (.builtin "BaseException.__getattribute__"))
 gn:findIn K (.ref C) "__getattr__"=some none
 mb:mroIn K C (.type "BaseException")=some true
 no:findIn K (.ref C) f=some none
 hd:hasDictIn K C=true
theorem handed{M:Model}{A:Around}{E:Value->Shared->Prop}{s:Shared}{x:V}{u:Value}{Q:Value->Shared->Prop}(r:RelV x u)(h:Q u s):wpAny M A (handedOut u) Q E s:=by
 cases x with
 |non=>cases (show u=Value.none from r);exact aJ h
 |bl b=>cases (show u=Value.bool b from r);exact aJ h
 |int i=>obtain⟨t,rfl⟩:=r;exact aJ h
 |str i=>obtain⟨t,rfl⟩:=r;exact aJ h
 |GC i=>obtain⟨t,rfl⟩:=r;exact aJ h
 |flt i=>obtain⟨t,rfl⟩:=r;exact aJ h
 |ref a=>cases (show u=Value.ref a from r);exact aJ h
 |ty n=>cases (show u=Value.type n from r);exact aJ h
theorem zeU{h:Heap}{d:Addr}{mA:Str->Option Value}(n:h.Ns1 d mA):∃o,h.get? d=some o/\∀f v,mA f=some v->lookIn f o=some (some v):=by
 obtain⟨o,es,ep,ho,hd,hk,hu,hf⟩:=n;refine⟨o,ho,λf v e=>?_⟩;unfold lookIn;rw[hd];dsimp only;have e':=(hf f).trans e;unfold nsFind findBy at e';rw[<-Array.find?_toList] at e';cases z:es.toList.find? (·.key.isStr f) with
 |none=>
  have e2:(List.find? (λx=>x.key.isStr f) es.toList).map (·.val)=some v:=e';rw[z] at e2;cases e2
 |some en=>
  have e2:(List.find? (λx=>x.key.isStr f) es.toList).map (·.val)=some v:=e';rw[z] at e2;cases e2;rfl
section
variable {X:Cx}{e:Expr}{f:Str}{pos:Pos}{ta:TE}
noncomputable def tXf(K:Frag)(ta:TE)(f:Str):TE:=λZ H Q=>ta Z H λx H1=>∃a C dx fs v,x=.ref a/\H1 a=some (iz a C (some dx))/\H1 dx=some (.xd fs)/\XF K C f/\fs.lookup f=some v/\Q v H1
theorem zm4(he:PE X e ta)(hb:attributeBase e f X.env (eval e X.env)=eval e X.env):PE X (.Attribute e f pos) (tXf X.K ta f):=by
 intro ak s Z H Q I h;refine ziK hb (aX (he ak s Z H _ I h) λu s1 ⟨x,H1,I1,rx,a,C,dx,fs,v,ex,ea,ed,c,l,q⟩=>?_);subst ex;obtain rfl:u=Value.ref a:=rx;obtain⟨⟨oe,vs,q1,c1,d1,f1⟩,_,_⟩:=(show aO X.prog X.w H1 s1.heap a (iz a C (some dx)) from I1.hok a _ ea);obtain⟨mA,n1,rl⟩:=(show aO X.prog X.w H1 s1.heap dx (.xd fs) from I1.hok dx _ ed);have rf:=rl f;rw[l] at rf;cases em:mA f with
 |none=>rw[em] at rf;exact rf.elim
 |some uv=>
  rw[em] at rf;obtain⟨od,ho,QS⟩:=zeU n1;have IA:InstAt s1.heap a oe C (some od):=⟨q1,c1,by obtain⟨_,_,_,_⟩:=oe;cases f1;rfl,by rw[d1];exact ho⟩;refine zhb I1.pY IA c.mb c.ga c.gn (findObj_own c.hd c.no rfl (QS f uv em)) (handed rf ?_);exact⟨v,H1,I1.kept (t':=s1.toks+1) λb o z=>z,rf,q⟩
end
end L2
namespace L2
open PySem PySem.Spec PyProof.Rows
section
variable {X:Cx}{ak:List (Addr×Obj)}{Z:St}{H:Hp}{s:Shared}{h':Heap}
theorem Inv.qT{t':Nat}{ch:List Addr}{a:Addr}{o:HO}(I:Inv X ak Z H s)(k:∀b u,b∉ch->s.heap.get? b=some u->h'.get? b=some u)(hf:∀b∈ch,iw X ak H b)(ha:s.heap.objs.size<=a)(new:aO X.prog X.w (upd H a o) h' a o) :
  Inv X ak Z (upd H a o) {s with heap:=h',toks:=t'}:=by
 have yS:∀b u,H b=some u->b∉ch:=λb u e z=>by rw[(hf b z).1] at e;cases e
 have hn:H a=none:=I.hok.fresh ha;have na:∀b u,H b=some u->b≠a:=λb u e z=>by rw[z,hn] at e;cases e
 have la:∀b u,s.heap.get? b=some u->b≠a:=λb u e=>cR (gj (bM e) ha);refine I.step (g':=s.gens) (d':=s.drawn) (ch:=ch) (λb hb=>?_) (λb o _ _ hc e _=>k b o hc e) (λb o _ _ hc e _=>⟨o.slots,k b o hc e⟩) (λb o' _ e n=>by rw[dj (la b o' e)];exact n)
  (λb o hc e=>⟨o,k b o hc e⟩) (λb xs e=>by rw[dj (na b _ e)];exact e) (λb o u e=>by rw[dj (na b _ e)];exact e) (λb ps e=>⟨#[],by rw[dj (na b _ e),e];simp⟩) (λm hm=>?_) (λb u e=>?_) I.bare
 ·obtain⟨f0,f1,f2,f3,f4,f5⟩:=hf b hb;exact⟨f3.imp id λz=>Dz z,f1,f4,f5⟩
 ·obtain⟨o,es,ep,ho,r⟩:=hm;exact⟨o,es,ep,k _ o (λz=>(hf _ z).2.1 rfl) ho,r⟩
 ·by_cases z:b=a
  ·subst z;rw[kZ] at e;cases e;exact new
  ·rw[dj z] at e;refine(I.hok b u e).stay (λc v hc q=>k c v ?_ q) (λc q=>by rw[dj (na c _ q)];exact q) λc _ q=>by rw[dj (na c _ q)];exact q
   rcases hc with y|y
   ·rw[y];exact yS b u e
   ·exact yS c _ y
theorem Inv.xH{t':Nat}{ch:List Addr}(I:Inv X ak Z H s)(k:∀b u,b∉ch->s.heap.get? b=some u->h'.get? b=some u)(hf:∀b∈ch,iw X ak H b):Inv X ak Z H {s with heap:=h',toks:=t'}:=by
 have yS:∀b u,H b=some u->b∉ch:=λb u e z=>by rw[(hf b z).1] at e;cases e
 refine I.step (g':=s.gens) (d':=s.drawn) (ch:=ch) (λb hb=>?_) (λb o _ _ hc e _=>k b o hc e) (λb o _ _ hc e _=>⟨o.slots,k b o hc e⟩) (λ_ _ _ _ n=>n)
  (λb o hc e=>⟨o,k b o hc e⟩) (λ_ _ e=>e) (λ_ _ _ e=>e) (λb ps e=>⟨#[],by rw[e];simp⟩) (λm hm=>?_) (λb u e=>?_) I.bare
 ·obtain⟨f0,f1,f2,f3,f4,f5⟩:=hf b hb;exact⟨f3.imp id λz=>Dz z,f1,f4,f5⟩
 ·obtain⟨o,es,ep,ho,r⟩:=hm;exact⟨o,es,ep,k _ o (λz=>(hf _ z).2.1 rfl) ho,r⟩
 ·refine(I.hok b u e).stay (λc v hc q=>k c v ?_ q) (λ_ q=>q) λ_ _ q=>q;rcases hc with y|y
  ·rw[y];exact yS b u e
  ·exact yS c _ y
end
structure oh(prog:Program)(w:World)(it src:Addr)(st:Nat->Heap->Prop)(its:Array Value):Prop where
 item:∀(A:Around) (E:Value->Shared->Prop) (s:Shared) (i:Nat) (x:Value) (Q:Value->Shared->Prop),st i s.heap->its[i]?=some x->(∀h',st (i+1) h'->Heap.SameBut it s.heap h'->Q x {s with heap:=h'})->wpAny (model prog w) A (Builtin.SmallTypes.nextOf (.ref it)) Q E s
 fin:∀(A:Around) (E:Value->Shared->Prop) (s:Shared) (i:Nat) (Q:Value->Shared->Prop),A.handled=none->st i s.heap->its[i]?=none->(∀h' e,Heap.ExtBut it s.heap h'->(∃o,h'.get? e=some o/\o.cls=.type "StopIteration")->E (.ref e) {s with heap:=h'})->wpAny (model prog w) A (Builtin.SmallTypes.nextOf (.ref it)) Q E s
 keep:∀i h h',st i h->(∀b o,b=it\/b=src->h.get? b=some o->h'.get? b=some o)->st i h'
theorem oh.list(hne:l≠it):oh prog w it l (λi h=>h.IsListIter it l i/\h.IsList l its) its where
 item:=λA E s i x Q ⟨h1,h2⟩ hx q=>wpAny_nextOf_list_item h1 h2 hx λh' a sb=>q h' ⟨a,h2.at λo e=>(sb.2 l hne).trans e⟩ sb
 fin:=λA E s i Q hh ⟨h1,h2⟩ hx q=>wpAny_nextOf_list_end hh h1 h2 hx q
 keep:=λi h h' ⟨h1,h2⟩ k=>⟨h1.at λo e=>k it o (.inl rfl) e,h2.at λo e=>k l o (.inr rfl) e⟩
theorem Ym(l:Addr):¬((Value.ref l==Value.none)=true):=λz=>by cases (show false=true from z)
theorem IsTupleIter.at'{h h':Heap}{it l:Addr}{i:Nat}(x:h.IsTupleIter it l i)(k:∀o,h.get? it=some o->h'.get? it=some o):h'.IsTupleIter it l i:=by
 obtain⟨o,e,r⟩:=x;exact⟨o,k o e,r⟩
theorem IsTuple.at'{h h':Heap}{l:Addr}{xs:Array Value}(x:h.IsTuple l xs)(k:∀o,h.get? l=some o->h'.get? l=some o):h'.IsTuple l xs:=by
 obtain⟨o,e,r⟩:=x;exact⟨o,k o e,r⟩
section
variable {prog:Program}{w:World}{A:Around}{E:Value->Shared->Prop}{s:Shared}{it l:Addr}{i:Nat}{its:Array Value}
theorem zeN{x:Value}{Q:Value->Shared->Prop}(hi:s.heap.IsTupleIter it l i)(hl:s.heap.IsTuple l its)(hx:its[i]?=some x)(q:∀h',h'.IsTupleIter it l (i+1)->Heap.SameBut it s.heap h'->Q x {s with heap:=h'}) :
  wpAny (model prog w) A (Builtin.SmallTypes.nextOf (.ref it)) Q E s:=by
 obtain⟨oi,ei,ci,di⟩:=id hi;obtain⟨ol,el,_,nl,dl⟩:=hl;unfold Builtin.SmallTypes.nextOf;refine au (yx (name:=Str.ofString "__next__") hi.typeIs KD (rJ KD hi.typeIs F.entry_tuple_iterator_next ?_ (F.args_tuple_iterator_next_1 _)));show wpAny _ A.in1 (field (.ref it) 0 >>= _) _ E s;refine au (kj ei di (x:=.ref l) rfl ?_);show wpAny _ A.in1 (if (Value.ref l==Value.none)=true then _ else _) _ E s;rw[if_neg (Ym l)];show wpAny _ A.in1 (field (.ref it) 1 >>= _) _ E s;refine au (kj ei di (x:=.int i 0) rfl ?_);show wpAny _ A.in1 (seqItems? (.ref l) >>= _) _ E s;refine au (vm el dl ?_);simp only[yF,hx];refine au (yI ei di Zaa (aJ ⟨x,rfl,aJ (q _ ⟨_,sJ _ ei (KN (wk di _)),(Obj.cls_mapFields ..).trans ci,?_⟩ (Ad ..))⟩));rw[wk di];simp[rawInt]
theorem zfy{Q:Value->Shared->Prop}(hh:A.handled=none)(hi:s.heap.IsTupleIter it l i)(hl:s.heap.IsTuple l its)(hx:its[i]?=none)(q:∀h' e,Heap.ExtBut it s.heap h'->(∃o,h'.get? e=some o/\o.cls=.type "StopIteration")->E (.ref e) {s with heap:=h'}) :
  wpAny (model prog w) A (Builtin.SmallTypes.nextOf (.ref it)) Q E s:=by
 obtain⟨oi,ei,ci,di⟩:=id hi;obtain⟨ol,el,_,nl,dl⟩:=hl;unfold Builtin.SmallTypes.nextOf;refine au (yx (name:=Str.ofString "__next__") hi.typeIs KD (rJ KD hi.typeIs F.entry_tuple_iterator_next ?_ (F.args_tuple_iterator_next_1 _)));show wpAny _ A.in1 (field (.ref it) 0 >>= _) _ E s;refine au (kj ei di (x:=.ref l) rfl ?_);show wpAny _ A.in1 (if (Value.ref l==Value.none)=true then _ else _) _ E s;rw[if_neg (Ym l)];show wpAny _ A.in1 (field (.ref it) 1 >>= _) _ E s;refine au (kj ei di (x:=.int i 0) rfl ?_);show wpAny _ A.in1 (seqItems? (.ref l) >>= _) _ E s;refine au (vm el dl ?_);simp only[yF,hx];refine au (Ek (au (yI ei di Zaa ?_)));show wpAny _ A.in1 (newExc (.type "StopIteration") [] >>= _) _ E _;refine au ?_;simp only[newExc,newTuple];refine au (nZ (au (m:=firstArgMember _ _) (Aj (a:=Value.none) (by first|rfl|(simp only[firstArgMember];rfl)) (nZ ?_ (by size_fits)))) (by size_fits));simp only[raiseNew];refine au (wpAny_handled ?_);rw[show A.in1.handled=none from hh];exact au (aJ (wpAny_throw (q _ _ (((Ad ..).extBut.push _).push _) ⟨_,gF _ rfl,rfl⟩)))
end
theorem oh.tuple{prog:Program}{w:World}{it l:Addr}{its:Array Value}(hne:l≠it):oh prog w it l (λi h=>h.IsTupleIter it l i/\h.IsTuple l its) its where
 item:=λA E s i x Q ⟨h1,h2⟩ hx q=>zeN h1 h2 hx λh' a sb=>q h' ⟨a,IsTuple.at' h2 λo e=>(sb.2 l hne).trans e⟩ sb
 fin:=λA E s i Q hh ⟨h1,h2⟩ hx q=>zfy hh h1 h2 hx q
 keep:=λi h h' ⟨h1,h2⟩ k=>⟨IsTupleIter.at' h1 λo e=>k it o (.inl rfl) e,IsTuple.at' h2 λo e=>k l o (.inr rfl) e⟩
structure mF(z TI TO i1 i2 l1 l2:Addr):Prop where
 zs:z≠TI/\z≠TO/\z≠i1/\z≠i2/\z≠l1/\z≠l2
 os:TO≠TI/\TO≠i1/\TO≠i2/\TO≠l1/\TO≠l2
 is:TI≠i1/\TI≠i2/\i1≠i2/\i1≠l1/\i1≠l2/\i2≠l1/\i2≠l2
section
variable {prog:Program}{w:World}{A:Around}{E:Value->Shared->Prop}{s:Shared}{z TI TO i1 i2 l1 l2:Addr}{st1 st2:Nat->Heap->Prop}{xs ys:Array Value}{k:Nat}{a b:Value}
theorem zgQ(N1:oh prog w i1 l1 st1 xs)(N2:oh prog w i2 l2 st2 ys)(D:mF z TI TO i1 i2 l1 l2)(hz:IsZip s.heap z TI TO .none)(Ro:IsPair s.heap TI (.ref i1) (.ref i2))(Rp:IsPair s.heap TO a b)
  (h1:st1 k s.heap) (h2:st2 k s.heap) (hx:xs[k]?=some x) (hy:ys[k]?=some y)
  (q:∀h',IsZip h' z TI TO (rawInt s.heap.objs.size)->IsPair h' TO x y->st1 (k+1) h'->st2 (k+1) h'->IsPair h' s.heap.objs.size x y->h'.objs.size=s.heap.objs.size+1->(∀c o,c≠z->c≠TO->c≠i1->c≠i2->s.heap.get? c=some o->h'.get? c=some o)->Q (some (.ref s.heap.objs.size)) {s with heap:=h'}) :
  wpAny (model prog w) A (pyNext (.ref z)) Q E s:=by
 obtain⟨⟨z1,z2,z3,z4,z5,z6⟩,⟨t1,t2,t3,t4,t5⟩,⟨j1,j2,j3,j4,j5,j6,j7⟩⟩:=D;have hT:s.TypeIs (.ref z) "zip":=⟨_,hz,rfl⟩;unfold pyNext;refine au (Ed (yx (name:=Str.ofString "__next__") hT Lf (rJ Lf hT F.entry_zip_next ?_ (F.args_zip_next_1 _))));show wpAny _ A.in1 (field (.ref z) 2 >>= _) _ _ s;refine au (kj hz rfl (x:=.bool false) rfl ?_);show wpAny _ A.in1 (field (.ref z) 3 >>= _) _ _ s;refine au (kj hz rfl (x:=.ref TI) rfl (au (vm Ro rfl ?_)));show wpAny _ A.in1 (Builtin.SmallTypes.ownedTupleIsFree (.ref z) >>= _) _ _ s;refine au ?_;unfold Builtin.SmallTypes.ownedTupleIsFree;refine au (kj hz rfl (x:=.none) rfl (aJ ?_));simp only[if_true];refine au (Ek (au (kj hz rfl (x:=.ref TO) rfl (au (DP hz Zaa λha za sa=>au ?_)))))
 replace za:IsZip ha z TI TO .ellipsis:=za
 simp only[List.zipIdx_cons,List.zipIdx_nil,Gq,Lh];refine au (au (wpAny_onRaise ?_));show wpAny _ A.in1 (Builtin.SmallTypes.nextOf (.ref i1) >>= _) _ _ _;refine au (N1.item _ _ {s with heap:=ha} k x _ (N1.keep _ _ _ h1 λc o hc e=>sa.extBut c o (by rcases hc with rfl|rfl;exact z3.symm;exact z5.symm) e) hx λhb Yn sb=>aJ ?_);have tb:IsPair hb TO a b:=sb.extBut _ _ t2 (sa.extBut _ _ z2.symm Rp);refine au (vm tb rfl (au (Ow tb λhc tc sc=>au (wpAny_letGo (aJ ?_)))))
 replace tc:IsPair hc TO x b:=tc
 refine au (au (wpAny_onRaise ?_));show wpAny _ A.in1 (Builtin.SmallTypes.nextOf (.ref i2) >>= _) _ _ _;have k2:st2 k hc:=N2.keep _ _ _ h2 λc o k_ e=>by
  rcases k_ with rfl|rfl
  ·exact sc.extBut _ _ t3.symm (sb.extBut _ _ j3.symm (sa.extBut _ _ z4.symm e))
  ·exact sc.extBut _ _ t5.symm (sb.extBut _ _ j5.symm (sa.extBut _ _ z6.symm e))
 have k1:st1 (k+1) hc:=N1.keep _ _ _ Yn λc o k_ e=>by
  rcases k_ with rfl|rfl
  ·exact sc.extBut _ _ t2.symm e
  ·exact sc.extBut _ _ t4.symm e
 refine au (N2.item _ _ {s with heap:=hc} k y _ k2 hy λhd sd2 sd=>aJ ?_);have td:IsPair hd TO x b:=sd.extBut _ _ t3 tc;refine au (vm td rfl (au (Ow td λhe te se=>au (wpAny_letGo (aJ (aJ ?_))))))
 replace te:IsPair he TO x y:=te
 refine au (vm te rfl (au (wpAny_newTuple ?_)));have size:he.objs.size=s.heap.objs.size:=by rw[se.1,sd.1,sc.1,sb.1,sa.1]
 have ze:IsZip he z TI TO .ellipsis:=se.extBut _ _ z2 (sd.extBut _ _ z4 (sc.extBut _ _ z2 (sb.extBut _ _ z3 za)));have kept:∀c o,c≠z->c≠TO->c≠i1->c≠i2->s.heap.get? c=some o->he.get? c=some o:=λc o c1 c2 c3 c4 e=>se.extBut _ _ c2 (sd.extBut _ _ c4 (sc.extBut _ _ c2 (sb.extBut _ _ c3 (sa.extBut _ _ c1 e))));have e1:st1 (k+1) he:=N1.keep _ _ _ k1 λc o k_ e=>by
  rcases k_ with rfl|rfl
  ·exact se.extBut _ _ t2.symm (sd.extBut _ _ j3 e)
  ·exact se.extBut _ _ t4.symm (sd.extBut _ _ j6.symm e)
 have e2:st2 (k+1) he:=N2.keep _ _ _ sd2 λc o k_ e=>by
  rcases k_ with rfl|rfl
  ·exact se.extBut _ _ t3.symm e
  ·exact se.extBut _ _ t5.symm e
 show wpAny _ A.in1 (Builtin.SmallTypes.ownedTupleHandOut (.ref z) (.ref he.objs.size) >>= _) _ _ _;refine au ?_;unfold Builtin.SmallTypes.ownedTupleHandOut;have zf:IsZip (he.push {cls:=.type "tuple",data:=.seq #[x,y]}) z TI TO .ellipsis:=bU _ ze;refine au (DP zf Zaa λhg zg sg=>DP zg Zaa λhh zh sh=>aJ ⟨_,rfl,aJ ?_⟩)
 replace zh:IsZip hh z TI TO (rawInt he.objs.size):=zh
 have up:∀c o,c≠z->he.get? c=some o->hh.get? c=some o:=λc o c1 e=>sh.extBut _ _ c1 (sg.extBut _ _ c1 (bU _ e));have lz:z<he.objs.size:=bM ze;have tn:IsPair hh he.objs.size x y:=sh.extBut _ _ (vp lz) (sg.extBut _ _ (vp lz) (gF _ rfl));have sz:hh.objs.size=he.objs.size+1:=by rw[sh.1,sg.1,rN]
 rw[size] at zh tn sz;show Q (some (.ref he.objs.size)) _;rw[size];exact q hh zh (up _ _ z2.symm te) (N1.keep _ _ _ e1 λc o k_ e=>up c o (by rcases k_ with rfl|rfl;exact z3.symm;exact z5.symm) e) (N2.keep _ _ _ e2 λc o k_ e=>up c o (by rcases k_ with rfl|rfl;exact z4.symm;exact z6.symm) e) tn sz λc o c1 c2 c3 c4 e=>up c o c1 (kept c o c1 c2 c3 c4 e)
theorem zi6(hn:A.handled=none)(N1:oh prog w i1 l1 st1 xs)(N2:oh prog w i2 l2 st2 ys)(D:mF z TI TO i1 i2 l1 l2)(hz:IsZip s.heap z TI TO .none)(Ro:IsPair s.heap TI (.ref i1) (.ref i2))(Rp:IsPair s.heap TO a b)
  (h1:st1 k s.heap) (h2:st2 k s.heap) (hx:xs[k]?=none\/ys[k]?=none) (q:∀h',(∀c o,c≠z->c≠TO->c≠i1->c≠i2->s.heap.get? c=some o->h'.get? c=some o)->Q none {s with heap:=h'}):wpAny (model prog w) A (pyNext (.ref z)) Q E s:=by
 obtain⟨⟨z1,z2,z3,z4,z5,z6⟩,⟨t1,t2,t3,t4,t5⟩,⟨j1,j2,j3,j4,j5,j6,j7⟩⟩:=D;have hT:s.TypeIs (.ref z) "zip":=⟨_,hz,rfl⟩;have stop:∀(h':Heap) (e:Addr),(∀c o,c≠z->c≠TO->c≠i1->c≠i2->s.heap.get? c=some o->h'.get? c=some o)->(∃o,h'.get? e=some o/\o.cls=.type "StopIteration")->
   wpAny (model prog w) A (do if <-isInstance (.ref e) (.type "StopIteration") then pure none else throw (.ref e):Sem (Option Value)) Q E {s with heap:=h'}:=λh' e kp ⟨o,ho,hc⟩=>
  au (wpAny_isInstance (T:="StopIteration") (b:=true) ⟨o,ho,hc⟩ isSubtype_stop (aJ (q h' kp)))
 unfold pyNext;refine au (Ed (yx (name:=Str.ofString "__next__") hT Lf (rJ Lf hT F.entry_zip_next ?_ (F.args_zip_next_1 _))));show wpAny _ A.in1 (field (.ref z) 2 >>= _) _ _ s;refine au (kj hz rfl (x:=.bool false) rfl ?_);show wpAny _ A.in1 (field (.ref z) 3 >>= _) _ _ s;refine au (kj hz rfl (x:=.ref TI) rfl (au (vm Ro rfl ?_)));show wpAny _ A.in1 (Builtin.SmallTypes.ownedTupleIsFree (.ref z) >>= _) _ _ s;refine au ?_;unfold Builtin.SmallTypes.ownedTupleIsFree;refine au (kj hz rfl (x:=.none) rfl (aJ ?_));simp only[if_true];refine au (Ek (au (kj hz rfl (x:=.ref TO) rfl (au (DP hz Zaa λha za sa=>au ?_)))))
 replace za:IsZip ha z TI TO .ellipsis:=za
 simp only[List.zipIdx_cons,List.zipIdx_nil,Gq,Lh];refine au (au (wpAny_onRaise ?_));show wpAny _ A.in1 (Builtin.SmallTypes.nextOf (.ref i1) >>= _) _ _ _;have ka:st1 k ha:=N1.keep _ _ _ h1 λc o hc e=>sa.extBut c o (by rcases hc with rfl|rfl;exact z3.symm;exact z5.symm) e;cases ex:xs[k]? with
 |none=>
  refine au (N1.fin _ _ {s with heap:=ha} k _ hn ka ex λhb e sb se=>?_);obtain⟨oe,ho,hc⟩:=se;have zb:IsZip hb z TI TO .ellipsis:=sb _ _ z3 za;have ne:e≠z:=λy=>by subst y;rw[zb] at ho;cases ho;simp at hc
  exact DP zb Zaa λhd _ sd=>stop hd e (λc o c1 _ c3 _ y=>sd.extBut _ _ c1 (sb _ _ c3 (sa.extBut _ _ c1 y))) ⟨oe,sd.extBut _ _ ne ho,hc⟩
 |some x=>
  have ey:ys[k]?=none:=by
   rcases hx with y|y
   ·rw[ex] at y;cases y
   ·exact y
  refine au (N1.item _ _ {s with heap:=ha} k x _ ka ex λhb Yn sb=>aJ ?_);have tb:IsPair hb TO a b:=sb.extBut _ _ t2 (sa.extBut _ _ z2.symm Rp);refine au (vm tb rfl (au (Ow tb λhc tc sc=>au (wpAny_letGo (aJ ?_)))));refine au (au (wpAny_onRaise ?_));show wpAny _ A.in1 (Builtin.SmallTypes.nextOf (.ref i2) >>= _) _ _ _;have k2:st2 k hc:=N2.keep _ _ _ h2 λc o k_ e=>by
   rcases k_ with rfl|rfl
   ·exact sc.extBut _ _ t3.symm (sb.extBut _ _ j3.symm (sa.extBut _ _ z4.symm e))
   ·exact sc.extBut _ _ t5.symm (sb.extBut _ _ j5.symm (sa.extBut _ _ z6.symm e))
  refine au (N2.fin _ _ {s with heap:=hc} k _ hn k2 ey λhd e sd se=>?_);obtain⟨oe,ho,jT⟩:=se;have zd:IsZip hd z TI TO .ellipsis:=sd _ _ z4 (sc.extBut _ _ z2 (sb.extBut _ _ z3 za));have ne:e≠z:=λy=>by subst y;rw[zd] at ho;cases ho;simp at jT
  exact DP zd Zaa λhf _ sf=>stop hf e (λc o c1 c2 c3 c4 y=>sf.extBut _ _ c1 (sd _ _ c4 (sc.extBut _ _ c2 (sb.extBut _ _ c3 (sa.extBut _ _ c1 y))))) ⟨oe,sf.extBut _ _ ne ho,jT⟩
end
noncomputable def Ck:Bool->Heap->Addr->Array Value->Prop
 |true,h,l,xs=>h.IsList l xs
 |false,h,l,xs=>h.IsTuple l xs
noncomputable def Rk:Bool->Addr->Addr->Nat->Heap->Prop
 |true,it,l,i,h=>h.IsListIter it l i
 |false,it,l,i,h=>h.IsTupleIter it l i
noncomputable def Sk:Bool->W.Frag->Hp->Addr->List V->Prop
 |true,K,H,l,xs=>dw K H l xs
 |false,K,H,l,xs=>fL K H l xs
noncomputable def iC:Bool->Addr->Obj
 |true,l=>{cls:=.type "list_iterator",data:=.fields #[.ref l,.int 0 0]}
 |false,l=>{cls:=.type "tuple_iterator",data:=.fields #[.ref l,.int 0 0]}
theorem oh.of(kd:Bool)(hne:l≠it):oh prog w it l (λi h=>Rk kd it l i h/\Ck kd h l its) its:=by
 cases kd
 ·exact oh.tuple hne
 ·exact oh.list hne
theorem Ck.keep(x:Ck kd h l xs)(k:∀o,h.get? l=some o->h'.get? l=some o):Ck kd h' l xs:=by
 cases kd
 ·exact IsTuple.at' x k
 ·exact Heap.IsList.at x k
theorem Rk.keep(x:Rk kd it l i h)(k:∀o,h.get? it=some o->h'.get? it=some o):Rk kd it l i h':=by
 cases kd
 ·exact IsTupleIter.at' x k
 ·exact Heap.IsListIter.at x k
theorem Rk.obj(x:Rk kd it l i h):∃o,h.get? it=some o/\∀v,o.data≠.cell v:=by
 cases kd
 ·obtain⟨o,e,c,d⟩:=x;exact⟨o,e,λv z=>by rw[d] at z;cases z⟩
 ·obtain⟨o,e,c,d⟩:=x;exact⟨o,e,λv z=>by rw[d] at z;cases z⟩
theorem Ck.lt(x:Ck kd h l xs):l<h.objs.size:=by
 cases kd
 ·obtain⟨o,e,_⟩:=x;exact bM e
 ·obtain⟨o,e,_⟩:=x;exact bM e
section
variable {prog:Program}{w:World}{A:Around}{E:Value->Shared->Prop}{s:Shared}
theorem Yo(c:Ck kd s.heap l xs)(q:Q (.ref s.heap.objs.size) {s with heap:=s.heap.push (iC kd l)}):wpAny (model prog w) A (pyIter (.ref l)) Q E s:=by
 cases kd
 ·exact wpAny_pyIter_tuple c q
 ·exact wpAny_pyIter_list c q
end
noncomputable def zH(h:Heap)(k1 k2:Bool)(l1 l2:Addr):Heap:=((((h.push (iC k1 l1)).push (iC k2 l2)).push {cls:=.type "tuple",data:=.seq #[.ref h.objs.size,.ref (h.push (iC k1 l1)).objs.size]}).push {cls:=.type "tuple",data:=.seq #[.none,.none]}).push
 {cls:=.type "zip",data:=.fields #[.none,.bool false,.bool false,.ref ((h.push (iC k1 l1)).push (iC k2 l2)).objs.size,.ref (((h.push (iC k1 l1)).push (iC k2 l2)).push {cls:=.type "tuple",data:=.seq #[.ref h.objs.size,.ref (h.push (iC k1 l1)).objs.size]}).objs.size]}
theorem zhT(k1 k2:Bool)(l1 l2:Addr)(xs ys:Array Value):Meets (Builtin.«zip.__new__» ⟨[.type "zip",.ref l1,.ref l2],[]⟩) (λ_ R s=>Ck k1 s.heap l1 xs/\Ck k2 s.heap l2 ys /\
   R (.ok (.ret (.ref ((((s.heap.push (iC k1 l1)).push (iC k2 l2)).push {cls:=.type "tuple",data:=.seq #[.ref s.heap.objs.size,.ref (s.heap.push (iC k1 l1)).objs.size]}).push {cls:=.type "tuple",data:=.seq #[.none,.none]}).objs.size))) {s with heap:=zH s.heap k1 k2 l1 l2}):=
 .of_wp λprog w A R s h=>by
  obtain⟨hp,g,d,tk,os⟩:=s;obtain⟨c1,c2,h⟩:=h;have hsub:=sub_zip;have C1:Ck k1 (Shared.heap ⟨hp,g,d,tk,os⟩) l1 xs:=c1;have C2:Ck k2 (Shared.heap ⟨hp.push (iC k1 l1),g,d,tk,os⟩) l2 ys:=c2.keep λo e=>bU _ e
  wp_walk using Yo C1,Yo C2
  exact⟨_,rfl,h⟩
section
variable {prog:Program}{w:World}{A:Around}{E:Value->Shared->Prop}{s:Shared}
theorem zjq(c1:Ck k1 s.heap l1 xs)(c2:Ck k2 s.heap l2 ys)
  (h:∀h',IsZip h' (s.heap.objs.size+4) (s.heap.objs.size+2) (s.heap.objs.size+3) .none->IsPair h' (s.heap.objs.size+2) (.ref s.heap.objs.size) (.ref (s.heap.objs.size+1))->IsPair h' (s.heap.objs.size+3) .none .none->
   Rk k1 s.heap.objs.size l1 0 h'->Rk k2 (s.heap.objs.size+1) l2 0 h'->(∀c o,s.heap.get? c=some o->h'.get? c=some o)->Q (.ref (s.heap.objs.size+4)) {s with heap:=h'}) :
  wpAny (model prog w) A (call (.type "zip") [.ref l1,.ref l2]) Q E s:=by
 refine callType_new F.called_zip UJ (F.typeCall_zip_2 _ _) (F.newCall_zip_2 _ _) (λobj=>F.args_object_init_3 obj _ _) F.entry_zip_new (zhT k1 k2 l1 l2 xs ys) ⟨c1,c2,?_⟩;have n1:(s.heap.push (iC k1 l1)).objs.size=s.heap.objs.size+1:=rN ..;have n2:((s.heap.push (iC k1 l1)).push (iC k2 l2)).objs.size=s.heap.objs.size+2:=by rw[rN,n1]
 have fr:∀kd l,(iC kd l).isFreed=false:=λkd l=>by cases kd<;>rfl
 have rk:∀{h:Heap} {a:Addr} {kd:Bool} {l:Addr},h.get? a=some (iC kd l)->Rk kd a l 0 h:=λ{h a kd l} e=>by
  cases kd
  ·exact⟨_,e,rfl,rfl⟩
  ·exact⟨_,e,rfl,rfl⟩
 have o1:(s.heap.push (iC k1 l1)).get? s.heap.objs.size=some (iC k1 l1):=gF _ (fr _ _);have o2:((s.heap.push (iC k1 l1)).push (iC k2 l2)).get? (s.heap.objs.size+1)=some (iC k2 l2):=by
  have:=gF (s.heap.push (iC k1 l1)) (o:=iC k2 l2) (fr _ _);rw[n1] at this;exact this
 generalize hA:(s.heap.push (iC k1 l1)).push (iC k2 l2)=Ms at *;have eH:zH s.heap k1 k2 l1 l2=((Ms.push {cls:=.type "tuple",data:=.seq #[.ref s.heap.objs.size,.ref (s.heap.objs.size+1)]}).push {cls:=.type "tuple",data:=.seq #[.none,.none]}).push {cls:=.type "zip",data:=.fields #[.none,.bool false,.bool false,.ref (s.heap.objs.size+2),.ref (s.heap.objs.size+3)]}:=by
  unfold zH;rw[hA,n1,n2,rN,n2]
 have n3:(Ms.push {cls:=.type "tuple",data:=.seq #[.ref s.heap.objs.size,.ref (s.heap.objs.size+1)]}).objs.size=s.heap.objs.size+3:=by rw[rN,n2]
 have n4:((Ms.push {cls:=.type "tuple",data:=.seq #[.ref s.heap.objs.size,.ref (s.heap.objs.size+1)]}).push {cls:=.type "tuple",data:=.seq #[.none,.none]}).objs.size=s.heap.objs.size+4:=by rw[rN,n3]
 rw[n1,n4];have g5:(zH s.heap k1 k2 l1 l2).get? (s.heap.objs.size+4)=some {cls:=.type "zip",data:=.fields #[.none,.bool false,.bool false,.ref (s.heap.objs.size+2),.ref (s.heap.objs.size+3)]}:=by
  rw[eH,<-n4];exact gF _ rfl
 have g4:(zH s.heap k1 k2 l1 l2).get? (s.heap.objs.size+3)=some {cls:=.type "tuple",data:=.seq #[.none,.none]}:=by
  rw[eH,<-n3];exact bU _ (gF _ rfl)
 have g3:(zH s.heap k1 k2 l1 l2).get? (s.heap.objs.size+2)=some {cls:=.type "tuple",data:=.seq #[.ref s.heap.objs.size,.ref (s.heap.objs.size+1)]}:=by
  rw[eH,<-n2];exact bU _ (bU _ (gF _ rfl))
 have up:∀c o,Ms.get? c=some o->(zH s.heap k1 k2 l1 l2).get? c=some o:=λc o e=>by rw[eH];exact bU _ (bU _ (bU _ e))
 refine⟨⟨_,g5,rfl⟩,h _ g5 g3 g4 (rk (up _ _ ?_)) (rk (up _ _ o2)) λc o e=>up _ _ ?_⟩
 ·rw[<-hA];exact bU _ o1
 ·rw[<-hA];exact bU _ (bU _ e)
end
noncomputable def Rq(K:W.Frag)(k1 k2:Bool)(l1 l2:Addr):It:=
 ⟨λi H=>∃xs ys x y,Sk k1 K H l1 xs/\Sk k2 K H l2 ys/\xs[i]?=some x/\ys[i]?=some y,
  λi H v H'=>∃a x y,H a=none/\v=.ref a/\H'=upd H a (.tup [x,y])/\(∀xs,Sk k1 K H l1 xs->xs[i]?=some x)/\∀ys,Sk k2 K H l2 ys->ys[i]?=some y,
  λi H=>∃xs ys,Sk k1 K H l1 xs/\Sk k2 K H l2 ys/\(xs.length<=i\/ys.length<=i)⟩
section
variable {X:Cx}{ak:List (Addr×Obj)}{Z:St}{H:Hp}{s:Shared}{kd:Bool}{l:Addr}{xs ys:List V}
theorem Inv.row(I:Inv X ak Z H s)(h:Sk kd X.K H l xs):∃its:List Value,Vals xs its/\Ck kd s.heap l its.toArray:=by
 cases kd
 ·obtain⟨its,rv,p,hz⟩:=I.tuple h;exact⟨its,rv,p⟩
 ·obtain⟨its,rv,p,hz⟩:=I.list h;exact⟨its,rv,p.isList⟩
theorem Inv.qg(I:Inv X ak Z H s)(h:Sk kd X.K H l xs)(h':Sk kd X.K H l ys):xs=ys:=by
 cases kd
 ·exact I.lC h h'
 ·exact I.nq h h'
end
theorem zho{P:Program}{w:World}{K:W.Frag}{elts:List Expr}{kk:Nat}{pos:Pos}{k1 k2:Bool}{l1 l2 z TI TO i1 i2:Addr}(D:mF z TI TO i1 i2 l1 l2) :
  Turn P w K (.Tuple elts kk pos) (Rq K k1 k2 l1 l2) [z,TI,TO,i1,i2] z (λi h=>IsZip h z TI TO .none/\IsPair h TI (.ref i1) (.ref i2)/\(∃a b,IsPair h TO a b)/\Rk k1 i1 l1 i h/\Rk k2 i2 l2 i h) where
 mem:=by simp
 obj:=λi h ⟨a1,a2,⟨p,q,a3⟩,a4,a5⟩ b hb=>by
  have:b=z\/b=TI\/b=TO\/b=i1\/b=i2:=by simpa using hb
  rcases this with rfl|rfl|rfl|rfl|rfl
  ·exact⟨_,a1,λv y=>by cases y⟩
  ·exact⟨_,a2,λv y=>by cases y⟩
  ·exact⟨_,a3,λv y=>by cases y⟩
  ·exact a4.obj
  ·exact a5.obj
 keep:=λi h h' ⟨a1,a2,⟨p,q,a3⟩,a4,a5⟩ k=>⟨k z Zaa _ a1,k TI Zaa _ a2,⟨p,q,k TO Zaa _ a3⟩,a4.keep λo e=>k i1 Zaa o e,a5.keep λo e=>k i2 Zaa o e⟩
 item:=by
  intro X hP hw hK hc i ak s Z H E I hf ⟨a1,a2,⟨p,q,a3⟩,a4,a5⟩ hg;subst hP hw hK;obtain⟨xs,ys,x,y,zp,zu,hx,hy⟩:=hg;obtain⟨Yp,Mt,c1⟩:=I.row zp;obtain⟨Ip,Mu,c2⟩:=I.row zu;obtain⟨u,hu,ru⟩:=Mt.get hx;obtain⟨v,hv,rv⟩:=Mu.get hy;have D':=D;obtain⟨⟨z1,z2,z3,z4,z5,z6⟩,⟨t1,t2,t3,t4,t5⟩,⟨j1,j2,j3,j4,j5,j6,j7⟩⟩:=D';refine zgQ (oh.of k1 j4.symm) (oh.of k2 j7.symm) D a1 a2 a3 ⟨a4,c1⟩ ⟨a5,c2⟩ (x:=u) (y:=v) (by simpa using hu) (by simpa using hv) λh1 b1 b2 b3 b4 b5 b6 kp=>?_;refine⟨_,rfl,wpAny_letOwnedTupleGo_zip (s:={s with heap:=h1}) b1 λh2 e2 sb=>?_⟩;have hT2:IsPair h2 s.heap.objs.size u v:=(sb.2 _ (vp (bM a1))).trans b5;have kk:∀b o,b∉[z,TI,TO,i1,i2]->s.heap.get? b=some o->h2.get? b=some o:=λb o hb e=>(sb.2 b λy=>hb (by simp[y])).trans (kp b o (λy=>hb (by simp[y])) (λy=>hb (by simp[y])) (λy=>hb (by simp[y])) (λy=>hb (by simp[y])) e);have I2:=I.qT (t':=s.toks) (a:=s.heap.objs.size) (o:=.tup [x,y]) kk (λb hb=>hf b hb) (bV _) (show aO X.prog X.w _ h2 _ (.tup [x,y]) from ⟨by show 2<=sizeLine;decide,[u,v],.cons ru (.cons rv .nil),⟨_,hT2,rfl,_,rfl⟩⟩);have hn:H s.heap.objs.size=none:=I.hok.fresh (bV _);refine⟨.ref s.heap.objs.size,_,I2,rfl,⟨_,x,y,hn,rfl,rfl,λzs hz=>by rw[I.qg hz zp];exact hx,λzs hz=>by rw[I.qg hz zu];exact hy⟩,⟨e2,(sb.2 _ z1.symm).trans (kp _ _ z1.symm t1.symm j1 j2 a2),⟨_,_,(sb.2 _ z2.symm).trans b2⟩,b3.1.keep λo e=>(sb.2 _ z3.symm).trans e,b4.1.keep λo e=>(sb.2 _ z4.symm).trans e⟩,λb hb=>?_⟩;have nb:b≠s.heap.objs.size:=by
   have:b=z\/b=TI\/b=TO\/b=i1\/b=i2:=by simpa using hb
   rcases this with rfl|rfl|rfl|rfl|rfl
   ·exact cR (bM a1)
   ·exact cR (bM a2)
   ·exact cR (bM a3)
   ·obtain⟨o,e,_⟩:=a4.obj;exact cR (bM e)
   ·obtain⟨o,e,_⟩:=a5.obj;exact cR (bM e)
  rw[dj nb];exact(hf b hb).1
 done:=by
  intro X hP hw hK hc i ak s Z H E I hf ⟨a1,a2,⟨p,q,a3⟩,a4,a5⟩ hg;subst hP hw hK;obtain⟨xs,ys,zp,zu,hx⟩:=hg;obtain⟨Yp,Mt,c1⟩:=I.row zp;obtain⟨Ip,Mu,c2⟩:=I.row zu;have n1:=Mt.length;have n2:=Mu.length;refine zi6 (I.ok.hd hc) (oh.of k1 D.is.2.2.2.1.symm) (oh.of k2 D.is.2.2.2.2.2.2.symm) D a1 a2 a3 ⟨a4,c1⟩ ⟨a5,c2⟩ ?_ λh' kp=>⟨rfl,I.xH (t':=s.toks) (ch:=[z,TI,TO,i1,i2]) (λb o hb e=>kp b o (λy=>hb (by simp[y])) (λy=>hb (by simp[y])) (λy=>hb (by simp[y])) (λy=>hb (by simp[y])) e) λb hb=>hf b hb⟩;rcases hx with y|y
  ·exact .inl (by simp;lia)
  ·exact .inr (by simp;lia)
 self:=λ_ _ _ _ _ ⟨a1,_⟩ h=>wpAny_pyIter_zip a1 h
section
variable {X:Cx}
noncomputable def Rr(K:W.Frag)(ta:TA):TI:=λZ H R=>ta Z H λvs H1=>∃k1 k2 l1 l2 xs ys,vs=[.ref l1,.ref l2]/\Sk k1 K H1 l1 xs/\Sk k2 K H1 l2 ys/\R (Rq K k1 k2 l1 l2) H1
theorem zhf:bootBuiltins "zip"=some (.type "zip"):=by decide +kernel
theorem zll{a b:Expr}{ta:TA}{p pos tpos:Pos}{elts:List Expr}{kk:Nat}(hg:Gl X "zip")(hm:X.mg "zip"=none)(ha:PA X [a,b] ta)(hs:starEach [a,b] X.env=[(false,eval a X.env),(false,eval b X.env)]:=by rfl)(Ep:starEach [b] X.env=[(false,eval b X.env)]:=by rfl) :
  PI X (.Tuple elts kk tpos) (.Call (.Name "zip" p) [a,b] [] pos) (Rr X.K ta):=by
 intro ak s Z H R I h;refine Call_ (yW I hg hm zhf (Ga (aX (ha pos ak s Z H _ I h) λus s1 ⟨vs,H1,I1,r1,q1⟩=>?_) (by rw[hs,Ep]) (by rw[Ep];rfl)));obtain⟨k1,k2,l1,l2,xs,ys,e,zp,zu,q⟩:=q1;subst e;cases r1 with
 |cons r rr=>
  cases rr with
  |cons r' rr=>
   cases rr;cases r;cases r';obtain⟨Yp,Mt,c1⟩:=I1.row zp;obtain⟨Ip,Mu,c2⟩:=I1.row zu;have m1:=c1.lt;have m2:=c2.lt;refine zjq c1 c2 λh' b1 b2 b3 b4 b5 kp=>?_;refine wpAny_pyIter_zip b1 ?_;have ne:∀{u v:Nat},u<v->u≠v:=λh=>cR h;have D:mF (s1.heap.objs.size+4) (s1.heap.objs.size+2) (s1.heap.objs.size+3) s1.heap.objs.size (s1.heap.objs.size+1) l1 l2:=
    ⟨⟨(ne gV).symm,(ne gV).symm,(ne gV).symm,(ne gV).symm,(ne (gj m1 gV)).symm,(ne (gj m2 gV)).symm⟩,
     ⟨(ne gV).symm,(ne gV).symm,(ne gV).symm,(ne (gj m1 gV)).symm,(ne (gj m2 gV)).symm⟩,
     ⟨(ne gV).symm,(ne gV).symm,ne gV,(ne m1).symm,(ne m2).symm,(ne (gj m1 gV)).symm,(ne (gj m2 gV)).symm⟩⟩
   refine⟨s1.heap.objs.size+4,[s1.heap.objs.size+4,s1.heap.objs.size+2,s1.heap.objs.size+3,s1.heap.objs.size,s1.heap.objs.size+1],_,_,H1,rfl,I1.kept (t':=s1.toks) kp,zho D,⟨b1,b2,⟨_,_,b3⟩,b4,b5⟩,λb hb=>?_,q⟩;have:s1.heap.objs.size<=b:=by
    have:b=s1.heap.objs.size+4\/b=s1.heap.objs.size+2\/b=s1.heap.objs.size+3\/b=s1.heap.objs.size\/b=s1.heap.objs.size+1:=by simpa using hb
    rcases this with rfl|rfl|rfl|rfl|rfl<;>lia
   exact I1.wK this (I1.hok.fresh this)
end
end L2
set_option genSizeOf false
set_option genInjectivity false
namespace Mi
open PySem
inductive D where
 |non|bl (b:Bool)|int (i:Int)|str (s:Str)|tup (xs:List D)|fl (xs:List D)|fd (ks vs:List D)|exc (c:Nat) (fs:List D)|ob (c:Nat) (fs:List D)|any
inductive Xv where
 |d (x:D)|l (n:Nat)
inductive Kx where
 |non|int (i:Int)|row (is:List Int)
deriving DecidableEq
inductive SO where
 |lst (xs:List D)
 |dct (kvs:List (List Kx×D))
noncomputable abbrev S:=List SO
inductive Rs (α:Type) where
 |ok (a:α)|er (c:Nat) (fs:List D)
noncomputable abbrev M(α:Type):=S->Option (Rs α×S)
noncomputable def M.ret{α:Type}(a:α):M α:=λs=>some (.ok a,s)
noncomputable def M.bd{α β:Type}(m:M α)(k:α->M β):M β:=λs=>match m s with
 |some (.ok a,s')=>k a s'
 |some (.er c f,s')=>some (.er c f,s')
 |none=>none
noncomputable def M.qt{α:Type}(m:M α):M α:=λs=>match m s with
 |some (.ok a,s')=>some (.ok a,s')
 |_=>none
noncomputable def M.no{α:Type}:M α:=λ_=>none
noncomputable def M.opt{α:Type}:Option α->M α
 |some a=>M.ret a
 |none=>M.no
inductive Rz where
 |dat (d:D)|nw (xs:List D)
inductive Pr where
 |add|ao|mul|fdiv|mod|pow|neg
 |eq|ne|lt|le|gt|ge|inn|nin
 |EY|Ir
 |len|abs|max2|min2|Iu|Iv|Iw|Yq|xJ|divmod|all|sum|list|tuple|sorted|dU|Bt|str1
 |ix|rev|Yr|mH|mult|zx
 |count|index|repr
inductive Kd where
 |int|bool|str|tuple|list|dict|cls (c:Nat)|oZ
mutual
inductive E where
 |c (d:D)
 |v (i:Nat)
 |pr (fz:Bool) (p:Pr) (xs:Es)
 |rT (p q:Pr) (a b c:E)
 |t_ (p q r:Pr) (a b c d:E)
 |and (a b:E)
 |or (a b:E)
 |not (a:E)
 |ite (c a b:E)
 |tup (xs:Es)
 |lst (fz:Bool) (xs:Es)
 |uc (k:Str) (i:Int)
 |call (f:Nat) (xs:Es)
 |fZ (a:E) (k:Kd)
 |sl (fz:Bool) (a:E) (lo hi:Eo)
 |meth (fz:Bool) (p:Pr) (k:Kd) (o:E) (xs:Es)
 |push (o a:E)
 |pop (o:E)
 |comp (fz:Bool) (elt:E) (tg:List Nat) (it:Wk) (fr:List Nat) (many:Nat) (cond:Eo)
 |Iz (fz:Bool) (elt:E) (tg:List Nat) (it:Wk) (Ys:List Nat) (Ip:Wk) (fr:List Nat) (many:Nat) (cond:Eo)
 |fld (o:E) (cs:List Nat) (i:Nat)
 |of (o:E) (c i:Nat)
 |mk (c f:Nat) (xs:Es)
 |cm (c f:Nat) (o:E) (xs:Es)
 |Rt
 |din (b:Bool) (k d:E)
 |Ru (d k:E)
 |tru (a:E)
 |IK (fz:Bool) (a:E) (b:E)
 |orv (a b:E)
 |ins (o i a:E)
 |no
inductive Wk where
 |seq (e:E)
 |rg (a b:E)
 |zip (a b:E)
 |enum (a:E)
 |rrg (a:E)
inductive Es where
 |nil
 |cons (a:E) (r:Es)
inductive Eo where
 |no
 |yes (a:E)
end
noncomputable abbrev Ea(a:E):Es:=.cons a .nil
noncomputable abbrev Eb(a b:E):Es:=.cons a (.cons b .nil)
noncomputable abbrev Ec(a b c:E):Es:=.cons a (.cons b (.cons c .nil))
noncomputable abbrev Ei(a b:E):E:=.pr true .ix (.cons a (.cons b .nil))
noncomputable abbrev Ci(i:Int):E:=.c (.int i)
noncomputable def Es.len:Es->Nat
 |.nil=>0
 |.cons _ r=>r.len+1
inductive Tg where
 |nm (i:Nat)
 |tp (is:List Nat)
 |ao (o i:E)
mutual
inductive St where
 |pass
 |ex (e:E)
 |asg (t:Tg) (e:E)
 |par (i j:Nat) (a b:E)
 |aug (i:Nat) (e:E)
 |ret (e:E)
 |rise (c:Nat) (kp:Bool) (xs:Es)
 |iff (c:E) (t e:bH)
 |wh (c:E) (b:bH)
 |fr (t:Tg) (w:Wk) (b:bH)
 |ud (b:bH) (d:Nat) (i:Nat) (h:bH)
 |dput (d k v:E)
 |no
inductive bH where
 |nil
 |cons (a:St) (r:bH)
end
noncomputable def gq(eq:D->D->Option Bool):List D->List D->Option Bool
 |[],[]=>some true
 |[],_::_=>some false
 |_::_,[]=>some false
 |x::xs,y::ys=>match eq x y,gq eq xs ys with
  |some a,some b=>some (a&&b)
  |_,_=>none
noncomputable def kq:D->Option Nat
 |.non=>some 0
 |.bl _=>some 1
 |.int _=>some 1
 |.str _=>some 2
 |.tup _=>some 3
 |.fl _=>some 4
 |_=>none
noncomputable def dD:Nat->D->D->Option Bool
 |n+1,.tup xs,.tup ys=>gq (dD n) xs ys
 |n+1,.fl xs,.fl ys=>gq (dD n) xs ys
 |_,.non,.non=>some true
 |_,.bl a,.bl b=>some (a==b)
 |_,.int a,.int b=>some (a==b)
 |_,.str a,.str b=>some (a==b)
 |_,.bl a,.int b=>some ((if a then 1 else 0)==b)
 |_,.int a,.bl b=>some (a==(if b then 1 else 0))
 |_,a,b=>match kq a,kq b with
  |some i,some j=>if i=j then none else some false
  |_,_=>none
noncomputable def eY:List D->Option (List Int)
 |[]=>some []
 |.int i::r=>(eY r).map (i::·)
 |_=>none
noncomputable def ltI:List Int->List Int->Bool
 |_,[]=>false
 |[],_::_=>true
 |x::xs,y::ys=>if x=y then ltI xs ys else decide (x<y)
noncomputable def gU:List D->Option (List Bool)
 |[]=>some []
 |.bl b::r=>(gU r).map (b::·)
 |_=>none
noncomputable def cut{α:Type}(xs:List α)(lo hi:Option Int):List α:=(xs.drop (HT.bN xs.length 0 lo)).take (HT.bN xs.length xs.length hi-HT.bN xs.length 0 lo)
noncomputable def o_:D->Option (List D)
 |.tup xs=>some xs
 |.fl xs=>some xs
 |_=>none
noncomputable def cutD(x:D)(lo hi:Option Int):Option Rz:=match x with
 |.tup xs=>some (.dat (.tup (cut xs lo hi)))
 |.fl xs=>some (.nw (cut xs lo hi))
 |_=>none
noncomputable def memD(d:D):List D->Option Bool
 |[]=>some false
 |x::r=>match dD 50 x d,memD d r with
  |some a,some b=>some (a||b)
  |_,_=>none
noncomputable def qU(d:D):List D->Nat
 |[]=>0
 |x::r=>qU d r+(if dD 50 x d=some true then 1 else 0)
noncomputable def pq:Kd->D->Bool
 |.list,.fl _=>true
 |.str,.str _=>true
 |.dict,.fd _ _=>true
 |_,_=>false
noncomputable def cW(f:Int->Int->Option D):List D->Option Rz
 |[.int i,.int j]=>(f i j).map .dat
 |_=>none
noncomputable def qj(f:Int->D):List D->Option Rz
 |[.int i]=>some (.dat (f i))
 |_=>none
noncomputable def qW(f:List D->Option Rz):List D->Option Rz
 |[a]=>(o_ a).bind f
 |_=>none
noncomputable def Bu:List D->Option Rz
 |[.int i,.int j]=>some (.dat (.int (i+j)))
 |[.tup xs,.tup ys]=>if xs.length+ys.length<=sizeLine then some (.dat (.tup (xs++ys))) else none
 |[.fl xs,.fl ys]=>if xs.length+ys.length<=sizeLine then some (.nw (xs++ys)) else none
 |[.str x,.str y]=>if x.length+y.length<=sizeLine then some (.dat (.str (x++y))) else none
 |_=>none
noncomputable def IV:List D->Option Rz
 |[.int i,.int j]=>some (.dat (.bl (decide (i<j))))
 |[.tup xs,.tup ys]=>match eY xs,eY ys with
  |some a,some b=>some (.dat (.bl (ltI a b)))
  |_,_=>none
 |_=>none
noncomputable def E_(f:Bool->Bool):List D->Option Rz
 |[a,b]=>(dD 50 a b).map λk=>.dat (.bl (f k))
 |_=>none
noncomputable def Yt(f:Bool->Bool):List D->Option Rz
 |[a,b]=>((o_ b).bind (memD a)).map λk=>.dat (.bl (f k))
 |_=>none
noncomputable def D.nJ:D->Bool
 |.non=>true
 |_=>false
noncomputable def Bv(f:Bool->Bool):List D->Option Rz
 |[a]=>some (.dat (.bl (f a.nJ)))
 |_=>none
noncomputable def IW:List D->Option Rz
 |[.int i]=>some (.dat (.int i))
 |[.bl k]=>some (.dat (.int (if k then 1 else 0)))
 |_=>none
noncomputable def Bw:List D->Option Rz
 |[.fl xs]=>(gU xs).map λbs=>.dat (.bl (bs.all id))
 |_=>none
noncomputable def eZ:List D->Option (List Int)
 |[]=>some []
 |.int i::r=>(eZ r).map (i::·)
 |_=>none
noncomputable def best(bt:Int->Int->Bool)(i:Int)(is:List Int):Int:=is.foldl (λm j=>if bt j m then j else m) i
noncomputable def I8(bt:Int->Int->Bool):Option (List Int)->Option Rz
 |some (i::is)=>some (.dat (.int (best bt i is)))
 |_=>none
noncomputable def zy(bt:Int->Int->Bool):List D->Option Rz
 |[a]=>(o_ a).bind λxs=>I8 bt (eZ xs)
 |_=>none
noncomputable def okR(i j:Int):Bool:=decide (-(2^62)<=i/\i<2^62/\-(2^62)<=j/\j<2^62/\(j-i).toNat<=65536)
noncomputable def Rw(i:Int)(n:Nat):List D:=(List.range n).map λk=>.int (i+(k:Nat))
noncomputable def Rx:List D->Option Rz
 |[.int j]=>if okR 0 j then some (.nw (Rw 0 (j-0).toNat)) else none
 |[.int i,.int j]=>if okR i j then some (.nw (Rw i (j-i).toNat)) else none
 |_=>none
noncomputable def Ry:List D->Option Rz
 |[.int j]=>if okR 0 j then some (.dat (.tup (Rw 0 (j-0).toNat))) else none
 |_=>none
noncomputable def pA:List D->Option Rz
 |[a]=>(o_ a).map λxs=>.dat (.tup xs)
 |_=>none
noncomputable def RB:List D->Option Rz
 |[a,.int i]=>((o_ a).bind λxs=>L2.tK xs i).map .dat
 |_=>none
noncomputable def nM:List D->List D->Option Bool
 |[],ys=>some (decide (0<ys.length))
 |_::_,[]=>some false
 |.int x::xs,.int y::ys=>if x=y then nM xs ys else some (decide (x<y))
 |_::_,_::_=>none
noncomputable def zA(xs:List D)(i j:Nat):Option Bool:=match xs[i]?,xs[j]? with
 |some (.int x),some (.int y)=>some (decide (x<y))
 |some (.tup us),some (.tup ws)=>nM us ws
 |_,_=>none
noncomputable def zB(b:List Int):List (List Int)->List Int
 |[]=>b
 |x::r=>zB (if ltI x b=true then x else b) r
noncomputable def zE:List D->Option (List (List Int))
 |[]=>some []
 |.tup xs::r=>match eY xs,zE r with
  |some a,some b=>some (a::b)
  |_,_=>none
 |_=>none
noncomputable def I9:List D->Option Rz
 |[.fl xs]=>match zE xs with
  |some (x::r)=>some (.dat (.tup ((zB x r).map .int)))
  |_=>none
 |_=>none
noncomputable def jW:D->Bool
 |.int _=>true
 |_=>false
noncomputable def iD:D->Bool
 |.tup (.int _::_)=>true
 |_=>false
noncomputable def ql(lt:Nat->Nat->Option Bool)(xs:List D):Option (List D):=if xs.length<2 then some xs else if xs.length<64 then (match L2.bD lt (PySem.W.kas_sort xs.length) with
  |some p=>if p.size=xs.length then some (p.toList.map λi=>xs.getD i .non) else none
  |none=>none) else none
noncomputable def BJ(xs:List D):Option (List D):=if xs.all jW||xs.all iD then ql (zA xs) xs else none
noncomputable def mJ:List D->Option Rz
 |[.fl xs]=>(BJ xs).map .nw
 |_=>none
noncomputable def ltK(ks:List Int)(i j:Nat):Option Bool:=match ks[i]?,ks[j]? with
 |some x,some y=>some (decide (x<y))
 |_,_=>none
noncomputable def BK:List D->Option Rz
 |[.tup xs]=>some (.dat (.tup xs.reverse))
 |_=>none
noncomputable def pB:List D->Option Rz
 |[.fl xs,d]=>(memD d xs).map λ_=>.dat (.int (qU d xs:Nat))
 |_=>none
noncomputable def pC:List D->Option Rz
 |[.fl xs,.bl b]=>((gU xs).bind λbs=>bs.idxOf? b).map λ(i:Nat)=>.dat (.int i)
 |_=>none
noncomputable def BL:List D->Option Rz
 |[.int i]=>if i.natAbs<2^62 then some (.dat (.str (Str.ofString (toString i)))) else none
 |_=>none
noncomputable def RD(f:D->Option PyData):List D->Option (List PyData)
 |[]=>some []
 |x::r=>match f x,RD f r with
  |some a,some b=>some (a::b)
  |_,_=>none
noncomputable def pd:Nat->D->Option PyData
 |n+1,.tup xs=>(RD (pd n) xs).map .tuple
 |n+1,.fl xs=>(RD (pd n) xs).map .list
 |_,.non=>some .none
 |_,.bl b=>some (.bool b)
 |_,.int i=>some (.int i)
 |_,.str x=>some (.str x)
 |_,_=>none
noncomputable def pdT:D->Option PyData
 |.fd [.str k] [.int i]=>some (.dict [(.str k,.int i)])
 |x=>pd 40 x
noncomputable def shw(d:PyData):Option Rz:=if d.showable=true/\d.shown.length<=sizeLine then some (.dat (.str d.shown)) else none
noncomputable def I_:List D->Option Rz
 |[x]=>(pdT x).bind shw
 |_=>none
noncomputable def gW:List (Int×Int):=[(0,1),(0,2),(0,3),(0,4),(0,5),(0,6),(0,7),(1,2),(1,3),(1,4),(1,5),(1,6),(1,7),(2,3),(2,4),(2,5),(2,6),(2,7),(3,4),(3,5),(3,6),(3,7),(4,5),(4,6),(4,7),(5,6),(5,7),(6,7)]
noncomputable def ss(ts:List (Int×Int)):List (Int×Int):=gW.filter λt=>ts.contains t
noncomputable def xK:D->Option (Int×Int)
 |.tup [.int a,.int b]=>if 0<=a/\a<b/\b<8 then some (a,b) else none
 |_=>none
noncomputable def jX:List D->Option (List (Int×Int))
 |[]=>some []
 |x::r=>match xK x,jX r with
  |some a,some b=>some (a::b)
  |_,_=>none
noncomputable def RG:List D->Option Rz
 |[.tup xs]=>(jX xs).map λts=>.nw ((ss ts).map λp=>.tup [.int p.1,.int p.2])
 |_=>none
noncomputable def Ja(is:List Int):Bool:=decide (is.length<=1000)&&is.all λi=>decide (-1000000<=i/\i<=1000000)
noncomputable def RJ(is:List Int):Option Rz:=match Ja is with
 |true=>some (.dat (.int is.sum))
 |false=>none
noncomputable def RK:List D->Option Rz
 |[a]=>(o_ a).bind λxs=>(eZ xs).bind RJ
 |_=>none
noncomputable def mK:List Int->List Int
 |[]=>[]
 |x::r=>if r.contains x then mK r else x::mK r
noncomputable def Jc:List D->Option Rz
 |[.tup xs]=>(eZ xs).map λis=>.dat (.int (mK is).length)
 |_=>none
noncomputable def rep{α:Type}(xs:List α)(n:Nat):List α:=(List.replicate n xs).flatten
noncomputable def uf:List D->Option Rz
 |[.fl xs,.int n]=>if 0<=n/\n<=1000/\xs.length<=1000 then some (.nw (rep xs n.toNat)) else none
 |_=>none
noncomputable def BP:List D->Option Rz
 |[.tup xs]=>if xs.all jW=true then (BJ xs).map .nw else none
 |_=>none
noncomputable def zF:List D->Option Rz
 |[.tup xs,.int n]=>if 1<=n/\n<=1000/\1<=xs.length/\xs.length<=1000 then some (.dat (.tup (rep xs n.toNat))) else none
 |_=>none
noncomputable def Jd:D->Option Bool
 |.non=>some false
 |.bl b=>some b
 |.int i=>some (i != 0)
 |.tup xs=>some (!xs.isEmpty)
 |.fl xs=>some (!xs.isEmpty)
 |_=>none
noncomputable def prim:Pr->List D->Option Rz
 |.add=>Bu
 |.ao=>cW λi j=>some (.int (i-j))
 |.mul=>cW λi j=>if (-(2^64)<i/\i<2^64)\/(-(2^64)<j/\j<2^64) then some (.int (i*j)) else none
 |.fdiv=>cW λi j=>if 0<j/\j<1073741824 then some (.int (i/j)) else none
 |.mod=>cW λi j=>if 0<j then some (.int (i%j)) else none
 |.pow=>cW λi j=>if 0<=j/\j<=1000000/\i.natAbs<2^64 then some (.int (i^j.toNat)) else none
 |.neg=>qj λi=>.int (-i)
 |.eq=>E_ id
 |.ne=>E_ not
 |.lt=>IV
 |.le=>cW λi j=>some (.bl (decide (i<=j)))
 |.gt=>cW λi j=>some (.bl (decide (j<i)))
 |.ge=>cW λi j=>some (.bl (decide (j<=i)))
 |.inn=>Yt id
 |.nin=>Yt not
 |.EY=>Bv id
 |.Ir=>Bv not
 |.len=>qW λxs=>some (.dat (.int xs.length))
 |.abs=>qj λi=>.int (if i<0 then -i else i)
 |.max2=>cW λi j=>some (.int (if j>i then j else i))
 |.min2=>cW λi j=>some (.int (if j<i then j else i))
 |.xJ=>IW
 |.divmod=>cW λi j=>if 0<j/\j<1073741824 then some (.tup [.int (i/j),.int (i%j)]) else none
 |.all=>Bw
 |.Yr=>Rx
 |.Iu=>zy λa b=>decide (a>b)
 |.Iv=>zy λa b=>decide (a<b)
 |.Iw=>I9
 |.Yq=>Ry
 |.list=>qW λxs=>some (.nw xs)
 |.tuple=>pA
 |.ix=>RB
 |.rev=>BK
 |.sorted=>mJ
 |.dU=>RG
 |.mH=>uf
 |.mult=>zF
 |.zx=>BP
 |.sum=>RK
 |.Bt=>Jc
 |.count=>pB
 |.index=>pC
 |.repr=>I_
 |.str1=>BL
noncomputable def lF(ao:Nat->Nat->Bool):D->Kd->Option Bool
 |.exc c _,.cls e=>some (ao c e)
 |.exc _ _,.oZ=>some true
 |.exc _ _,_=>none
 |.ob _ _,_=>none
 |.any,_=>none
 |_,.cls _=>none
 |_,.oZ=>none
 |.bl _,.bool=>some true
 |.bl _,.int=>some true
 |.bl _,_=>some false
 |.int _,.int=>some true
 |.int _,_=>some false
 |.non,_=>some false
 |.str _,.str=>some true
 |.str _,_=>some false
 |.tup _,.tuple=>some true
 |.tup _,_=>some false
 |.fl _,.list=>some true
 |.fl _,_=>some false
 |.fd _ _,.dict=>some true
 |.fd _ _,_=>some false
noncomputable def rd(x:Xv):M D:=λs=>match x with
 |.d v=>some (.ok v,s)
 |.l n=>match s[n]? with
  |some (.lst xs)=>some (.ok (.fl xs),s)
  |_=>none
noncomputable def dW:List Xv->M (List D)
 |[]=>M.ret []
 |x::r=>M.bd (rd x) λd=>M.bd (dW r) λds=>M.ret (d::ds)
noncomputable def dat(x:Xv):M D:=match x with
 |.d v=>M.ret v
 |.l _=>M.no
noncomputable def dF:List Xv->M (List D)
 |[]=>M.ret []
 |x::r=>M.bd (dat x) λd=>M.bd (dF r) λds=>M.ret (d::ds)
noncomputable def bool(x:Xv):M Bool:=match x with
 |.d (.bl b)=>M.ret b
 |_=>M.no
noncomputable def int(x:Xv):M Int:=match x with
 |.d (.int b)=>M.ret b
 |_=>M.no
noncomputable def newL(fz:Bool)(xs:List D):M Xv:=match fz with
 |true=>M.ret (.d (.fl xs))
 |false=>λs=>some (.ok (.l s.length),s++[.lst xs])
noncomputable def bJ(fz:Bool)(o:Option Rz):M Xv:=match o with
 |some (.dat d)=>M.ret (.d d)
 |some (.nw xs)=>newL fz xs
 |none=>M.no
noncomputable def cO(x:Xv):M (Nat×List D):=λs=>match x with
 |.l n=>match s[n]? with
  |some (.lst xs)=>some (.ok (n,xs),s)
  |_=>none
 |_=>none
noncomputable def putL(n:Nat)(xs:List D):M Unit:=λs=>some (.ok (),s.set n (.lst xs))
noncomputable def RL:D->Option Kx
 |.non=>some .non
 |.int i=>some (.int i)
 |.tup xs=>(eY xs).map .row
 |_=>none
noncomputable def Yu:List D->Option (List Kx)
 |[]=>some []
 |x::r=>match RL x,Yu r with
  |some a,some b=>some (a::b)
  |_,_=>none
noncomputable def kOf:D->Option (List Kx)
 |.tup xs=>Yu xs
 |_=>none
noncomputable abbrev vI:=List (List Kx×D)
noncomputable def xM(k:List Kx):vI->Option D
 |[]=>none
 |p::r=>if p.1=k then some p.2 else xM k r
noncomputable def RM(k:List Kx)(d:D)(r:vI):vI:=if (xM k r).isSome=true then r.map λp=>if p.1=k then (p.1,d) else p else r++[(k,d)]
noncomputable def ug(x:Xv):M (Nat×vI):=λs=>match x with
 |.l n=>match s[n]? with
  |some (.dct kvs)=>some (.ok (n,kvs),s)
  |_=>none
 |_=>none
noncomputable def putD(n:Nat)(kvs:vI):M Unit:=λs=>some (.ok (),s.set n (.dct kvs))
noncomputable def key(x:Xv):M (List Kx):=match x with
 |.d v=>M.opt (kOf v)
 |.l _=>M.no
noncomputable def enumFrom:Nat->List D->List D
 |_,[]=>[]
 |i,x::r=>.tup [.int i,x]::enumFrom (i+1) r
inductive Src where
 |fix (xs:List D)|live (n:Nat)|zG (n:Nat)
noncomputable def Src.at(c:Src)(i:Nat)(s:S):Option (Option D):=match c with
 |.fix xs=>some xs[i]?
 |.live n=>match s[n]? with
  |some (.lst xs)=>some xs[i]?
  |_=>none
 |.zG n=>match s[n]? with
  |some (.lst xs)=>some (xs[i]?.map λx=>.tup [.int i,x])
  |_=>none
noncomputable def uh(x:Xv):M (Src×Nat):=λs=>match x with
 |.d (.tup xs)=>some (.ok (.fix (enumFrom 0 xs),(enumFrom 0 xs).length),s)
 |.d (.fl xs)=>some (.ok (.fix (enumFrom 0 xs),(enumFrom 0 xs).length),s)
 |.l n=>match s[n]? with
  |some (.lst xs)=>some (.ok (.zG n,xs.length),s)
  |_=>none
 |_=>none
noncomputable def src(x:Xv):M (Src×Nat):=λs=>match x with
 |.d (.tup xs)=>some (.ok (.fix xs,xs.length),s)
 |.d (.fl xs)=>some (.ok (.fix xs,xs.length),s)
 |.l n=>match s[n]? with
  |some (.lst xs)=>some (.ok (.live n,xs.length),s)
  |_=>none
 |_=>none
noncomputable def pD(x:Xv):M (List D):=match x with
 |.d (.tup xs)=>M.ret xs
 |.d (.fl xs)=>M.ret xs
 |_=>M.no
noncomputable def jk(a b:Int):List D:=(List.range (b-a).toNat).map λ(i:Nat)=>.int (a+i)
noncomputable def fj(a:Int):Bool:=decide (-(2^62)<a)&&decide (a<2^62)
noncomputable def walk(c:Src)(f:D->List D->M (List D)):Nat->Nat->List D->M (List D)
 |0,_,_=>M.no
 |k+1,i,acc=>λs=>match c.at i s with
  |none=>none
  |some none=>some (.ok acc,s)
  |some (some x)=>M.bd (f x acc) (λacc'=>walk c f k (i+1) acc') s
noncomputable def zJ(f:D->M Xv):List D->Option (List Int)
 |[]=>some []
 |x::r=>match f x [] with
  |some (.ok (.d (.int k)),[])=>(zJ f r).map (k::·)
  |_=>none
noncomputable abbrev Vs:=List (Option Xv)
noncomputable abbrev Fn:=Nat->List Xv->M Xv
noncomputable def locs:List Xv->List Nat
 |[]=>[]
 |.d _::r=>locs r
 |.l n::r=>n::locs r
noncomputable def dz:Nat->List Xv->List Xv
 |_,[]=>[]
 |k,.d v::r=>.d v::dz k r
 |k,.l _::r=>.l k::dz (k+1) r
noncomputable def iG(s:S):List Nat->Option S
 |[]=>some []
 |n::r=>match s[n]?,iG s r with
  |some o,some q=>some (o::q)
  |_,_=>none
noncomputable def cP(s:S):List Nat->S->S
 |n::r,o::q=>cP (s.set n o) r q
 |_,_=>s
noncomputable def cC(F:List Xv->M Xv)(xs:List Xv):M Xv:=λs=>
 if (locs xs).Nodup then match iG s (locs xs) with
  |none=>none
  |some s0=>match F (dz 0 xs) s0 with
   |none=>none
   |some (.er c fs,s1)=>some (.er c fs,cP s (locs xs) s1)
   |some (.ok (.d v),s1)=>some (.ok (.d v),cP s (locs xs) s1)
   |some (.ok (.l n),s1)=>match (locs xs)[n]? with
    |some m=>some (.ok (.l m),cP s (locs xs) s1)
    |none=>match s1[n]? with
     |some o=>some (.ok (.l s.length),cP s (locs xs) s1++[o])
     |none=>none
 else none
noncomputable def mkW(F:List Xv->M Xv)(c:Nat)(vs:List Xv):M Xv:=λs=>
 if locs vs=[] then match F (.d .any::vs) [] with
  |some (.ok (.d (.tup ds)),_)=>some (.ok (.d (.ob c ds)),s)
  |_=>none
 else none
noncomputable def Je(c:Nat)(x:Xv):M (List D):=match x with
 |.d (.ob e fs)=>if e=c then M.ret fs else M.no
 |_=>M.no
noncomputable def gw{α:Type}:List Nat->List α->List (Option α)->Option (List (Option α))
 |[],[],J=>some J
 |i::is,d::ds,J=>gw is ds (J.set i (some d))
 |_,_,_=>none
noncomputable def lG:D->Option (List D)
 |.tup xs=>some xs
 |_=>none
noncomputable def jY(tg:List Nat)(x:D)(J:Vs):Option Vs:=match tg with
 |[i]=>some (J.set i (some (.d x)))
 |is=>(lG x).bind λds=>gw is (ds.map .d) J
noncomputable def blk(many:Nat)(fr:List Nat)(J:Vs):Vs:=List.replicate many none++fr.map λj=>J[j]?.join
section
variable (ao:Nat->Nat->Bool)(aj:Bool)(F:Fn)
mutual
noncomputable def ev:E->Vs->M Xv
 |.c d,_=>M.ret (.d d)
 |.v i,J=>M.opt (J[i]?.join)
 |.pr fz p xs,J=>M.bd (evs xs J) λvs=>M.bd (dW vs) λds=>bJ fz (prim p ds)
 |.rT p q a b c,J=>M.bd (ev a J) λx=>M.bd (ev b J) λy=>M.bd (dW [x,y]) λds=>M.bd (bJ true (prim p ds)) λt=>M.bd (bool t) λk=>
   if k=true then M.bd (ev c J) λz=>M.bd (dW [y,z]) λds=>bJ true (prim q ds) else M.ret (.d (.bl false))
 |.t_ p q r a b c d,J=>M.bd (ev a J) λx=>M.bd (ev b J) λy=>M.bd (dW [x,y]) λds=>M.bd (bJ true (prim p ds)) λt=>M.bd (bool t) λk=>
   if k=true then M.bd (ev c J) λz=>M.bd (dW [y,z]) λds=>M.bd (bJ true (prim q ds)) λt=>M.bd (bool t) λk2=>
    if k2=true then M.bd (ev d J) λw=>M.bd (dW [z,w]) λds=>bJ true (prim r ds) else M.ret (.d (.bl false))
   else M.ret (.d (.bl false))
 |.and a b,J=>M.bd (ev a J) λx=>M.bd (bool x) λk=>if k=true then ev b J else M.ret (.d (.bl false))
 |.or a b,J=>M.bd (ev a J) λx=>M.bd (bool x) λk=>if k=true then M.ret (.d (.bl true)) else ev b J
 |.not a,J=>M.bd (ev a J) λx=>M.bd (bool x) λk=>M.ret (.d (.bl (!k)))
 |.ite c a b,J=>M.bd (ev c J) λx=>M.bd (bool x) λk=>if k=true then ev a J else ev b J
 |.tup xs,J=>M.bd (evs xs J) λvs=>M.bd (dF vs) λds=>M.ret (.d (.tup ds))
 |.lst fz xs,J=>M.bd (evs xs J) λvs=>M.bd (dF vs) λds=>newL fz ds
 |.uc k i,_=>M.ret (.d (.fd [.str k] [.int i]))
 |.call f xs,J=>M.bd (evs xs J) λvs=>cC (F f) vs
 |.fZ a k,J=>M.bd (ev a J) λx=>M.bd (rd x) λd=>M.bd (M.opt (lF ao d k)) λb=>M.ret (.d (.bl b))
 |.sl fz a lo hi,J=>M.bd (ev a J) λx=>M.bd (xO lo J) λl=>M.bd (xO hi J) λh=>M.bd (rd x) λd=>bJ fz (cutD d l h)
 |.meth fz p k o xs,J=>M.bd (ev o J) λx=>M.bd (rd x) λd=>if pq k d=true then M.bd (evs xs J) λys=>M.bd (dW (x::ys)) λds=>bJ fz (prim p ds) else M.no
 |.push o a,J=>M.bd (ev o J) λx=>M.bd (cO x) λ_=>M.bd (ev a J) λy=>M.bd (dat y) λd=>M.bd (cO x) λnx=>if nx.2.length<sizeLine then M.bd (putL nx.1 (nx.2++[d])) λ_=>M.ret (.d .non) else M.no
 |.pop o,J=>M.bd (ev o J) λx=>M.bd (cO x) λnx=>match nx.2.getLast? with
   |some d=>M.bd (putL nx.1 nx.2.dropLast) λ_=>M.ret (.d d)
   |none=>M.no
 |.comp fz elt tg it fr many cond,J=>if aj=true then M.bd (ou it J) λcn=>
   M.bd (walk cn.1 (λd acc=>M.bd (M.opt (jY tg d (blk many fr J))) λJ'=>M.bd (M.qt (uo cond J')) λok=>
    if ok=true then M.bd (M.qt (ev elt J')) λy=>M.bd (dat y) λe=>if acc.length<sizeLine then M.ret (acc++[e]) else M.no else M.ret acc) (cn.2+1) 0 []) λxs=>newL fz xs
  else M.no
 |.Iz fz elt tg it Ys Ip fr many cond,J=>if aj=true then M.bd (ou it J) λcn=>
   M.bd (walk cn.1 (λd acc=>M.bd (M.opt (jY tg d (blk many fr J))) λJ'=>M.bd (M.qt (ou Ip J')) λYv=>
    walk Yv.1 (λd2 acc=>M.bd (M.opt (jY Ys d2 J')) λYw=>M.bd (M.qt (uo cond Yw)) λok=>
     if ok=true then M.bd (M.qt (ev elt Yw)) λy=>M.bd (dat y) λe=>if acc.length<sizeLine then M.ret (acc++[e]) else M.no else M.ret acc) (Yv.2+1) 0 acc) (cn.2+1) 0 []) λxs=>newL fz xs
  else M.no
 |.fld o cs i,J=>M.bd (ev o J) λx=>match x with
   |.d (.exc c fs)=>if cs.contains c=true then M.opt (fs[i]?.map .d) else M.no
   |_=>M.no
 |.of o c i,J=>M.bd (ev o J) λx=>M.bd (Je c x) λfs=>M.opt (fs[i]?.map .d)
 |.mk c f xs,J=>M.bd (evs xs J) λvs=>mkW (F f) c vs
 |.cm c f o xs,J=>M.bd (ev o J) λx=>M.bd (Je c x) λ_=>M.bd (evs xs J) λvs=>M.qt (cC (F f) (x::vs))
 |.Rt,_=>λs=>some (.ok (.l s.length),s++[.dct []])
 |.din b k d,J=>M.bd (ev k J) λx=>M.bd (ev d J) λy=>M.bd (key x) λkx=>M.bd (ug y) λnk=>M.ret (.d (.bl ((xM kx nk.2).isSome==b)))
 |.Ru d k,J=>M.bd (ev d J) λy=>M.bd (ev k J) λx=>M.bd (key x) λkx=>M.bd (ug y) λnk=>M.opt ((xM kx nk.2).map .d)
 |.tru a,J=>M.bd (ev a J) λx=>M.bd (rd x) λd=>M.bd (M.opt (Jd d)) λk=>M.ret (.d (.bl k))
 |.IK fz a b,J=>if aj=true then M.bd (ev a J) λx=>match x with
   |.d (.fl xs)=>M.bd (M.opt (zJ (λd=>ev b [some (.d d)]) xs)) λks=>M.bd (M.opt (ql (ltK ks) xs)) λys=>newL fz ys
   |_=>M.no else M.no
 |.orv a b,J=>M.bd (ev a J) λx=>M.bd (rd x) λd=>M.bd (M.opt (Jd d)) λk=>if k=true then M.ret x else ev b J
 |.ins o i a,J=>M.bd (ev o J) λx=>M.bd (cO x) λ_=>M.bd (ev i J) λz=>M.bd (int z) λj=>M.bd (ev a J) λy=>M.bd (dat y) λd=>M.bd (cO x) λnx=>if 0<=j/\j<=nx.2.length/\nx.2.length<sizeLine then M.bd (putL nx.1 (nx.2.take j.toNat++d::nx.2.drop j.toNat)) λ_=>M.ret (.d .non) else M.no
 |.no,_=>M.no
noncomputable def ou:Wk->Vs->M (Src×Nat)
 |.seq e,J=>M.bd (ev e J) src
 |.rg a b,J=>M.bd (ev a J) λx=>M.bd (ev b J) λy=>M.bd (int x) λi=>M.bd (int y) λj=>if fj i&&fj j then M.ret (.fix (jk i j),(jk i j).length) else M.no
 |.zip a b,J=>M.bd (ev a J) λx=>M.bd (ev b J) λy=>M.bd (pD x) λxs=>M.bd (pD y) λys=>M.ret (.fix (List.zipWith (λp q=>.tup [p,q]) xs ys),(List.zipWith (λ(p q:D)=>D.tup [p,q]) xs ys).length)
 |.enum a,J=>M.bd (ev a J) uh
 |.rrg a,J=>M.bd (ev a J) λx=>M.bd (int x) λi=>if fj i then M.ret (.fix (jk 0 i).reverse,(jk 0 i).length) else M.no
noncomputable def xO:Eo->Vs->M (Option Int)
 |.no,_=>M.ret none
 |.yes a,J=>M.bd (ev a J) λx=>M.bd (int x) λi=>M.ret (some i)
noncomputable def uo:Eo->Vs->M Bool
 |.no,_=>M.ret true
 |.yes a,J=>M.bd (ev a J) bool
noncomputable def evs:Es->Vs->M (List Xv)
 |.nil,_=>M.ret []
 |.cons a r,J=>M.bd (ev a J) λx=>M.bd (evs r J) λxs=>M.ret (x::xs)
end
end
inductive Out where
 |nx (J:Vs)|rt (x:Xv)|bk (J:Vs)|ct (J:Vs)|er (c:Nat) (fs:List D) (J:Vs)
noncomputable abbrev MS:=S->Option (Out×S)
noncomputable def ofM{α:Type}(m:M α)(J:Vs)(k:α->MS):MS:=λs=>match m s with
 |some (.ok a,s')=>k a s'
 |some (.er c fs,s')=>some (.er c fs J,s')
 |none=>none
noncomputable def cF(m:MS)(k:Vs->MS):MS:=λs=>match m s with
 |some (.nx J,s')=>k J s'
 |r=>r
section
variable (ao:Nat->Nat->Bool)
noncomputable def store(aj:Bool)(F:Fn)(t:Tg)(x:Xv)(J:Vs):MS:=match t with
 |.nm i=>λs=>some (.nx (J.set i (some x)),s)
 |.tp is=>if aj=true then ofM (M.bd (dat x) λd=>M.opt ((lG d).bind λds=>gw is (ds.map .d) J)) J (λJ' s=>some (.nx J',s)) else λ_=>none
 |.ao o i=>ofM (M.bd (dat x) λd=>M.bd (ev ao aj F o J) λy=>M.bd (ev ao aj F i J) λz=>M.bd (int z) λj=>M.bd (cO y) λnx=>
   match L2.wW nx.2.length j with
   |some q=>putL nx.1 (nx.2.set q d)
   |none=>M.no) J (λ_ s=>some (.nx J,s))
noncomputable def pF(c:Vs->M Bool)(b:Vs->MS):Nat->Vs->MS
 |0,_=>λ_=>none
 |k+1,J=>ofM (c J) J λok=>if ok=true then λs=>match b J s with
   |some (.nx J',s')=>pF c b k J' s'
   |some (.ct J',s')=>pF c b k J' s'
   |some (.bk J',s')=>some (.nx J',s')
   |r=>r
  else λs=>some (.nx J,s)
noncomputable def dG(c:Src)(b:D->Vs->MS):Nat->Nat->Vs->MS
 |0,_,_=>λ_=>none
 |k+1,i,J=>λs=>match c.at i s with
  |none=>none
  |some none=>some (.nx J,s)
  |some (some d)=>match b d J s with
   |some (.nx J',s')=>dG c b k (i+1) J' s'
   |some (.ct J',s')=>dG c b k (i+1) J' s'
   |some (.bk J',s')=>some (.nx J',s')
   |r=>r
noncomputable def goes(i:Nat):Out->Out
 |.nx J=>.nx (J.set i none)
 |.bk J=>.bk (J.set i none)
 |.ct J=>.ct (J.set i none)
 |r=>r
noncomputable def Jf:Nat:=1000000000000
mutual
noncomputable def ex(aj:Bool)(F:Bool->Fn):St->Vs->MS
 |.pass,J=>λs=>some (.nx J,s)
 |.ex e,J=>ofM (ev ao aj (F aj) e J) J λ_ s=>some (.nx J,s)
 |.asg t e,J=>ofM (ev ao aj (F aj) e J) J λx=>store ao aj (F aj) t x J
 |.par i j a b,J=>if aj=true then ofM (M.bd (ev ao aj (F aj) a J) λx=>M.bd (ev ao aj (F aj) b J) λy=>M.ret (x,y)) J λxy s=>some (.nx ((J.set i (some xy.1)).set j (some xy.2)),s) else λ_=>none
 |.aug i e,J=>ofM (M.bd (M.opt (J[i]?.join)) λx=>M.bd (ev ao aj (F aj) e J) λy=>M.bd (int x) λp=>M.bd (int y) λq=>M.ret (p+q)) J λr s=>some (.nx (J.set i (some (.d (.int r)))),s)
 |.ret e,J=>ofM (ev ao aj (F aj) e J) J λx s=>some (.rt x,s)
 |.rise c kp xs,J=>if aj=true then ofM (M.bd (evs ao aj (F aj) xs J) dF) J λds s=>some (.er c (if kp=true then ds else []) J,s) else λ_=>none
 |.iff c t e,J=>ofM (M.bd (ev ao aj (F aj) c J) bool) J λb=>if b=true then exs aj F t J else exs aj F e J
 |.wh c b,J=>pF (λJ=>M.bd (ev ao aj (F aj) c J) bool) (λJ=>exs aj F b J) Jf J
 |.fr t w b,J=>if aj=true then ofM (ou ao aj (F aj) w J) J λcn=>dG cn.1 (λd J=>cF (store ao aj (F aj) t (.d d) J) λJ'=>exs aj F b J') (cn.2+1) 0 J else λ_=>none
 |.ud b d i h,J=>if aj=true then λs=>match exs aj F b J s with
   |some (.er c fs J',s')=>if ao c d=true then (match exs false F h (J'.set i (some (.d (.exc c fs)))) s' with
    |some (r,s'')=>(match r with
     |.er _ _ _=>none
     |r=>some (goes i r,s''))
    |none=>none) else none
   |r=>r
  else λ_=>none
 |.dput d k v,J=>ofM (M.bd (ev ao aj (F aj) v J) λz=>M.bd (dat z) λw=>M.bd (ev ao aj (F aj) d J) λy=>M.bd (ev ao aj (F aj) k J) λx=>M.bd (key x) λkx=>M.bd (ug y) λnk=>if nk.2.length<sizeLine then putD nk.1 (RM kx w nk.2) else M.no) J (λ_ s=>some (.nx J,s))
 |.no,_=>λ_=>none
noncomputable def exs(aj:Bool)(F:Bool->Fn):bH->Vs->MS
 |.nil,J=>λs=>some (.nx J,s)
 |.cons a r,J=>cF (ex aj F a J) λJ'=>exs aj F r J'
end
structure Df where
 many:Nat
 gY:Nat
 body:bH
noncomputable def call(T:Nat->Option Df):Nat->Bool->Fn
 |0,_,_,_=>M.no
 |k+1,aj,f,xs=>match T f with
  |none=>M.no
  |some d=>if xs.length=d.gY then λs=>match exs ao aj (λc=>call T k c) d.body (xs.map some++List.replicate (d.many-d.gY) none) s with
    |some (.nx _,s')=>some (.ok (.d .non),s')
    |some (.rt v,s')=>some (.ok v,s')
    |some (.er c fs _,s')=>some (.er c fs,s')
    |_=>none
   else M.no
end
end Mi
namespace Mi
open PySem L2
structure Ph where
 z:Addr->Prop
 l:List Addr
structure Cl where
 a:Nat->Addr
 f:Nat->List Str
 b:Nat->Addr
 g:Nat->List Str
section
variable (K:W.Frag)(cA:Cl)
def KT(a:Addr)(vs:List V):Prop:=fL K (λ_=>none) a vs
def KL(a:Addr)(vs:List V):Prop:=dw K (λ_=>none) a vs
def TupAt(U:Ph)(H:Hp)(a:Addr)(vs:List V):Prop:=(Rd H a (.tup vs)/\¬U.z a)\/KT K a vs
def LstAt(U:Ph)(H:Hp)(a:Addr)(vs:List V):Prop:=(Rd H a (.lst vs)/\¬U.z a)\/KL K a vs
def ExcAt(U:Ph)(H:Hp)(a:Addr)(c:Nat)(vs:List V):Prop:=¬U.z a/\((cA.f c=[]/\vs=[]/\H a=some (iz a (cA.a c) none))\/∃dx,H a=some (iz a (cA.a c) (some dx))/\¬U.z dx/\H dx=some (.xd ((cA.f c).zip vs))/\(cA.f c).length=vs.length)
def pG(U:Ph)(H:Hp)(a:Addr)(c:Nat)(vs:List V):Prop:=¬U.z a/\∃dx,H a=some (.ins (cA.b c) dx ((cA.g c).zip vs))/\(cA.g c).length=vs.length
mutual
inductive Rep (U:Ph) (H:Hp):D->V->Prop where
 |non:Rep U H .non .non
 |bl (b:Bool):Rep U H (.bl b) (.bl b)
 |int (i:Int):Rep U H (.int i) (.int i)
 |str (x:Str):Rep U H (.str x) (.str x)
 |tup {a:Addr} {xs:List D} {vs:List V} (h:TupAt K U H a vs) (r:aB U H xs vs):Rep U H (.tup xs) (.ref a)
 |fl {a:Addr} {xs:List D} {vs:List V} (h:LstAt K U H a vs) (r:aB U H xs vs):Rep U H (.fl xs) (.ref a)
 |fd {a:Addr} {k:Str} {i:Int} (h:H a=some (.dK [(.inr k,.int i)])) (n:¬U.z a):Rep U H (.fd [.str k] [.int i]) (.ref a)
 |exc {a:Addr} {c:Nat} {xs:List D} {vs:List V} (h:ExcAt cA U H a c vs) (r:aB U H xs vs):Rep U H (.exc c xs) (.ref a)
 |ob {a:Addr} {c:Nat} {xs:List D} {vs:List V} (h:pG cA U H a c vs) (r:aB U H xs vs):Rep U H (.ob c xs) (.ref a)
 |any (a:Addr):Rep U H .any (.ref a)
inductive aB (U:Ph) (H:Hp):List D->List V->Prop where
 |nil:aB U H [] []
 |cons {d:D} {v:V} {ds:List D} {vs:List V} (h:Rep U H d v) (r:aB U H ds vs):aB U H (d::ds) (v::vs)
end
inductive bF (U:Ph) (H:Hp):Xv->V->Prop where
 |d {x:D} {v:V} (h:Rep K cA U H x v):bF U H (.d x) v
 |l {n:Nat} {a:Addr} (h:U.l[n]?=some a):bF U H (.l n) (.ref a)
inductive bQ (U:Ph) (H:Hp):List Xv->List V->Prop where
 |nil:bQ U H [] []
 |cons {d:Xv} {v:V} {ds:List Xv} {vs:List V} (h:bF K cA U H d v) (r:bQ U H ds vs):bQ U H (d::ds) (v::vs)
noncomputable def kxH:Kx->Int
 |.non=>reduceHash 0xFCA86420
 |.int i=>hashInt i
 |.row is=>reduceHash (Builtin.Tuple.tupleHashOf (is.map hashInt))
noncomputable def Jg(k:List Kx):Int:=reduceHash (Builtin.Tuple.tupleHashOf (k.map kxH))
noncomputable def kxD:Kx->D
 |.non=>.non
 |.int i=>.int i
 |.row is=>.tup (is.map .int)
noncomputable def RN(k:List Kx):D:=.tup (k.map kxD)
noncomputable abbrev qX:=List (List Kx×Addr×Value)
noncomputable def DcO(a:Addr)(xs:qX):HO:=.ext λh=>(a==sysModules)=false/\xs.length<=sizeLine/\∃o es ep,h.get? a=some o/\o.ExactDict/\o.data=.dict es ep/\es.toList=xs.map (λx=>⟨Jg x.1,.ref x.2.1,x.2.2⟩)/\(xs.map (·.1)).Nodup
inductive BR (U:Ph) (H:Hp):vI->qX->Prop where
 |nil:BR U H [] []
 |cons {k:List Kx} {d:D} {ka:Addr} {u:Value} {v:V} {r:vI} {xs:qX} (hk:Rep K cA U H (RN k) (.ref ka)) (hu:RelV v u) (hv:Rep K cA U H d v) (q:BR U H r xs):BR U H ((k,d)::r) ((k,ka,u)::xs)
noncomputable def kE(U:Ph)(H:Hp)(a:Addr):SO->Prop
 |.lst xs=>∃vs,H a=some (.lst vs)/\aB K cA U H xs vs
 |.dct kvs=>∃xs,H a=some (DcO a xs)/\BR K cA U H kvs xs
structure aG(U:Ph)(H:Hp)(s:S):Prop where
 len:U.l.length=s.length
 obj:∀(n:Nat) o a,s[n]?=some o->U.l[n]?=some a->kE K cA U H a o
 uniq:U.l.Nodup
 lz:∀a∈U.l,U.z a
 zt:∀a,U.z a->∃o,H a=some o
structure Ext(U:Ph)(H:Hp)(U':Ph)(H':Hp):Prop where
 more:∃r,U'.l=U.l++r/\∀b∈r,H b=none
 vJ:∀a,U.z a->U'.z a
 nO:∀a,U'.z a->U.z a\/H a=none
 frame:∀a o,H a=some o->a∉U.l->H' a=some o
 stay:∀a o,H a=some o->∃o',H' a=some o'
def bx(U:Ph)(H:Hp)(Z:L2.St)(J:Vs):Prop:=Z.length=J.length/\∀(i:Nat) (x:Xv),J[i]?=some (some x)->∃v,Z[i]?=some (some v)/\bF K cA U H x v
end
section
variable {K:W.Frag}{cA:Cl}{U U' RP:Ph}{H H' RQ:Hp}{s:S}{Z:L2.St}{J:Vs}
theorem Ext.refl:Ext U H U H:=⟨⟨[],by simp,by simp⟩,λ_ h=>h,λ_ h=>.inl h,λ_ _ h _=>h,λ_ o h=>⟨o,h⟩⟩
theorem Ext.lH(x:Ext U H U' H'){a:Addr}(h:H' a=none):H a=none:=by
 cases e:H a with
 |none=>rfl
 |some o=>obtain⟨o',q⟩:=x.stay a o e;rw[h] at q;cases q
theorem Ext.trans(x:Ext U H U' H')(y:Ext U' H' RP RQ):Ext U H RP RQ:=by
 obtain⟨r,e,hr⟩:=x.more;obtain⟨r',e',m6⟩:=y.more;refine⟨⟨r++r',by rw[e',e,DW],λb hb=>?_⟩,λa h=>y.vJ a (x.vJ a h),λa h=>?_,λa o h n=>y.frame a o (x.frame a o h n) ?_,λa o h=>?_⟩
 ·rcases gK.mp hb with z|z
  ·exact hr b z
  ·exact x.lH (m6 b z)
 ·rcases y.nO a h with z|z
  ·exact x.nO a z
  ·exact .inr (x.lH z)
 ·rw[e];intro z;rcases gK.mp z with z|z
  ·exact n z
  ·rw[hr a z] at h;cases h
 ·obtain⟨o',q⟩:=x.stay a o h;exact y.stay a o' q
theorem Ext.get(x:Ext U H U' H'){n:Nat}{a:Addr}(h:U.l[n]?=some a):U'.l[n]?=some a:=by
 obtain⟨r,e,_⟩:=x.more;rw[e,pQ (jt.mp h).1];exact h
theorem Ext.out(x:Ext U H U' H')(hz:∀a∈U.l,U.z a){a:Addr}{o:HO}(h:H a=some o)(n:¬U.z a):H' a=some o/\¬U'.z a:=
 ⟨x.frame a o h λz=>n (hz a z),λz=>by
  rcases x.nO a z with y|y
  ·exact n y
  ·rw[h] at y;cases y⟩
theorem TupAt.mono(x:Ext U H U' H')(hz:∀a∈U.l,U.z a){a:Addr}{vs:List V}(h:TupAt K U H a vs):TupAt K U' H' a vs:=by
 rcases h with ⟨h|⟨o,h⟩,n⟩|h
 ·obtain⟨p,q⟩:=x.out hz h n;exact .inl ⟨.inl p,q⟩
 ·obtain⟨p,q⟩:=x.out hz h n;exact .inl ⟨.inr ⟨o,p⟩,q⟩
 ·exact .inr h
theorem LstAt.mono(x:Ext U H U' H')(hz:∀a∈U.l,U.z a){a:Addr}{vs:List V}(h:LstAt K U H a vs):LstAt K U' H' a vs:=by
 rcases h with ⟨h|⟨o,h⟩,n⟩|h
 ·obtain⟨p,q⟩:=x.out hz h n;exact .inl ⟨.inl p,q⟩
 ·obtain⟨p,q⟩:=x.out hz h n;exact .inl ⟨.inr ⟨o,p⟩,q⟩
 ·exact .inr h
theorem ExcAt.mono(x:Ext U H U' H')(hz:∀a∈U.l,U.z a){a:Addr}{c:Nat}{vs:List V}(h:ExcAt cA U H a c vs):ExcAt cA U' H' a c vs:=by
 obtain⟨n,⟨e1,e2,h⟩|⟨dx,h,n2,h2,h3⟩⟩:=h
 ·obtain⟨p,q⟩:=x.out hz h n;exact⟨q,.inl ⟨e1,e2,p⟩⟩
 ·obtain⟨p,q⟩:=x.out hz h n;obtain⟨p2,q2⟩:=x.out hz h2 n2;exact⟨q,.inr ⟨dx,p,q2,p2,h3⟩⟩
theorem pG.mono(x:Ext U H U' H')(hz:∀a∈U.l,U.z a){a:Addr}{c:Nat}{vs:List V}(h:pG cA U H a c vs):pG cA U' H' a c vs:=by
 obtain⟨n,dx,h,h3⟩:=h;obtain⟨p,q⟩:=x.out hz h n;exact⟨q,dx,p,h3⟩
theorem Rep.mono(x:Ext U H U' H')(hz:∀a∈U.l,U.z a){d:D}{v:V}(h:Rep K cA U H d v):Rep K cA U' H' d v:=
 Rep.rec (motive_1:=λd v _=>Rep K cA U' H' d v) (motive_2:=λd v _=>aB K cA U' H' d v) .non .bl .int .str (λh _ i=>.tup (h.mono x hz) i) (λh _ i=>.fl (h.mono x hz) i) (λh n=>.fd (x.out hz h n).1 (x.out hz h n).2) (λh _ i=>.exc (h.mono x hz) i) (λh _ i=>.ob (h.mono x hz) i) .any .nil (λ_ _ i j=>.cons i j) h
theorem aB.mono(x:Ext U H U' H')(hz:∀a∈U.l,U.z a){d:List D}{v:List V}(h:aB K cA U H d v):aB K cA U' H' d v:=
 aB.rec (motive_1:=λd v _=>Rep K cA U' H' d v) (motive_2:=λd v _=>aB K cA U' H' d v) .non .bl .int .str (λh _ i=>.tup (h.mono x hz) i) (λh _ i=>.fl (h.mono x hz) i) (λh n=>.fd (x.out hz h n).1 (x.out hz h n).2) (λh _ i=>.exc (h.mono x hz) i) (λh _ i=>.ob (h.mono x hz) i) .any .nil (λ_ _ i j=>.cons i j) h
theorem aB.map(m:∀d v,Rep K cA U H d v->Rep K cA U' H' d v):∀{d:List D} {v:List V},aB K cA U H d v->aB K cA U' H' d v
 |_,_,.nil=>.nil
 |_,_,.cons h r=>.cons (m _ _ h) (aB.map m r)
theorem BR.map(m:∀d v,Rep K cA U H d v->Rep K cA U' H' d v){d:vI}{v:qX}(h:BR K cA U H d v):BR K cA U' H' d v:=by
 induction h with
 |nil=>exact .nil
 |cons a b c _ ih=>exact .cons (m _ _ a) b (m _ _ c) ih
theorem kE.map{a:Addr}{o:SO}(h:kE K cA U H a o)(e:∀u,H a=some u->H' a=some u)(m:∀d v,Rep K cA U H d v->Rep K cA U' H' d v):kE K cA U' H' a o:=by
 cases o with
 |lst xs=>obtain⟨vs,q,r⟩:=h;exact⟨vs,e _ q,r.map m⟩
 |dct xs=>obtain⟨vs,q,r⟩:=h;exact⟨vs,e _ q,r.map m⟩
theorem bF.mono(x:Ext U H U' H')(hz:∀a∈U.l,U.z a){d:Xv}{v:V}(h:bF K cA U H d v):bF K cA U' H' d v:=by
 cases h with
 |d h=>exact .d (h.mono x hz)
 |l h=>exact .l (x.get h)
theorem bx.mono(x:Ext U H U' H')(hz:∀a∈U.l,U.z a)(h:bx K cA U H Z J):bx K cA U' H' Z J:=⟨h.1,λi d e=>let ⟨v,a,b⟩:=h.2 i d e;⟨v,a,b.mono x hz⟩⟩
theorem aB.len:∀{ds:List D} {vs:List V},aB K cA U H ds vs->ds.length=vs.length
 |_,_,.nil=>rfl
 |_,_,.cons _ r=>by rw[je,je,aB.len r]
theorem bQ.len:∀{ds:List Xv} {vs:List V},bQ K cA U H ds vs->ds.length=vs.length
 |_,_,.nil=>rfl
 |_,_,.cons _ r=>by rw[je,je,bQ.len r]
theorem aB.get:∀{ds:List D} {vs:List V} {i:Nat} {d:D},aB K cA U H ds vs->ds[i]?=some d->∃v,vs[i]?=some v/\Rep K cA U H d v
 |_,_,_,_,.nil,e=>by simp at e
 |_,_,0,_,.cons h _,e=>by simp at e;subst e;exact⟨_,rfl,h⟩
 |_,_,i+1,d,.cons _ r,e=>by
  obtain⟨v,a,b⟩:=aB.get (i:=i) (d:=d) r (by simpa using e);exact⟨v,by simpa using a,b⟩
theorem bQ.get:∀{ds:List Xv} {vs:List V} {i:Nat} {d:Xv},bQ K cA U H ds vs->ds[i]?=some d->∃v,vs[i]?=some v/\bF K cA U H d v
 |_,_,_,_,.nil,e=>by simp at e
 |_,_,0,_,.cons h _,e=>by simp at e;subst e;exact⟨_,rfl,h⟩
 |_,_,i+1,d,.cons _ r,e=>by
  obtain⟨v,a,b⟩:=bQ.get (i:=i) (d:=d) r (by simpa using e);exact⟨v,by simpa using a,b⟩
theorem aB.none:∀{ds:List D} {vs:List V} {i:Nat},aB K cA U H ds vs->ds[i]?=none->vs[i]?=none:=λ{ds vs i} r e=>by
 have:=r.len;have h2:ds.length<=i:=pR.mp e;exact pR.mpr gV
theorem aB.app:∀{ds es:List D} {vs us:List V},aB K cA U H ds vs->aB K cA U H es us->aB K cA U H (ds++es) (vs++us)
 |_,_,_,_,.nil,s=>s
 |_,_,_,_,.cons h r,s=>.cons h (aB.app r s)
theorem aB.take:∀{ds:List D} {vs:List V} (n:Nat),aB K cA U H ds vs->aB K cA U H (ds.take n) (vs.take n)
 |_,_,0,_=>by simp;exact .nil
 |_,_,n+1,.nil=>by simp;exact .nil
 |_,_,n+1,.cons h r=>by simp only[List.take_succ_cons];exact .cons h (aB.take n r)
theorem aB.drop:∀{ds:List D} {vs:List V} (n:Nat),aB K cA U H ds vs->aB K cA U H (ds.drop n) (vs.drop n)
 |_,_,0,r=>r
 |_,_,n+1,.nil=>by simp;exact .nil
 |_,_,n+1,.cons _ r=>by simp only[List.drop_succ_cons];exact aB.drop n r
theorem aB.set{d:D}{v:V}(h:Rep K cA U H d v):∀{ds:List D} {vs:List V} (i:Nat),aB K cA U H ds vs->aB K cA U H (ds.set i d) (vs.set i v)
 |_,_,_,.nil=>.nil
 |_,_,0,.cons _ r=>.cons h r
 |_,_,i+1,.cons q r=>.cons q (aB.set h i r)
theorem aB.rev:∀{ds:List D} {vs:List V},aB K cA U H ds vs->aB K cA U H ds.reverse vs.reverse
 |_,_,.nil=>.nil
 |_,_,.cons h r=>by rw[K4,K4];exact(aB.rev r).app (.cons h .nil)
theorem aB.cut{ds:List D}{vs:List V}{l h:Option Int}(r:aB K cA U H ds vs):aB K cA U H (Mi.cut ds l h) (mj vs l h):=by
 unfold Mi.cut mj;rw[<-r.len];exact(r.drop _).take _
def bI(H H':Hp):Prop:=∀a o,H a=some o->H' a=some o
theorem bI.refl:bI H H:=λ_ _ h=>h
theorem bI.new{p:Addr}{o:HO}(hp:H p=none):bI H (upd H p o):=λa u h=>by rw[dj (El h hp)];exact h
theorem bI.ext(g:bI H H'):Ext U H U H':=⟨⟨[],by simp,by simp⟩,λ_ h=>h,λ_ h=>.inl h,λa o h _=>g a o h,λa o h=>⟨o,g a o h⟩⟩
theorem kE.grow{a:Addr}{o:SO}(g:bI H H')(hz:∀a∈U.l,U.z a)(h:kE K cA U H a o):kE K cA U H' a o:=h.map (g _) λ_ _ r=>r.mono g.ext hz
theorem aG.grow(g:bI H H')(h:aG K cA U H s):aG K cA U H' s:=
 ⟨h.len,λn o a e1 e2=>(h.obj n o a e1 e2).grow g h.lz,h.uniq,h.lz,λa z=>let ⟨o,e⟩:=h.zt a z;⟨o,g _ _ e⟩⟩
theorem aG.nz(h:aG K cA U H s){p:Addr}(hp:H p=none):¬U.z p:=λz=>by obtain⟨o,e⟩:=h.zt p z;rw[hp] at e;cases e
noncomputable def Ph.add(U:Ph)(p:Addr):Ph:=⟨λa=>U.z a\/a=p,U.l++[p]⟩
theorem Ext.add{p:Addr}{o:HO}(hp:H p=none):Ext U H (U.add p) (upd H p o):=
 ⟨⟨[p],rfl,by simpa using hp⟩,λ_ h=>.inl h,λa h=>h.imp id λe=>by rw[e];exact hp,λa u h _=>bI.new hp a u h,λa u h=>⟨u,bI.new hp a u h⟩⟩
theorem aG.RT{p:Addr}{so:SO}{ho:HO}(h:aG K cA U H s)(hp:H p=none)(hr:kE K cA (U.add p) (upd H p ho) p so):aG K cA (U.add p) (upd H p ho) (s++[so]):=by
 have pn:p∉U.l:=λz=>h.nz hp (h.lz p z);refine⟨by show (U.l++[p]).length=_;rw[fK,fK,h.len];rfl,λn o a e1 e2=>?_,?_,λa ha=>?_,λa ha=>?_⟩
 ·have e2:(U.l++[p])[n]?=some a:=e2;by_cases hn:n<s.length
  ·rw[pQ hn] at e1;rw[pQ (by rw[h.len];exact hn)] at e2;exact(h.obj n o a e1 e2).map (bI.new hp _) λ_ _ r=>r.mono (Ext.add hp) h.lz
  ·have hl:n=s.length:=by
    have z:=(jt.mp e1).1;rw[fK] at z;simp at z
    lia
   subst hl;rw[oE (bV _)] at e1;rw[oE (by rw[h.len];exact bV _)] at e2;simp at e1;simp[h.len] at e2;subst e1 e2;exact hr
 ·show (U.l++[p]).Nodup;rw[K5];refine⟨h.uniq,by simp,λa ha b hb e=>?_⟩;simp at hb;subst hb e;exact pn ha
 ·have ha:a∈U.l++[p]:=ha;rcases gK.mp ha with z|z
  ·exact .inl (h.lz a z)
  ·simp at z;exact .inr z
 ·rcases ha with z|z
  ·obtain⟨o,e⟩:=h.zt a z;exact⟨o,bI.new hp _ _ e⟩
  ·subst z;exact⟨_,kZ⟩
theorem aG.add{p:Addr}{xs:List D}{vs:List V}(h:aG K cA U H s)(hp:H p=none)(r:aB K cA U H xs vs):aG K cA (U.add p) (upd H p (.lst vs)) (s++[.lst xs]):=h.RT hp ⟨vs,kZ,r.mono (Ext.add hp) h.lz⟩
theorem Ext.write{n:Nat}{p:Addr}{o:HO}(hp:U.l[n]?=some p)(hv:∃u,H p=some u):Ext U H U (upd H p o):=by
 have hm:p∈U.l:=gD hp;refine⟨⟨[],by simp,by simp⟩,λ_ h=>h,λ_ h=>.inl h,λa u h n=>by
  have ne:a≠p:=λe=>n (by rw[e];exact hm);rw[dj ne];exact h,λa u h=>?_⟩
 by_cases e:a=p
 ·subst e;exact⟨o,kZ⟩
 ·exact⟨u,by rw[dj e];exact h⟩
theorem aG.BW{n:Nat}{p:Addr}{so:SO}{ho:HO}(h:aG K cA U H s)(hl:n<s.length)(hp:U.l[n]?=some p)(hr:kE K cA U (upd H p ho) p so):aG K cA U (upd H p ho) (s.set n so):=by
 have hv:=h.zt p (h.lz p (gD hp));have x:Ext U H U (upd H p ho):=Ext.write hp hv;refine⟨by rw[oH];exact h.len,λm o a e1 e2=>?_,h.uniq,h.lz,λa ha=>?_⟩
 ·by_cases hm:n=m
  ·subst hm;rw[yC hl] at e1;cases e1;rw[hp] at e2;cases e2;exact hr
  ·rw[rH hm] at e1;have ne:a≠p:=λy=>by
    subst y;exact hm ((O2 (jt.mp hp).1 h.uniq).mp (hp.trans e2.symm))
   exact(h.obj m o a e1 e2).map (λ_ q=>by rw[dj ne];exact q) λ_ _ r=>r.mono x h.lz
 ·obtain⟨o,e⟩:=h.zt a ha;obtain⟨o',e'⟩:=x.stay a o e;exact⟨o',e'⟩
theorem aG.write{n:Nat}{p:Addr}{xs ys:List D}{us:List V}(h:aG K cA U H s)(hn:s[n]?=some (.lst xs))(hp:U.l[n]?=some p)(r:aB K cA U H ys us):aG K cA U (upd H p (.lst us)) (s.set n (.lst ys)):=
 h.BW (jt.mp hn).1 hp ⟨us,kZ,r.mono (Ext.write hp (h.zt p (h.lz p (gD hp)))) h.lz⟩
theorem bx.set{i:Nat}{d:Xv}{v:V}(hL:bx K cA U H Z J)(r:bF K cA U H d v):bx K cA U H (Z.set i (some v)) (J.set i (some d)):=by
 refine⟨by rw[oH,oH];exact hL.1,λj e h=>?_⟩;by_cases lD:i=j
 ·subst lD;by_cases hl:i<J.length
  ·rw[yC hl] at h;cases h;exact⟨v,by rw[yC (by rw[hL.1];exact hl)],r⟩
  ·rw[KQ (by rw[oH];lia)] at h;cases h
 ·rw[rH lD] at h;obtain⟨u,a,b⟩:=hL.2 j e h;exact⟨u,by rw[rH lD];exact a,b⟩
theorem bx.unset{i:Nat}(hL:bx K cA U H Z J):bx K cA U H (Z.set i none) (J.set i none):=by
 refine⟨by rw[oH,oH];exact hL.1,λj e h=>?_⟩;by_cases lD:i=j
 ·subst lD;by_cases hl:i<J.length
  ·rw[yC hl] at h;cases h
  ·rw[KQ (by rw[oH];lia)] at h;cases h
 ·rw[rH lD] at h;obtain⟨u,a,b⟩:=hL.2 j e h;exact⟨u,by rw[rH lD];exact a,b⟩
theorem TupAt.jm{a:Addr}{vs:List V}(h:TupAt K U H a vs):fL K H a vs:=by
 rcases h with ⟨h,_⟩|(h|h)
 ·exact .inl h
 ·rcases h with h|⟨o,h⟩<;>cases h
 ·exact .inr h
theorem LstAt.vK{a:Addr}{vs:List V}(h:LstAt K U H a vs):dw K H a vs:=by
 rcases h with ⟨h,_⟩|(h|h)
 ·exact .inl h
 ·rcases h with h|⟨o,h⟩<;>cases h
 ·exact .inr h
theorem TupAt.new{p:Addr}{vs:List V}(hz:¬U.z p):TupAt K U (upd H p (.tup vs)) p vs:=.inl ⟨.inl kZ,hz⟩
theorem LstAt.new{p:Addr}{vs:List V}(hz:¬U.z p):LstAt K U (upd H p (.lst vs)) p vs:=.inl ⟨.inl kZ,hz⟩
end
end Mi
namespace Mi
open PySem PySem.Spec PyProof.Rows L2
theorem un{α β γ:Type}{A B C:α->β->γ->Prop}{R:Prop}(h:∃a b c,A a b c/\B a b c/\C a b c)(f:∀a b c,A a b c->B a b c->C a b c->R):R:=by
 obtain⟨a,b,c,x,y,z⟩:=h;exact f a b c x y z
section
variable (K:W.Frag)(cA:Cl)
def Run{α:Type}(m:M α)(U:Ph)(H:Hp)(s:S)(P:α->S->Ph->Hp->Prop)(Ee:Nat->List D->S->Ph->Hp->Prop):Prop:=
 match m s with
 |some (.ok a,s')=>∀U' H',Ext U H U' H'->aG K cA U' H' s'->P a s' U' H'
 |some (.er c f,s')=>∀U' H',Ext U H U' H'->aG K cA U' H' s'->Ee c f s' U' H'
 |none=>False
def jZ(U:Ph)(H:Hp)(c:Nat)(fs:List D)(dx:Option Addr):Prop:=
 (cA.f c=[]/\fs=[]/\dx=none)\/∃d vs,dx=some d/\¬U.z d/\H d=some (.xd ((cA.f c).zip vs))/\(cA.f c).length=vs.length/\aB K cA U H fs vs
noncomputable def eX(EX:XS)(Z:L2.St):Nat->List D->S->Ph->Hp->Prop:=λc fs _ U' H'=>∀dx,jZ K cA U' H' c fs dx->EX Z (.ref (cA.a c)) dx H'
noncomputable def tE(EX:XS)(m:Vs->M Xv):TE:=λZ H Q=>∃U J s,bx K cA U H Z J/\aG K cA U H s/\Run K cA (m J) U H s (λd _ U' H'=>∀v,bF K cA U' H' d v->Q v H') (eX K cA EX Z)
noncomputable def RV(EX:XS)(m:Vs->M (List Xv)):TA:=λZ H Q=>∃U J s,bx K cA U H Z J/\aG K cA U H s/\Run K cA (m J) U H s (λd _ U' H'=>∀v,bQ K cA U' H' d v->Q v H') (eX K cA EX Z)
noncomputable def zK(EX:XS)(m:Vs->M Bool):TT:=λZ H Q=>∃U J s,bx K cA U H Z J/\aG K cA U H s/\Run K cA (m J) U H s (λd _ U' H'=>Q d H') (eX K cA EX Z)
def Rv(U:Ph)(H:Hp)(d:D)(v:V):Prop:=match d with
 |.fl xs=>∃a vs,v=.ref a/\dw K H a vs/\aB K cA U H xs vs
 |d=>Rep K cA U H d v
inductive xP (U:Ph) (H:Hp):List D->List V->Prop where
 |nil:xP U H [] []
 |cons {d:D} {v:V} {ds:List D} {vs:List V} (h:Rv K cA U H d v) (r:xP U H ds vs):xP U H (d::ds) (v::vs)
def aZ(U:Ph)(H:Hp)(o:Option Rz)(Q:VK):Prop:=match o with
 |none=>False
 |some (.dat d)=>∀H' v,bI H H'->Rep K cA U H' d v->Q v H'
 |some (.nw xs)=>∀p vs,H p=none->aB K cA U H xs vs->Q (.ref p) (upd H p (.lst vs))
structure Zt(U:Ph)(H:Hp):Prop where
 lz:∀a∈U.l,U.z a
 zt:∀a,U.z a->∃o,H a=some o
def aR(p:Pr)(r:List V->Hp->VK->Prop):Prop:=∀(U:Ph) (H:Hp) (ds:List D) (vs:List V) (Q:VK),Zt U H->xP K cA U H ds vs->aZ K cA U H (prim p ds) Q->r vs H Q
end
section
variable {K:W.Frag}{cA:Cl}{U U':Ph}{H H':Hp}{s:S}{Z:L2.St}{J:Vs}{EX:XS}
theorem aG.zs(h:aG K cA U H s):Zt U H:=⟨h.lz,h.zt⟩
theorem Zt.nz(h:Zt U H)(hp:H p=none):¬U.z p:=λz=>by obtain⟨o,e⟩:=h.zt p z;rw[hp] at e;cases e
theorem Rep.rv{d:D}{v:V}(h:Rep K cA U H d v):Rv K cA U H d v:=by
 cases h with
 |fl h r=>exact⟨_,_,rfl,h.vK,r⟩
 |non=>exact .non
 |bl b=>exact .bl b
 |int b=>exact .int b
 |str b=>exact .str b
 |tup h r=>exact .tup h r
 |fd h n=>exact .fd h n
 |exc h r=>exact .exc h r
 |ob h r=>exact .ob h r
 |any v=>exact .any v
theorem Run.bd{α β:Type}{m:M α}{k:α->M β}{P:β->S->Ph->Hp->Prop}{Ee:Nat->List D->S->Ph->Hp->Prop}(h:Run K cA (M.bd m k) U H s P Ee):Run K cA m U H s (λa s1 U1 H1=>Ext U H U1 H1/\aG K cA U1 H1 s1/\Run K cA (k a) U1 H1 s1 P Ee) Ee:=by
 unfold Run M.bd at *;cases e:m s with
 |none=>rw[e] at h;exact h
 |some r=>
  obtain⟨r,s1⟩:=r;rw[e] at h;cases r with
  |er c f=>exact h
  |ok a=>
   intro U1 H1 x1 r1;refine⟨x1,r1,?_⟩;dsimp only at h ⊢;cases e2:k a s1 with
   |none=>rw[e2] at h;exact h
   |some q=>
    obtain⟨q,s2⟩:=q;rw[e2] at h;cases q with
    |ok b=>exact λU2 H2 x2 r2=>h U2 H2 (x1.trans x2) r2
    |er c f=>exact λU2 H2 x2 r2=>h U2 H2 (x1.trans x2) r2
theorem Run.imp{α:Type}{m:M α}{P P':α->S->Ph->Hp->Prop}{Ee:Nat->List D->S->Ph->Hp->Prop}(h:Run K cA m U H s P Ee)(f:∀a s' U' H',P a s' U' H'->P' a s' U' H'):Run K cA m U H s P' Ee:=by
 unfold Run at *;split at h
 ·exact λU' H' x r=>f _ _ _ _ (h U' H' x r)
 ·exact h
 ·exact h
theorem Run.bB{α:Type}{a:α}{P:α->S->Ph->Hp->Prop}{Ee:Nat->List D->S->Ph->Hp->Prop}(r:aG K cA U H s)(h:Run K cA (M.ret a) U H s P Ee):P a s U H:=h U H Ext.refl r
theorem Run.opt{α:Type}{o:Option α}{P:α->S->Ph->Hp->Prop}{Ee:Nat->List D->S->Ph->Hp->Prop}(r:aG K cA U H s)(h:Run K cA (M.opt o) U H s P Ee):∃a,o=some a/\P a s U H:=by
 cases o with
 |none=>exact h.elim
 |some a=>exact⟨a,rfl,h U H Ext.refl r⟩
theorem Yx(h:Run K cA (M.bd (M.opt o) k) U H s P Ee):∃a,o=some a/\Run K cA (k a) U H s P Ee:=by
 cases o with
 |none=>exact h.elim
 |some a=>exact⟨a,rfl,h⟩
theorem vL{β:Type}{x:Xv}{v:V}{k:Bool->M β}{P:β->S->Ph->Hp->Prop}{Ee:Nat->List D->S->Ph->Hp->Prop}(r:bF K cA U H x v)(h:Run K cA (M.bd (bool x) k) U H s P Ee):∃b,x=.d (.bl b)/\v=.bl b/\Run K cA (k b) U H s P Ee:=by
 cases r with
 |l _=>exact h.elim
 |d r=>cases r with
  |bl b=>exact⟨b,rfl,rfl,h⟩
  |_=>exact h.elim
theorem Jh(r:bF K cA U H x v)(h:Run K cA (M.bd (int x) k) U H s P Ee):∃b,x=.d (.int b)/\v=.int b/\Run K cA (k b) U H s P Ee:=by
 cases r with
 |l _=>exact h.elim
 |d r=>cases r with
  |int b=>exact⟨b,rfl,rfl,h⟩
  |_=>exact h.elim
theorem Yy(r:bF K cA U H x v)(h:Run K cA (M.bd (dat x) k) U H s P Ee):∃d,x=.d d/\Rep K cA U H d v/\Run K cA (k d) U H s P Ee:=by
 cases r with
 |l _=>exact h.elim
 |d r=>exact⟨_,rfl,r,h⟩
theorem Mv:∀{xs:List Xv} {vs:List V} {k:List D->M β} {P:β->S->Ph->Hp->Prop} {Ee:Nat->List D->S->Ph->Hp->Prop},bQ K cA U H xs vs->Run K cA (M.bd (dF xs) k) U H s P Ee->∃ds,xs=ds.map .d/\aB K cA U H ds vs/\Run K cA (k ds) U H s P Ee:=by
 intro xs
 induction xs with
 |nil=>intro vs k P Ee r h;cases r;exact⟨[],rfl,.nil,h⟩
 |cons x xs ih=>
  intro vs k P Ee r h;cases r with
  |cons a r=>
   cases a with
   |l _=>exact h.elim
   |@d y v a=>
    have h2:Run K cA (M.bd (dF xs) λds=>k (y::ds)) U H s P Ee:=by
     unfold Run M.bd dF dat at h;unfold Run M.bd;simp only[M.bd,M.ret] at h;cases e:dF xs s with
     |none=>simp only[e] at h
     |some q=>
      obtain⟨q,s1⟩:=q;simp only[e] at h;cases q with
      |ok ds=>exact h
      |er c f=>exact h
    obtain⟨ds,e,rs,h3⟩:=ih r h2;exact⟨y::ds,by rw[e];rfl,.cons a rs,h3⟩
theorem zev(hS:aG K cA U H s)(r:bF K cA U H x v)(h:Run K cA (M.bd (rd x) k) U H s P Ee):∃d,Rv K cA U H d v/\Run K cA (k d) U H s P Ee:=by
 cases r with
 |d r=>exact⟨_,r.rv,h⟩
 |@l n a hl=>
  unfold Run M.bd rd at h;dsimp only at h;cases e:s[n]? with
  |none=>rw[e] at h;exact h.elim
  |some o=>
   rw[e] at h;cases o with
   |lst xs=>
    obtain⟨vs,q1,q2⟩:=hS.obj n _ _ e hl;exact⟨.fl xs,⟨a,vs,rfl,dw.of q1,q2⟩,h⟩
   |_=>exact h.elim
theorem iH{α β γ:Type}(m:M α)(f:α->M β)(g:β->M γ):M.bd (M.bd m f) g=M.bd m λx=>M.bd (f x) g:=by
 funext s
 unfold M.bd;cases m s with
 |none=>rfl
 |some r=>
  obtain⟨r,s1⟩:=r;cases r<;>rfl
theorem m7{β:Type}:∀{xs:List Xv} {vs:List V} {k:List D->M β} {P:β->S->Ph->Hp->Prop} {Ee:Nat->List D->S->Ph->Hp->Prop},aG K cA U H s->bQ K cA U H xs vs->Run K cA (M.bd (dW xs) k) U H s P Ee->∃ds,xP K cA U H ds vs/\Run K cA (k ds) U H s P Ee:=by
 intro xs
 induction xs with
 |nil=>intro vs k P Ee hS r h;cases r;exact⟨[],.nil,h⟩
 |cons x xs ih=>
  intro vs k P Ee hS r h;cases r with
  |cons a r=>
   have h2:Run K cA (M.bd (rd x) λd=>M.bd (dW xs) λds=>k (d::ds)) U H s P Ee:=by
    have e:M.bd (dW (x::xs)) k=M.bd (rd x) λd=>M.bd (dW xs) λds=>k (d::ds):=by
     show M.bd (M.bd (rd x) λd=>M.bd (dW xs) λds=>M.ret (d::ds)) k=_;rw[iH]
     congr 1
     funext d
     rw[iH];rfl
    rw[e] at h;exact h
   obtain⟨d,rd,h3⟩:=zev hS a h2;obtain⟨ds,rs,h4⟩:=ih hS r h3;exact⟨d::ds,.cons rd rs,h4⟩
theorem mL{fz:Bool}{o:Option Rz}{Q:VK}{Ee:Nat->List D->S->Ph->Hp->Prop}(hS:aG K cA U H s)(h:Run K cA (bJ fz o) U H s (λx _ U' H'=>∀v,bF K cA U' H' x v->Q v H') Ee):aZ K cA U H o Q:=by
 cases o with
 |none=>exact h.elim
 |some z=>
  cases z with
  |dat d=>exact λH' v g r=>h U H' g.ext (hS.grow g) v (.d r)
  |nw xs=>
   intro p vs hp r;cases fz with
   |true=>exact h U _ (bI.new hp).ext (hS.grow (bI.new hp)) _ (.d (.fl (LstAt.new (hS.nz hp)) (r.mono (bI.new hp).ext hS.lz)))
   |false=>exact h (U.add p) _ (Ext.add hp) (hS.add hp r) _ (.l (by show (U.l++[p])[s.length]?=_;rw[<-hS.len];simp))
theorem zhE{fz:Bool}{xs:List D}{Q:VK}{Ee:Nat->List D->S->Ph->Hp->Prop}(hS:aG K cA U H s)(h:Run K cA (newL fz xs) U H s (λx _ U' H'=>∀v,bF K cA U' H' x v->Q v H') Ee):∀p vs,H p=none->aB K cA U H xs vs->Q (.ref p) (upd H p (.lst vs)):=
 mL (o:=some (.nw xs)) hS h
theorem bf{β:Type}{ma:Vs->M Xv}{k:Xv->M β}{P:β->S->Ph->Hp->Prop}(hL:bx K cA U H Z J)(hS:aG K cA U H s)(h:Run K cA (M.bd (ma J) k) U H s P (eX K cA EX Z)){Q:VK}
  (f:∀x H1 U1 d s1,Ext U H U1 H1->bx K cA U1 H1 Z J->aG K cA U1 H1 s1->bF K cA U1 H1 d x->Run K cA (k d) U1 H1 s1 P (eX K cA EX Z)->Q x H1):tE K cA EX ma Z H Q:=
 ⟨U,J,s,hL,hS,h.bd.imp λd s1 U1 H1 ⟨x1,r1,h1⟩ v rv=>f v H1 U1 d s1 x1 (hL.mono x1 hS.lz) r1 rv h1⟩
theorem qY{β:Type}{ma:Vs->M (List Xv)}{k:List Xv->M β}{P:β->S->Ph->Hp->Prop}(hL:bx K cA U H Z J)(hS:aG K cA U H s)(h:Run K cA (M.bd (ma J) k) U H s P (eX K cA EX Z)){Q:List V->Hp->Prop}
  (f:∀x H1 U1 d s1,Ext U H U1 H1->bx K cA U1 H1 Z J->aG K cA U1 H1 s1->bQ K cA U1 H1 d x->Run K cA (k d) U1 H1 s1 P (eX K cA EX Z)->Q x H1):RV K cA EX ma Z H Q:=
 ⟨U,J,s,hL,hS,h.bd.imp λd s1 U1 H1 ⟨x1,r1,h1⟩ v rv=>f v H1 U1 d s1 x1 (hL.mono x1 hS.lz) r1 rv h1⟩
theorem xQ(hL:bx K cA U H Z J)(hS:aG K cA U H s)(h:Run K cA (M.bd (ma J) k) U H s P (eX K cA EX Z))
  (f:∀b H1 U1 s1,Ext U H U1 H1->bx K cA U1 H1 Z J->aG K cA U1 H1 s1->Run K cA (k b) U1 H1 s1 P (eX K cA EX Z)->Q b H1):zK K cA EX ma Z H Q:=
 ⟨U,J,s,hL,hS,h.bd.imp λd s1 U1 H1 ⟨x1,r1,h1⟩=>f d H1 U1 s1 x1 (hL.mono x1 hS.lz) r1 h1⟩
end
section
variable (X:Cx)(cA:Cl)(ao:Nat->Nat->Bool)(aj:Bool)(F:Fn)(EX:XS)
def SE(e:Expr)(m:E):Prop:=PE X e (tE X.K cA EX (ev ao aj F m))
def SA(es:List Expr)(m:Es):Prop:=PA X es (RV X.K cA EX (evs ao aj F m))
def ST(e:Expr)(m:E):Prop:=PT X e (zK X.K cA EX (λJ=>M.bd (ev ao aj F m J) bool))
def SW(e:Expr)(m:E):Prop:=PW X e (zK X.K cA EX (λJ=>M.bd (ev ao aj F m J) bool))
end
section
variable {X:Cx}{cA:Cl}{ao:Nat->Nat->Bool}{aj:Bool}{F:Fn}{EX:XS}{a b c d e:Expr}{A B C Dd E':E}{pos:Pos}{es:List Expr}{Xs:Es}{fz:Bool}{p:Pr}
theorem PE.weak{t t':TE}(h:PE X e t)(f:∀Z H Q,t' Z H Q->t Z H Q):PE X e t':=λak s Z H Q I q=>h ak s Z H Q I (f Z H Q q)
theorem PT.weak{t t':TT}(h:PT X e t)(f:∀Z H Q,t' Z H Q->t Z H Q):PT X e t':=λak s Z H Q I q=>h ak s Z H Q I (f Z H Q q)
theorem PW.weak{t t':TT}(h:PW X e t)(f:∀Z H Q,t' Z H Q->t Z H Q):PW X e t':=λwh ak s Z H Q I q=>h wh ak s Z H Q I (f Z H Q q)
theorem PA.weak{t t':TA}(h:PA X es t)(f:∀Z H Q,t' Z H Q->t Z H Q):PA X es t':=λp ak s Z H Q I q=>h p ak s Z H Q I (f Z H Q q)
theorem zk1{i j p}:SE X cA ao aj F EX (.Constant (.int i) j p) (.c (.int i)):=PE.weak Pq λZ H Q hh=>un hh λU J s hL hS h=>h.bB hS _ (.d (.int i))
theorem zmX{i j p}:SE X cA ao aj F EX (.Constant (.bool i) j p) (.c (.bl i)):=PE.weak znd λZ H Q hh=>un hh λU J s hL hS h=>h.bB hS _ (.d (.bl i))
theorem zkD{j p}:SE X cA ao aj F EX (.Constant .none j p) (.c .non):=PE.weak zkY λZ H Q hh=>un hh λU J s hL hS h=>h.bB hS _ (.d .non)
theorem zls{i j p}:SE X cA ao aj F EX (.Constant (.str i) j p) (.c (.str i)):=PE.weak W6 λZ H Q hh=>un hh λU J s hL hS h=>h.bB hS _ (.d (.str i))
theorem RW{α:Type}{o:Option (Option α)}{x:α}(h:o.join=some x):o=some (some x):=by
 cases o with
 |none=>cases h
 |some y=>cases y with
  |none=>cases h
  |some z=>cases h;rfl
theorem Yz(i:Nat){x:Str}(hN:X.N[i]?=some x:=by rfl)(hv:O_ X.env.scope x:=by first|exact Or.inl rfl|exact Or.inr (Or.inl rfl)|exact Or.inr (Or.inr rfl))(hd:(x==("__debug__" : Str))=false:=by decide)
  (lZ:(x==("__classdict__" : Str))=false:=by decide):SE X cA ao aj F EX (.Name x pos) (.v i):=PE.weak (zlv hN hv hd lZ) λZ H Q hh=>un hh λU J s hL hS h=>by
 obtain⟨dd,e1,q⟩:=Run.opt hS h;obtain⟨v,q1,q2⟩:=hL.2 i dd (RW e1);exact⟨v,q1,q v q2⟩
theorem zju{x:Str}{i:Int}{t:Tok}(hg:Gl X x)(hm:X.mg x=some (.int i t))(hd:(x==("__debug__" : Str))=false:=by decide):SE X cA ao aj F EX (.Name x pos) (.c (.int i)):=PE.weak (W7 (v:=.int i) hg hm ⟨t,rfl⟩ hd) λZ H Q hh=>un hh λU J s hL hS h=>h.bB hS _ (.d (.int i))
theorem zlu:SA X cA ao aj F EX [] .nil:=PA.weak Et λZ H Q hh=>un hh λU J s hL hS h=>h.bB hS _ .nil
theorem zjV(ha:SE X cA ao aj F EX a A)(hr:SA X cA ao aj F EX es Xs)(hs:starEach (a::es) X.env=(false,eval a X.env)::starEach es X.env:=by rfl):SA X cA ao aj F EX (a::es) (.cons A Xs):=PA.weak (vC ha hr hs) λZ H Q hh=>un hh λU J s hL hS h=>by
 refine bf hL hS h λx H1 U1 d1 s1 x1 hL1 aL r1 h1=>qY hL1 aL h1 λys H2 U2 d2 s2 x2 hL2 aU r2 h2=>h2.bB aU _ (.cons (r1.mono x2 aL.lz) r2)
theorem Ji{U U1 U2:Ph}{H1 H2:Hp}{s1 s2:S}{d1 d2:Xv}{x y:V}{Q:VK}{Ee:Nat->List D->S->Ph->Hp->Prop}(x2:Ext U1 H1 U2 H2)(aL:aG X.K cA U1 H1 s1)(aU:aG X.K cA U2 H2 s2)(r1:bF X.K cA U1 H1 d1 x)(r2:bF X.K cA U2 H2 d2 y)
  (h:Run X.K cA (M.bd (dW [d1,d2]) λds=>bJ fz (prim p ds)) U2 H2 s2 (λx _ U' H'=>∀v,bF X.K cA U' H' x v->Q v H') Ee) {r:List V->Hp->VK->Prop} (hp:aR X.K cA p r):r [x,y] H2 Q:=by
 obtain⟨ds,rs,h2⟩:=m7 aU (.cons (r1.mono x2 aL.lz) (.cons r2 .nil)) h;exact hp U2 H2 ds _ Q aU.zs rs (mL aU h2)
noncomputable def r2(r:R2):List V->Hp->VK->Prop:=λvs H Q=>∃x y,vs=[x,y]/\r x y H Q
theorem qm{r:R2}{x y:V}{H:Hp}{Q:VK}(h:r2 r [x,y] H Q):r x y H Q:=by
 obtain⟨_,_,e,q⟩:=h;cases e;exact q
theorem zk0{op:Operator}{r:R2}(ho:cI X (binaryOp op) r)(hp:aR X.K cA p (r2 r))(ha:SE X cA ao aj F EX a A)(hb:SE X cA ao aj F EX b B):SE X cA ao aj F EX (.BinOp a op b pos) (.pr fz p (.cons A (.cons B .nil))):=PE.weak (zmp ho ha hb) λZ H Q hh=>un hh λU J s hL hS h=>by
 have h:Run X.K cA (M.bd (M.bd (ev ao aj F A J) λx=>M.bd (M.bd (ev ao aj F B J) λy=>M.bd (M.ret []) λz=>M.ret (y::z)) λys=>M.ret (x::ys)) λvs=>M.bd (dW vs) λds=>bJ fz (prim p ds)) U H s _ _:=h;simp only[iH] at h;refine bf hL hS h λx H1 U1 d1 s1 x1 hL1 aL r1 h1=>bf hL1 aL h1 λy H2 U2 d2 s2 x2 hL2 aU r2' h2=>?_;exact qm (Ji (fz:=fz) (U:=U) x2 aL aU r1 r2' h2 hp)
theorem zkx{op:CmpOp}{r:R2}(ho:cI X (compareOp op) r)(hp:aR X.K cA p (r2 r))(ha:SE X cA ao aj F EX a A)(hb:SE X cA ao aj F EX b B)(hm:behindInMarks op b=false):SE X cA ao aj F EX (.Compare a [op] [b] pos) (.pr true p (.cons A (.cons B .nil))):=PE.weak (zjK ho ha hb hm) λZ H Q hh=>un hh λU J s hL hS h=>by
 have h:Run X.K cA (M.bd (M.bd (ev ao aj F A J) λx=>M.bd (M.bd (ev ao aj F B J) λy=>M.bd (M.ret []) λz=>M.ret (y::z)) λys=>M.ret (x::ys)) λvs=>M.bd (dW vs) λds=>bJ true (prim p ds)) U H s _ _:=h;simp only[iH] at h;refine bf hL hS h λx H1 U1 d1 s1 x1 hL1 aL r1 h1=>bf hL1 aL h1 λy H2 U2 d2 s2 x2 hL2 aU r2' h2=>?_;exact qm (Ji (fz:=true) (U:=U) x2 aL aU r1 r2' h2 hp)
theorem iT{A B:Prop}(h:A):if true=true then A else B:=by rw[if_pos rfl];exact h
theorem iF{A B:Prop}(h:B):if false=true then A else B:=by rw[if_neg Bool.false_ne_true];exact h
theorem zlK{op:CmpOp}{r:R2}(ho:cI X (compareOp op) r)(hp:aR X.K cA p (r2 r))(ha:SE X cA ao aj F EX a A)(hb:SE X cA ao aj F EX b B)(hm:behindInMarks op b=false):ST X cA ao aj F EX (.Compare a [op] [b] pos) (.pr true p (.cons A (.cons B .nil))):=PT.weak (ziO ho ha hb hm) λZ H Q hh=>un hh λU J s hL hS h=>by
 have h:Run X.K cA (M.bd (M.bd (M.bd (ev ao aj F A J) λx=>M.bd (M.bd (ev ao aj F B J) λy=>M.bd (M.ret []) λz=>M.ret (y::z)) λys=>M.ret (x::ys)) λvs=>M.bd (dW vs) λds=>bJ true (prim p ds)) bool) U H s _ _:=h;simp only[iH] at h;refine bf hL hS h λx H1 U1 d1 s1 x1 hL1 aL r1 h1=>bf hL1 aL h1 λy H2 U2 d2 s2 x2 hL2 aU r2' h2=>?_;obtain⟨ds,rs,h3⟩:=m7 aU (.cons (r1.mono x2 aL.lz) (.cons r2' .nil)) h2;refine qm (hp U2 H2 ds _ _ aU.zs rs (mL (Ee:=eX X.K cA EX Z) aU (h3.bd.imp λt s3 U3 H3 ⟨x3,iI,h4⟩ v rv=>?_)));cases rv with
 |l _=>exact h4.elim
 |d rv=>cases rv with
  |bl k=>exact⟨k,rfl,h4 U3 H3 Ext.refl iI⟩
  |_=>exact h4.elim
theorem zj4{op op':CmpOp}{r r':R2}{q:Pr}(ho:cI X (compareOp op) r)(hp:aR X.K cA p (r2 r))(jM:cI X (compareOp op') r')(hp':aR X.K cA q (r2 r'))(ha:SE X cA ao aj F EX a A)(hb:SE X cA ao aj F EX b B)(hc:SE X cA ao aj F EX c C)(hm:lastMarks [op,op'] [b,c]=false:=by with_unfolding_all rfl) :
  SE X cA ao aj F EX (.Compare a [op,op'] [b,c] pos) (.rT p q A B C):=PE.weak (zhS ho jM ha hb hc hm) λZ H Q hh=>un hh λU J s hL hS h=>by
 refine bf hL hS h λx H1 U1 d1 s1 x1 hL1 aL r1 h1=>bf hL1 aL h1 λy H2 U2 d2 s2 x2 hL2 aU r2' h2=>?_;obtain⟨ds,rs,h3⟩:=m7 aU (.cons (r1.mono x2 aL.lz) (.cons r2' .nil)) h2;refine qm (hp U2 H2 ds _ _ aU.zs rs (mL (Ee:=eX X.K cA EX Z) aU (h3.bd.imp λt s3 U3 H3 ⟨x3,iI,h4⟩ v rv=>?_)));obtain⟨k,_,e,h5⟩:=vL rv h4;refine⟨k,e,?_⟩;cases k with
 |false=>exact iF (h5.bB iI _ (.d (.bl _)))
 |true=>
  have qZ:=hL2.mono x3 aU.lz;refine iT (bf qZ iI h5 λz H4 U4 d4 s4 x4 Jj jz r4 h6=>?_);exact qm (Ji (fz:=true) (U:=U) x4 iI jz (r2'.mono x3 aU.lz) r4 h6 hp')
theorem zlV{op op' fQ:CmpOp}{r r' r'':R2}{q u:Pr}(h1:cI X (compareOp op) r)(p1:aR X.K cA p (r2 r))(h2:cI X (compareOp op') r')(p2:aR X.K cA q (r2 r'))(h3:cI X (compareOp fQ) r'')(p3:aR X.K cA u (r2 r''))(ha:SE X cA ao aj F EX a A)(hb:SE X cA ao aj F EX b B)(hc:SE X cA ao aj F EX c C)(hd:SE X cA ao aj F EX d Dd)
  (hm:lastMarks [op,op',fQ] [b,c,d]=false:=by with_unfolding_all rfl):SE X cA ao aj F EX (.Compare a [op,op',fQ] [b,c,d] pos) (.t_ p q u A B C Dd):=by
 have key:PE X (.Compare a [op,op',fQ] [b,c,d] pos) (λZ H Q=>tE X.K cA EX (ev ao aj F A) Z H λx H1=>tE X.K cA EX (ev ao aj F B) Z H1 λy H2=>r x y H2 λz H3=>∃k,z=.bl k /\
   (if k=true then tE X.K cA EX (ev ao aj F C) Z H3 λw' H4=>r' y w' H4 λz2 H5=>∃k2,z2=.bl k2/\(if k2=true then tE X.K cA EX (ev ao aj F Dd) Z H5 λw2 H6=>r'' w' w2 H6 Q else Q (.bl false) H5) else Q (.bl false) H3)):=by
  intro ak s Z H Q I h;refine Compare_chain (aX (ha ak s Z H _ I h) λv s1 hx=>cY hx λx H1 I1 r1 q1=>chain_link (aX (hb ak s1 Z H1 _ I1 q1) λu s2 hx=>cY hx λy H2 I2 r2 q2=>
   aX (h1 ak s2 Z H2 x y v u _ I2 r1 r2 q2) λd s3 hx=>vA hx λz H3 I3 r3 k e q3=>?_)) hm
  subst e;cases r3;refine oG ?_;cases k with
  |false=>exact ite_ff ⟨.bl false,H3,I3,rfl,q3⟩
  |true=>
   refine ite_tt (chain_link (aX (hc ak s3 Z H3 _ I3 q3) λw' s4 hx=>cY hx λz' H4 I4 r4 q4=>aX (h2 ak s4 Z H4 y z' u w' _ I4 r2 r4 q4) λd' s5 hx=>vA hx λz2 H5 I5 r5 k2 e2 q5=>?_));subst e2;cases r5;refine oG ?_;cases k2 with
   |false=>exact ite_ff ⟨.bl false,H5,I5,rfl,q5⟩
   |true=>exact ite_tt (chain_last (aX (hd ak s5 Z H5 _ I5 q5) λw2 s6 hx=>cY hx λz3 H6 I6 r6 q6=>h3 ak s6 Z H6 z' z3 w' w2 Q I6 r4 r6 q6))
 refine PE.weak key λZ H Q hh=>un hh λU J s hL hS h=>?_;refine bf hL hS h λx H1 U1 d1 s1 x1 hL1 aL r1 h1=>bf hL1 aL h1 λy H2 U2 d2 s2 x2 hL2 aU r2' h2=>?_;obtain⟨ds,rs,h3⟩:=m7 aU (.cons (r1.mono x2 aL.lz) (.cons r2' .nil)) h2;refine qm (p1 U2 H2 ds _ _ aU.zs rs (mL (Ee:=eX X.K cA EX Z) aU (h3.bd.imp λt s3 U3 H3 ⟨x3,iI,h4⟩ v rv=>?_)));obtain⟨k,_,e,h5⟩:=vL rv h4;refine⟨k,e,?_⟩;cases k with
 |false=>exact iF (h5.bB iI _ (.d (.bl _)))
 |true=>
  have qZ:=hL2.mono x3 aU.lz;refine iT (bf qZ iI h5 λz H4 U4 d4 s4 x4 Jj jz r4 h6=>?_);obtain⟨ds,rs,h7⟩:=m7 jz (.cons ((r2'.mono x3 aU.lz).mono x4 iI.lz) (.cons r4 .nil)) h6;refine qm (p2 U4 H4 ds _ _ jz.zs rs (mL (Ee:=eX X.K cA EX Z) jz (h7.bd.imp λt s5 U5 H5 ⟨x5,uq,h8⟩ v rv=>?_)));obtain⟨k2,_,e,h9⟩:=vL rv h8;refine⟨k2,e,?_⟩;cases k2 with
  |false=>exact iF (h9.bB uq _ (.d (.bl _)))
  |true=>
   have RX:=Jj.mono x5 jz.lz;refine iT (bf RX uq h9 λz H6 U6 d6 s6 x6 hL6 Jk r6 RZ=>?_);exact qm (Ji (fz:=true) (U:=U) x6 uq Jk (r4.mono x5 jz.lz) r6 RZ p3)
theorem zkQ(ha:SE X cA ao aj F EX a A):SE X cA ao aj F EX (.UnaryOp .Not a pos) (.not A):=PE.weak (zj5 ha) λZ H Q hh=>un hh λU J s hL hS h=>by
 refine bf hL hS h λx H1 U1 d1 s1 x1 hL1 aL r1 h1=>?_;obtain⟨i,_,e,h3⟩:=vL r1 h1;exact⟨i,e,h3.bB aL _ (.d (.bl _))⟩
theorem zk7{op}(ha:SE X cA ao aj F EX a A):SE X cA ao aj F EX (.BoolOp op [a] pos) A:=zlj ha
theorem zkB{rest:List Expr}(ha:SE X cA ao aj F EX a A)(hb:SE X cA ao aj F EX (.BoolOp .And (b::rest) pos) B):SE X cA ao aj F EX (.BoolOp .And (a::b::rest) pos) (.and A B):=PE.weak (zlJ ha hb) λZ H Q hh=>un hh λU J s hL hS h=>by
 refine bf hL hS h λx H1 U1 d1 s1 x1 hL1 aL r1 h1=>?_;obtain⟨i,_,e,h3⟩:=vL r1 h1;refine⟨i,e,?_⟩;cases i with
 |true=>exact iT ⟨U1,J,s1,hL1,aL,h3⟩
 |false=>exact iF (h3.bB aL _ (.d (.bl _)))
theorem zmL{rest:List Expr}(ha:SE X cA ao aj F EX a A)(hb:SE X cA ao aj F EX (.BoolOp .Or (b::rest) pos) B):SE X cA ao aj F EX (.BoolOp .Or (a::b::rest) pos) (.or A B):=PE.weak (zmv ha hb) λZ H Q hh=>un hh λU J s hL hS h=>by
 refine bf hL hS h λx H1 U1 d1 s1 x1 hL1 aL r1 h1=>?_;obtain⟨i,_,e,h3⟩:=vL r1 h1;refine⟨i,e,?_⟩;cases i with
 |true=>exact iT (h3.bB aL _ (.d (.bl _)))
 |false=>exact iF ⟨U1,J,s1,hL1,aL,h3⟩
end
section
variable {X:Cx}{cA:Cl}{ao:Nat->Nat->Bool}{aj:Bool}{F:Fn}{EX:XS}{a b c d e o:Expr}{A B C Dd E' O:E}{pos pp p2 apos:Pos}{es:List Expr}{Xs:Es}{fz:Bool}{p:Pr}{x:Str}
theorem zlL(ha:SE X cA ao aj F EX a A)(he:∀whole,isTrue a X.env whole=(do let v <-whole;standAt a.pos;holding [v] (truthy v)):=by intro _;rfl):ST X cA ao aj F EX a A:=PT.weak (zlq ha he) λZ H Q hh=>un hh λU J s hL hS h=>by
 refine bf hL hS h λx H1 U1 d1 s1 x1 hL1 aL r1 h1=>?_;have h1:Run X.K cA (M.bd (bool d1) M.ret) U1 H1 s1 (λd _ U' H'=>Q d H') (eX X.K cA EX Z):=by
  cases d1 with
  |l n=>exact h1
  |d v=>cases v<;>exact h1
 obtain⟨k,_,e,q⟩:=vL r1 h1;exact⟨k,e,q.bB aL⟩
theorem zgL{m:M Xv}{g:Bool->Bool}:M.bd (M.bd m λx=>M.bd (bool x) λk=>M.ret (Xv.d (.bl (g k)))) bool=M.bd (M.bd m bool) λk=>M.ret (g k):=by
 rw[iH,iH]
 congr 1
 funext x
 rw[iH];rfl
theorem zl7(ha:ST X cA ao aj F EX a A):ST X cA ao aj F EX (.UnaryOp .Not a pos) (.not A):=PT.weak (zk4 ha) λZ H Q hh=>un hh λU J s hL hS h=>by
 have h:Run X.K cA (M.bd (M.bd (ev ao aj F A J) λx=>M.bd (bool x) λk=>M.ret (Xv.d (.bl (!k)))) bool) U H s _ _:=h;rw[zgL (g:=λk=>!k)] at h;exact xQ hL hS h λk H1 U1 s1 x1 hL1 aL h1=>h1.bB aL
theorem zjm(ha:ST X cA ao aj F EX a A):SW X cA ao aj F EX (.BoolOp .And [a] pos) A:=ziW ha
theorem zkh(ha:ST X cA ao aj F EX a A):SW X cA ao aj F EX (.BoolOp .Or [a] pos) A:=zkA ha
theorem YB{m:M Xv}{k:Bool->M Xv}:M.bd (M.bd m λx=>M.bd (bool x) k) bool=M.bd (M.bd m bool) λb=>M.bd (k b) bool:=by
 rw[iH,iH]
 congr 1
 funext x
 rw[iH]
theorem zmg{rest:List Expr}(ha:ST X cA ao aj F EX a A)(hb:SW X cA ao aj F EX (.BoolOp .And (b::rest) pos) B):SW X cA ao aj F EX (.BoolOp .And (a::b::rest) pos) (.and A B):=PW.weak (zmc ha hb) λZ H Q hh=>un hh λU J s hL hS h=>by
 have h:Run X.K cA (M.bd (M.bd (ev ao aj F A J) λx=>M.bd (bool x) λk=>if k=true then ev ao aj F B J else M.ret (Xv.d (.bl false))) bool) U H s _ _:=h;rw[YB] at h;refine xQ hL hS h λk H1 U1 s1 x1 hL1 aL h3=>?_;cases k with
 |true=>exact iT ⟨U1,J,s1,hL1,aL,h3⟩
 |false=>exact iF (Run.bB aL (a:=false) h3)
theorem zmy{rest:List Expr}(ha:ST X cA ao aj F EX a A)(hb:SW X cA ao aj F EX (.BoolOp .Or (b::rest) pos) B):SW X cA ao aj F EX (.BoolOp .Or (a::b::rest) pos) (.or A B):=PW.weak (znm ha hb) λZ H Q hh=>un hh λU J s hL hS h=>by
 have h:Run X.K cA (M.bd (M.bd (ev ao aj F A J) λx=>M.bd (bool x) λk=>if k=true then M.ret (Xv.d (.bl true)) else ev ao aj F B J) bool) U H s _ _:=h;rw[YB] at h;refine xQ hL hS h λk H1 U1 s1 x1 hL1 aL h3=>?_;cases k with
 |true=>exact iT (Run.bB aL (a:=true) h3)
 |false=>exact iF ⟨U1,J,s1,hL1,aL,h3⟩
theorem znW(h:SW X cA ao aj F EX a A):ST X cA ao aj F EX a A:=Kab h
theorem ziB:(M.bd m λx=>M.bd (bool x) k)=M.bd (M.bd m bool) k:=by rw[iH]
theorem zkI(hc:ST X cA ao aj F EX c C)(ha:SE X cA ao aj F EX a A)(hb:SE X cA ao aj F EX b B):SE X cA ao aj F EX (.IfExp c a b pos) (.ite C A B):=PE.weak (zhk hc ha hb) λZ H Q hh=>un hh λU J s hL hS h=>by
 have h:Run X.K cA (M.bd (ev ao aj F C J) λx=>M.bd (bool x) λk=>if k=true then ev ao aj F A J else ev ao aj F B J) U H s _ _:=h;rw[ziB] at h;refine xQ hL hS h λk H1 U1 s1 x1 hL1 aL h3=>?_;cases k with
 |true=>exact iT ⟨U1,J,s1,hL1,aL,h3⟩
 |false=>exact iF ⟨U1,J,s1,hL1,aL,h3⟩
theorem YC:∀(Xs:Es) (J:Vs) (s:S) (ds:List Xv) (s':S),evs ao aj F Xs J s=some (.ok ds,s')->ds.length=Es.len Xs
 |.nil,J,s,ds,s',h=>by cases h;rfl
 |.cons a r,J,s,ds,s',h=>by
  have h:M.bd (ev ao aj F a J) (λx=>M.bd (evs ao aj F r J) λxs=>M.ret (x::xs)) s=some (.ok ds,s'):=h;unfold M.bd at h;cases e1:ev ao aj F a J s with
  |none=>rw[e1] at h;cases h
  |some q=>
   obtain⟨q,s1⟩:=q;rw[e1] at h;cases q with
   |er c f=>cases h
   |ok d=>
    dsimp only at h;cases e2:evs ao aj F r J s1 with
    |none=>rw[e2] at h;cases h
    |some q=>
     obtain⟨q,s2⟩:=q;rw[e2] at h;cases q with
     |er c f=>cases h
     |ok ds'=>
      cases h;rw[je,YC r J s1 ds' _ e2];rfl
theorem xR{β:Type}{K:W.Frag}{U:Ph}{H:Hp}{s:S}{Z:L2.St}{J:Vs}{k:List Xv->M β}{P:β->S->Ph->Hp->Prop}(hL:bx K cA U H Z J)(hS:aG K cA U H s)(h:Run K cA (M.bd (evs ao aj F Xs J) k) U H s P (eX K cA EX Z)){Q:List V->Hp->Prop}
  (f:∀x H1 U1 d s1,d.length=Es.len Xs->Ext U H U1 H1->bx K cA U1 H1 Z J->aG K cA U1 H1 s1->bQ K cA U1 H1 d x->Run K cA (k d) U1 H1 s1 P (eX K cA EX Z)->Q x H1):RV K cA EX (evs ao aj F Xs) Z H Q:=by
 refine⟨U,J,s,hL,hS,?_⟩;have h2:=h.bd;unfold Run at h2 ⊢;cases e:evs ao aj F Xs J s with
 |none=>rw[e] at h2;exact h2
 |some r=>
  obtain⟨r,s1⟩:=r;rw[e] at h2;cases r with
  |er c f=>exact h2
  |ok ds=>
   intro U1 H1 x1 r1 v rv;obtain⟨_,_,h3⟩:=h2 U1 H1 x1 r1;exact f v H1 U1 ds s1 (YC Xs J s ds s1 e) x1 (hL.mono x1 hS.lz) r1 rv h3
theorem zlH{k}(ha:SA X cA ao aj F EX es Xs)(hz:Es.len Xs<=sizeLine):SE X cA ao aj F EX (.Tuple es k pos) (.tup Xs):=PE.weak (zkt ha) λZ H Q hh=>un hh λU J s hL hS h=>by
 refine xR hL hS h λvs H1 U1 xs s1 hl x1 hL1 aL rv h1=>?_;obtain⟨ds,e,rs,h2⟩:=Mv rv h1;refine⟨by rw[<-rv.len,hl];exact hz,λp hp=>?_⟩;exact h2 U1 (upd H1 p (.tup vs)) (bI.new hp).ext (aL.grow (bI.new hp)) _ (.d (.tup (TupAt.new (aL.nz hp)) (rs.mono (bI.new hp).ext aL.lz)))
theorem zl8(ha:SA X cA ao aj F EX es Xs)(hz:Es.len Xs<=sizeLine):SE X cA ao aj F EX (.List es pos) (.lst fz Xs):=PE.weak (zko ha) λZ H Q hh=>un hh λU J s hL hS h=>by
 refine xR hL hS h λvs H1 U1 xs s1 hl x1 hL1 aL rv h1=>?_;obtain⟨ds,e,rs,h2⟩:=Mv rv h1;exact⟨by rw[<-rv.len,hl];exact hz,λp hp=>zhE aL h2 p vs hp rs⟩
theorem BX{id:String}{r:List V->Hp->VK->Prop}(hc:cN X (.builtin id) r)(hp:aR X.K cA p r)
  (hg:Gl X x) (hm:X.mg x=none) (hv:bootBuiltins x=some (.builtin id)) (ha:SA X cA ao aj F EX (e::es) Xs) (hn:x≠"__name__":=by decide) (jP:(x==("__debug__" : Str))=false:=by decide)
  (he:starEach (e::es) X.env=(false,eval e X.env)::starEach es X.env:=by rfl) (bG:(backTo pos (starEach es X.env)).any (·.1)=false:=by rfl):SE X cA ao aj F EX (.Call (.Name x pp) (e::es) [] pos) (.pr fz p Xs):=PE.weak (Xk hc hg hm hv ha hn jP he bG) λZ H Q hh=>un hh λU J s hL hS h=>
 qY hL hS h λvs H1 U1 ds s1 x1 hL1 aL r1 h1=>by
  obtain⟨ds,rs,h3⟩:=m7 aL r1 h1;exact hp U1 H1 ds _ _ aL.zs rs (mL aL h3)
theorem Mw{id:String}{r:List V->Hp->VK->Prop}(hc:cN X (.type id) r)(hp:aR X.K cA p r)
  (hg:Gl X x) (hm:X.mg x=none) (hv:bootBuiltins x=some (.type id)) (ha:SA X cA ao aj F EX (e::es) Xs) (hn:x≠"__name__":=by decide) (jP:(x==("__debug__" : Str))=false:=by decide)
  (he:starEach (e::es) X.env=(false,eval e X.env)::starEach es X.env:=by rfl) (bG:(backTo pos (starEach es X.env)).any (·.1)=false:=by rfl):SE X cA ao aj F EX (.Call (.Name x pp) (e::es) [] pos) (.pr fz p Xs):=PE.weak (zgj hc hg hm hv ha hn jP he bG) λZ H Q hh=>un hh λU J s hL hS h=>
 qY hL hS h λvs H1 U1 ds s1 x1 hL1 aL r1 h1=>by
  obtain⟨ds,rs,h3⟩:=m7 aL r1 h1;exact hp U1 H1 ds _ _ aL.zs rs (mL aL h3)
theorem zmY(hp:aR X.K cA p (r2 (Qm X.K)))(ha:SE X cA ao aj F EX a A)(hb:SE X cA ao aj F EX b B)(hs:qb b:=by intro _ _;rfl):SE X cA ao aj F EX (.Subscript a b pos) (.pr true p (.cons A (.cons B .nil))):=PE.weak (zmx zmh ha hb hs) λZ H Q hh=>un hh λU J s hL hS h=>by
 have h:Run X.K cA (M.bd (M.bd (ev ao aj F A J) λx=>M.bd (M.bd (ev ao aj F B J) λy=>M.bd (M.ret []) λz=>M.ret (y::z)) λys=>M.ret (x::ys)) λvs=>M.bd (dW vs) λds=>bJ true (prim p ds)) U H s _ _:=h;simp only[iH] at h;refine bf hL hS h λx H1 U1 d1 s1 x1 hL1 aL r1 h1=>bf hL1 aL h1 λy H2 U2 d2 s2 x2 hL2 aU r2' h2=>?_;exact qm (Ji (fz:=true) (U:=U) x2 aL aU r1 r2' h2 hp)
theorem znn(ho:LR X (unaryOp op) r)(hp:aR X.K cA p (λvs H Q=>∃x,vs=[x]/\r x H Q))(ha:SE X cA ao aj F EX a A):SE X cA ao aj F EX (.UnaryOp op a pos) (.pr true p (.cons A .nil)):=PE.weak (Xb ho ha) λZ H Q hh=>un hh λU J s hL hS h=>by
 have h:Run X.K cA (M.bd (M.bd (ev ao aj F A J) λx=>M.bd (M.ret []) λz=>M.ret (x::z)) λvs=>M.bd (dW vs) λds=>bJ true (prim p ds)) U H s _ _:=h;simp only[iH] at h;refine bf hL hS h λx H1 U1 d1 s1 x1 hL1 aL r1 h1=>?_;obtain⟨ds,rs,h3⟩:=m7 aL (.cons r1 .nil) h1;obtain⟨_,e,q⟩:=hp U1 H1 ds _ _ aL.zs rs (mL aL h3);cases e;exact q
theorem zma{j p'}(ha:SE X cA ao aj F EX a A):SE X cA ao aj F EX (.Compare a [.Is] [.Constant .none j p'] pos) (.pr true .EY (.cons A .nil)):=PE.weak (zmd (zli ha)) λZ H Q hh=>un hh λU J s hL hS h=>by
 have h:Run X.K cA (M.bd (M.bd (ev ao aj F A J) λx=>M.bd (M.ret []) λz=>M.ret (x::z)) λvs=>M.bd (dW vs) λds=>bJ true (prim .EY ds)) U H s _ _:=h;simp only[iH] at h;refine bf hL hS h λx H1 U1 d1 s1 x1 hL1 aL r1 h1=>?_;obtain⟨ds,rs,h3⟩:=m7 aL (.cons r1 .nil) h1;cases rs with
 |cons r rs=>cases rs with
  |nil=>
   rename_i d;have h4:=mL aL h3;have q:=h4 H1 _ bI.refl (.bl _);cases d<;>first
    |(obtain⟨_,_,rfl,_,_⟩:=r;exact q)
    |(cases (show Rep _ _ _ _ _ x from r)<;>exact q)
theorem zgN(q:Pr)(hq:prim q=Bv f)(hh:zK X.K cA EX (λJ=>M.bd (ev ao aj F (.pr true q (.cons A .nil)) J) bool) Z H Q):tE X.K cA EX (ev ao aj F A) Z H λx H1=>Q (f (decide (x=.non))) H1:=un hh λU J s hL hS h=>by
 have h:Run X.K cA (M.bd (M.bd (M.bd (ev ao aj F A J) λx=>M.bd (M.ret []) λz=>M.ret (x::z)) λvs=>M.bd (dW vs) λds=>bJ true (prim q ds)) bool) U H s _ _:=h;simp only[iH] at h;refine bf hL hS h λx H1 U1 d1 s1 x1 hL1 aL r1 h1=>?_;obtain⟨ds,rs,h3⟩:=m7 aL (.cons r1 .nil) h1;cases rs with
 |cons r rs=>cases rs with
  |nil=>
   rename_i d;rw[hq] at h3;have h4:Run X.K cA (M.bd (M.ret (Xv.d (.bl (f d.nJ)))) bool) U1 H1 s1 (λd _ U' H'=>Q d H') (eX X.K cA EX Z):=h3;have q:=h4 U1 H1 Ext.refl aL;cases d<;>first
    |(obtain⟨_,_,rfl,_,_⟩:=r;exact q)
    |(cases (show Rep _ _ _ _ _ x from r)<;>exact q)
theorem zi7{j p'}(ha:SE X cA ao aj F EX a A):ST X cA ao aj F EX (.Compare a [.IsNot] [.Constant .none j p'] pos) (.pr true .Ir (.cons A .nil)):=PT.weak (zkS (zjl ha)) λZ H Q hh=>by
 have:=zgN .Ir (f:=not) rfl hh;obtain⟨U,J,s,a,b,c⟩:=this;exact⟨U,J,s,a,b,c.imp λd s' U' H' k v rv=>⟨_,rfl,k v rv⟩⟩
theorem YD{K:W.Frag}{U:Ph}{H:Hp}{s:S}{x:Xv}{v:V}{Q:Bool->Hp->Prop}{Ee:Nat->List D->S->Ph->Hp->Prop}(hS:aG K cA U H s)(r:bF K cA U H x v)(h:Run K cA (bool x) U H s (λd _ U' H'=>Q d H') Ee):∃k,v=.bl k/\Q k H:=by
 cases r with
 |l _=>exact h.elim
 |d rv=>cases rv with
  |bl k=>exact⟨k,rfl,h U H Ext.refl hS⟩
  |_=>exact h.elim
theorem R0{b:Bool}{K:W.Frag}{U:Ph}{H:Hp}{s:S}{Q:Bool->Hp->Prop}{Ee:Nat->List D->S->Ph->Hp->Prop}(hS:aG K cA U H s)(h:Run K cA (M.bd (M.ret (Xv.d (.bl b))) bool) U H s (λd _ U' H'=>Q d H') Ee):Q b H:=h U H Ext.refl hS
theorem zkT{op op':CmpOp}{r r':R2}{q:Pr}(ho:cI X (compareOp op) r)(hp:aR X.K cA p (r2 r))(jM:cI X (compareOp op') r')(hp':aR X.K cA q (r2 r'))(ha:SE X cA ao aj F EX a A)(hb:SE X cA ao aj F EX b B)(hc:SE X cA ao aj F EX c C)(hm:lastMarks [op,op'] [b,c]=false:=by with_unfolding_all rfl) :
  ST X cA ao aj F EX (.Compare a [op,op'] [b,c] pos) (.rT p q A B C):=PT.weak (zg0 ho jM ha hb hc hm) λZ H Q hh=>un hh λU J s hL hS h=>by
 have h:Run X.K cA (M.bd (M.bd (ev ao aj F A J) λx=>M.bd (ev ao aj F B J) λy=>M.bd (dW [x,y]) λds=>M.bd (bJ true (prim p ds)) λt=>M.bd (bool t) λk=>
   if k=true then M.bd (ev ao aj F C J) λz=>M.bd (dW [y,z]) λds=>bJ true (prim q ds) else M.ret (.d (.bl false))) bool) U H s _ _:=h
 simp only[iH] at h;refine bf hL hS h λx H1 U1 d1 s1 x1 hL1 aL r1 h1=>bf hL1 aL h1 λy H2 U2 d2 s2 x2 hL2 aU r2' h2=>?_;obtain⟨ds,rs,h3⟩:=m7 aU (.cons (r1.mono x2 aL.lz) (.cons r2' .nil)) h2;refine qm (hp U2 H2 ds _ _ aU.zs rs (mL (Ee:=eX X.K cA EX Z) aU (h3.bd.imp λt s3 U3 H3 ⟨x3,iI,h4⟩ v rv=>?_)));obtain⟨k,_,e,h5⟩:=vL rv h4;refine⟨k,e,?_⟩;cases k with
 |false=>exact iF ⟨false,rfl,R0 iI h5⟩
 |true=>
  have qZ:=hL2.mono x3 aU.lz;rw[if_pos rfl] at h5;simp only[iH] at h5;refine iT (bf qZ iI h5 λz H4 U4 d4 s4 x4 Jj jz r4 h6=>?_);obtain⟨ds,rs,h7⟩:=m7 jz (.cons ((r2'.mono x3 aU.lz).mono x4 iI.lz) (.cons r4 .nil)) h6;refine qm (hp' U4 H4 ds _ _ jz.zs rs (mL (Ee:=eX X.K cA EX Z) jz (h7.bd.imp λt s5 U5 H5 ⟨x5,uq,h8⟩ v rv=>?_)));exact YD uq rv h8
theorem zfB{op op' fQ:CmpOp}{r r' r'':R2}{ta tb tc td:TE}(h1:cI X (compareOp op) r)(h2:cI X (compareOp op') r')(h3:cI X (compareOp fQ) r'')(ha:PE X a ta)(hb:PE X b tb)(hc:PE X c tc)(hd:PE X d td)
  (hm:lastMarks [op,op',fQ] [b,c,d]=false:=by with_unfolding_all rfl):PT X (.Compare a [op,op',fQ] [b,c,d] pos) (λZ H Q=>ta Z H λx H1=>tb Z H1 λy H2=>r x y H2 λz H3=>∃k,z=.bl k /\
   (if k=true then tc Z H3 λw' H4=>r' y w' H4 λz2 H5=>∃k2,z2=.bl k2/\(if k2=true then td Z H5 λw2 H6=>r'' w' w2 H6 λz3 H7=>∃k3,z3=.bl k3/\Q k3 H7 else Q false H5) else Q false H3)):=by
 intro ak s Z H Q I h;refine isTrue_chain (aX (ha ak s Z H _ I h) λv s1 hx=>cY hx λx H1 I1 r1 q1=>test_link (aX (hb ak s1 Z H1 _ I1 q1) λu s2 hx=>cY hx λy H2 I2 r2 q2=>
  aX (h1 ak s2 Z H2 x y v u _ I2 r1 r2 q2) λd s3 hx=>vA hx λz H3 I3 r3 k e q3=>?_)) hm
 subst e;cases r3;refine oG ?_;cases k with
 |false=>exact ite_ff ⟨H3,I3,q3⟩
 |true=>
  refine ite_tt (test_link (aX (hc ak s3 Z H3 _ I3 q3) λw' s4 hx=>cY hx λz' H4 I4 r4 q4=>aX (h2 ak s4 Z H4 y z' u w' _ I4 r2 r4 q4) λd' s5 hx=>vA hx λz2 H5 I5 r5 k2 e2 q5=>?_));subst e2;cases r5;refine oG ?_;cases k2 with
  |false=>exact ite_ff ⟨H5,I5,q5⟩
  |true=>
   refine ite_tt (test_last (aX (hd ak s5 Z H5 _ I5 q5) λw2 s6 hx=>cY hx λz3 H6 I6 r6 q6=>aX (h3 ak s6 Z H6 z' z3 w' w2 _ I6 r4 r6 q6) λd'' s7 hx=>vA hx λz4 H7 I7 r7 k3 e3 q7=>?_));subst e3;cases r7;exact oG ⟨H7,I7,q7⟩
theorem zlF{op op' fQ:CmpOp}{r r' r'':R2}{q u:Pr}(h1:cI X (compareOp op) r)(p1:aR X.K cA p (r2 r))(h2:cI X (compareOp op') r')(p2:aR X.K cA q (r2 r'))(h3:cI X (compareOp fQ) r'')(p3:aR X.K cA u (r2 r''))(ha:SE X cA ao aj F EX a A)(hb:SE X cA ao aj F EX b B)(hc:SE X cA ao aj F EX c C)(hd:SE X cA ao aj F EX d Dd)
  (hm:lastMarks [op,op',fQ] [b,c,d]=false:=by with_unfolding_all rfl):ST X cA ao aj F EX (.Compare a [op,op',fQ] [b,c,d] pos) (.t_ p q u A B C Dd):=PT.weak (zfB h1 h2 h3 ha hb hc hd hm) λZ H Q hh=>un hh λU J s hL hS h=>by
 have h:Run X.K cA (M.bd (M.bd (ev ao aj F A J) λx=>M.bd (ev ao aj F B J) λy=>M.bd (dW [x,y]) λds=>M.bd (bJ true (prim p ds)) λt=>M.bd (bool t) λk=>
   if k=true then M.bd (ev ao aj F C J) λz=>M.bd (dW [y,z]) λds=>M.bd (bJ true (prim q ds)) λt=>M.bd (bool t) λk2=>
    if k2=true then M.bd (ev ao aj F Dd J) λw=>M.bd (dW [z,w]) λds=>bJ true (prim u ds) else M.ret (.d (.bl false))
   else M.ret (.d (.bl false))) bool) U H s _ _:=h
 simp only[iH] at h;refine bf hL hS h λx H1 U1 d1 s1 x1 hL1 aL r1 h1=>bf hL1 aL h1 λy H2 U2 d2 s2 x2 hL2 aU r2' h2=>?_;obtain⟨ds,rs,h3⟩:=m7 aU (.cons (r1.mono x2 aL.lz) (.cons r2' .nil)) h2;refine qm (p1 U2 H2 ds _ _ aU.zs rs (mL (Ee:=eX X.K cA EX Z) aU (h3.bd.imp λt s3 U3 H3 ⟨x3,iI,h4⟩ v rv=>?_)));obtain⟨k,_,e,h5⟩:=vL rv h4;refine⟨k,e,?_⟩;cases k with
 |false=>exact iF (R0 iI h5)
 |true=>
  have qZ:=hL2.mono x3 aU.lz;rw[if_pos rfl] at h5;simp only[iH] at h5;refine iT (bf qZ iI h5 λz H4 U4 d4 s4 x4 Jj jz r4 h6=>?_);obtain⟨ds,rs,h7⟩:=m7 jz (.cons ((r2'.mono x3 aU.lz).mono x4 iI.lz) (.cons r4 .nil)) h6;refine qm (p2 U4 H4 ds _ _ jz.zs rs (mL (Ee:=eX X.K cA EX Z) jz (h7.bd.imp λt s5 U5 H5 ⟨x5,uq,h8⟩ v rv=>?_)));obtain⟨k2,_,e,h9⟩:=vL rv h8;refine⟨k2,e,?_⟩;cases k2 with
  |false=>exact iF (R0 uq h9)
  |true=>
   have RX:=Jj.mono x5 jz.lz;rw[if_pos rfl] at h9;simp only[iH] at h9;refine iT (bf RX uq h9 λz H6 U6 d6 s6 x6 hL6 Jk r6 RZ=>?_);obtain⟨ds,rs,h11⟩:=m7 Jk (.cons ((r4.mono x5 jz.lz).mono x6 uq.lz) (.cons r6 .nil)) RZ;refine qm (p3 U6 H6 ds _ _ Jk.zs rs (mL (Ee:=eX X.K cA EX Z) Jk (h11.bd.imp λt s7 U7 H7 ⟨x7,hS7,h12⟩ v rv=>?_)));exact YD hS7 rv h12
end
mutual
inductive Is (h:Heap):D->Value->Prop where
 |non:Is h .non .none
 |bl (b:Bool):Is h (.bl b) (.bool b)
 |int (i:Int) (t:Tok):Is h (.int i) (.int i t)
 |str (x:Str) (t:Tok):Is h (.str x) (.str x t)
 |tup {a:Addr} {xs:List D} {its:List Value} (p:h.IsTuple a its.toArray) (r:kI h xs its):Is h (.tup xs) (.ref a)
 |fl {a:Addr} {xs:List D} {its:List Value} (p:h.IsList a its.toArray) (r:kI h xs its):Is h (.fl xs) (.ref a)
 |oth {d:D} {u:Value} (k:kq d=none):Is h d u
inductive kI (h:Heap):List D->List Value->Prop where
 |nil:kI h [] []
 |cons {d:D} {u:Value} {ds:List D} {us:List Value} (a:Is h d u) (r:kI h ds us):kI h (d::ds) (u::us)
end
section
variable {X:Cx}{cA:Cl}{ak:List (Addr×Obj)}{Z:L2.St}{H:Hp}{s:Shared}{U:Ph}{h:Heap}
theorem R3(I:Inv X ak Z H s){ds:List D}{vs:List V}{us:List Value}(h:aB X.K cA U H ds vs)(r:Vals vs us):kI s.heap ds us:=
 aB.rec (motive_1:=λd v _=>∀{u:Value},RelV v u->Is s.heap d u) (motive_2:=λd v _=>∀{u:List Value},Vals v u->kI s.heap d u) (λr=>by cases r;exact .non) (λb _ r=>by cases r;exact .bl b) (λi _ r=>by obtain⟨t,rfl⟩:=r;exact .int i t) (λi _ r=>by obtain⟨t,rfl⟩:=r;exact .str i t)
 (λh _ ih _ r=>by
  cases r;obtain⟨its,rv,ht,_⟩:=I.tuple h.jm;exact .tup ht (ih rv))
 (λh _ ih _ r=>by
  cases r;obtain⟨its,rv,ht,_⟩:=I.list h.vK;exact .fl ht.isList (ih rv))
 (λ_ _ _ _=>.oth rfl) (λ_ _ _ _ _=>.oth rfl) (λ_ _ _ _ _=>.oth rfl) (λ_ _ _=>.oth rfl)
 (λr=>by cases r;exact .nil)
 (λ_ _ i j _ r=>by
  cases r with
  |cons a b=>exact .cons (i a) (j b)) h r
theorem xT(I:Inv X ak Z H s){d:D}{v:V}{u:Value}(h:Rep X.K cA U H d v)(r:RelV v u):Is s.heap d u:=by
 cases h with
 |non=>cases r;exact .non
 |bl b=>cases r;exact .bl b
 |int i=>obtain⟨t,rfl⟩:=r;exact .int i t
 |str i=>obtain⟨t,rfl⟩:=r;exact .str i t
 |tup h q=>
  cases r;obtain⟨its,rv,ht,_⟩:=I.tuple h.jm;exact .tup ht (R3 I q rv)
 |fl h q=>
  cases r;obtain⟨its,rv,ht,_⟩:=I.list h.vK;exact .fl ht.isList (R3 I q rv)
 |fd _ _=>exact .oth rfl
 |exc _ _=>exact .oth rfl
 |ob _ _=>exact .oth rfl
 |any _=>exact .oth rfl
theorem Fb(I:Inv X ak Z H s){d:D}{v:V}{u:Value}(q:Rv X.K cA U H d v)(r:RelV v u):Is s.heap d u:=by
 cases d with
 |fl xs=>
  obtain⟨a,vs,rfl,sq,rs⟩:=q;cases r;obtain⟨its,rv,ht,_⟩:=I.list sq;exact .fl ht.isList (R3 I rs rv)
 |non=>exact xT I q r
 |bl b=>exact xT I q r
 |int b=>exact xT I q r
 |str b=>exact xT I q r
 |tup b=>exact xT I q r
 |fd b c=>exact xT I q r
 |exc b c=>exact xT I q r
 |ob b c=>exact xT I q r
 |any=>exact xT I q r
theorem kI.len:∀{ds:List D} {us:List Value},kI h ds us->ds.length=us.length
 |_,_,.nil=>rfl
 |_,_,.cons _ r=>by rw[je,je,kI.len r]
theorem kI.get:∀{ds:List D} {us:List Value} {i:Nat} {d:D},kI h ds us->ds[i]?=some d->∃u,us[i]?=some u/\Is h d u
 |_,_,_,_,.nil,e=>by simp at e
 |_,_,0,_,.cons h _,e=>by simp at e;subst e;exact⟨_,rfl,h⟩
 |_,_,i+1,d,.cons _ r,e=>by
  obtain⟨v,a,b⟩:=kI.get (i:=i) (d:=d) r (by simpa using e);exact⟨v,by simpa using a,b⟩
theorem YF{a:Addr}{is js:Array Value}(p:h.IsTuple a is)(q:h.IsTuple a js):is=js:=by
 obtain⟨o,e,c,n,d⟩:=p;obtain⟨o',e',c',n',d'⟩:=q;rw[e] at e';cases e';rw[d] at d';cases d';rfl
theorem YG{a:Addr}{is js:Array Value}(p:h.IsList a is)(q:h.IsList a js):is=js:=by
 obtain⟨o,e,c,n,d⟩:=p;obtain⟨o',e',c',n',d'⟩:=q;rw[e] at e';cases e';rw[d] at d';cases d';rfl
theorem vM{a:Addr}{is js:Array Value}(p:h.IsList a is)(q:h.IsTuple a js):False:=by
 obtain⟨o,e,c,n,d⟩:=p;obtain⟨o',e',c',n',d'⟩:=q;rw[e] at e';cases e';rw[c] at c';exact absurd c' Zaa
theorem Jl{eq:D->D->Option Bool}:∀{xs ys:List D} {b:Bool},gq eq xs ys=some b->∃e:Nat->Bool,(∀(j:Nat) x y,xs[j]?=some x->ys[j]?=some y->eq x y=some (e j))/\b=((List.range (min xs.length ys.length)).all e&&xs.length==ys.length)
 |[],[],b,h=>by cases h;exact⟨λ_=>true,λj x y q=>by simp at q,by simp⟩
 |[],y::ys,b,h=>by cases h;exact⟨λ_=>true,λj x y q=>by simp at q,by simp⟩
 |x::xs,[],b,h=>by cases h;exact⟨λ_=>true,λj x y q r=>by simp at r,by simp⟩
 |x::xs,y::ys,b,h=>by
  simp only[gq] at h;cases e1:eq x y with
  |none=>rw[e1] at h;cases h
  |some a=>
   cases e2:gq eq xs ys with
   |none=>rw[e1,e2] at h;cases h
   |some c=>
    rw[e1,e2] at h;cases h;obtain⟨e,h1,h2⟩:=Jl e2;refine⟨λj=>match j with|0=>a|j+1=>e j,λj p q r1 r2=>?_,?_⟩
    ·cases j with
     |zero=>
      simp at r1 r2;subst r1 r2;exact e1
     |succ j=>exact h1 j p q (by simpa using r1) (by simpa using r2)
    ·rw[h2];simp only[je,Nat.succ_min_succ,Ol,jG,Eh,Function.comp_def];rw[Bool.and_assoc]
     congr 2
     simp
theorem iU{n:Nat}{d e:D}(k:kq d=none):dD n d e=none:=by
 cases n<;>cases d<;>first|cases k;done|(cases e<;>rfl)
theorem gJ{n:Nat}{d e:D}(k:kq e=none):dD n d e=none:=by
 cases n<;>cases e<;>first|cases k;done|(cases d<;>rfl)
theorem YH:∀(n:Nat) {d1 d2:D} {u:Value} {b:Bool},Is h d1 u->Is h d2 u->dD n d1 d2=some b->b=true:=by
 intro n;have rows:∀(n:Nat),(∀{d1 d2:D} {u:Value} {b:Bool},Is h d1 u->Is h d2 u->dD n d1 d2=some b->b=true)->∀{xs ys:List D} {is js:List Value} {b:Bool},kI h xs is->kI h ys js->is.toArray=js.toArray->gq (dD n) xs ys=some b->b=true:=by
  intro n ih xs ys is js b q1 q2 e hd;have e:is=js:=by simpa using e
  subst e;obtain⟨e,a1,a2⟩:=Jl (eq:=dD n) hd;rw[a2];have hl:_=_:=q1.len.trans q2.len.symm;rw[cG];refine⟨fX.mpr λj hj=>?_,by rw[hl];simp⟩;have hj:=vh.mp hj;obtain⟨x,hx⟩ : ∃x,_=some x:=⟨_,fH (gj hj (Nat.min_le_left _ _))⟩;obtain⟨y,hy⟩ : ∃y,_=some y:=⟨_,fH (gj hj (Nat.min_le_right _ _))⟩;obtain⟨v1,e1,p1⟩:=q1.get hx;obtain⟨v2,e2,p2⟩:=q2.get hy;rw[e1] at e2;cases e2;exact ih p1 p2 (a1 j x y hx hy)
 induction n with
 |zero=>
  intro d1 d2 u b r1 r2 hd;cases r1 with
  |oth k=>rw[iU k] at hd;cases hd
  |non=>cases r2 with
   |oth k=>rw[gJ k] at hd;cases hd
   |non=>cases hd;rfl
  |bl x=>cases r2 with
   |oth k=>rw[gJ k] at hd;cases hd
   |bl y=>cases hd;simp
  |int x t=>cases r2 with
   |oth k=>rw[gJ k] at hd;cases hd
   |int y=>cases hd;simp
  |str x t=>cases r2 with
   |oth k=>rw[gJ k] at hd;cases hd
   |str y=>cases hd;simp
  |tup p q=>cases r2 with
   |oth k=>rw[gJ k] at hd;cases hd
   |tup p2 q2=>cases hd
   |fl p2 q2=>exact(vM p2 p).elim
  |fl p q=>cases r2 with
   |oth k=>rw[gJ k] at hd;cases hd
   |fl p2 q2=>cases hd
   |tup p2 q2=>exact(vM p p2).elim
 |succ n ih=>
  intro d1 d2 u b r1 r2 hd;cases r1 with
  |oth k=>rw[iU k] at hd;cases hd
  |non=>cases r2 with
   |oth k=>rw[gJ k] at hd;cases hd
   |non=>cases hd;rfl
  |bl x=>cases r2 with
   |oth k=>rw[gJ k] at hd;cases hd
   |bl y=>cases hd;simp
  |int x t=>cases r2 with
   |oth k=>rw[gJ k] at hd;cases hd
   |int y=>cases hd;simp
  |str x t=>cases r2 with
   |oth k=>rw[gJ k] at hd;cases hd
   |str y=>cases hd;simp
  |tup p q=>cases r2 with
   |oth k=>rw[gJ k] at hd;cases hd
   |tup p2 q2=>exact rows n ih q q2 (YF p p2) hd
   |fl p2 q2=>exact(vM p2 p).elim
  |fl p q=>cases r2 with
   |oth k=>rw[gJ k] at hd;cases hd
   |fl p2 q2=>exact rows n ih q q2 (YG p p2) hd
   |tup p2 q2=>exact(vM p p2).elim
theorem parts{n:Nat}{A:Around}{xs ys:List D}{is js:List Value}{b:Bool}(r1:kI s.heap xs is)(r2:kI s.heap ys js)(hd:gq (dD n) xs ys=some b)
  (ih:∀{d1 d2:D} {u1 u2:Value} {b:Bool},Is s.heap d1 u1->Is s.heap d2 u2->dD n d1 d2=some b->SeqAt.EqAt A s u1 u2 b) :
  ∃e:Nat->Bool,(∀j (h1:j<is.toArray.size) (h2:j<js.toArray.size),SeqAt.EqAt A s is.toArray[j] js.toArray[j] (e j))/\b=((List.range (min is.toArray.size js.toArray.size)).all e&&is.toArray.size==js.toArray.size):=by
 obtain⟨e,a1,a2⟩:=Jl hd;have z1:=r1.len;have z2:=r2.len;refine⟨e,λj h1 h2=>?_,by simp only[dh,<-z1,<-z2];exact a2⟩;simp only[dh] at h1 h2;obtain⟨x,hx⟩ : ∃x,xs[j]?=some x:=⟨_,fH (by rw[z1];exact h1)⟩;obtain⟨y,hy⟩ : ∃y,ys[j]?=some y:=⟨_,fH (by rw[z2];exact h2)⟩;obtain⟨u,f1,g1⟩:=r1.get hx;obtain⟨u',f2,g2⟩:=r2.get hy;have k1:is.toArray[j]=u:=by
  have:=jt.mp f1;simpa using this.2
 have k2:js.toArray[j]=u':=by
  have:=jt.mp f2;simpa using this.2
 rw[k1,k2];exact ih g1 g2 (a1 j x y hx hy)
theorem YJ{A:Around}{l m:Addr}{is js:Array Value}{e:Nat->Bool}{b:Bool}(p1:s.heap.IsList l is)(p2:s.heap.IsList m js)(hu:A.units<cLine)(he:∀j (h1:j<is.size) (h2:j<js.size),SeqAt.EqAt A.in1 s is[j] js[j] (e j))(hb:b=((List.range (min is.size js.size)).all e&&is.size==js.size)):SeqAt.RcAt A s (.ref l) (.ref m) b:=by
 by_cases hz:is.size=js.size
 ·have:b=(List.range is.size).all e:=by rw[hb,hz];simp
  rw[this];exact SeqAt.RcAt.lists p1 p2 hz hu he
 ·have R4:(is.size != js.size)=true:=by simpa using hz
  have:b=false:=by rw[hb];simp[hz]
  rw[this];exact SeqAt.RcAt.lists_lengths p1 p2 R4 hu
theorem zgg{A:Around}{l m:Addr}{is js:Array Value}{e:Nat->Bool}{b:Bool}(p1:s.heap.IsList l is)(p2:s.heap.IsList m js)(hu:A.units<cLine)(he:∀j (h1:j<is.size) (h2:j<js.size),SeqAt.EqAt A.in1 s is[j] js[j] (e j))(hb:b=((List.range (min is.size js.size)).all e&&is.size==js.size)):SeqAt.RcNeAt A s (.ref l) (.ref m) (!b):=by
 by_cases hz:is.size=js.size
 ·have:b=(List.range is.size).all e:=by rw[hb,hz];simp
  rw[this];exact SeqAt.RcNeAt.lists p1 p2 hz hu he
 ·have R4:(is.size != js.size)=true:=by simpa using hz
  have:b=false:=by rw[hb];simp[hz]
  rw[this];exact SeqAt.RcNeAt.lists_lengths p1 p2 R4 hu
open SeqAt in
theorem R5:∀(n:Nat) {A:Around} {d1 d2:D} {u1 u2:Value} {b:Bool},A.units+n<cLine->Is s.heap d1 u1->Is s.heap d2 u2->dD n d1 d2=some b->SeqAt.EqAt A s u1 u2 b:=by
 intro n
 induction n with
 |zero=>
  intro A d1 d2 u1 u2 b hu r1 r2 hd;have hu:A.units<cLine:=by lia
  cases r1 with
  |oth k=>rw[iU k] at hd;cases hd
  |non=>cases r2 with
   |oth k=>rw[gJ k] at hd;cases hd
   |non=>cases hd;exact EqAt.same _
   |bl y=>cases hd;exact EqAt.none_bool _
   |int y t=>cases hd;exact EqAt.none_int _ _
   |str y t=>cases hd;exact EqAt.none_str _ _
   |tup p q=>cases hd;exact EqAt.none_tuple p hu
   |fl p q=>cases hd;exact EqAt.none_list p hu
  |bl x=>cases r2 with
   |oth k=>rw[gJ k] at hd;cases hd
   |non=>cases hd;exact EqAt.bool_none _
   |bl y=>cases hd;exact EqAt.bool_bool _ _
   |int y t=>cases hd;exact EqAt.bool_int _ _ _
   |str y t=>cases hd;exact EqAt.bool_str _ _ _
   |tup p q=>cases hd;exact EqAt.bool_tuple _ p hu
   |fl p q=>cases hd;exact EqAt.bool_list _ p hu
  |int x t=>cases r2 with
   |oth k=>rw[gJ k] at hd;cases hd
   |non=>cases hd;exact EqAt.int_none _ _
   |bl y=>cases hd;exact EqAt.int_bool _ _ _
   |int y t=>cases hd;exact EqAt.int_int _ _ _ _
   |str y t=>cases hd;exact EqAt.int_str _ _ _ _
   |tup p q=>cases hd;exact EqAt.int_tuple _ _ p hu
   |fl p q=>cases hd;exact EqAt.int_list _ _ p hu
  |str x t=>cases r2 with
   |oth k=>rw[gJ k] at hd;cases hd
   |non=>cases hd;exact EqAt.str_none _ _
   |bl y=>cases hd;exact EqAt.str_bool _ _ _
   |int y t=>cases hd;exact EqAt.str_int _ _ _ _
   |str y t=>cases hd;exact EqAt.str_str _ _ _ _
   |tup p q=>cases hd;exact EqAt.str_tuple _ _ p hu
   |fl p q=>cases hd;exact EqAt.str_list _ _ p hu
  |tup p q=>cases r2 with
   |oth k=>rw[gJ k] at hd;cases hd
   |non=>cases hd;exact EqAt.tuple_none p hu
   |bl y=>cases hd;exact EqAt.tuple_bool _ p hu
   |int y t=>cases hd;exact EqAt.tuple_int _ _ p hu
   |str y t=>cases hd;exact EqAt.tuple_str _ _ p hu
   |tup p2 q2=>cases hd
   |fl p2 q2=>cases hd;exact EqAt.tuple_list p p2 hu
  |fl p q=>cases r2 with
   |oth k=>rw[gJ k] at hd;cases hd
   |non=>cases hd;exact EqAt.list_none p hu
   |bl y=>cases hd;exact EqAt.list_bool _ p hu
   |int y t=>cases hd;exact EqAt.list_int _ _ p hu
   |str y t=>cases hd;exact EqAt.list_str _ _ p hu
   |tup p2 q2=>cases hd;exact EqAt.list_tuple p p2 hu
   |fl p2 q2=>cases hd
 |succ n ih=>
  intro A d1 d2 u1 u2 b hu0 r1 r2 hd;have hu:A.units<cLine:=by lia
  have jA:A.in1.units+n<cLine:=by show A.units+1+n<cLine;lia
  cases r1 with
  |oth k=>rw[iU k] at hd;cases hd
  |non=>cases r2 with
   |oth k=>rw[gJ k] at hd;cases hd
   |non=>cases hd;exact EqAt.same _
   |bl y=>cases hd;exact EqAt.none_bool _
   |int y t=>cases hd;exact EqAt.none_int _ _
   |str y t=>cases hd;exact EqAt.none_str _ _
   |tup p q=>cases hd;exact EqAt.none_tuple p hu
   |fl p q=>cases hd;exact EqAt.none_list p hu
  |bl x=>cases r2 with
   |oth k=>rw[gJ k] at hd;cases hd
   |non=>cases hd;exact EqAt.bool_none _
   |bl y=>cases hd;exact EqAt.bool_bool _ _
   |int y t=>cases hd;exact EqAt.bool_int _ _ _
   |str y t=>cases hd;exact EqAt.bool_str _ _ _
   |tup p q=>cases hd;exact EqAt.bool_tuple _ p hu
   |fl p q=>cases hd;exact EqAt.bool_list _ p hu
  |int x t=>cases r2 with
   |oth k=>rw[gJ k] at hd;cases hd
   |non=>cases hd;exact EqAt.int_none _ _
   |bl y=>cases hd;exact EqAt.int_bool _ _ _
   |int y t=>cases hd;exact EqAt.int_int _ _ _ _
   |str y t=>cases hd;exact EqAt.int_str _ _ _ _
   |tup p q=>cases hd;exact EqAt.int_tuple _ _ p hu
   |fl p q=>cases hd;exact EqAt.int_list _ _ p hu
  |str x t=>cases r2 with
   |oth k=>rw[gJ k] at hd;cases hd
   |non=>cases hd;exact EqAt.str_none _ _
   |bl y=>cases hd;exact EqAt.str_bool _ _ _
   |int y t=>cases hd;exact EqAt.str_int _ _ _ _
   |str y t=>cases hd;exact EqAt.str_str _ _ _ _
   |tup p q=>cases hd;exact EqAt.str_tuple _ _ p hu
   |fl p q=>cases hd;exact EqAt.str_list _ _ p hu
  |@tup a1 xs is p q=>cases r2 with
   |oth k=>rw[gJ k] at hd;cases hd
   |non=>cases hd;exact EqAt.tuple_none p hu
   |bl y=>cases hd;exact EqAt.tuple_bool _ p hu
   |int y t=>cases hd;exact EqAt.tuple_int _ _ p hu
   |str y t=>cases hd;exact EqAt.tuple_str _ _ p hu
   |@tup a2 ys js p2 q2=>
    by_cases ea:a1=a2
    ·subst ea;have:=YH (n+1) (.tup p q) (.tup p2 q2) hd;subst this;exact EqAt.same _
    ·obtain⟨e,he,hb⟩:=parts (A:=A.in1) q q2 hd λa b c=>ih jA a b c;rw[hb];exact EqAt.of_refs ea (RcAt.tuples p p2 hu he)
   |fl p2 q2=>cases hd;exact EqAt.tuple_list p p2 hu
  |@fl a1 xs is p q=>cases r2 with
   |oth k=>rw[gJ k] at hd;cases hd
   |non=>cases hd;exact EqAt.list_none p hu
   |bl y=>cases hd;exact EqAt.list_bool _ p hu
   |int y t=>cases hd;exact EqAt.list_int _ _ p hu
   |str y t=>cases hd;exact EqAt.list_str _ _ p hu
   |tup p2 q2=>cases hd;exact EqAt.list_tuple p p2 hu
   |@fl a2 ys js p2 q2=>
    by_cases ea:a1=a2
    ·subst ea;have:=YH (n+1) (.fl p q) (.fl p2 q2) hd;subst this;exact EqAt.same _
    ·obtain⟨e,he,hb⟩:=parts (A:=A.in1) q q2 hd λa b c=>ih jA a b c;exact EqAt.of_refs ea (YJ p p2 hu he hb)
end
section
variable {X:Cx}{cA:Cl}{ak:List (Addr×Obj)}{Z:L2.St}{H:Hp}{s:Shared}{U:Ph}{h:Heap}
open SeqAt in
theorem YK(hu0:A.units+(n+1)<cLine)(r1:Is s.heap d1 u1)(r2:Is s.heap d2 u2)(hd:dD (n+1) d1 d2=some b):RcAt A s u1 u2 b/\RcNeAt A s u1 u2 (!b):=by
 have hu:A.units<cLine:=by lia
 have jA:A.in1.units+n<cLine:=by show A.units+1+n<cLine;lia
 cases r1 with
 |oth k=>rw[iU k] at hd;cases hd
 |non=>cases r2 with
  |oth k=>rw[gJ k] at hd;cases hd
  |non=>cases hd;exact⟨RcAt.none_none,RcNeAt.none_none⟩
  |bl y=>cases hd;exact⟨RcAt.none_bool _,RcNeAt.none_bool _⟩
  |int y t=>cases hd;exact⟨RcAt.none_int _ _,RcNeAt.none_int _ _⟩
  |str y t=>cases hd;exact⟨RcAt.none_str _ _,RcNeAt.none_str _ _⟩
  |tup p q=>cases hd;exact⟨RcAt.none_tuple p hu,RcNeAt.none_tuple p hu⟩
  |fl p q=>cases hd;exact⟨RcAt.none_list p hu,RcNeAt.none_list p hu⟩
 |bl x=>cases r2 with
  |oth k=>rw[gJ k] at hd;cases hd
  |non=>cases hd;exact⟨RcAt.bool_none _,RcNeAt.bool_none _⟩
  |bl y=>cases hd;exact⟨RcAt.bool_bool _ _,RcNeAt.bool_bool _ _⟩
  |int y t=>cases hd;exact⟨RcAt.bool_int _ _ _,RcNeAt.bool_int _ _ _⟩
  |str y t=>cases hd;exact⟨RcAt.bool_str _ _ _,RcNeAt.bool_str _ _ _⟩
  |tup p q=>cases hd;exact⟨RcAt.bool_tuple _ p hu,RcNeAt.bool_tuple _ p hu⟩
  |fl p q=>cases hd;exact⟨RcAt.bool_list _ p hu,RcNeAt.bool_list _ p hu⟩
 |int x t=>cases r2 with
  |oth k=>rw[gJ k] at hd;cases hd
  |non=>cases hd;exact⟨RcAt.int_none _ _,RcNeAt.int_none _ _⟩
  |bl y=>cases hd;exact⟨RcAt.int_bool _ _ _,RcNeAt.int_bool _ _ _⟩
  |int y t=>cases hd;exact⟨RcAt.int_int _ _ _ _,RcNeAt.int_int _ _ _ _⟩
  |str y t=>cases hd;exact⟨RcAt.int_str _ _ _ _,RcNeAt.int_str _ _ _ _⟩
  |tup p q=>cases hd;exact⟨RcAt.int_tuple _ _ p hu,RcNeAt.int_tuple _ _ p hu⟩
  |fl p q=>cases hd;exact⟨RcAt.int_list _ _ p hu,RcNeAt.int_list _ _ p hu⟩
 |str x t=>cases r2 with
  |oth k=>rw[gJ k] at hd;cases hd
  |non=>cases hd;exact⟨RcAt.str_none _ _,RcNeAt.str_none _ _⟩
  |bl y=>cases hd;exact⟨RcAt.str_bool _ _ _,RcNeAt.str_bool _ _ _⟩
  |int y t=>cases hd;exact⟨RcAt.str_int _ _ _ _,RcNeAt.str_int _ _ _ _⟩
  |str y t=>cases hd;exact⟨RcAt.str_str _ _ _ _,RcNeAt.str_str _ _ _ _⟩
  |tup p q=>cases hd;exact⟨RcAt.str_tuple _ _ p hu,RcNeAt.str_tuple _ _ p hu⟩
  |fl p q=>cases hd;exact⟨RcAt.str_list _ _ p hu,RcNeAt.str_list _ _ p hu⟩
 |@tup a1 xs is p q=>cases r2 with
  |oth k=>rw[gJ k] at hd;cases hd
  |non=>cases hd;exact⟨RcAt.tuple_none p hu,RcNeAt.tuple_none p hu⟩
  |bl y=>cases hd;exact⟨RcAt.tuple_bool _ p hu,RcNeAt.tuple_bool _ p hu⟩
  |int y t=>cases hd;exact⟨RcAt.tuple_int _ _ p hu,RcNeAt.tuple_int _ _ p hu⟩
  |str y t=>cases hd;exact⟨RcAt.tuple_str _ _ p hu,RcNeAt.tuple_str _ _ p hu⟩
  |@tup a2 ys js p2 q2=>
   obtain⟨e,he,hb⟩:=parts (A:=A.in1) q q2 hd λa b c=>R5 n jA a b c;rw[hb];exact⟨RcAt.tuples p p2 hu he,RcNeAt.tuples p p2 hu he⟩
  |fl p2 q2=>cases hd;exact⟨RcAt.tuple_list p p2 hu,RcNeAt.tuple_list p p2 hu⟩
 |@fl a1 xs is p q=>cases r2 with
  |oth k=>rw[gJ k] at hd;cases hd
  |non=>cases hd;exact⟨RcAt.list_none p hu,RcNeAt.list_none p hu⟩
  |bl y=>cases hd;exact⟨RcAt.list_bool _ p hu,RcNeAt.list_bool _ p hu⟩
  |int y t=>cases hd;exact⟨RcAt.list_int _ _ p hu,RcNeAt.list_int _ _ p hu⟩
  |str y t=>cases hd;exact⟨RcAt.list_str _ _ p hu,RcNeAt.list_str _ _ p hu⟩
  |tup p2 q2=>cases hd;exact⟨RcAt.list_tuple p p2 hu,RcNeAt.list_tuple p p2 hu⟩
  |@fl a2 ys js p2 q2=>
   obtain⟨e,he,hb⟩:=parts (A:=A.in1) q q2 hd λa b c=>R5 n jA a b c;exact⟨YJ p p2 hu he hb,zgg p p2 hu he hb⟩
noncomputable def xU(K:W.Frag)(cA:Cl)(f:Bool->Bool):R2:=λx y H Q=>∃U d1 d2 b,Rv K cA U H d1 x/\Rv K cA U H d2 y/\dD 50 d1 d2=some b/\Q (.bl (f b)) H
theorem zkX(hu:X.A.units+60<cLine):cI X (compareOp .Eq) (xU X.K cA id):=by
 intro ak s Z H x y v u Q I rx ry ⟨U,d1,d2,b,r1,r2,hd,q⟩;exact(YK (n:=49) gV (Fb I r1 rx) (Fb I r2 ry) hd).1 X.prog X.w X.xe _ ⟨.bl b,H,I,rfl,q⟩
theorem zlt(hu:X.A.units+60<cLine):cI X (compareOp .NotEq) (xU X.K cA not):=by
 intro ak s Z H x y v u Q I rx ry ⟨U,d1,d2,b,r1,r2,hd,q⟩;exact(YK (n:=49) gV (Fb I r1 rx) (Fb I r2 ry) hd).2 X.prog X.w X.xe _ ⟨.bl (!b),H,I,rfl,q⟩
theorem YL:∀(n:Nat) {d d' x:D} {u:Value} {b b':Bool},Is h d u->Is h d' u->dD n d x=some b->dD n d' x=some b'->b=b':=by
 intro n;have flat:∀{d d' x:D} {u:Value} {b b':Bool},Is h d u->Is h d' u->(∀xs xs',d=.tup xs->d'=.tup xs'->False)->(∀xs xs',d=.fl xs->d'=.fl xs'->False)->dD n d x=some b->dD n d' x=some b'->b=b':=by
  intro d d' x u b b' r1 r2 n1 n2 h1 h2;cases r1 with
  |oth k=>rw[iU k] at h1;cases h1
  |non=>cases r2 with
   |oth k=>rw[iU k] at h2;cases h2
   |non=>rw[h1] at h2;exact cT h2
  |bl y=>cases r2 with
   |oth k=>rw[iU k] at h2;cases h2
   |bl=>rw[h1] at h2;exact cT h2
  |int y=>cases r2 with
   |oth k=>rw[iU k] at h2;cases h2
   |int=>rw[h1] at h2;exact cT h2
  |str y=>cases r2 with
   |oth k=>rw[iU k] at h2;cases h2
   |str=>rw[h1] at h2;exact cT h2
  |tup p q=>cases r2 with
   |oth k=>rw[iU k] at h2;cases h2
   |tup=>exact(n1 _ _ rfl rfl).elim
   |fl p2 q2=>exact(vM p2 p).elim
  |fl p q=>cases r2 with
   |oth k=>rw[iU k] at h2;cases h2
   |fl=>exact(n2 _ _ rfl rfl).elim
   |tup p2 q2=>exact(vM p p2).elim
 have tn:∀{n:Nat} {xs xs':List D} {x:D},(∀ys,x=.tup ys->False)->dD n (.tup xs) x=dD n (.tup xs') x:=λ{n xs xs' x} hx=>by
  cases n<;>cases x<;>first|rfl|exact(hx _ rfl).elim
 have ln:∀{n:Nat} {xs xs':List D} {x:D},(∀ys,x=.fl ys->False)->dD n (.fl xs) x=dD n (.fl xs') x:=λ{n xs xs' x} hx=>by
  cases n<;>cases x<;>first|rfl|exact(hx _ rfl).elim
 clear flat
 induction n with
 |zero=>
  intro d d' x u b b' r1 r2 h1 h2;cases r1 with
  |oth k=>rw[iU k] at h1;cases h1
  |non=>cases r2 with
   |oth k=>rw[iU k] at h2;cases h2
   |non=>rw[h1] at h2;exact cT h2
  |bl y=>cases r2 with
   |oth k=>rw[iU k] at h2;cases h2
   |bl=>rw[h1] at h2;exact cT h2
  |int y=>cases r2 with
   |oth k=>rw[iU k] at h2;cases h2
   |int=>rw[h1] at h2;exact cT h2
  |str y=>cases r2 with
   |oth k=>rw[iU k] at h2;cases h2
   |str=>rw[h1] at h2;exact cT h2
  |tup p q=>cases r2 with
   |oth k=>rw[iU k] at h2;cases h2
   |tup p2 q2=>
    cases x with
    |tup ys=>cases h1
    |_=>rw[tn (by intro ys z;cases z),h2] at h1;exact(cT h1).symm
   |fl p2 q2=>exact(vM p2 p).elim
  |fl p q=>cases r2 with
   |oth k=>rw[iU k] at h2;cases h2
   |fl p2 q2=>
    cases x with
    |fl ys=>cases h1
    |_=>rw[ln (by intro ys z;cases z),h2] at h1;exact(cT h1).symm
   |tup p2 q2=>exact(vM p p2).elim
 |succ n ih=>
  intro d d' x u b b' r1 r2 h1 h2;have rows:∀{xs xs' ys:List D} {is js:List Value} {b b':Bool},kI h xs is->kI h xs' js->is.toArray=js.toArray->gq (dD n) xs ys=some b->gq (dD n) xs' ys=some b'->b=b':=by
   intro xs xs' ys is js b b' q1 q2 e h1 h2;have e:is=js:=by simpa using e
   subst e;obtain⟨e1,a1,b1⟩:=Jl h1;obtain⟨e2,a2,b2⟩:=Jl h2;have hl:xs.length=xs'.length:=q1.len.trans q2.len.symm;rw[b1,b2,hl]
   congr 1
   rw[Bool.eq_iff_iff,fX,fX];have key:∀j∈List.range (min xs'.length ys.length),e1 j=e2 j:=λj hj=>by
    have hj:=vh.mp hj;obtain⟨x1,YM⟩ : ∃x,xs[j]?=some x:=⟨_,fH (by rw[hl];exact gj hj (Nat.min_le_left _ _))⟩;obtain⟨x2,xq⟩ : ∃x,xs'[j]?=some x:=⟨_,fH (gj hj (Nat.min_le_left _ _))⟩;obtain⟨y,hy⟩ : ∃y,ys[j]?=some y:=⟨_,fH (gj hj (Nat.min_le_right _ _))⟩;obtain⟨v1,f1,p1⟩:=q1.get YM;obtain⟨v2,f2,p2⟩:=q2.get xq;rw[f1] at f2;cases f2;exact ih p1 p2 (a1 j x1 y YM hy) (a2 j x2 y xq hy)
   exact⟨λz j hj=>by rw[<-key j hj];exact z j hj,λz j hj=>by rw[key j hj];exact z j hj⟩
  cases r1 with
  |oth k=>rw[iU k] at h1;cases h1
  |non=>cases r2 with
   |oth k=>rw[iU k] at h2;cases h2
   |non=>rw[h1] at h2;exact cT h2
  |bl y=>cases r2 with
   |oth k=>rw[iU k] at h2;cases h2
   |bl=>rw[h1] at h2;exact cT h2
  |int y=>cases r2 with
   |oth k=>rw[iU k] at h2;cases h2
   |int=>rw[h1] at h2;exact cT h2
  |str y=>cases r2 with
   |oth k=>rw[iU k] at h2;cases h2
   |str=>rw[h1] at h2;exact cT h2
  |tup p q=>cases r2 with
   |oth k=>rw[iU k] at h2;cases h2
   |tup p2 q2=>
    cases x with
    |tup ys=>exact rows q q2 (YF p p2) h1 h2
    |_=>rw[tn (by intro ys z;cases z),h2] at h1;exact(cT h1).symm
   |fl p2 q2=>exact(vM p2 p).elim
  |fl p q=>cases r2 with
   |oth k=>rw[iU k] at h2;cases h2
   |fl p2 q2=>
    cases x with
    |fl ys=>exact rows q q2 (YG p p2) h1 h2
    |_=>rw[ln (by intro ys z;cases z),h2] at h1;exact(cT h1).symm
   |tup p2 q2=>exact(vM p p2).elim
theorem R6:∀{xs:List D} {b:Bool},memD x xs=some b->∀d∈xs,∃k,dD 50 d x=some k
 |[],_,_,d,hd=>by cases hd
 |y::xs,b,h,d,hd=>by
  unfold memD at h;cases e1:dD 50 y x with
  |none=>simp only[e1] at h;cases h
  |some a=>
   cases e2:memD x xs with
   |none=>simp only[e1,e2] at h;cases h
   |some c=>
    rcases cH.mp hd with rfl|hd
    ·exact⟨a,e1⟩
    ·exact R6 e2 d hd
theorem zg6:∀{xs:List D} {us:List Value} {b:Bool},memD x xs=some b->kI h xs us->∃e:Value->Bool,(∀u∈us,∃d,Is h d u/\dD 50 d x=some (e u))/\us.any e=b:=by
 intro xs us b hm r;have ex:∀u∈us,∃d k,Is h d u/\dD 50 d x=some k:=by
  intro u hu;obtain⟨i,hi,e⟩:=DK hu;have hl:=r.len;obtain⟨d,hd⟩ : ∃d,xs[i]?=some d:=⟨_,fH gV⟩;obtain⟨u',e1,q⟩:=r.get hd;rw[fH hi,e] at e1;cases e1;obtain⟨k,hk⟩:=R6 hm d (gD hd);exact⟨d,k,q,hk⟩
 refine⟨λu=>by classical exact if z:∃k,∃d,Is h d u/\dD 50 d x=some k then z.choose else false,λu hu=>?_,?_⟩
 ·obtain⟨d,k,q,hk⟩:=ex u hu;have z:∃k,∃d,Is h d u/\dD 50 d x=some k:=⟨k,d,q,hk⟩;dsimp only;rw[dif_pos z];exact z.choose_spec
 ·clear ex;have key:∀(xs:List D) (us:List Value) (b:Bool),memD x xs=some b->kI h xs us->us.any (λu=>by classical exact if z:∃k,∃d,Is h d u/\dD 50 d x=some k then z.choose else false)=b:=by
   intro xs
   induction xs with
   |nil=>intro us b hm r;cases r;cases hm;rfl
   |cons d ds ih=>
    intro us b hm r;cases r with
    |@cons _ u _ us a r=>
     unfold memD at hm;cases e1:dD 50 d x with
     |none=>simp only[e1] at hm;cases hm
     |some k=>
      cases e2:memD x ds with
      |none=>simp only[e1,e2] at hm;cases hm
      |some c=>
       simp only[e1,e2] at hm;cases hm;rw[List.any_cons];have z:∃k,∃d,Is h d u/\dD 50 d x=some k:=⟨k,d,a,e1⟩;have hk:z.choose=k:=by
        obtain⟨d',q,Av⟩:=z.choose_spec;exact YL 50 q a Av e1
       rw[dif_pos z,hk,ih us c e2 r]
  exact key xs us b hm r
end
end Mi
namespace HT
open PySem PyProof.Rows
section
variable {prog:Program}{w:World}{A:Around}{E:Value->Shared->Prop}{s:Shared}
theorem uw{t b:Addr}{vs ws:List Value}{Q:Value->Shared->Prop}(ht:IsTup s.heap t vs.toArray)(hb:IsTup s.heap b ws.toArray)(hv:vs=[])
  (h1:Q (.ref b) s):wpAny (model prog w) A (binaryOp .Add (.ref t) (.ref b)) Q E s:=by
 obtain⟨⟨cls,dd,data,sl⟩,ho,hc,n,hd⟩:=id ht;obtain⟨⟨cls2,dd2,data2,sl2⟩,nu,p8,n2,hd2⟩:=id hb;simp only at hc hd p8 hd2;subst hc hd p8 hd2;exact concat_meets ⟨_,ho,rfl⟩ ⟨_,nu,rfl⟩ noFill_tuple_add seq_tuple_add Oj Og (Oe _ _)
   (tuple_addW0 t b vs.toArray ws.toArray n n2 dd dd2 sl sl2 (by simp[hv])) ⟨ho,nu,h1⟩
theorem fU{t sl:Addr}{items:Array Value}{vl vu:Value}{lo hi:Option Int}{Q:Value->Shared->Prop}(ht:IsTup s.heap t items)(hs:s.heap.IsSliceOf sl vl vu .none)(pl:IsPart vl lo)(pu:IsPart vu hi)
  (hw:bN items.size 0 lo=0/\bN items.size items.size hi=items.size) (h:Q (.ref t) s):wpAny (model prog w) A (getItem (.ref t) (.ref sl)) Q E s:=by
 obtain⟨os,qQ,Bf,vD⟩:=id hs;have Hs:s.TypeIs (.ref sl) "slice":=⟨os,qQ,Bf⟩;unfold getItem
 try with_reducible refine jw ?_
 first|refine au (aJ ?_)|skip
 refine au (wpAny_sequenceKey ht.typeIs UJ ?_);refine au (yx (name:=Str.ofString "__getitem__") ht.typeIs wg
  (rJ wg ht.typeIs entry_tuple_getitem ?_ (args_tuple_getitem _ _)))
 show wpAny _ _ (Builtin.Tuple.tupleItemsOf (.ref t) >>= _) _ _ s;refine au (tupleItemsOf_ ht ?_);refine au (yK Hs ?_);rw[if_pos UJ];refine au (Xm hs pl pu ?_);have R7:(((bN items.size 0 lo:Nat):Int)==0&&(1:Int)==1&&(bN items.size items.size hi-bN items.size 0 lo)==items.size)=true:=by
  rw[hw.1,hw.2];simp
 show wpAny _ _ (if (((bN items.size 0 lo:Nat):Int)==0&&(1:Int)==1&&(bN items.size items.size hi-bN items.size 0 lo)==items.size)=true then _ else _) _ _ s;rw[if_pos R7];refine au ?_;unfold Builtin.Tuple.tupleIsExact;refine au (yK ht.typeIs ?_);refine aJ ?_;rw[if_pos UJ];refine au (Ek ?_);exact aJ ⟨_,rfl,aJ h⟩
theorem zb5{i:Int}{t:Tok}{Q:Option Int->Shared->Prop}(h:Q (some i) s):wpAny (model prog w) A (Builtin.Slice.slicePartIndex (.int i t)) Q E s:=Qj (.int i t) h
theorem zbw{sl:Addr}{t:Tok}{n:Nat}{Q:Int×Int×Nat->Shared->Prop}(hs:s.heap.IsSliceOf sl .none .none (.int (-1) t))
  (h:Q ((n:Int)-1,-1,n) s):wpAny (model prog w) A (Builtin.Slice.sliceApplied (.ref sl) (pure (n:Int))) Q E s:=by
 obtain⟨os,qQ,Bf,vD⟩:=id hs;unfold Builtin.Slice.sliceApplied Builtin.Slice.sliceFields;refine au (au (kj qQ vD (x:=.none) rfl (au (kj qQ vD (x:=.none) rfl (au (kj qQ vD (x:=.int (-1) t) rfl (aJ ?_)))))));refine au (zb5 ?_);show wpAny _ _ (if ((-1:Int)==0)=true then _ else _) _ _ s;rw[if_neg UJ];refine au (slicePart_none (au (slicePart_none (au (aJ ?_)))));show wpAny _ _ (pure ((n:Int)-1,(-1:Int),Builtin.Slice.slicePlaces ((n:Int)-1) (-1) (-1))) _ _ s;have e:Builtin.Slice.slicePlaces ((n:Int)-1) (-1) (-1)=n:=by
  unfold Builtin.Slice.slicePlaces;rw[if_neg UJ];by_cases hn:n=0
  ·subst hn;rfl
  ·rw[if_pos gV];have:(-(-1:Int))=1:=rfl;rw[this,Int.ediv_one]
   lia
 rw[e];exact aJ h
theorem zhM(xs:Array Value):((List.range xs.size).filterMap λ(m:Nat)=>xs[(((xs.size:Int)-1)+(m:Int) * -1).toNat]?).toArray=xs.toList.reverse.toArray:=by
 have e:∀n,n<=xs.size->(List.range n).filterMap (λ(m:Nat)=>xs[(((xs.size:Int)-1)+(m:Int) * -1).toNat]?)=(xs.toList.reverse).take n:=by
  intro n
  induction n with
  |zero=>intro _;simp
  |succ n ih=>
   intro hn;have hlt:n<xs.toList.reverse.length:=by simp;lia
   rw[List.range_succ,List.filterMap_append,ih gV,List.take_succ_eq_append_getElem hlt]
   congr 1
   have:(((xs.size:Int)-1)+(n:Int) * -1).toNat=xs.size-1-n:=by lia
   simp only[Gi,List.filterMap_nil,this];rw[Gd gV];simp[List.getElem_reverse]
 rw[e xs.size (bV _),List.take_of_length_le Zaa]
theorem gZ(ht:IsTup s.heap t items)(hs:s.heap.IsSliceOf sl .none .none (.int (-1) tk))
  (h:Q (.ref s.heap.objs.size) {s with heap:=s.heap.push {cls:=.type "tuple",data:=.seq items.toList.reverse.toArray}})
  (jh:items.size<=sizeLine):wpAny (model prog w) A (getItem (.ref t) (.ref sl)) Q E s:=by
 have gQ:sizeOk (.seq items.toList.reverse.toArray):=by
  show items.toList.reverse.toArray.size<=sizeLine;simpa using jh
 obtain⟨os,qQ,Bf,vD⟩:=id hs;have Hs:s.TypeIs (.ref sl) "slice":=⟨os,qQ,Bf⟩;unfold getItem
 try with_reducible refine jw ?_
 first|refine au (aJ ?_)|skip
 refine au (wpAny_sequenceKey ht.typeIs UJ ?_);refine au (yx (name:=Str.ofString "__getitem__") ht.typeIs wg
  (rJ wg ht.typeIs entry_tuple_getitem ?_ (args_tuple_getitem _ _)))
 show wpAny _ _ (Builtin.Tuple.tupleItemsOf (.ref t) >>= _) _ _ s;refine au (tupleItemsOf_ ht ?_);refine au (yK Hs ?_);rw[if_pos UJ];refine au (zbw hs ?_);show wpAny _ _ (if (((items.size:Int)-1)==0&&(-1:Int)==1&&items.size==items.size)=true then _ else _) _ _ s;rw[if_neg Zaa,zhM]
 first
  |exact au (m:=Builtin.Tuple.tupleExact _) (nZ (aJ ⟨_,rfl,aJ h⟩) gQ)
  |exact au (m:=Builtin.Tuple.tupleExact _) (nZ (au (aJ (aJ ⟨_,rfl,aJ h⟩))) gQ)
  |exact au (au (m:=Builtin.Tuple.tupleExact _) (nZ (aJ (aJ ⟨_,rfl,aJ h⟩)) gQ))
  |exact au (au (m:=Builtin.Tuple.tupleExact _) (nZ (aJ ⟨_,rfl,aJ h⟩) gQ))
end
end HT
namespace L2
open PySem PySem.Spec PyProof.Rows
section
variable {X:Cx}{e:Expr}{te:TE}{pos p2:Pos}
noncomputable def ux(K:W.Frag):R2:=λx y H Q=>∃a b xs ys,x=.ref a/\y=.ref b/\fL K H a xs/\fL K H b ys/\xs.length+ys.length<=sizeLine /\
 (xs=[]->Q (.ref b) H)/\(ys=[]->Q (.ref a) H)/\∀p,H p=none->Q (.ref p) (upd H p (.tup (xs++ys)))
theorem uy:cI X (binaryOp .Add) (ux X.K):=by
 intro ak s Z H x y v u Q I rx ry h;obtain⟨a,b,xs,ys,rfl,rfl,ha,hb,hz,q0,q1,q2⟩:=h;cases rx;cases ry;obtain⟨its,r1,p1,_⟩:=I.tuple ha;obtain⟨its2,r2,p2,_⟩:=I.tuple hb;by_cases hx:xs=[]
 ·exact HT.uw p1 p2 (r1.mq.mpr hx) ⟨.ref b,H,I,rfl,q0 hx⟩
 ·refine HT.wQ p1 p2 (λz=>hx (r1.mq.mp z)) (λz=>⟨.ref a,H,I,rfl,q1 (r2.mq.mp z)⟩) (λz=>?_) (by rw[<-r1.length,<-r2.length];exact hz);refine⟨.ref s.heap.objs.size,_,I.laid (t':=s.toks) (o:=.tup (xs++ys)) (λb ob q=>bU _ q) (bV _) ?_,rfl,q2 _ (I.hok.fresh (bV _))⟩;exact⟨by rw[fK];exact hz,_,r1.append r2,IsTup.new _ _⟩
noncomputable def zL(K:W.Frag):V->Option Int->Option Int->Hp->VK->Prop:=λx lo hi H Q=>∃a xs,x=.ref a/\fL K H a xs /\
 ((HT.bN xs.length 0 lo=0/\HT.bN xs.length xs.length hi=xs.length)->Q (.ref a) H)/\∀p,H p=none->Q (.ref p) (upd H p (.tup (mj xs lo hi)))
theorem zjs:wV X (zL X.K):=by
 intro ak s Z H x v vl vu lo hi sl Q I rx hs pl pu h;obtain⟨a,xs,rfl,hx,hw,q⟩:=h;by_cases hz:HT.bN xs.length 0 lo=0/\HT.bN xs.length xs.length hi=xs.length
 ·cases rx;obtain⟨its,r,ht,_⟩:=I.tuple hx;have hlen:its.toArray.size=xs.length:=by rw[dh];exact r.length.symm
  refine⟨"tuple",_,wg.lookup,ht.typeIs,?_⟩;exact HT.fU ht hs pl pu (by rw[hlen];exact hz) ⟨.ref a,H,I,rfl,hw hz⟩
 ·exact zkv ak s Z H (.ref a) v vl vu lo hi sl Q I rx hs pl pu ⟨a,xs,rfl,hx,hz,q⟩
theorem zka(he:PE X e te):PE X (.Subscript e (.Slice none none (some (.UnaryOp .USub (.Constant (.int 1) j p3) p4)) p2) pos) (λZ H Q=>te Z H λx H1=>∃a xs,x=.ref a/\fL X.K H1 a xs/\∀p,H1 p=none->Q (.ref p) (upd H1 p (.tup xs.reverse))):=by
 intro ak s Z H Q I h;refine Subscript_ (aX (he ak s Z H _ I h) λv s1 ⟨x,H1,I1,r1,a,xs,ex,hx,q⟩=>?_);subst ex;cases r1;refine wpAny_Slice ?_;rw[evalPart_none];refine aJ (aJ ?_);rw[evalPart_some];refine aX (Xb (r:=rU λi=>.int (-i)) Xc Pq ak s1 Z H1 (λv H'=>v=.int (-1)/\H'=H1) I1 ⟨1,rfl,rfl,rfl⟩) λu s2 ⟨z,H2,I2,r2,ez,eH⟩=>?_;subst ez eH;obtain⟨t,rfl⟩:=r2;obtain⟨its,r,ht,hz⟩:=I2.tuple hx;have I4:Inv X ak Z H2 {s2 with heap:=s2.heap.push {cls:=.type "slice",data:=.fields #[.none,.none,.int (-1) t]}}:=I2.kept (t':=s2.toks) λb ob q=>bU _ q;obtain⟨its,r,ht,hz⟩:=I4.tuple hx;have hlen:its.toArray.size=xs.length:=by rw[dh];exact r.length.symm
 show wpAny (model X.prog X.w) X.A (subscriptTail e (.Slice none none (some (.UnaryOp .USub (.Constant (.int 1) j p3) p4)) p2) (.ref a) (.ref s2.heap.objs.size)) (EP X ak Z Q) X.xe {s2 with heap:=s2.heap.push {cls:=.type "slice",data:=.fields #[.none,.none,.int (-1) t]}};refine tail_any (ops:=[.ref a,.ref s2.heap.objs.size]) ht.typeIs wg.lookup (HT.gZ ht (Heap.IsSliceOf.new ..) ?_ (by rw[hlen];exact hz)) (by with_unfolding_all rfl);refine⟨.ref _,_,I4.laid (t':=s2.toks) (o:=.tup xs.reverse) (λb ob q=>bU _ q) (bV _) ?_,rfl,q _ (I4.hok.fresh (bV _))⟩;refine⟨by rw[List.length_reverse];exact hz,_,?_,IsTup.new _ _⟩;have rv:∀{xs:List V} {us:List Value},Vals xs us->Vals xs.reverse us.reverse:=λ{xs us} r=>by
  induction r with
  |nil=>exact .nil
  |cons a b ih=>rw[K4,K4];exact ih.append (.cons a .nil)
 simpa using rv r
end
section
variable {X:Cx}
noncomputable def zM(K:W.Frag):R2:=λx y H Q=>∃l b xs zs,x=.ref l/\y=.ref b/\dw K H l xs/\dw K H b zs/\xs.length+zs.length<=sizeLine/\∀p,H p=none->Q (.ref p) (upd H p (.lst (xs++zs)))
theorem xV:cI X (binaryOp .Add) (zM X.K):=by
 intro ak s Z H x y v u Q I rx ry h;obtain⟨l,b,xs,zs,rfl,rfl,hH,hB,hz,q⟩:=h;cases rx;cases ry;obtain⟨its,r,pl,_⟩:=I.list hH;obtain⟨its2,r2,pl2,_⟩:=I.list hB;obtain⟨⟨cls,dd,data,sl⟩,ho,hc,n,hd⟩:=pl.isList;obtain⟨⟨cls2,dd2,data2,sl2⟩,nu,p8,n2,hd2⟩:=pl2.isList;simp only at hc hd p8 hd2;subst hc hd p8 hd2;refine concat_meets ⟨_,ho,rfl⟩ ⟨_,nu,rfl⟩ noFill_list_add seq_list_add PySem.F.slot_list_add PySem.F.entry_list_add (PySem.F.args_list_add_2 _ _) (list_addW l b its.toArray its2.toArray n n2 dd dd2 sl sl2 (by rw[dh,dh,<-r.length,<-r2.length];exact hz)) ⟨ho,nu,?_⟩;have ea:its.toArray++its2.toArray=(its++its2).toArray:=by simp
 rw[ea];exact⟨.ref _,_,I.Qq (t':=s.toks) (r.append r2) (by rw[fK];omega),rfl,q _ I.fresh⟩
noncomputable def qp(K:W.Frag):R2:=λx y H Q=>oU (λi j=>.int (i+j)) x y H Q\/zM K x y H Q\/ux K x y H Q\/∃i j,x=.str i/\y=.str j/\i.length+j.length<=sizeLine/\Q (.str (i++j)) H
theorem zfO:cI X (binaryOp .Add) (qp X.K):=Ba.or (xV.or (uy.or ze2))
end
end L2
namespace Mi
open PySem PySem.Spec PyProof.Rows L2
section
variable {K:W.Frag}{cA:Cl}{U:Ph}{H:Hp}{Q:VK}{p:Pr}
theorem aZ.some'{o:Option Rz}(h:aZ K cA U H o Q):∃z,o=some z:=by
 cases o with
 |none=>exact h.elim
 |some z=>exact⟨z,rfl⟩
theorem aZ.of{o:Option Rz}{z:Rz}(h:aZ K cA U H o Q)(e:o=some z):aZ K cA U H (some z) Q:=e▸h
theorem aZ.here{d:D}{v:V}(h:aZ K cA U H (some (.dat d)) Q)(r:Rep K cA U H d v):Q v H:=h H v bI.refl r
theorem aZ.tup{xs:List D}{vs:List V}{a:Addr}(h:aZ K cA U H (some (.dat (.tup xs))) Q)(z:Zt U H)(r:aB K cA U H xs vs)(hp:H a=none):Q (.ref a) (upd H a (.tup vs)):=
 h _ _ (bI.new hp) (.tup (TupAt.new (z.nz hp)) (r.mono (bI.new hp).ext z.lz))
theorem xP.two{ds:List D}{vs:List V}{d d':D}(h:xP K cA U H [d,d'] vs):∃v v',vs=[v,v']/\Rv K cA U H d v/\Rv K cA U H d' v':=by
 cases h with
 |cons a r=>cases r with
  |cons b r=>cases r;exact⟨_,_,rfl,a,b⟩
theorem xP.one(h:xP K cA U H [d] vs):∃v,vs=[v]/\Rv K cA U H d v:=by
 cases h with
 |cons a r=>cases r;exact⟨_,rfl,a⟩
theorem Rv.int{i:Int}{v:V}(h:Rv K cA U H (.int i) v):v=.int i:=by cases (show Rep K cA U H (.int i) v from h);rfl
theorem Rv.bl{i:Bool}{v:V}(h:Rv K cA U H (.bl i) v):v=.bl i:=by cases (show Rep K cA U H (.bl i) v from h);rfl
theorem Rv.str{i:Str}{v:V}(h:Rv K cA U H (.str i) v):v=.str i:=by cases (show Rep K cA U H (.str i) v from h);rfl
theorem Rv.tup{xs:List D}{v:V}(h:Rv K cA U H (.tup xs) v):∃a vs,v=.ref a/\TupAt K U H a vs/\aB K cA U H xs vs:=by
 cases (show Rep K cA U H (.tup xs) v from h) with
 |tup a r=>exact⟨_,_,rfl,a,r⟩
theorem Rv.sq{d:D}{xs:List D}{v:V}(h:Rv K cA U H d v)(e:o_ d=some xs):∃a vs,v=.ref a/\(dw K H a vs\/fL K H a vs)/\aB K cA U H xs vs:=by
 cases d with
 |tup ys=>
  cases e;obtain⟨a,vs,e,t,r⟩:=Rv.tup h;exact⟨a,vs,e,.inr t.jm,r⟩
 |fl ys=>
  cases e;obtain⟨a,vs,e,l,r⟩:=h;exact⟨a,vs,e,.inl l,r⟩
 |_=>cases e
theorem YQ{f:Int->Int->Option D}{ds:List D}{z:Rz}(h:cW f ds=some z):∃i j d,ds=[.int i,.int j]/\f i j=some d/\z=.dat d:=by
 cases ds with
 |nil=>cases h
 |cons a t=>
 cases a with
 |int i=>
  cases t with
  |nil=>cases h
  |cons b t=>
  cases b with
  |int j=>
   cases t with
   |cons _ _=>cases h
   |nil=>
    obtain⟨d,e1,e2⟩:=m9.mp h;exact⟨_,_,d,rfl,e1,e2.symm⟩
  |_=>cases h
 |_=>cases h
theorem Jm{f:Int->Int->Option D}(hp:prim p=cW f){C:Int->Int->Prop}{g:Int->Int->V}(hf:∀i j d,f i j=some d->C i j/\∀U H,Rep K cA U H d (g i j)):aR K cA p (r2 (rI C g)):=by
 intro U H ds vs Q zt rs o;rw[hp] at o;obtain⟨z,e⟩:=o.some';obtain⟨i,j,d,rfl,e1,rfl⟩:=YQ e;obtain⟨c,r⟩:=hf i j d e1;obtain⟨v,v',rfl,r1,r2⟩:=rs.two (ds:=[]);rw[r1.int,r2.int];exact⟨_,_,rfl,i,j,rfl,rfl,c,(o.of e).here (r U H)⟩
theorem Fd{f:Int->Int->D}(hp:prim p=cW λi j=>some (f i j)){g:Int->Int->V}(hf:∀i j U H,Rep K cA U H (f i j) (g i j)):aR K cA p (r2 (oU g)):=by
 intro U H ds vs Q zt rs o;obtain⟨x,y,e,i,j,a,b,_,q⟩:=Jm (K:=K) (cA:=cA) (C:=λ_ _=>True) hp (λi j d e=>⟨trivial,λU H=>by cases e;exact hf i j U H⟩) U H ds vs Q zt rs o;exact⟨x,y,e,i,j,a,b,q⟩
theorem Jo{α:Type}{c:Prop}[Decidable c]{x y:α}(h:(if c then some x else none)=some y):c/\y=x:=by
 split at h
 ·rename_i z;cases h;exact⟨z,rfl⟩
 ·cases h
theorem zks:aR K cA .ao (r2 (oU λi j=>.int (i-j))):=Fd (f:=λi j=>.int (i-j)) rfl λi j _ _=>.int _
theorem zmk:aR K cA .mul (r2 (rI wN λi j=>.int (i*j))):=Jm rfl λi j d e=>by obtain⟨c,rfl⟩:=Jo e;exact⟨c,λ_ _=>.int _⟩
theorem zjn:aR K cA .fdiv (r2 (rI wM λi j=>.int (i/j))):=Jm rfl λi j d e=>by obtain⟨c,rfl⟩:=Jo e;exact⟨c,λ_ _=>.int _⟩
theorem zkZ:aR K cA .mod (r2 (rI (λ_ j=>0<j) λi j=>.int (i%j))):=Jm rfl λi j d e=>by obtain⟨c,rfl⟩:=Jo e;exact⟨c,λ_ _=>.int _⟩
theorem zj3:aR K cA .pow (r2 (rI Hf λi j=>.int (i^j.toNat))):=Jm rfl λi j d e=>by obtain⟨c,rfl⟩:=Jo e;exact⟨c,λ_ _=>.int _⟩
theorem zmM:aR K cA .le (r2 (oU λi j=>.bl (decide (i<=j)))):=Fd (f:=λi j=>.bl (decide (i<=j))) rfl λi j _ _=>.bl _
theorem zm7:aR K cA .gt (r2 (oU λi j=>.bl (decide (j<i)))):=Fd (f:=λi j=>.bl (decide (j<i))) rfl λi j _ _=>.bl _
theorem zmr:aR K cA .ge (r2 (oU λi j=>.bl (decide (j<=i)))):=Fd (f:=λi j=>.bl (decide (j<=i))) rfl λi j _ _=>.bl _
theorem zl2:aR K cA .neg (λvs H Q=>∃x,vs=[x]/\rU (λi=>.int (-i)) x H Q):=by
 intro U H ds vs Q zt rs o;obtain⟨z,e⟩:=o.some';have e:qj (λi=>.int (-i)) ds=some z:=e;cases ds with
 |nil=>cases e
 |cons a t=>
 cases a with
 |int i=>
  cases t with
  |cons _ _=>cases e
  |nil=>
   cases e;obtain⟨v,rfl,r1⟩:=rs.one;exact⟨_,rfl,_,r1.int,aZ.here (o.of rfl) (.int _)⟩
 |_=>cases e
theorem zna:aR K cA .eq (r2 (xU K cA id)):=by
 intro U H ds vs Q zt rs o;obtain⟨z,e⟩:=o.some';have e:E_ id ds=some z:=e;unfold E_ at e;split at e
 ·obtain⟨b,e1,e2⟩:=m9.mp e;obtain⟨v,v',rfl,r1,r2⟩:=rs.two (ds:=[]);subst e2;exact⟨_,_,rfl,U,_,_,b,r1,r2,e1,(o.of e).here (.bl _)⟩
 ·cases e
theorem zne:aR K cA .ne (r2 (xU K cA not)):=by
 intro U H ds vs Q zt rs o;obtain⟨z,e⟩:=o.some';have e:E_ not ds=some z:=e;unfold E_ at e;split at e
 ·obtain⟨b,e1,e2⟩:=m9.mp e;obtain⟨v,v',rfl,r1,r2⟩:=rs.two (ds:=[]);subst e2;exact⟨_,_,rfl,U,_,_,b,r1,r2,e1,(o.of e).here (.bl _)⟩
 ·cases e
theorem R8:∀{xs:List D} {ns:List Int} {vs:List V},eY xs=some ns->aB K cA U H xs vs->vs=ns.map V.int
 |[],ns,vs,h,r=>by cases h;cases r;rfl
 |d::xs,ns,vs,h,r=>by
  cases d with
  |int i=>
   simp only[eY,m9] at h;obtain⟨ns',h1,rfl⟩:=h;cases r with
   |cons a r=>cases a;rw[R8 h1 r];rfl
  |_=>simp[eY] at h
theorem YS:∀(a b:List Int),ltI a b=HT.lexLt a b
 |_,[]=>by cases ‹List Int›<;>rfl
 |[],_::_=>rfl
 |x::xs,y::ys=>by
  unfold ltI;rw[YS xs ys,HT.jQ]
theorem zno:aR K cA .lt (r2 λx y H Q=>oU (λi j=>.bl (decide (i<j))) x y H Q\/Hv K x y H Q):=by
 intro U H ds vs Q zt rs o;obtain⟨z,e⟩:=o.some';have e:IV ds=some z:=e;unfold IV at e;split at e
 ·cases e;obtain⟨v,v',rfl,r1,r2⟩:=rs.two (ds:=[]);exact⟨_,_,rfl,.inl ⟨_,_,r1.int,r2.int,aZ.here (o.of rfl) (.bl _)⟩⟩
 ·split at e
  ·rename_i a b h1 h2;cases e;obtain⟨v,v',rfl,r1,r2⟩:=rs.two (ds:=[]);obtain⟨p,us,rfl,t1,q1⟩:=r1.tup;obtain⟨p',us',rfl,t2,q2⟩:=r2.tup;have o2:aZ K cA U H (some (.dat (.bl (ltI a b)))) Q:=by
    have o3:aZ K cA U H (IV [.tup _,.tup _]) Q:=o;unfold IV at o3;simp only[h1,h2] at o3;exact o3
   refine⟨_,_,rfl,.inr ⟨p,p',a,b,rfl,rfl,by rw[<-R8 h1 q1];exact t1.jm,by rw[<-R8 h2 q2];exact t2.jm,?_⟩⟩;rw[<-YS];exact o2.here (.bl _)
  ·cases e
 ·cases e
theorem zkb:aR K cA .add (r2 (qp K)):=by
 intro U H ds vs Q zt rs o;have o:aZ K cA U H (Bu ds) Q:=o;cases ds with
 |nil=>exact False.elim o
 |cons a t=>
 cases a with
 |int i=>
  cases t with
  |nil=>exact False.elim o
  |cons b t=>
  cases b with
  |int j=>
   cases t with
   |cons _ _=>exact False.elim o
   |nil=>
    obtain⟨v,v',rfl,r1,r2⟩:=rs.two (ds:=[]);exact⟨_,_,rfl,.inl ⟨_,_,r1.int,r2.int,aZ.here o (.int _)⟩⟩
  |_=>exact False.elim o
 |tup xs=>
  cases t with
  |nil=>exact False.elim o
  |cons b t=>
  cases b with
  |tup ys=>
   cases t with
   |cons _ _=>exact False.elim o
   |nil=>
    obtain⟨v,v',rfl,r1,r2⟩:=rs.two (ds:=[]);obtain⟨p,us,rfl,t1,q1⟩:=r1.tup;obtain⟨p',us',rfl,t2,q2⟩:=r2.tup;have o:aZ K cA U H (if xs.length+ys.length<=sizeLine then some (.dat (.tup (xs++ys))) else none) Q:=o;by_cases hz:xs.length+ys.length<=sizeLine
    ·rw[if_pos hz] at o;refine⟨_,_,rfl,.inr (.inr (.inl ⟨p,p',us,us',rfl,rfl,t1.jm,t2.jm,by rw[<-q1.len,<-q2.len];exact hz,λe=>?_,λe=>?_,λa ha=>o.tup zt (q1.app q2) ha⟩))⟩
     ·subst e;cases q1;exact o.here (.tup t2 q2)
     ·subst e;cases q2;rw[Ag] at o;exact o.here (.tup t1 q1)
    ·rw[if_neg hz] at o;exact o.elim
  |_=>exact False.elim o
 |fl xs=>
  cases t with
  |nil=>exact False.elim o
  |cons b t=>
  cases b with
  |fl ys=>
   cases t with
   |cons _ _=>exact False.elim o
   |nil=>
    obtain⟨v,v',rfl,⟨p,us,rfl,t1,q1⟩,⟨p',us',rfl,t2,q2⟩⟩:=rs.two (ds:=[]);have o:aZ K cA U H (if xs.length+ys.length<=sizeLine then some (.nw (xs++ys)) else none) Q:=o;by_cases hz:xs.length+ys.length<=sizeLine
    ·rw[if_pos hz] at o;exact⟨_,_,rfl,.inr (.inl ⟨p,p',us,us',rfl,rfl,t1,t2,by rw[<-q1.len,<-q2.len];exact hz,λa ha=>o a _ ha (q1.app q2)⟩)⟩
    ·rw[if_neg hz] at o;exact o.elim
  |_=>exact False.elim o
 |str x=>
  cases t with
  |nil=>exact False.elim o
  |cons b t=>
  cases b with
  |str y=>
   cases t with
   |cons _ _=>exact False.elim o
   |nil=>
    obtain⟨v,v',rfl,r1,r2⟩:=rs.two (ds:=[]);have o:aZ K cA U H (if x.length+y.length<=sizeLine then some (.dat (.str (x++y))) else none) Q:=o;by_cases hz:x.length+y.length<=sizeLine
    ·rw[if_pos hz] at o;exact⟨_,_,rfl,.inr (.inr (.inr ⟨_,_,r1.str,r2.str,hz,o.here (.str _)⟩))⟩
    ·rw[if_neg hz] at o;exact o.elim
  |_=>exact False.elim o
 |_=>exact False.elim o
theorem zmi:aR K cA .len (λxs H Q=>∃p ys,xs=[.ref p]/\(dw K H p ys\/fL K H p ys)/\Q (.int ys.length) H):=by
 intro U H ds vs Q zt rs o;have o:aZ K cA U H (qW (λxs=>some (.dat (.int xs.length))) ds) Q:=o;unfold qW at o;split at o
 ·obtain⟨v,rfl,r1⟩:=rs.one;obtain⟨z,e⟩:=o.some';obtain⟨xs,e1,e2⟩:=wj.mp e;obtain⟨a,us,rfl,sq,q⟩:=r1.sq e1;cases e2;refine⟨a,us,rfl,sq,?_⟩;rw[<-q.len];exact(o.of e).here (.int _)
 ·exact o.elim
theorem zjy:aR K cA .list (λxs H Q=>∃p ys,xs=[.ref p]/\(dw K H p ys\/fL K H p ys)/\∀l,H l=none->Q (.ref l) (upd H l (.lst ys))):=by
 intro U H ds vs Q zt rs o;have o:aZ K cA U H (qW (λxs=>some (.nw xs)) ds) Q:=o;unfold qW at o;split at o
 ·obtain⟨v,rfl,r1⟩:=rs.one;obtain⟨z,e⟩:=o.some';obtain⟨xs,e1,e2⟩:=wj.mp e;obtain⟨a,us,rfl,sq,q⟩:=r1.sq e1;cases e2;exact⟨a,us,rfl,sq,λl hl=>(o.of e) l us hl q⟩
 ·exact o.elim
theorem zgU:aR K cA .tuple (λxs H Q=>∃p ys,xs=[.ref p]/\((dw K H p ys/\∀l,H l=none->Q (.ref l) (upd H l (.tup ys)))\/(fL K H p ys/\Q (.ref p) H))):=by
 intro U H ds vs Q zt rs o;have o:aZ K cA U H (pA ds) Q:=o;unfold pA at o;split at o
 ·rename_i d _;obtain⟨v,rfl,r1⟩:=rs.one;cases d with
  |tup xs=>
   obtain⟨a,us,rfl,t,q⟩:=r1.tup;exact⟨a,us,rfl,.inr ⟨t.jm,aZ.here o (.tup t q)⟩⟩
  |fl xs=>
   obtain⟨a,us,rfl,t,q⟩:=r1;exact⟨a,us,rfl,.inl ⟨t,λl hl=>aZ.tup o zt q hl⟩⟩
  |_=>exact o.elim
 ·exact o.elim
theorem zlO:aR K cA .abs (λxs H Q=>∃i,xs=[.int i]/\Q (.int (if i<0 then -i else i)) H):=by
 intro U H ds vs Q zt rs o;have o:aZ K cA U H (qj (λi=>.int (if i<0 then -i else i)) ds) Q:=o;cases ds with
 |nil=>exact False.elim o
 |cons a t=>
 cases a with
 |int i=>
  cases t with
  |cons _ _=>exact False.elim o
  |nil=>
   obtain⟨v,rfl,r1⟩:=rs.one;rw[r1.int];exact⟨_,rfl,aZ.here o (.int _)⟩
 |_=>exact False.elim o
theorem ziP:aR K cA .xJ (λxs H Q=>(∃i,xs=[.int i]/\Q (.int i) H)\/∃k,xs=[.bl k]/\Q (.int (if k then 1 else 0)) H):=by
 intro U H ds vs Q zt rs o;have o:aZ K cA U H (IW ds) Q:=o;cases ds with
 |nil=>exact False.elim o
 |cons a t=>
 cases a with
 |int i=>
  cases t with
  |cons _ _=>exact False.elim o
  |nil=>
   obtain⟨v,rfl,r1⟩:=rs.one;rw[r1.int];exact .inl ⟨_,rfl,aZ.here o (.int _)⟩
 |bl k=>
  cases t with
  |cons _ _=>exact False.elim o
  |nil=>
   obtain⟨v,rfl,r1⟩:=rs.one;rw[r1.bl];exact .inr ⟨_,rfl,aZ.here o (.int _)⟩
 |_=>exact False.elim o
theorem zjR:aR K cA .max2 (λxs H Q=>∃i j,xs=[.int i,.int j]/\Q (.int (if j>i then j else i)) H):=by
 intro U H ds vs Q zt rs o;obtain⟨x,y,e,i,j,rfl,rfl,q⟩:=Fd (K:=K) (cA:=cA) (p:=.max2) (f:=λi j=>.int (if j>i then j else i)) rfl (λi j _ _=>.int _) U H ds vs Q zt rs o;exact⟨i,j,e,q⟩
theorem zjT:aR K cA .min2 (λxs H Q=>∃i j,xs=[.int i,.int j]/\Q (.int (if j<i then j else i)) H):=by
 intro U H ds vs Q zt rs o;obtain⟨x,y,e,i,j,rfl,rfl,q⟩:=Fd (K:=K) (cA:=cA) (p:=.min2) (f:=λi j=>.int (if j<i then j else i)) rfl (λi j _ _=>.int _) U H ds vs Q zt rs o;exact⟨i,j,e,q⟩
theorem zfb:aR K cA .divmod (λxs H Q=>∃i j,xs=[.int i,.int j]/\wM i j/\∀p,H p=none->Q (.ref p) (upd H p (.tup [.int (i/j),.int (i%j)]))):=by
 intro U H ds vs Q zt rs o;have o:aZ K cA U H (cW (λi j=>if 0<j/\j<1073741824 then some (.tup [.int (i/j),.int (i%j)]) else none) ds) Q:=o;obtain⟨z,e⟩:=o.some';obtain⟨i,j,d,rfl,e1,rfl⟩:=YQ e;obtain⟨c,rfl⟩:=Jo e1;obtain⟨v,v',rfl,r1,r2⟩:=rs.two (ds:=[]);rw[r1.int,r2.int];exact⟨i,j,rfl,c,λp hp=>(o.of e).tup zt (.cons (.int _) (.cons (.int _) .nil)) hp⟩
theorem R9:∀{xs:List D} {bs:List Bool} {vs:List V},gU xs=some bs->aB K cA U H xs vs->vs=bs.map V.bl
 |[],bs,vs,h,r=>by cases h;cases r;rfl
 |d::xs,bs,vs,h,r=>by
  cases d with
  |bl b=>
   simp only[gU,m9] at h;obtain⟨bs',h1,rfl⟩:=h;cases r with
   |cons q r=>cases q;rw[R9 h1 r];rfl
  |_=>simp[gU] at h
theorem zm1:aR K cA .ix (r2 (Qm K)):=by
 intro U H ds vs Q zt rs o;have o:aZ K cA U H (RB ds) Q:=o;unfold RB at o;split at o
 ·rename_i d i _;obtain⟨v,v',rfl,r1,r2⟩:=rs.two (ds:=[]);obtain⟨z,e⟩:=o.some';obtain⟨y,e1,e2⟩:=m9.mp e;obtain⟨xs,e3,e4⟩:=wj.mp e1;obtain⟨a,us,rfl,sq,q⟩:=r1.sq e3;have key:∃w,L2.tK us i=some w/\Rep K cA U H y w:=by
   unfold L2.tK at *;rw[<-q.len];obtain⟨j,h1,h2⟩:=wj.mp e4;obtain⟨w,h3,h4⟩:=q.get h2;exact⟨w,by rw[h1];exact h3,h4⟩
  obtain⟨w,hw,oR⟩:=key;subst e2;have q':=(o.of e).here oR;rcases sq with sq|sq
  ·exact⟨_,_,rfl,.inl ⟨a,us,i,w,rfl,r2.int,sq,hw,q'⟩⟩
  ·exact⟨_,_,rfl,.inr (.inl ⟨a,us,i,w,rfl,r2.int,sq,hw,q'⟩)⟩
 ·exact o.elim
noncomputable def YT(K:W.Frag):V->Option Int->Option Int->Hp->VK->Prop:=λx lo hi H Q=>HB K x lo hi H Q\/zL K x lo hi H Q
theorem zj7:wV X (YT X.K):=wZ.or zjs
theorem zjf{d:D}{lo hi:Option Int}{v:V}(zt:Zt U H)(r:Rv K cA U H d v)(o:aZ K cA U H (cutD d lo hi) Q):YT K v lo hi H Q:=by
 cases d with
 |tup xs=>
  obtain⟨a,us,rfl,t,q⟩:=r.tup;refine .inr ⟨a,us,rfl,t.jm,λe=>?_,λp hp=>aZ.tup o zt q.cut hp⟩;have hc:cut xs lo hi=xs:=by
   unfold cut;rw[q.len,e.1,e.2,List.drop_zero,Nat.sub_zero,<-q.len,K9]
  have o:aZ K cA U H (some (.dat (.tup (cut xs lo hi)))) Q:=o;rw[hc] at o;exact o.here (.tup t q)
 |fl xs=>
  obtain⟨a,us,rfl,t,q⟩:=r;exact .inl ⟨a,us,rfl,t,λp hp=>o p _ hp q.cut⟩
 |_=>exact o.elim
end
end Mi
namespace L2
open PySem PySem.Spec PyProof.Rows
section
variable {κ:Type}[DecidableEq κ]
noncomputable def putK(kvs:List (κ×V))(k:κ)(v:V):List (κ×V):=
 if (kvs.any λkv=>decide (kv.1=k))=true then kvs.map (λkv=>if kv.1=k then (kv.1,v) else kv) else kvs++[(k,v)]
theorem zdP(kvs:List (κ×V))(k:κ)(v:V):(putK kvs k v).length<=kvs.length+1:=by
 unfold putK
 split
 ·rw[bZ];lia
 ·rw[fK,je,rK];lia
theorem KV.any(r:KV kvs vs)(k:κ):(kvs.any λkv=>decide (kv.1=k))=vs.any λkv=>decide (kv.1=k):=by
 unfold KV at r
 induction r with
 |nil=>rfl
 |cons h t ih=>rw[List.any_cons,List.any_cons,ih,h.1]
theorem KV.repl(r:KV kvs vs)(k:κ)(ry:RelV y u) :
  KV (kvs.map λkv=>if kv.1=k then (kv.1,y) else kv) (vs.map λkv=>if kv.1=k then (kv.1,u) else kv):=by
 unfold KV at r ⊢
 induction r with
 |nil=>exact .nil
 |@cons p q ps qs h t ih=>
  rw[kh,kh];refine .cons ?_ ih;obtain⟨h1,h2⟩:=h;by_cases e:p.1=k
  ·rw[if_pos e,if_pos (h1.symm.trans e)];exact⟨h1,ry⟩
  ·rw[if_neg e,if_neg (λz=>e (h1.trans z))];exact⟨h1,h2⟩
theorem KV.put(r:KV kvs vs)(k:κ)(ry:RelV y u):KV (putK kvs k y) (stored vs k u):=by
 unfold putK stored;rw[r.any k];by_cases e:(vs.any λkv=>decide (kv.1=k))=true
 ·rw[if_pos e,if_pos e];exact r.repl k ry
 ·rw[if_neg e,if_neg e];exact Paired.snoc r ⟨rfl,ry⟩
end
theorem zmz(r:RelV (kV k) u):(cD P w).is k u=true:=by
 cases k with
 |inl i=>obtain⟨t,e⟩:=(show ∃t,u=Value.int i t from r);subst e;exact zdL P w i t
 |inr x=>obtain⟨t,e⟩:=(show ∃t,u=Value.str x t from r);subst e;exact zdK P w x t
section
variable {P:Program}{w:World}{H:Hp}{h:Heap}{a:Addr}
theorem zmE(ok:gH P w H h)(e:Rd H a u):aO P w H h a u:=e.ok ok
theorem zmI(ok:gH P w H h)(e:Rd H a (.dK kvs)):kvs.length<=sizeLine/\(a==sysModules)=false/\∃vs,KV kvs vs/\h.DictOf (cD P w) a vs:=
 show aO P w H h a (.dK kvs) from zmE ok e
theorem zmt(ok:gH P w H h)(e:H a=some (.dK kvs)):kvs.length<=sizeLine/\(a==sysModules)=false/\∃vs,KV kvs vs/\h.DictOf (cD P w) a vs:=zmI ok (.inl e)
end
section
variable {X:Cx}{ak:List (Addr×Obj)}{Z:St}{H:Hp}{s:Shared}{a:Addr}{y v:V}{u r:Value}{o:Option V}{A:Around}{E:Value->Shared->Prop}
theorem Inv.big(I:Inv X ak Z H s):sysModules<s.heap.objs.size:=by
 have h:mainGlobals<s.heap.objs.size:=(I.mod.glob.keeps I.bk).lt;exact Nat.lt_trans UJ h
theorem ziE(I:Inv X ak Z H s)(mu:GD (H a))(hs:Heap.SameBut a s.heap h')(he:∃q,h'.get? a=some q)(new:aO X.prog X.w (upd H a ob) h' a ob) :
  Inv X ak Z (upd H a ob) {s with heap:=h',toks:=t'}:=
 I.write (x:=a) (e:=a) mu (.inl rfl) (λb q hb z=>(hs.2 b hb).trans z) he new
theorem zk2(z:kvs.length<=sizeLine)(hd:(a==sysModules)=false)(rel:KV kvs vs)(dd:h'.DictOf (cD P w) a vs) :
  aO P w H' h' a (.dK kvs):=⟨z,hd,vs,rel,dd⟩
end
theorem zgR(h:Heap)(hb:sysModules<h.objs.size):aO P w H (h.push {cls:=.type "dict",data:=.dict #[]}) h.objs.size (.dK []):=
 ⟨oJ _,beq_eq_false_iff_ne.mpr (Ne.symm (cR hb)),[],.nil,Heap.DictOf.new h⟩
noncomputable def pH:List (TE×TE)->St->Hp->(List (V×V)->Hp->Prop)->Prop
 |[],_,H,Q=>Q [] H
 |(tk,tv)::r,Z,H,Q=>tk Z H λx H1=>tv Z H1 λy H2=>pH r Z H2 λps H3=>Q ((x,y)::ps) H3
noncomputable abbrev VV:List (V×V)->List (Value×Value)->Prop:=Paired λp q=>RelV p.1 q.1/\RelV p.2 q.2
def Mx(X:Cx)(pos:Pos)(keys:List (Option Expr))(values:List Expr)(BZ:List (TE×TE)):Prop:=
 ∀(ak:List (Addr×Obj)) (s:Shared) (Z:St) (H:Hp) (Q:List (V×V)->Hp->Prop),Inv X ak Z H s->pH BZ Z H Q->
  wpAny (model X.prog X.w) X.A (evalPairs (pairTrees keys values X.env pos)) (λvs s'=>∃ps H',Inv X ak Z H' s'/\VV ps vs/\Q ps H') X.xe s
theorem zjx:Mx X pos [] [] []:=λak s Z H Q I h=>pairTrees_nil_walk ⟨[],H,I,.nil,h⟩
theorem zhO(hk:PE X k tk)(hv:PE X v tv)(hr:Mx X pos ks vs BZ) :
  Mx X pos (some k::ks) (v::vs) ((tk,tv)::BZ):=λak s Z H Q I h=>
 pairTrees_cons_walk (aX (hk ak s Z H _ I h) λu s1 hx=>cY hx λx H1 I1 rx q1=>aX (hv ak s1 Z H1 _ I1 q1) λw2 s2 hx=>cY hx λy H2 I2 ry q2=>
  aX (hr ak s2 Z H2 _ I2 q2) λws s3 hx=>cY hx λps H3 I3 rel q3=>⟨(x,y)::ps,H3,I3,.cons ⟨rx,ry⟩ rel,q3⟩)
noncomputable def j8(kvs more:List (Key×V)):List (Key×V):=more.foldl (λacc kv=>putK acc kv.1 kv.2) kvs
theorem KV.merge:∀{more:List (Key×V)} {rs:List (Key×Value)} {kvs:List (Key×V)} {vs:List (Key×Value)},KV more rs->KV kvs vs->KV (j8 kvs more) (merged vs rs):=by
 intro more rs kvs vs r;unfold KV at r
 induction r generalizing kvs vs with
 |nil=>intro q;exact q
 |@cons p q ps qs h t ih=>
  intro r0;have e:KV (putK kvs p.1 p.2) (stored vs q.1 q.2):=by
   have:=r0.put p.1 h.2;rw[<-h.1];exact this
  exact ih e
theorem YW:∀(more kvs:List (Key×V)),(j8 kvs more).length<=kvs.length+more.length
 |[],kvs=>by show kvs.length<=kvs.length+0;lia
 |p::r,kvs=>by
  have h1:=YW r (putK kvs p.1 p.2);have h2:=zdP kvs p.1 p.2;show (j8 (putK kvs p.1 p.2) r).length<=_;rw[je];lia
theorem YX:∀{kvs:List (Key×V)} {ws:List (Value×Value)},VV (kvs.map λkv=>(kV kv.1,kv.2)) ws->∃rs,Carries (cD P w) ws rs/\KV kvs rs
 |[],_,r=>by rw[List.map_nil] at r;cases r;exact⟨[],True.intro,.nil⟩
 |p::kvs,_,r=>by
  rw[kh] at r;cases r with
  |@cons a b as bs h t=>
   obtain⟨rs,c,q⟩:=YX (P:=P) (w:=w) t;obtain⟨b1,b2⟩:=b;exact⟨(p.1,b2)::rs,⟨zmz h.1,rfl,c⟩,.cons ⟨rfl,h.2⟩ q⟩
noncomputable def Jp(BZ:List (TE×TE)):TE:=λZ H Q=>∀p,H p=none->pH BZ Z (upd H p (.dK [])) λps H2=>H2 p=some (.dK [])/\∃kvs:List (Key×V),ps=kvs.map (λkv=>(kV kv.1,kv.2))/\kvs.length<=15/\Q (.ref p) (upd H2 p (.dK (j8 [] kvs)))
theorem zj2(h:Mx X pos keys values BZ)(lg:keys.all (·.isSome)=true)(hl:keys.length=values.length)(h0:keys≠[])
  (h15:keys.length<=15):PE X (.Dict keys values pos) (Jp BZ):=by
 intro ak s Z H Q I q;have hn:=I.hok.fresh (bV s.heap.objs.size);have I1:=I.laid (a:=s.heap.objs.size) (o:=.dK []) (h':=s.heap.push {cls:=.type "dict",data:=.dict #[]}) (t':=s.toks) (λ_ _ q=>bU _ q) (bV _) (zgR s.heap I.big);refine wpAny_Dict_walk (knd:=cD X.prog X.w) lg hl h0 h15 (aX (h ak _ Z _ _ I1 (q _ hn)) λws s2 ⟨ps,H2,I2,rel,e,kvs,ep,lk,q2⟩=>?_);subst ep;obtain⟨rs,c,rk⟩:=YX (P:=X.prog) (w:=X.w) rel;obtain⟨z,hd,vs0,r0,dd⟩:=zmt I2.hok e;cases r0;refine⟨rs,c,dd,λh' Qy hs=>⟨.ref s.heap.objs.size,_,?_,rfl,q2⟩⟩;have hz:(j8 [] kvs).length<=sizeLine:=by
  have h1:=YW kvs [];rw[rK] at h1;rw[oK];lia
 have he:∃q,h'.get? s.heap.objs.size=some q:=let ⟨q,_,_,hq,_⟩:=Qy;⟨q,hq⟩;exact ziE I2 (by rw[e];exact True.intro) hs he (zk2 hz hd (rk.merge .nil) Qy)
end L2
namespace Mi
open PySem PySem.Spec PyProof.Rows L2
section
variable {X:Cx}{cA:Cl}{ao:Nat->Nat->Bool}{aj:Bool}{F:Fn}{EX:XS}{a b c d e o:Expr}{A B C Dd E' O:E}{pos pp p2 apos cpos:Pos}{es:List Expr}{Xs:Es}{fz:Bool}{p:Pr}{x:Str}{U:Ph}{H:Hp}{s:S}{lo hi:Option Expr}{Lo Hi:Eo}
def Jq(X:Cx)(cA:Cl)(ao:Nat->Nat->Bool)(aj:Bool)(F:Fn)(EX:XS)(oe:Option Expr)(m:Eo):Prop:=
 PO X oe (λZ H Q=>∃U J s,bx X.K cA U H Z J/\aG X.K cA U H s/\Run X.K cA (xO ao aj F m J) U H s (λi _ U' H'=>Q i H') (eX X.K cA EX Z))
theorem PO.weak{oe:Option Expr}{t t':TO}(h:PO X oe t)(f:∀Z H Q,t' Z H Q->t Z H Q):PO X oe t':=by
 intro ak s Z H Q I q;exact h ak s Z H Q I (f Z H Q q)
theorem zmP:Jq X cA ao aj F EX none .no:=PO.weak ziC λZ H Q hh=>un hh λU J s hL hS h=>h.bB hS
theorem zkR(ha:SE X cA ao aj F EX a A):Jq X cA ao aj F EX (some a) (.yes A):=PO.weak (ziZ ha) λZ H Q hh=>un hh λU J s hL hS h=>by
 refine bf hL hS h λx H1 U1 d1 s1 x1 hL1 aL r1 h1=>?_;obtain⟨i,_,e,h3⟩:=Jh r1 h1;exact⟨i,e,h3.bB aL⟩
theorem Jr{β:Type}{Z:L2.St}{J:Vs}{m:Eo}{k:Option Int->M β}{P:β->S->Ph->Hp->Prop}(hL:bx X.K cA U H Z J)(hS:aG X.K cA U H s)(h:Run X.K cA (M.bd (xO ao aj F m J) k) U H s P (eX X.K cA EX Z)){Q:Option Int->Hp->Prop}
  (f:∀i H1 U1 s1,Ext U H U1 H1->bx X.K cA U1 H1 Z J->aG X.K cA U1 H1 s1->Run X.K cA (k i) U1 H1 s1 P (eX X.K cA EX Z)->Q i H1) :
  ∃U J s,bx X.K cA U H Z J/\aG X.K cA U H s/\Run X.K cA (xO ao aj F m J) U H s (λi _ U' H'=>Q i H') (eX X.K cA EX Z):=
 ⟨U,J,s,hL,hS,h.bd.imp λi s1 U1 H1 ⟨x1,r1,h1⟩=>f i H1 U1 s1 x1 (hL.mono x1 hS.lz) r1 h1⟩
theorem znj(ha:SE X cA ao aj F EX a A)(hl:Jq X cA ao aj F EX lo Lo)(hh:Jq X cA ao aj F EX hi Hi):SE X cA ao aj F EX (.Subscript a (.Slice lo hi none p2) pos) (.sl fz A Lo Hi):=PE.weak (zhg zj7 ha hl hh) λZ H Q hh=>un hh λU J s hL hS h=>by
 refine bf hL hS h λx H1 U1 d1 s1 x1 hL1 aL r1 h1=>Jr hL1 aL h1 λl H2 U2 s2 x2 hL2 aU h2=>Jr hL2 aU h2 λu H3 U3 s3 x3 qZ iI h3=>?_;obtain⟨dd,rv,h4⟩:=zev iI ((r1.mono x2 aL.lz).mono x3 aU.lz) h3;exact zjf iI.zs rv (mL iI h4)
theorem zk8(ha:SE X cA ao aj F EX a A):SE X cA ao aj F EX (.Subscript a (.Slice none none (some (.UnaryOp .USub (.Constant (.int 1) j p3) p4)) p2) pos) (.pr true .rev (.cons A .nil)):=PE.weak (zka ha) λZ H Q hh=>un hh λU J s hL hS h=>by
 have h:Run X.K cA (M.bd (M.bd (ev ao aj F A J) λx=>M.bd (M.ret []) λz=>M.ret (x::z)) λvs=>M.bd (dW vs) λds=>bJ true (prim .rev ds)) U H s _ _:=h;simp only[iH] at h;refine bf hL hS h λx H1 U1 d1 s1 x1 hL1 aL r1 h1=>?_;obtain⟨ds,rs,h3⟩:=m7 aL (.cons r1 .nil) h1;have o:aZ X.K cA U1 H1 (BK ds) Q:=mL aL h3;unfold BK at o;split at o
 ·obtain⟨v,e,r⟩:=rs.one;cases e;obtain⟨ad,us,e2,t,q⟩:=r.tup;subst e2;exact⟨ad,us,rfl,t.jm,λp hp=>aZ.tup o aL.zs q.rev hp⟩
 ·exact o.elim
theorem YZ:∀bs:List Bool,(List.range bs.length).all (λi=>(bs[i]?).getD false)=bs.all id
 |[]=>rfl
 |b::r=>by
  rw[je,Ol,jG,Eh,jG];have:=YZ r;simp only[Function.comp_def,List.getElem?_cons_succ,List.getElem?_cons_zero,Option.getD_some,id];rw[this]
theorem zgc(hc:X.aj=true):cN X (.builtin "all") (λxs H Q=>∃(p:Addr) (bs:List Bool),xs=[.ref p]/\dw X.K H p (bs.map V.bl)/\Q (.bl (bs.all id)) H):=by
 intro ak s Z H xs us Q I r ⟨p,bs,e,hp,q⟩;subst e;obtain⟨u,rfl,ru⟩:=Vals.one r;cases (show u=Value.ref p from ru);obtain⟨its,rv,pl,hz⟩:=I.list hp;have hl:s.heap.IsList p its.toArray:=pl.isList;have hpn:p≠s.heap.objs.size:=by
  obtain⟨o,hg,_⟩:=hl;exact cR (bM hg)
 refine call_all_walk (wpAny_pyIter_list hl ?_);refine⟨_,_,_,_,_,_,λi=>(bs[i]?).getD false,rfl,Walks.list (A:=X.A.in1) (I.ok.hd hc) _ p hpn its.toArray,⟨⟨_,gF _ rfl,rfl,rfl⟩,hl.push _⟩,?_,λh' tk hk=>?_⟩
 ·intro i v s' Q' E' hP hQ;have hi:its[i]?=some v:=by simpa using hP
  have hb:∃b,bs[i]?=some b:=by
   have hlt:i<its.length:=(jt.mp hi).1;have z:=rv.length;rw[bZ] at z;exact⟨_,fH gV⟩
  obtain⟨b,hb⟩:=hb;obtain⟨u,e1,e2⟩:=rv.get (i:=i) (x:=V.bl b) (by rw[ju,hb];rfl);rw[hi] at e1;cases e1;cases (show v=Value.bool b from e2);have hQ:Q' ((bs[i]?).getD false) s':=hQ;rw[hb] at hQ;exact oG hQ
 ·have ez:(List.range its.toArray.size).all (λi=>(bs[i]?).getD false)=bs.all id:=by
   have z:=rv.length;rw[bZ] at z;rw[dh,<-z];exact YZ bs
  rw[ez];refine⟨.bl (bs.all id),H,I.kept (h':=h') (t':=tk) (old_kept hk),rfl,q⟩
theorem zlE{K:W.Frag}:aR K cA .all (λxs H Q=>∃(p:Addr) (bs:List Bool),xs=[.ref p]/\dw K H p (bs.map V.bl)/\Q (.bl (bs.all id)) H):=by
 intro U H ds vs Q zt rs o;have o:aZ K cA U H (Bw ds) Q:=o;unfold Bw at o;split at o
 ·obtain⟨v,rfl,⟨ad,us,rfl,l,q⟩⟩:=rs.one;obtain⟨z,e⟩:=o.some';obtain⟨bs,e1,e2⟩:=m9.mp e;subst e2;exact⟨ad,bs,rfl,by rw[<-R9 e1 q];exact l,(o.of e).here (.bl _)⟩
 ·exact o.elim
noncomputable def Fe(k:Bool):Value->Bool
 |.bool c=>c==k
 |_=>false
theorem zlX{A:Around}{sh:Shared}{k:Bool}{bs:List Bool}{its:List Value}(rv:Vals (bs.map V.bl) its):∀y,y∈its.toArray->SeqAt.EqAt A sh y (.bool k) (Fe k y):=λy hy=>by
 have hy:y∈its:=by simpa using hy
 obtain⟨i,hi,e⟩:=DK hy;have hl:=rv.length;rw[bZ] at hl;obtain⟨u,e1,e2⟩:=rv.get (i:=i) (x:=V.bl (bs[i]' gV)) (by rw[ju,fH gV];rfl);rw[fH hi,e] at e1;cases e1;cases e2;exact SeqAt.EqAt.bool_bool _ _
theorem zgM{h:Heap}{x:D}{e:Value->Bool}:∀{xs:List D} {us:List Value},kI h xs us->(∀u∈us,∃d,Is h d u/\dD 50 d x=some (e u))->(∀d∈xs,∃k,dD 50 d x=some k)->us.countP e=qU x xs:=by
 intro xs
 induction xs with
 |nil=>intro us r _ _;cases r;rfl
 |cons d ds ih=>
  intro us r he hk;cases r with
  |@cons _ u _ us a r=>
   rw[List.countP_cons,ih r (λu hu=>he u (dN _ hu)) λd hd=>hk d (dN _ hd)];obtain⟨d',q,Av⟩:=he u dO;obtain⟨k,zN⟩:=hk d dO;have:=YL 50 q a Av zN;show _+_=qU x ds+(if dD 50 d x=some true then 1 else 0);rw[zN,this];cases k<;>rfl
def Js(K:W.Frag)(cA:Cl)(x:V)(xs:List V)(H:Hp)(Q:VK):Prop:=∃U ds d v b,xs=[v]/\Rv K cA U H (.fl ds) x/\Rv K cA U H d v/\memD d ds=some b/\Q (.int (qU d ds:Nat)) H
theorem zgD(hu:X.A.units+60<cLine):Mg X "list.count" (Js X.K cA):=by
 intro ak sh Z H x xs v us Q I rx r ⟨U,ds,d,y,b,e2,r1,r2,hm,q⟩;subst e2;obtain⟨u,rfl,ru⟩:=Vals.one r;have jA:X.A.in1.units+50<cLine:=by show X.A.units+1+50<cLine;lia
 have i1:=Fb I r2 ru;cases Fb I r1 rx with
 |@fl l _ its p rr=>
  obtain⟨e,he,_⟩:=zg6 hm rr;obtain⟨⟨cls,dd,data,sl⟩,hg,hc,n,hd⟩:=p;simp only at hc hd;subst hc hd;refine yM PySem.F.slot_list_count ⟨_,hg,rfl⟩ PySem.F.entry_list_count (PySem.F.args_list_count_2 _ _) (SeqAt.list_countAt l _ n dd sl u e) ⟨hg,λw hw=>?_,?_⟩
  ·obtain⟨d',q1,q2⟩:=he w (by simpa using hw);exact R5 50 jA q1 i1 q2
  ·refine⟨.int (qU d ds:Nat),H,I.tok _,?_,q⟩;rw[<-zgM rr he (R6 hm)];exact⟨_,rfl⟩
 |oth k=>cases k
theorem Y0:∀{bs:List Bool} {its:List Value} {j:Nat},Vals (bs.map V.bl) its->bs.idxOf? k=some j->∃hj:j<its.length,Fe k its[j]=true/\∀m (hm:m<its.length),m<j->Fe k its[m]=false
 |[],_,j,.nil,h=>by simp at h
 |b::bs,_,j,.cons r t,h=>by
  cases r;rw[List.idxOf?_cons] at h;by_cases hb:b=k
  ·subst hb;simp at h;subst h;exact⟨K7 _,by simp[Fe],λm hm z=>absurd z (Nat.not_lt_zero _)⟩
  ·have hb':(b==k)=false:=by simpa using hb
   rw[hb'] at h;simp at h;obtain⟨j',h1,h2⟩:=h;subst h2;obtain⟨hj,a1,a2⟩:=Y0 t h1;refine⟨by simpa using hj,by simpa using a1,λm hm z=>?_⟩;cases m with
   |zero=>simp[Fe,hb']
   |succ m=>simpa using a2 m (by simpa using hm) gV
theorem zgh:Mg X "list.index" (λx xs H Q=>∃(l:Addr) (bs:List Bool) (b:Bool) (j:Nat),x=.ref l/\xs=[.bl b]/\dw X.K H l (bs.map V.bl)/\bs.idxOf? b=some j/\Q (.int j) H):=by
 intro ak sh Z H x xs v us Q I rx r ⟨l,bs,b,j,e1,e2,hl,hj,q⟩;subst e1 e2;cases (show v=Value.ref l from rx);obtain⟨u,rfl,ru⟩:=Vals.one r;cases (show u=Value.bool b from ru);obtain⟨its,rv,pl,hz⟩:=I.list hl;obtain⟨⟨cls,dd,data,sl⟩,hg,hc,n,hd⟩:=pl.isList;simp only at hc hd;subst hc hd;obtain⟨hlt,h1,h2⟩:=Y0 rv hj;have hs:(j:Int)<2^63-1:=by
  have z:=rv.length;rw[oK] at hz
  lia
 refine yM PySem.F.slot_list_index ⟨_,hg,rfl⟩ PySem.F.entry_list_index (PySem.F.args_list_index_2 _ _) (SeqAt.list_indexAt l its.toArray n dd sl (.bool b) (Fe b) j (by simpa using hlt) hs (by simpa using h1) (λm hm z=>by simpa using h2 m (by simpa using hm) z)) ⟨hg,zlX rv,?_⟩;exact⟨.int j,H,I.tok _,⟨_,rfl⟩,q⟩
def R_(K:W.Frag)(cA:Cl)(p:Pr)(r:V->List V->Hp->VK->Prop):Prop:=aR K cA p (λvs H Q=>∃x xs,vs=x::xs/\r x xs H Q)
theorem zhQ{K:W.Frag}:R_ K cA .count (Js K cA):=by
 intro U H ds vs Q zt rs o;have o:aZ K cA U H (pB ds) Q:=o;unfold pB at o;split at o
 ·obtain⟨v,v',rfl,r1,r2⟩:=rs.two (ds:=[]);obtain⟨z,e⟩:=o.some';obtain⟨b,e1,e2⟩:=m9.mp e;subst e2;exact⟨_,_,rfl,U,_,_,_,b,rfl,r1,r2,e1,(o.of e).here (.int _)⟩
 ·exact o.elim
theorem zgO{K:W.Frag}:R_ K cA .index (λx xs H Q=>∃(l:Addr) (bs:List Bool) (b:Bool) (j:Nat),x=.ref l/\xs=[.bl b]/\dw K H l (bs.map V.bl)/\bs.idxOf? b=some j/\Q (.int j) H):=by
 intro U H ds vs Q zt rs o;have o:aZ K cA U H (pC ds) Q:=o;unfold pC at o;split at o
 ·obtain⟨v,v',rfl,⟨ad,us,rfl,l,q⟩,r2⟩:=rs.two (ds:=[]);obtain⟨z,e⟩:=o.some';obtain⟨j,e1,e2⟩:=m9.mp e;obtain⟨bs,e3,e4⟩:=wj.mp e1;subst e2;exact⟨_,_,rfl,ad,bs,_,j,rfl,by rw[r2.bl],by rw[<-R9 e3 q];exact l,e4,(o.of e).here (.int _)⟩
 ·exact o.elim
noncomputable def kdT:Kd->String
 |.list=>"list"
 |.str=>"str"
 |_=>"dict"
theorem zjd{K:W.Frag}{k:Kd}{dd:D}{v:V}(h:pq k dd=true)(r:Rv K cA U H dd v):Qn K (kdT k) v H:=by
 cases k<;>cases dd<;>first
  |(cases h;done)
  |(obtain⟨a,vs,rfl,l,_⟩:=r;exact .inl ⟨rfl,vs,l⟩)
  |(rw[r.str];exact rfl)
  |(cases (show Rep K cA U H (.fd _ _) v from r) with|@fd _ _ _ q n=>exact .inr (.inr (.inl ⟨rfl,.inl ⟨_,q⟩⟩)))
theorem Y4{k:Kd}{id:String}{name:Str}{r:V->List V->Hp->VK->Prop}(pa:PlainAttrs (kdT k))(slot:Slot (kdT k) name id)(Qo:typeOf (.builtin id)=pure (.type "method_descriptor"))(hm:Mg X id r)(hr:R_ X.K cA p r)
  (ho:SE X cA ao aj F EX o O) (ha:SA X cA ao aj F EX (e::es) Xs)
  (dJ:attributeBase o name X.env (eval o X.env)=eval o X.env:=by rfl)
  (oW:((backTo cpos (starEach (e::es) X.env)).all (λx=>!x.1)&&(backToKw cpos (keywordEach [] X.env)).all (λx=>x.1.isSome)
  &&decide ((e::es).length+([]:List Keyword).length+(if ([]:List Keyword).isEmpty then 0 else 1)<30))=true:=by rfl)
  (jR:(apos.endLine==cpos.line)=true:=by rfl) (hs:starEach (e::es) X.env=(false,eval e X.env)::starEach es X.env:=by rfl) (cV:(backTo cpos (starEach es X.env)).any (·.1)=false:=by rfl) :
  SE X cA ao aj F EX (.Call (.Attribute o name apos) (e::es) [] cpos) (.meth fz p k O Xs):=PE.weak (znk pa slot Qo hm ho ha dJ oW jR hs cV) λZ H Q hh=>un hh λU J s hL hS h=>by
 refine bf hL hS h λx H1 U1 d1 s1 x1 hL1 aL r1 h1=>?_;obtain⟨dd,rv,h2⟩:=zev aL r1 h1;by_cases hk:pq k dd=true
 ·rw[if_pos hk] at h2;refine⟨zjd hk rv,qY hL1 aL h2 λys H2 U2 ds s2 x2 hL2 aU r2 h3=>?_⟩;obtain⟨ds,rs,h4⟩:=m7 aU (.cons (r1.mono x2 aL.lz) r2) h3;obtain⟨_,_,e,q⟩:=hr U2 H2 ds _ _ aU.zs rs (mL aU h4);cases e;exact q
 ·rw[if_neg hk] at h2;exact h2.elim
noncomputable def Mz:Kd->String->Bool
 |.int,"int"=>true
 |.int,"bool"=>true
 |.bool,"bool"=>true
 |.str,"str"=>true
 |.tuple,"tuple"=>true
 |.list,"list"=>true
 |.dict,"dict"=>true
 |_,_=>false
noncomputable def vN:Kd->Option Value
 |.int=>some (.type "int")
 |.bool=>some (.type "bool")
 |.str=>some (.type "str")
 |.tuple=>some (.type "tuple")
 |.list=>some (.type "list")
 |.dict=>some (.type "dict")
 |_=>none
theorem zlr{K:W.Frag}{k:Kd}{cu:Value}(h:vN k=some cu){T:String}(hT:T∈["NoneType","bool","int","str","tuple","list","dict"]):PySem.W.kitOne K (.type T) cu=some (Mz k T):=by
 simp only[cH,List.mem_nil_iff,lR] at hT;cases k<;>simp only[vN] at h<;>cases h<;>rcases hT with rfl|rfl|rfl|rfl|rfl|rfl|rfl<;>rfl
structure uz(K:W.Frag)(cA:Cl)(ao:Nat->Nat->Bool):Prop where
 xc:∀c,XC K (cA.a c)
 ao:∀c e,PySem.W.kitOne K (.ref (cA.a c)) (.ref (cA.a e))=some (ao c e)
 oZ:∀c,PySem.W.kitOne K (.ref (cA.a c)) (.type "ValueError")=some true
noncomputable def Fg(cA:Cl):Kd->V
 |.cls e=>.ref (cA.a e)
 |.oZ=>.ty "ValueError"
 |.int=>.ty "int"
 |.bool=>.ty "bool"
 |.str=>.ty "str"
 |.tuple=>.ty "tuple"
 |.list=>.ty "list"
 |.dict=>.ty "dict"
theorem zhv(Cs:vN k=none->uz X.K cA ao) :
  cN X (.builtin "isinstance") (λxs H Q=>∃U d v bb,xs=[v,Fg cA k]/\Rv X.K cA U H d v/\lF ao d k=some bb/\Q (.bl bb) H):=by
 intro ak sh Z H xs us Q I r ⟨U,d,v,bb,e,rd,hi,q⟩;subst e;obtain⟨u,w,rfl,ru,Sd⟩:=Vals.two r;have uD:∀tk,EP X ak Z Q (.bool bb) {sh with toks:=tk}:=λtk=>⟨.bl bb,H,I.tok tk,rfl,q⟩;have bt:∀{T:String} {Hh:Heap->Prop},PySem.W.KitX X.K u (.type T) Hh->Hh sh.heap->T∈["NoneType","bool","int","str","tuple","list","dict"]->u≠Value.builtin "__main__.__loader__#opaque"->(∃cu,vN k=some cu/\w=cu/\Mz k T=bb)->wpAny (model X.prog X.w) X.A (PySem.call (.builtin "isinstance") [u,w]) (EP X ak Z Q) X.xe sh:=λ{T Hh} zzZ hh hT hx ⟨cu,h1,h2,h3⟩=>by
  subst h2 h3;exact PySem.W.kia_one zzZ I.pY hh (zlr h1 hT) hx uD
 have wv:∀cu,vN k=some cu->w=cu:=λcu h=>by
  cases k<;>simp only[vN] at h<;>cases h<;>exact Sd
 have fin:∀T,lF ao d k=(match vN k with|some _=>some (Mz k T)|none=>none)->∃cu,vN k=some cu/\w=cu/\Mz k T=bb:=λT h=>by
  rw[hi] at h;cases z:vN k with
  |none=>rw[z] at h;cases h
  |some cu=>rw[z] at h;cases h;exact⟨cu,rfl,wv cu z,rfl⟩
 cases d with
 |non=>
  cases (show Rep X.K cA U H .non v from rd);cases (show u=Value.none from ru);exact bt PySem.W.kitx_none trivial Zaa (λz=>nomatch z) (fin "NoneType" (by cases k<;>rfl))
 |bl b=>
  cases rd.bl;cases (show u=Value.bool b from ru);exact bt PySem.W.kitx_bool trivial Zaa (λz=>nomatch z) (fin "bool" (by cases k<;>rfl))
 |int i=>
  cases rd.int;obtain⟨t,z⟩:=(show ∃t,u=Value.int i t from ru);cases z;exact bt PySem.W.kitx_int trivial Zaa (λz=>nomatch z) (fin "int" (by cases k<;>rfl))
 |str y=>
  cases rd.str;obtain⟨t,z⟩:=(show ∃t,u=Value.str y t from ru);cases z;exact bt PySem.W.kitx_str trivial Zaa (λz=>nomatch z) (fin "str" (by cases k<;>rfl))
 |tup xs=>
  obtain⟨ad,vs,rfl,h1,h2⟩:=rd.tup;cases (show u=Value.ref ad from ru);obtain⟨its,_,ht,_⟩:=I.tuple h1.jm;obtain⟨o,q1,q2,_⟩:=ht;exact bt PySem.W.kitx_tuple ⟨o,q1,q2⟩ Zaa (λz=>nomatch z) (fin "tuple" (by cases k<;>rfl))
 |fl xs=>
  obtain⟨ad,vs,rfl,h1,h2⟩:=rd;cases (show u=Value.ref ad from ru);obtain⟨its,_,ht,_⟩:=I.list h1;obtain⟨o,q1,q2,_⟩:=ht.isList;exact bt PySem.W.kitx_list ⟨o,q1,q2⟩ Zaa (λz=>nomatch z) (fin "list" (by cases k<;>rfl))
 |fd ks vs=>
  cases (show Rep X.K cA U H (.fd ks vs) v from rd) with
  |@fd ad kk ii q1 n=>
   cases (show u=Value.ref ad from ru);obtain⟨_,_,vs,_,o,es',ep,g1,g2,_⟩:=(show aO X.prog X.w H sh.heap ad (.dK [(.inr kk,.int ii)]) from I.hok ad _ q1);exact bt PySem.W.kitx_dict ⟨o,g1,g2.1⟩ Zaa (λz=>nomatch z) (fin "dict" (by cases k<;>rfl))
 |ob c fs=>cases k<;>cases hi
 |any=>cases k<;>cases hi
 |exc c fs=>
  cases (show Rep X.K cA U H (.exc c fs) v from rd) with
  |@exc ad _ _ vs hx rs=>
   cases (show u=Value.ref ad from ru);have hI:∃ox od,PySem.W.InstAt sh.heap ad ox (cA.a c) od:=by
    obtain⟨_,⟨_,_,hx⟩|⟨dx,hx,_,hd,_⟩⟩:=hx
    ·obtain⟨⟨oe,vs,g1,g2,g3,g4⟩,_⟩:=(show aO X.prog X.w H sh.heap ad (iz ad (cA.a c) none) from I.hok ad _ hx);exact⟨oe,none,g1,g2,by unfold PySem.W.notCls;rw[g4],by rw[g3];trivial⟩
    ·obtain⟨⟨oe,vs,g1,g2,g3,g4⟩,_⟩:=(show aO X.prog X.w H sh.heap ad (iz ad (cA.a c) (some dx)) from I.hok ad _ hx);obtain⟨mA,⟨od,es,ep,e1,c1⟩,_⟩:=(show aO X.prog X.w H sh.heap dx (.xd _) from I.hok dx _ hd);exact⟨oe,some od,g1,g2,by unfold PySem.W.notCls;rw[g4],by rw[g3];exact e1⟩
   cases k with
   |cls e=>
    cases (show w=Value.ref (cA.a e) from Sd);have z:some (ao c e)=some bb:=hi;cases z;exact PySem.W.kia_one (X3 ((Cs rfl).xc c)) I.pY hI ((Cs rfl).ao c e) (λz=>nomatch z) uD
   |oZ=>
    cases (show w=Value.type "ValueError" from Sd);have z:some true=some bb:=hi;cases z;exact PySem.W.kia_one (X3 ((Cs rfl).xc c)) I.pY hI ((Cs rfl).oZ c) (λz=>nomatch z) uD
   |_=>cases hi
theorem zlW(Cs:vN k=none->uz X.K cA ao)(hg:Gl X "isinstance")(hm:X.mg "isinstance"=none)(ha:SE X cA ao aj F EX a A)(hk:PE X kx (tC (Fg cA k)))(h1:starEach [a,kx] X.env=(false,eval a X.env)::starEach [kx] X.env:=by rfl)(h2:starEach [kx] X.env=(false,eval kx X.env)::starEach [] X.env:=by rfl)
  (bG:(backTo pos (starEach [kx] X.env)).any (·.1)=false:=by rfl):SE X cA ao aj F EX (.Call (.Name "isinstance" pp) [a,kx] [] pos) (.fZ A k):=PE.weak (Xk (zhv (cA:=cA) (k:=k) Cs) hg hm PyProof.Rows.boot_isinstance (vC ha (vC hk Et h2) h1) UJ UJ h1 bG) λZ H Q hh=>un hh λU J s hL hS h=>
 bf hL hS h λv H1 U1 d s1 x1 hL1 aL r1 h1=>by
  show ∃U d' v' bb,[v,Fg cA k]=[v',Fg cA k]/\_;obtain⟨dd,rv,h2⟩:=zev aL r1 h1;obtain⟨bb,e,h3⟩:=Yx h2;exact⟨U1,dd,v,bb,rfl,rv,e,h3.bB aL _ (.d (.bl bb))⟩
theorem zis{j p1 j2 p3}:SE X cA ao aj F EX (.Dict [some (.Constant (.str k) j p1)] [.Constant (.int i) j2 p3] pos) (.uc k i):=PE.weak (zj2 (zhO W6 Pq zjx) rfl rfl Zaa (Om rfl)) λZ H Q hh=>un hh λU J s hL hS h=>by
 intro p hp;refine⟨kZ,[(.inr k,.int i)],rfl,Om rfl,?_⟩;rw[WX];exact h U _ (bI.new hp).ext (hS.grow (bI.new hp)) _ (.d (.fd kZ (hS.nz hp)))
end
section
variable {K:W.Frag}{cA:Cl}{U U':Ph}{H H':Hp}{s:S}
theorem TupAt.kJ(e:∀a,U'.z a->U.z a){a:Addr}{vs:List V}(h:TupAt K U H a vs):TupAt K U' H a vs:=h.imp (λ⟨p,n⟩=>⟨p,λz=>n (e a z)⟩) id
theorem LstAt.kJ(e:∀a,U'.z a->U.z a){a:Addr}{vs:List V}(h:LstAt K U H a vs):LstAt K U' H a vs:=h.imp (λ⟨p,n⟩=>⟨p,λz=>n (e a z)⟩) id
theorem ExcAt.kJ(e:∀a,U'.z a->U.z a){a:Addr}{c:Nat}{vs:List V}(h:ExcAt cA U H a c vs):ExcAt cA U' H a c vs:=
 ⟨λz=>h.1 (e a z),h.2.imp id λ⟨dx,p,n,q,l⟩=>⟨dx,p,λz=>n (e dx z),q,l⟩⟩
theorem pG.kJ(e:∀a,U'.z a->U.z a){a:Addr}{c:Nat}{vs:List V}(h:pG cA U H a c vs):pG cA U' H a c vs:=⟨λz=>h.1 (e a z),h.2⟩
theorem Rep.kJ(e:∀a,U'.z a->U.z a){d:D}{v:V}(h:Rep K cA U H d v):Rep K cA U' H d v:=
 Rep.rec (motive_1:=λd v _=>Rep K cA U' H d v) (motive_2:=λd v _=>aB K cA U' H d v) .non .bl .int .str (λh _ i=>.tup (h.kJ e) i) (λh _ i=>.fl (h.kJ e) i) (λh n=>.fd h (λz=>n (e _ z))) (λh _ i=>.exc (h.kJ e) i) (λh _ i=>.ob (h.kJ e) i) .any .nil (λ_ _ i j=>.cons i j) h
theorem aB.kJ(e:∀a,U'.z a->U.z a){d:List D}{v:List V}(h:aB K cA U H d v):aB K cA U' H d v:=
 aB.rec (motive_1:=λd v _=>Rep K cA U' H d v) (motive_2:=λd v _=>aB K cA U' H d v) .non .bl .int .str (λh _ i=>.tup (h.kJ e) i) (λh _ i=>.fl (h.kJ e) i) (λh n=>.fd h (λz=>n (e _ z))) (λh _ i=>.exc (h.kJ e) i) (λh _ i=>.ob (h.kJ e) i) .any .nil (λ_ _ i j=>.cons i j) h
theorem kE.kJ(e:∀a,U'.z a->U.z a){a:Addr}{o:SO}(h:kE K cA U H a o):kE K cA U' H a o:=h.map (λ_ q=>q) λ_ _ r=>r.kJ e
theorem Rep.zl{d:D}{v:V}(h:Rep K cA U H d v)(l:List Addr):Rep K cA ⟨U.z,l⟩ H d v:=Rep.kJ (U:=U) (U':=⟨U.z,l⟩) (λ_ z=>z) h
theorem aB.zl{d:List D}{v:List V}(h:aB K cA U H d v)(l:List Addr):aB K cA ⟨U.z,l⟩ H d v:=aB.kJ (U:=U) (U':=⟨U.z,l⟩) (λ_ z=>z) h
theorem kE.zl{a:Addr}{o:SO}(h:kE K cA U H a o)(l:List Addr):kE K cA ⟨U.z,l⟩ H a o:=kE.kJ (U:=U) (U':=⟨U.z,l⟩) (λ_ z=>z) h
noncomputable def adr(l:List Addr):List Nat->List Addr
 |[]=>[]
 |n::r=>match l[n]? with
  |some a=>a::adr l r
  |none=>adr l r
theorem Fi{l:List Addr}:∀{ns:List Nat} {a:Addr},a∈adr l ns->∃n∈ns,l[n]?=some a
 |[],a,h=>by cases h
 |n::r,a,h=>by
  unfold adr at h;cases e:l[n]? with
  |none=>
   simp only[e] at h;obtain⟨m,h1,h2⟩:=Fi h;exact⟨m,dN _ h1,h2⟩
  |some b=>
   simp only[e] at h;rcases cH.mp h with rfl|h
   ·exact⟨n,dO,e⟩
   ·obtain⟨m,h1,h2⟩:=Fi h;exact⟨m,dN _ h1,h2⟩
theorem Y5{s:S}:∀{ns:List Nat} {s0:S} {i n:Nat},iG s ns=some s0->ns[i]?=some n->s0[i]?=s[n]?/\∃o,s[n]?=some o
 |[],s0,i,n,h,e=>by simp at e
 |m::r,s0,i,n,h,e=>by
  unfold iG at h;cases e1:s[m]? with
  |none=>simp only[e1] at h;cases h
  |some o=>
   cases e2:iG s r with
   |none=>simp only[e1,e2] at h;cases h
   |some q=>
    simp only[e1,e2] at h;cases h;cases i with
    |zero=>simp at e;subst e;exact⟨by simp[e1],o,e1⟩
    |succ i=>simpa using Y5 e2 (by simpa using e)
theorem Y6{s:S}:∀{ns:List Nat} {s0:S},iG s ns=some s0->s0.length=ns.length
 |[],s0,h=>by cases h;rfl
 |m::r,s0,h=>by
  unfold iG at h;cases e1:s[m]? with
  |none=>simp only[e1] at h;cases h
  |some o=>
   cases e2:iG s r with
   |none=>simp only[e1,e2] at h;cases h
   |some q=>
    simp only[e1,e2] at h;cases h;rw[je,je,Y6 e2]
theorem Jt{l:List Addr}:∀{ns:List Nat} {i n:Nat},(∀n∈ns,∃a,l[n]?=some a)->ns[i]?=some n->(adr l ns)[i]?=l[n]?
 |[],i,n,_,e=>by simp at e
 |m::r,i,n,h,e=>by
  obtain⟨a,ha⟩:=h m dO;unfold adr;simp only[ha];cases i with
  |zero=>simp at e;subst e;simp[ha]
  |succ i=>simpa using Jt (λn hn=>h n (dN _ hn)) (by simpa using e)
theorem Ju{l:List Addr}:∀{ns:List Nat},(∀n∈ns,∃a,l[n]?=some a)->(adr l ns).length=ns.length
 |[],_=>rfl
 |m::r,h=>by
  obtain⟨a,ha⟩:=h m dO;unfold adr;simp only[ha];rw[je,je,Ju (λn hn=>h n (dN _ hn))]
theorem Y7{l:List Addr}(hl:l.Nodup):∀{ns:List Nat},ns.Nodup->(∀n∈ns,∃a,l[n]?=some a)->(adr l ns).Nodup
 |[],_,_=>D_
 |m::r,hn,h=>by
  obtain⟨a,ha⟩:=h m dO;unfold adr;simp only[ha];obtain⟨h1,h2⟩:=rM.mp hn;refine rM.mpr ⟨λz=>?_,Y7 hl h2 (λn hn=>h n (dN _ hn))⟩;obtain⟨n,q1,q2⟩:=Fi z;have:m=n:=(O2 (jt.mp ha).1 hl).mp (ha.trans q2.symm);exact h1 (this▸q1)
theorem Fj{s:S}:∀{ns:List Nat} {s1:S},(cP s ns s1).length=s.length
 |[],s1=>by cases s1<;>rfl
 |n::r,[]=>rfl
 |n::r,o::q=>by
  show (cP (s.set n o) r q).length=_;rw[Fj,oH]
theorem Sg{s:S}:∀{ns:List Nat} {s1:S} {m:Nat},m∉ns->(cP s ns s1)[m]?=s[m]?
 |[],s1,m,_=>by cases s1<;>rfl
 |n::r,[],m,_=>rfl
 |n::r,o::q,m,h=>by
  show (cP (s.set n o) r q)[m]?=_;rw[Sg (λz=>h (dN _ z)),rH (λz=>h (by rw[z];exact dO))]
theorem Y8{s:S}:∀{ns:List Nat} {s1:S} {i m:Nat} {o:SO},ns.Nodup->ns[i]?=some m->s1[i]?=some o->m<s.length->(cP s ns s1)[m]?=some o
 |[],s1,i,m,o,_,e,_,_=>by simp at e
 |n::r,[],i,m,o,_,_,e,_=>by simp at e
 |n::r,q::qs,i,m,o,hn,e1,e2,hm=>by
  show (cP (s.set n q) r qs)[m]?=_;obtain⟨h1,h2⟩:=rM.mp hn;cases i with
  |zero=>
   simp at e1 e2;subst e1 e2;rw[Sg h1,yC hm]
  |succ i=>exact Y8 h2 (by simpa using e1) (by simpa using e2) (by rw[oH];exact hm)
theorem zgH:∀{xs:List Xv} {vs:List V} (l0:List Addr) (z:Addr->Prop) (k:Nat),bQ K cA U H xs vs->U.z=z->(∀i n,(locs xs)[i]?=some n->l0[k+i]?=U.l[n]?)->bQ K cA ⟨z,l0⟩ H (dz k xs) vs
 :=by
 intro xs vs l0 z k r0
 induction r0 generalizing k with
 |nil=>exact λ_ _=>.nil
 |@cons x v xs vs a q ih=>
  intro ez h;cases a with
  |d a=>exact .cons (.d (a.kJ λb hb=>by rw[ez];exact hb)) (ih k ez h)
  |@l n a' a=>
   refine .cons (.l ?_) (ih (k+1) ez λi m e=>?_)
   ·have:=h 0 n rfl;rw[Nat.add_zero] at this;show l0[k]?=_;rw[this];exact a
   ·have:=h (i+1) m (by simpa [locs] using e);rw[<-this]
    congr 1
    lia
theorem zeG:∀{xs:List Xv} {vs:List V},bQ K cA U H xs vs->∀n∈locs xs,∃a,U.l[n]?=some a
 :=by
 intro xs vs r0
 induction r0 with
 |nil=>exact λn h=>by cases h
 |cons a q ih=>
  intro n h;cases a with
  |d a=>exact ih n h
  |l a=>
   rcases cH.mp h with rfl|h
   ·exact⟨_,a⟩
   ·exact ih n h
theorem Y9{xs:List Xv}{U1:Ph}{s0 s1:S}(hS:aG K cA U H s)(hn:(locs xs).Nodup)(ht:∀n∈locs xs,∃a,U.l[n]?=some a)(x:Ext ⟨U.z,adr U.l (locs xs)⟩ H U1 H')(r1:aG K cA U1 H' s1) :
  Ext U H ⟨U1.z,U.l⟩ H'/\aG K cA ⟨U1.z,U.l⟩ H' (cP s (locs xs) s1):=by
 have ao:∀a∈adr U.l (locs xs),a∈U.l:=λa ha=>by obtain⟨n,_,q⟩:=Fi ha;exact gD q
 obtain⟨r,er,hr⟩:=x.more;have er:U1.l=adr U.l (locs xs)++r:=er;refine⟨⟨⟨[],by simp,by simp⟩,λa h=>x.vJ a h,λa h=>x.nO a h,λa o h n=>x.frame a o h λz=>n (ao a z),x.stay⟩,?_⟩;refine⟨by rw[Fj];exact hS.len,λn o a e1 e2=>?_,hS.uniq,λa ha=>x.vJ a (hS.lz a ha),r1.zt⟩;have e2:U.l[n]?=some a:=e2;by_cases jA:n∈locs xs
 ·obtain⟨i,hi,ei⟩:=DK jA;have ei:(locs xs)[i]?=some n:=by rw[fH hi,ei]
  have ha:(adr U.l (locs xs))[i]?=some a:=by rw[Jt ht ei];exact e2
  have uE:U1.l[i]?=some a:=by rw[er,pQ (jt.mp ha).1];exact ha
  have hlt:i<s1.length:=by rw[<-r1.len];exact(jt.mp uE).1
  have hb:=Y8 (s:=s) (s1:=s1) hn ei (fH hlt) (by rw[<-hS.len];exact(jt.mp e2).1);rw[hb] at e1;cases e1;exact kE.zl (r1.obj i _ a (fH hlt) uE) _
 ·rw[Sg jA] at e1;have Sh:a∉adr U.l (locs xs):=λz=>by
   obtain⟨m,q1,q2⟩:=Fi z;have:n=m:=(O2 (jt.mp e2).1 hS.uniq).mp (e2.trans q2.symm);exact jA (this▸q1)
  exact(hS.obj n o a e1 e2).map (λ_ q=>x.frame a _ q Sh) λ_ _ r=>Rep.zl ((Rep.zl r _).mono x λa ha=>hS.lz a (ao a ha)) _
theorem zhI{F:List Xv->M Xv}{xs:List Xv}{vs:List V}{Q:VK}{EE:Nat->List D->Ph->Hp->Prop}(hS:aG K cA U H s)(r:bQ K cA U H xs vs)
  (hE:∀c fs U1 U2 H',U1.z=U2.z->EE c fs U1 H'->EE c fs U2 H')
  (h:Run K cA (cC F xs) U H s (λx _ U' H'=>∀v,bF K cA U' H' x v->Q v H') (λc fs _ U' H'=>EE c fs U' H')) :
  ∃U0 s0,bQ K cA U0 H (dz 0 xs) vs/\aG K cA U0 H s0/\Run K cA (F (dz 0 xs)) U0 H s0 (λx _ U' H'=>∀v,bF K cA U' H' x v->Q v H') (λc fs _ U' H'=>EE c fs U' H'):=by
 unfold Run cC at h;by_cases hn:(locs xs).Nodup
 ·simp only[if_pos hn] at h;have ht:=zeG r;have ao:∀a∈adr U.l (locs xs),a∈U.l:=λa ha=>by obtain⟨n,_,q⟩:=Fi ha;exact gD q
  cases e0:iG s (locs xs) with
  |none=>simp only[e0] at h
  |some s0=>
   simp only[e0] at h;refine⟨⟨U.z,adr U.l (locs xs)⟩,s0,zgH _ _ 0 r rfl (λi n e=>by rw[Nat.zero_add];exact Jt ht e),?_,?_⟩
   ·refine⟨by rw[Y6 e0];exact Ju ht,λi o a e1 e2=>?_,Y7 hS.uniq hn ht,λa ha=>hS.lz a (ao a ha),hS.zt⟩;have e2:(adr U.l (locs xs))[i]?=some a:=e2;have hi:i<(locs xs).length:=by rw[<-Ju ht];exact(jt.mp e2).1
    have ei:(locs xs)[i]?=some ((locs xs)[i]):=fH hi;rw[Jt ht ei] at e2;rw[(Y5 e0 ei).1] at e1;exact kE.zl (hS.obj _ o a e1 e2) _
   ·unfold Run;cases e1:F (dz 0 xs) s0 with
    |none=>simp only[e1] at h
    |some q=>
     obtain⟨q,s1⟩:=q;simp only[e1] at h;cases q with
     |er c fs=>
      intro U1 H' x r1;obtain⟨x2,r2⟩:=Y9 (s0:=s0) hS hn ht x r1;exact hE c fs ⟨U1.z,U.l⟩ U1 H' rfl (h ⟨U1.z,U.l⟩ H' x2 r2)
     |ok y=>
      intro U1 H' x r1 v rv;obtain⟨x2,r2⟩:=Y9 (s0:=s0) hS hn ht x r1;cases y with
      |d w=>
       cases rv with
       |d rv=>exact h ⟨U1.z,U.l⟩ H' x2 r2 v (.d (Rep.zl rv _))
      |l n=>
       cases rv with
       |@l _ a hl=>
        obtain⟨rr,er,hr⟩:=x.more;have er:U1.l=adr U.l (locs xs)++rr:=er;cases em:(locs xs)[n]? with
        |some m=>
         simp only[em] at h;refine h _ H' x2 r2 _ (.l ?_);show U.l[m]?=some a;have ha:(adr U.l (locs xs))[n]?=U.l[m]?:=Jt ht em;have hlt:n<(adr U.l (locs xs)).length:=by rw[Ju ht];exact(jt.mp em).1
         rw[er,pQ hlt] at hl;rw[<-ha];exact hl
        |none=>
         simp only[em] at h;have hge:(adr U.l (locs xs)).length<=n:=by rw[Ju ht];exact pR.mp em
         have Mr:a∈rr:=by
          rw[er,oE hge] at hl;exact gD hl
         have Sh:a∉U.l:=λz=>by
          obtain⟨o,eo⟩:=hS.zt a (hS.lz a z);rw[hr a Mr] at eo;cases eo
         cases eo:s1[n]? with
         |none=>simp only[eo] at h
         |some o=>
          simp only[eo] at h;have ho:=r1.obj n o a eo hl;refine h ⟨U1.z,U.l++[a]⟩ H' ⟨⟨[a],rfl,by simpa using hr a Mr⟩,x2.vJ,x2.nO,x2.frame,x2.stay⟩ ?_ _ (.l (by show (U.l++[a])[s.length]?=_;rw[<-hS.len];simp));refine⟨by show (U.l++[a]).length=_;rw[fK,fK,Fj,hS.len];rfl,λm o' a' e1 e2=>?_,?_,λb hb=>?_,r1.zt⟩
          ·have e2:(U.l++[a])[m]?=some a':=e2;by_cases hm:m<s.length
           ·rw[pQ (by rw[Fj];exact hm)] at e1;rw[pQ (by rw[hS.len];exact hm)] at e2;exact kE.zl (r2.obj m o' a' e1 e2) _
           ·have tO:m=s.length:=by
             have z:=(jt.mp e2).1;rw[fK,hS.len] at z;simp at z
             lia
            subst tO;rw[oE (by rw[Fj];exact bV _)] at e1;rw[oE (by rw[hS.len];exact bV _)] at e2;simp[Fj] at e1;simp[hS.len] at e2;subst e1 e2;exact kE.zl ho _
          ·show (U.l++[a]).Nodup;rw[K5];refine⟨hS.uniq,by simp,λb hb c hc e=>?_⟩;simp at hc;subst hc e;exact Sh hb
          ·have hb:b∈U.l++[a]:=hb;rcases gK.mp hb with z|z
           ·exact x2.vJ b (hS.lz b z)
           ·simp at z;subst z;exact r1.lz _ (gD hl)
 ·simp only[if_neg hn] at h
end
section
variable {X:Cx}{cA:Cl}{ao:Nat->Nat->Bool}{aj:Bool}{F:Fn}{EX:XS}{a b c d e o:Expr}{A B C Dd E' O:E}{pos pp p2 apos cpos:Pos}{es:List Expr}{Xs:Es}{fz:Bool}{p:Pr}{x:Str}{U:Ph}{H:Hp}{s:S}
theorem zfU{K:W.Frag}{β:Type}{x:Xv}{v:V}{k:Nat×List D->M β}{P:β->S->Ph->Hp->Prop}{Ee:Nat->List D->S->Ph->Hp->Prop}(hS:aG K cA U H s)(r:bF K cA U H x v)(h:Run K cA (M.bd (cO x) k) U H s P Ee) :
  ∃n ad xs vs,x=.l n/\v=.ref ad/\s[n]?=some (.lst xs)/\U.l[n]?=some ad/\H ad=some (.lst vs)/\aB K cA U H xs vs/\Run K cA (k (n,xs)) U H s P Ee:=by
 cases r with
 |d _=>exact h.elim
 |@l n ad hl=>
  unfold Run M.bd cO at h;dsimp only at h;cases e:s[n]? with
  |none=>rw[e] at h;exact h.elim
  |some o=>
   rw[e] at h;cases o with
   |lst xs=>
    obtain⟨vs,q1,q2⟩:=hS.obj n _ _ e hl;exact⟨n,ad,xs,vs,rfl,rfl,e,hl,q1,q2,h⟩
   |_=>exact h.elim
noncomputable def uF(K:W.Frag)(cA:Cl)(m:List Xv->M Xv):Sp:=λvs H Q E=>∃U xs s,bQ K cA U H xs vs/\aG K cA U H s/\Run K cA (m xs) U H s (λd _ U' H'=>∀v,bF K cA U' H' d v->Q v H') (λc fs _ U' H'=>∀dx,jZ K cA U' H' c fs dx->E (.ref (cA.a c)) dx H')
theorem ziN{K:W.Frag}{U1 U2:Ph}{c:Nat}{fs:List D}{dx:Option Addr}(e:U1.z=U2.z)(h:jZ K cA U2 H c fs dx):jZ K cA U1 H c fs dx:=h.imp id λ⟨d,vs,a,b,c,l,r⟩=>⟨d,vs,a,by rw[e];exact b,c,l,r.kJ λ_ z=>by rw[<-e];exact z⟩
theorem zjr{cm:Bool}{k f:Nat}{fa:Addr}{fd:FuncData}{ps:List Str}(Fo:eE X.prog X.w X.K X.mg X.base (lq X.prog X.w) cm k fa fd ps (uF X.K cA (F f)))(qP:cm=true->X.aj=true)(hr:bW k X.A)(hg:Gl X x)(hm:X.mg x=some (.ref fa))(hk:PySem.W.keepIn X.K (.ref fa)=true)(hb:Binds X.K fd ps [])(R:Raises X EX)
  (ha:SA X cA ao aj F EX (e::es) Xs) (jP:(x==("__debug__" : Str))=false:=by decide) (he:starEach (e::es) X.env=(false,eval e X.env)::starEach es X.env:=by rfl) (bG:(backTo pos (starEach es X.env)).any (·.1)=false:=by rfl) :
  SE X cA ao aj F EX (.Call (.Name x pp) (e::es) [] pos) (.call f Xs):=PE.weak (zg1 Fo qP hr hg hm hk hb R ha jP he bG) λZ H Q hh=>un hh λU J s hL hS h=>
 qY hL hS h λvs H1 U1 ds s1 x1 hL1 aL r1 h1=>by
  obtain⟨U0,s0,a1,a2,a3⟩:=zhI (EE:=λc fs U' H'=>∀dx,jZ X.K cA U' H' c fs dx->EX Z (.ref (cA.a c)) dx H') aL r1 (λc fs U1 U2 H' ez z dx q=>z dx (ziN ez q)) h1;exact⟨U0,_,s0,a1,a2,a3⟩
end
section
variable {K:W.Frag}{cA:Cl}{U U':Ph}{H H':Hp}{s:S}
def eF(U:Ph)(H H':Hp):Prop:=∀a o,H a=some o->¬U.z a->H' a=some o
mutual
theorem Rep.out(x:eF U H H'):∀{d:D} {v:V},Rep K cA U H d v->Rep K cA U H' d v
 |_,_,.non=>.non
 |_,_,.bl b=>.bl b
 |_,_,.int i=>.int i
 |_,_,.str z=>.str z
 |_,_,.tup h r=>.tup (h.imp (λ⟨p,n⟩=>⟨p.imp (λq=>x _ _ q n) λ⟨o,q⟩=>⟨o,x _ _ q n⟩,n⟩) id) (aB.out x r)
 |_,_,.fl h r=>.fl (h.imp (λ⟨p,n⟩=>⟨p.imp (λq=>x _ _ q n) λ⟨o,q⟩=>⟨o,x _ _ q n⟩,n⟩) id) (aB.out x r)
 |_,_,.fd h n=>.fd (x _ _ h n) n
 |_,_,.exc h r=>.exc ⟨h.1,h.2.imp (λ⟨a,b,q⟩=>⟨a,b,x _ _ q h.1⟩) λ⟨dx,p,n,q,l⟩=>⟨dx,x _ _ p h.1,n,x _ _ q n,l⟩⟩ (aB.out x r)
 |_,_,.any v=>.any v
 |_,_,.ob h r=>.ob ⟨h.1,let ⟨dx,p,l⟩:=h.2;⟨dx,x _ _ p h.1,l⟩⟩ (aB.out x r)
theorem aB.out(x:eF U H H'):∀{ds:List D} {vs:List V},aB K cA U H ds vs->aB K cA U H' ds vs
 |_,_,.nil=>.nil
 |_,_,.cons h r=>.cons (Rep.out x h) (aB.out x r)
end
theorem eF.refl:eF U H H:=λa o e _=>e
structure nP(K:W.Frag)(cA:Cl)(c:Src)(U:Ph)(H:Hp)(b_:L2.It):Prop where
 stop:∀U' H₁ H' s' i,Ext U H U' H₁->eF U' H₁ H'->aG K cA U' H' s'->c.at i s'=some none->b_.stop i H'
 go:∀U' H₁ H' s' i x,Ext U H U' H₁->eF U' H₁ H'->aG K cA U' H' s'->c.at i s'=some (some x)->b_.go i H'
 Az:∀U' H₁ H' s' i x v H2,Ext U H U' H₁->eF U' H₁ H'->aG K cA U' H' s'->c.at i s'=some (some x)->b_.Az i H' v H2->bI H' H2/\Rep K cA U' H2 x v
theorem LstAt.later(hz:∀a∈U.l,U.z a)(h:LstAt K U H a vs)(x:Ext U H U' H₁)(o:eF U' H₁ H'):LstAt K U' H' a vs:=
 (h.mono x hz).imp (λ⟨p,n⟩=>⟨p.imp (λq=>o _ _ q n) λ⟨w,q⟩=>⟨w,o _ _ q n⟩,n⟩) id
theorem TupAt.later(hz:∀a∈U.l,U.z a)(h:TupAt K U H a vs)(x:Ext U H U' H₁)(o:eF U' H₁ H'):TupAt K U' H' a vs:=
 (h.mono x hz).imp (λ⟨p,n⟩=>⟨p.imp (λq=>o _ _ q n) λ⟨w,q⟩=>⟨w,o _ _ q n⟩,n⟩) id
theorem nP.list(hz:∀a∈U.l,U.z a)(h:LstAt K U H a vs)(r:aB K cA U H xs vs):nP K cA (.fix xs) U H (Lz K a):=by
 refine⟨λU' H₁ H' s' i x o hS e=>⟨vs,(h.later hz x o).vK,?_⟩,λU' H₁ H' s' i d x o hS e=>?_,λU' H₁ H' s' i d v H2 x o hS e y=>?_⟩
 ·have e:xs[i]?=none:=cT e;exact pR.mp ((r.mono x hz).none e)
 ·have e:xs[i]?=some d:=cT e;obtain⟨v,q,_⟩:=r.get e;exact⟨vs,v,(h.later hz x o).vK,q⟩
 ·have e:xs[i]?=some d:=cT e;obtain⟨rfl,y⟩:=y;obtain⟨w,q,oR⟩:=((r.mono x hz).out o).get e;have:=y vs (h.later hz x o).vK;rw[q] at this;cases this;exact⟨bI.refl,oR⟩
theorem nP.tuple(hz:∀a∈U.l,U.z a)(h:TupAt K U H a vs)(r:aB K cA U H xs vs):nP K cA (.fix xs) U H (P_ K a):=by
 refine⟨λU' H₁ H' s' i x o hS e=>⟨vs,(h.later hz x o).jm,?_⟩,λU' H₁ H' s' i d x o hS e=>?_,λU' H₁ H' s' i d v H2 x o hS e y=>?_⟩
 ·have e:xs[i]?=none:=cT e;exact pR.mp ((r.mono x hz).none e)
 ·have e:xs[i]?=some d:=cT e;obtain⟨v,q,_⟩:=r.get e;exact⟨vs,v,(h.later hz x o).jm,q⟩
 ·have e:xs[i]?=some d:=cT e;obtain⟨rfl,y⟩:=y;obtain⟨w,q,oR⟩:=((r.mono x hz).out o).get e;have:=y vs (h.later hz x o).jm;rw[q] at this;cases this;exact⟨bI.refl,oR⟩
theorem Sq(h:(Src.live n).at i s=some o):∃xs,s[n]?=some (.lst xs)/\xs[i]?=o:=by
 unfold Src.at at h;dsimp only at h;cases e:s[n]? with
 |none=>rw[e] at h;cases h
 |some ob=>
  rw[e] at h;cases ob with
  |lst xs=>exact⟨xs,rfl,cT h⟩
  |_=>cases h
theorem nP.live(h:U.l[n]?=some a):nP K cA (.live n) U H (Lz K a):=by
 refine⟨λU' H₁ H' s' i x o hS e=>?_,λU' H₁ H' s' i d x o hS e=>?_,λU' H₁ H' s' i d v H2 x o hS e y=>?_⟩
 ·obtain⟨xs,e1,e2⟩:=Sq e;obtain⟨vs,q1,q2⟩:=hS.obj n _ a e1 (x.get h);exact⟨vs,dw.of q1,pR.mp (q2.none e2)⟩
 ·obtain⟨xs,e1,e2⟩:=Sq e;obtain⟨vs,q1,q2⟩:=hS.obj n _ a e1 (x.get h);obtain⟨v,q3,_⟩:=q2.get e2;exact⟨vs,v,dw.of q1,q3⟩
 ·obtain⟨xs,e1,e2⟩:=Sq e;obtain⟨vs,q1,q2⟩:=hS.obj n _ a e1 (x.get h);obtain⟨w,q3,oR⟩:=q2.get e2;obtain⟨rfl,y⟩:=y;have:=y vs (dw.of q1);rw[q3] at this;cases this;exact⟨bI.refl,oR⟩
theorem Ss:(jk a b)[i]?=if i<(b-a).toNat then some (.int (a+i)) else none:=by
 unfold jk;rw[ju,List.getElem?_range']
where
 List.getElem?_range' {n i:Nat}:Option.map (λ(i:Nat)=>D.int (a+i)) (List.range n)[i]?=if i<n then some (.int (a+i)) else none:=by
  by_cases h:i<n
  ·rw[if_pos h,List.getElem?_range h];rfl
  ·rw[if_neg h,KQ (by simp;lia)];rfl
theorem nP.range{a b:Int}:nP K cA (.fix (jk a b)) U H (G7 a (b-a).toNat):=by
 refine⟨λU' H₁ H' s' i x o hS e=>?_,λU' H₁ H' s' i d x o hS e=>?_,λU' H₁ H' s' i d v H2 x o hS e y=>?_⟩
 ·have e:(jk a b)[i]?=none:=cT e;rw[Ss] at e;split at e
  ·cases e
  ·exact Gn (by assumption)
 ·have e:(jk a b)[i]?=some d:=cT e;rw[Ss] at e;split at e
  ·assumption
  ·cases e
 ·have e:(jk a b)[i]?=some d:=cT e;rw[Ss] at e;split at e
  ·cases e;obtain⟨rfl,rfl⟩:=y;exact⟨bI.refl,.int _⟩
  ·cases e
end
noncomputable def Sv(K:W.Frag)(te:TE):TI:=λZ H R=>te Z H λv H1=>∃a,v=.ref a/\(((∃xs,dw K H1 a xs)/\R (Lz K a) H1)\/((∃xs,fL K H1 a xs)/\R (P_ K a) H1))
theorem zl6(he:PE X l te):PI X tg l (Sv X.K te):=by
 intro ak s Z H R I h;refine aX (he ak s Z H _ I h) λv s1 hx=>vA hx λx H1 I1 r1 a e q=>?_;subst e;cases r1;rcases q with ⟨⟨xs,hq⟩,q⟩|⟨⟨xs,hq⟩,q⟩
 ·obtain⟨its,rv,p,hz⟩:=I1.list hq;refine wpAny_pyIter_list p.isList ?_;refine⟨s1.heap.objs.size,[s1.heap.objs.size],_,_,H1,rfl,I1.kept (t':=s1.toks) λb o e=>bU _ e,zgI a _,⟨_,gF _ rfl,rfl,rfl⟩,λb hb=>?_,q⟩;have e:b=s1.heap.objs.size:=by simpa using hb
  subst e;exact I1.wK (bV _) (I1.hok.fresh (bV _))
 ·obtain⟨its,rv,p,hz⟩:=I1.tuple hq;refine wpAny_pyIter_tuple (show s1.heap.IsTuple a its.toArray from p) ?_;refine⟨s1.heap.objs.size,[s1.heap.objs.size],_,_,H1,rfl,I1.kept (t':=s1.toks) λb o e=>bU _ e,zeQ a _,⟨_,gF _ rfl,rfl,rfl⟩,λb hb=>?_,q⟩;have e:b=s1.heap.objs.size:=by simpa using hb
  subst e;exact I1.wK (bV _) (I1.hok.fresh (bV _))
section
variable {X:Cx}{cA:Cl}{ao:Nat->Nat->Bool}{aj:Bool}{F:Fn}{EX:XS}{a b tg:Expr}{A B:E}{pos pp:Pos}
noncomputable def tI(K:W.Frag)(cA:Cl)(EX:XS)(m:Vs->M (Src×Nat)):TI:=λZ H R=>∃U J s,bx K cA U H Z J/\aG K cA U H s/\Run K cA (m J) U H s (λcn _ U1 H1=>∀b_,nP K cA cn.1 U1 H1 b_->R b_ H1) (eX K cA EX Z)
def SI(X:Cx)(cA:Cl)(ao:Nat->Nat->Bool)(aj:Bool)(F:Fn)(EX:XS)(tg iter:Expr)(w:Wk):Prop:=PI X tg iter (tI X.K cA EX (ou ao aj F w))
theorem PI.weak{iter:Expr}{t t':TI}(h:PI X tg iter t)(f:∀Z H Q,t' Z H Q->t Z H Q):PI X tg iter t':=λak s Z H Q I q=>h ak s Z H Q I (f Z H Q q)
theorem zlM(ha:SE X cA ao aj F EX a A):SI X cA ao aj F EX tg a (.seq A):=PI.weak (zl6 ha) λZ H R hh=>un hh λU J s hL hS h=>by
 refine bf hL hS h λv H1 U1 d s1 x1 hL1 aL r1 h1=>?_;cases r1 with
 |@l n ad hl=>
  unfold Run src at h1;dsimp only at h1;cases e:s1[n]? with
  |none=>rw[e] at h1;exact h1.elim
  |some o=>
   rw[e] at h1;cases o with
   |lst xs=>
    obtain⟨vs,q1,q2⟩:=aL.obj n _ _ e hl;exact⟨ad,rfl,.inl ⟨⟨vs,dw.of q1⟩,h1 U1 H1 Ext.refl aL _ (nP.live hl)⟩⟩
   |_=>exact h1.elim
 |d r1=>
  cases r1 with
  |tup q r=>exact⟨_,rfl,.inr ⟨⟨_,q.jm⟩,h1 U1 H1 Ext.refl aL _ (nP.tuple aL.lz q r)⟩⟩
  |fl q r=>exact⟨_,rfl,.inl ⟨⟨_,q.vK⟩,h1 U1 H1 Ext.refl aL _ (nP.list aL.lz q r)⟩⟩
  |_=>exact h1.elim
theorem Y_{i:Int}(h:fj i=true) : -(2^62)<=i/\i<2^62:=by
 unfold fj at h;rw[cG,DX,DX] at h;exact⟨by lia,h.2⟩
theorem Za{K:W.Frag}{U:Ph}{H:Hp}{s:S}{i j:Int}{P:Src×Nat->S->Ph->Hp->Prop}{Ee:Nat->List D->S->Ph->Hp->Prop}(hS:aG K cA U H s)(h:Run K cA (if (fj i&&fj j)=true then M.ret (Src.fix (jk i j),(jk i j).length) else M.no) U H s P Ee):(-(2^62)<=i/\i<2^62/\-(2^62)<=j/\j<2^62)/\P (.fix (jk i j),(jk i j).length) s U H:=by
 by_cases hk:(fj i&&fj j)=true
 ·rw[if_pos hk] at h;rw[cG] at hk;obtain⟨a,b⟩:=Y_ hk.1;obtain⟨c,d⟩:=Y_ hk.2;exact⟨⟨a,b,c,d⟩,h.bB hS⟩
 ·rw[if_neg hk] at h;exact h.elim
theorem zmH(uG:Gl X "range")(hmg:X.mg "range"=none)(ha:SE X cA ao aj F EX a A)(hb:SE X cA ao aj F EX b B)(h1:starEach [a,b] X.env=(false,eval a X.env)::starEach [b] X.env)(h2:starEach [b] X.env=(false,eval b X.env)::starEach [] X.env) :
  SI X cA ao aj F EX tg (.Call (.Name "range" pp) [a,b] [] pos) (.rg A B):=PI.weak (zfW uG hmg (vC ha (vC hb Et h2) h1) (by rw[h1,h2];rfl) (by rw[h2];rfl)) λZ H R hh=>un hh λU J s hL hS h=>by
 refine bf hL hS h λx H1 U1 d1 s1 x1 hL1 aL r1 h1=>bf hL1 aL h1 λy H2 U2 d2 s2 x2 hL2 aU r2 h2=>?_;obtain⟨i,_,e1,h3⟩:=Jh (r1.mono x2 aL.lz) h2;obtain⟨j,_,e2,h4⟩:=Jh r2 h3;obtain⟨hz,q⟩:=Za aU h4;subst e1 e2;exact⟨i,j,rfl,hz,q _ nP.range⟩
theorem zmb(uG:Gl X "range")(hmg:X.mg "range"=none)(hb:SE X cA ao aj F EX b B)(h2:starEach [b] X.env=(false,eval b X.env)::starEach [] X.env) :
  SI X cA ao aj F EX tg (.Call (.Name "range" pp) [b] [] pos) (.rg (.c (.int 0)) B):=PI.weak (zfe uG hmg (vC hb Et h2) (by rw[h2];rfl)) λZ H R hh=>un hh λU J s hL hS h=>by
 have h:Run X.K cA (M.bd (ev ao aj F B J) λy=>M.bd (int (.d (.int 0))) λi=>M.bd (int y) λj=>if (fj i&&fj j)=true then M.ret (Src.fix (jk i j),(jk i j).length) else M.no) U H s _ _:=h;refine bf hL hS h λy H2 U2 d2 s2 x2 hL2 aU r2 h2=>?_;obtain⟨j,_,e2,h4⟩:=Jh r2 (show Run X.K cA (M.bd (int d2) λj=>if (fj 0&&fj j)=true then M.ret (Src.fix (jk 0 j),(jk 0 j).length) else M.no) U2 H2 s2 _ _ from h2);obtain⟨hz,q⟩:=Za aU h4;subst e2;refine⟨j,rfl,hz.2.2.1,hz.2.2.2,q _ ?_⟩;have:=nP.range (K:=X.K) (cA:=cA) (U:=U2) (H:=H2) (a:=0) (b:=j);rw[Int.sub_zero] at this;exact this
end
section
variable {K:W.Frag}{cA:Cl}{U U' U0:Ph}{H H' H0:Hp}{s:S}
theorem Run.bd0(x:Ext U0 H0 U H)(h:Run K cA (M.bd m k) U0 H0 s P Ee) :
  Run K cA m U H s (λa s1 U1 H1=>Ext U H U1 H1/\aG K cA U1 H1 s1/\Run K cA (k a) U0 H0 s1 P Ee) Ee:=by
 unfold Run M.bd at *;cases e:m s with
 |none=>rw[e] at h;exact h
 |some r=>
  obtain⟨r,s1⟩:=r;rw[e] at h;cases r with
  |er c f=>exact λU1 H1 x1 r1=>h U1 H1 (x.trans x1) r1
  |ok a=>exact λU1 H1 x1 r1=>⟨x1,r1,h⟩
theorem Zb{α β:Type}{m:M α}{k:α->M β}{P:β->S->Ph->Hp->Prop}{Ee Ee':Nat->List D->S->Ph->Hp->Prop}(x:Ext U0 H0 U H)(h:Run K cA (M.bd (M.qt m) k) U0 H0 s P Ee) :
  Run K cA m U H s (λa s1 U1 H1=>Ext U H U1 H1/\aG K cA U1 H1 s1/\Run K cA (k a) U0 H0 s1 P Ee) Ee':=by
 have h2:=h.bd0 x;unfold Run at h2 ⊢;unfold M.qt at h2;cases e:m s with
 |none=>rw[e] at h2;exact h2
 |some r=>
  obtain⟨r,s1⟩:=r;rw[e] at h2;cases r with
  |ok a=>exact h2
  |er c f=>exact h2.elim
theorem zkd{α β:Type}{m m':M α}{k:α->M β}{P:β->S->Ph->Hp->Prop}{Ee:Nat->List D->S->Ph->Hp->Prop}(e:m s=m' s)(h:Run K cA (M.bd m k) U H s P Ee):Run K cA (M.bd m' k) U H s P Ee:=by
 unfold Run M.bd at *;rw[<-e];exact h
end
section
variable {X:Cx}{cA:Cl}{ao:Nat->Nat->Bool}{aj:Bool}{F:Fn}{EX:XS}{elt iter tg:Expr}{A B:E}{pos p:Pos}{ifs:List Expr}{scope:Scope}{N:List Str}{cond:Eo}{fr fV:List Nat}{many:Nat}{fz:Bool}{w:Wk}
def MF(X:Cx)(cA:Cl)(ao:Nat->Nat->Bool)(aj:Bool)(F:Fn)(EX:XS)(ifs:List Expr)(m:Eo):Prop:=Mp X ifs (zK X.K cA EX (uo ao aj F m))
theorem zlG:MF X cA ao aj F EX [] .no:=λak s Z H Q I ⟨U,J,st,hL,hS,h⟩=>ziy ak s Z H Q I (h.bB hS)
theorem ziU(h:ST X cA ao aj F EX c C):MF X cA ao aj F EX [c] (.yes C):=zjP h
structure q_(K:W.Frag)(cA:Cl)(g:TG)(fV:List Nat):Prop where
 run:∀(U:Ph) (H:Hp) (s:S) (Z:L2.St) (J J':Vs) (d:D) (v:V) (Q:L2.St->Hp->Prop),bx K cA U H Z J->aG K cA U H s->Rep K cA U H d v->jY fV d J=some J'->
  (∀Z',bx K cA U H Z' J'->Z'.length=Z.length->(∀i,i∉fV->Z'[i]?=Z[i]?)->Q Z' H)->g v Z H Q
theorem xW{K:W.Frag}(i:Nat):q_ K cA (d9 i) [i] where
 run:=λU H s Z J J' d v Q hL hS r e k=>by
  cases e;exact k _ (hL.set (.d r)) (oH ..) λj hj=>rH (by simpa using λz=>hj (by simp[z]))
theorem Sw{K:W.Frag}(i j:Nat):q_ K cA (tu K 2 (gM (d9 i) (gM (d9 j) sZ))) [i,j] where
 run:=λU H s Z J J' d v Q hL hS r e k=>by
  have e:(lG d).bind (λds=>gw [i,j] (ds.map Xv.d) J)=some J':=e;obtain⟨ds,e1,e2⟩:=wj.mp e;cases r with
  |@tup ad xs vs h1 h2=>
   have e1:xs=ds:=cT e1;subst e1;cases h2 with
   |nil=>cases e2
   |cons r1 t1=>
    cases t1 with
    |nil=>cases e2
    |cons r2 t2=>
     cases t2 with
     |nil=>
      have e2:=cT e2;subst e2;refine⟨ad,_,rfl,h1.jm,rfl,_,_,rfl,_,_,rfl,rfl,k _ ((hL.set (.d r1)).set (.d r2)) (by rw[oH,oH]) λm hm=>?_⟩;rw[rH (λz=>hm (by simp[z])),rH (λz=>hm (by simp[z]))]
     |cons r3 t3=>cases e2
  |_=>cases e1
noncomputable def dH(many:Nat)(fr:List Nat)(Z:L2.St):L2.St:=List.replicate many none++fr.map λj=>(Z[j]?).join
theorem zjc{U:Ph}{H:Hp}{Z:L2.St}{J:Vs}(hL:bx X.K cA U H Z J){Z':L2.St}(hl:Z'.length=many+fr.length)(hf:∀(i:Nat) j v,fr[i]?=some j->Z[j]?=some (some v)->Z'[many+i]?=some (some v)):bx X.K cA U H Z' (blk many fr J):=by
 refine⟨by unfold blk;simp[hl],λi d e=>?_⟩;unfold blk at e;by_cases hi:i<many
 ·rw[pQ (by simpa using hi),KH,if_pos hi] at e;cases e
 ·rw[oE (by simpa using Gn hi),Ge,ju] at e;cases z:fr[i-many]? with
  |none=>rw[z] at e;cases e
  |some j=>
   rw[z] at e;have e3:J[j]?.join=some d:=by simpa using e
   obtain⟨v,q1,q2⟩:=hL.2 j d (RW e3);refine⟨v,?_,q2⟩;have:=hf (i-many) j v z q1;rw[show many+(i-many)=i by omega] at this;exact this
structure iV(U:Ph)(H:Hp)(Dd:Addr)(o:HO):Prop where
 at_:H Dd=some o
 nl:Dd∉U.l
 z:U.z Dd
abbrev Keep(U:Ph)(H:Hp)(Dd:Addr)(vs:List V):Prop:=iV U H Dd (.lst vs)
theorem iV.mono{U U':Ph}{H H':Hp}{Dd:Addr}{o:HO}(x:Ext U H U' H')(k:iV U H Dd o):iV U' H' Dd o:=by
 refine⟨x.frame _ _ k.at_ k.nl,λz=>?_,x.vJ _ k.z⟩;obtain⟨r,er,hr⟩:=x.more;rw[er] at z;rcases gK.mp z with z|z
 ·exact k.nl z
 ·have:=hr _ z;rw[k.at_] at this;cases this
theorem iV.ext{U:Ph}{H:Hp}{Dd:Addr}{o u:HO}(k:iV U H Dd o):(∀a o,H a=some o->¬U.z a->(upd H Dd u) a=some o)/\iV U (upd H Dd u) Dd u:=
 ⟨λa o e n=>by rw[dj (λz=>n (by rw[z];exact k.z))];exact e,kZ,k.nl,k.z⟩
end
section
variable {K:W.Frag}{cA:Cl}{U U':Ph}{H H':Hp}
theorem aG.keep{s:S}{Dd:Addr}{o u:HO}(h:aG K cA U H s)(k:iV U H Dd o):aG K cA U (upd H Dd u) s:=by
 have x:eF U H (upd H Dd u):=k.ext.1;refine⟨h.len,λn o a e1 e2=>?_,h.uniq,h.lz,λa z=>?_⟩
 ·have na:a≠Dd:=λy=>k.nl (by rw[<-y];exact gD e2);exact(h.obj n o a e1 e2).map (λ_ q=>by rw[dj na];exact q) λ_ _ r=>r.out x
 ·by_cases e:a=Dd
  ·subst e;exact⟨_,kZ⟩
  ·obtain⟨o,q⟩:=h.zt a z;exact⟨o,by rw[dj e];exact q⟩
theorem Ext.keep{U1:Ph}{H1:Hp}{Dd:Addr}{vs:List V}{u:HO}(x:Ext U1 H1 U H)(hD:H1 Dd=none):Ext U1 H1 U (upd H Dd u):=by
 refine⟨x.more,x.vJ,x.nO,λa o h n=>?_,λa o h=>?_⟩
 ·rw[dj (λz=>by rw[z,hD] at h;cases h)];exact x.frame a o h n
 ·rw[dj (λz=>by rw[z,hD] at h;cases h)];exact x.stay a o h
theorem zgw{U1:Ph}{H1:Hp}{s':S}{fz:Bool}{acc:List D}{vs:List V}{Dd:Addr}{Q:VK}{Ee:Nat->List D->S->Ph->Hp->Prop}(h:Run K cA (newL fz acc) U1 H1 s' (λd _ U' H'=>∀v,bF K cA U' H' d v->Q v H') Ee)
  (x2:Ext U1 H1 U' H') (hD:H1 Dd=none) (nz:¬U1.z Dd) (aU:aG K cA U' H' s') (k:Keep U' H' Dd vs) (zO:aB K cA U' H' acc vs):Q (.ref Dd) H':=by
 cases fz with
 |true=>
  have zq:∀a,(λa=>U'.z a/\a≠Dd) a->U'.z a:=λa z=>z.1;refine h ⟨λa=>U'.z a/\a≠Dd,U'.l⟩ H' ⟨x2.more,λa z=>⟨x2.vJ a z,λe=>nz (by rw[<-e];exact z)⟩,λa z=>x2.nO a z.1,x2.frame,x2.stay⟩ ?_ _ (.d (.fl (.inl ⟨.inl k.at_,λz=>z.2 rfl⟩) (aB.kJ (U:=U') zq zO)));refine⟨aU.len,λn o a e1 e2=>kE.kJ (U:=U') zq (aU.obj n o a e1 e2),aU.uniq,λa ha=>⟨aU.lz a ha,λe=>k.nl (by rw[<-e];exact ha)⟩,λa z=>aU.zt a z.1⟩
 |false=>
  obtain⟨r,er,hr⟩:=x2.more;refine h ⟨U'.z,U'.l++[Dd]⟩ H' ⟨⟨r++[Dd],by show U'.l++[Dd]=_;rw[er,DW],λb hb=>?_⟩,x2.vJ,x2.nO,x2.frame,x2.stay⟩ ?_ _ (.l (by show (U'.l++[Dd])[s'.length]?=_;rw[<-aU.len];simp))
  ·rcases gK.mp hb with z|z
   ·exact hr b z
   ·simp at z;subst z;exact hD
  ·refine⟨by show (U'.l++[Dd]).length=_;rw[fK,fK,aU.len];rfl,λm o' a' e1 e2=>?_,?_,λb hb=>?_,aU.zt⟩
   ·have e2:(U'.l++[Dd])[m]?=some a':=e2;by_cases hm:m<s'.length
    ·rw[pQ hm] at e1;rw[pQ (by rw[aU.len];exact hm)] at e2;exact kE.zl (aU.obj m o' a' e1 e2) _
    ·have tO:m=s'.length:=by
      have z:=(jt.mp e2).1;rw[fK,aU.len] at z;simp at z;omega
     subst tO;rw[oE (bV _)] at e1;rw[oE (by rw[aU.len];exact bV _)] at e2;simp at e1;simp[aU.len] at e2;subst e1 e2;exact⟨vs,k.at_,aB.zl zO _⟩
   ·show (U'.l++[Dd]).Nodup;rw[K5];refine⟨aU.uniq,by simp,λb hb c hc e=>?_⟩;simp at hc;subst hc e;exact k.nl hb
   ·have hb:b∈U'.l++[Dd]:=hb;rcases gK.mp hb with z|z
    ·exact aU.lz b z
    ·simp at z;subst z;exact k.z
noncomputable def Ph.mark(U:Ph)(p:Addr):Ph:=⟨λa=>U.z a\/a=p,U.l⟩
theorem zeY{s:S}{p:Addr}(hS:aG K cA U H s)(hp:H p=none):Ext U H (U.mark p) (upd H p (.lst []))/\aG K cA (U.mark p) (upd H p (.lst [])) s/\Keep (U.mark p) (upd H p (.lst [])) p []:=by
 have g:=bI.new (o:=.lst []) hp;have nz:=hS.nz hp;refine⟨⟨⟨[],by simp[Ph.mark],by simp⟩,λa z=>.inl z,λa z=>z.imp id λe=>by rw[e];exact hp,λa o h _=>g a o h,λa o h=>⟨o,g a o h⟩⟩,⟨hS.len,λn o a e1 e2=>?_,hS.uniq,λa ha=>.inl (hS.lz a ha),λa z=>?_⟩,kZ,λz=>nz (hS.lz p z),.inr rfl⟩
 ·have x:Ext U H (U.mark p) (upd H p (.lst [])):=⟨⟨[],by simp[Ph.mark],by simp⟩,λa z=>.inl z,λa z=>z.imp id λe=>by rw[e];exact hp,λa o h _=>g a o h,λa o h=>⟨o,g a o h⟩⟩;exact(hS.obj n o a e1 e2).map (g _) λ_ _ r=>r.mono x hS.lz
 ·rcases z with z|z
  ·obtain⟨o,e⟩:=hS.zt a z;exact⟨o,g _ _ e⟩
  ·subst z;exact⟨_,kZ⟩
end
section
variable {X:Cx}{cA:Cl}{ao:Nat->Nat->Bool}{aj:Bool}{F:Fn}{EX:XS}{elt iter tg:Expr}{A B:E}{pos p:Pos}{ifs:List Expr}{scope:Scope}{N:List Str}{cond:Eo}{fr fV:List Nat}{many:Nat}{fz:Bool}{w:Wk}
noncomputable abbrev f9(ao:Nat->Nat->Bool)(aj:Bool)(F:Fn)(B:E)(cond:Eo)(fV:List Nat)(Jb:Vs):D->List D->M (List D):=λd acc=>M.bd (M.opt (jY fV d Jb)) λJ'=>M.bd (M.qt (uo ao aj F cond J')) λok=>
    if ok=true then M.bd (M.qt (ev ao aj F B J')) λy=>M.bd (dat y) λe=>if acc.length<sizeLine then M.ret (acc++[e]) else M.no else M.ret acc
theorem Zc{H:Hp}{a:Addr}{o:HO}(h:H a=some o):upd H a o=H:=funext λb=>by
 by_cases z:b=a
 ·subst z;rw[kZ,h]
 ·rw[dj z]
theorem zg4{K:W.Frag}{g:TG}{U1 U':Ph}{H1 H2:Hp}{s':S}{Z':L2.St}{Jb:Vs}{Dd:Addr}{acc:List D}{vs:List V}{xi:D}{v:V}{β:Type}{kk:List D->M β}{P:β->S->Ph->Hp->Prop}{Ee:Nat->List D->S->Ph->Hp->Prop}(hT:q_ K cA g fV)(jA:∀i∈fV,i<many)
  (hD:H1 Dd=none) (x2:Ext U1 H1 U' H2) (hL2:bx K cA U' H2 Z' Jb) (aU:aG K cA U' H2 s') (kp:Keep U' H2 Dd vs) (zO:aB K cA U' H2 acc vs) (rx:Rep K cA U' H2 xi v)
  (h:Run K cA (M.bd (f9 ao aj F B cond fV Jb xi acc) kk) U1 H1 s' P Ee) {Nn:L2.St->Hp->Prop}
  (hN:∀Z3 H3 U3 s3 xX MJ,Z3.length=Z'.length->(∀i,many<=i->Z3[i]?=Z'[i]?)->Ext U1 H1 U3 H3->Ext U' H2 U3 (upd H3 Dd (.lst vs))->aG K cA U3 H3 s3->Keep U3 H3 Dd MJ->aB K cA U3 H3 xX MJ->Run K cA (kk xX) U1 H1 s3 P Ee->Nn Z3 H3) :
  g v Z' H2 λZ3 H3=>zK K cA (λ_ _ _ _=>False) (uo ao aj F cond) Z3 H3 λok H4=>
   if ok=true then tE K cA (λ_ _ _ _=>False) (ev ao aj F B) Z3 H4 λy H5=>∃ys,H5 Dd=some (.lst ys)/\ys.length<sizeLine/\Nn Z3 (upd H5 Dd (.lst (ys++[y]))) else Nn Z3 H4:=by
 unfold f9 at h;rw[iH] at h;obtain⟨J',e1,h1⟩:=Yx h;refine hT.run U' H2 s' Z' Jb J' xi v _ hL2 aU rx e1 λZ3 qZ Zd hf3=>?_;rw[iH] at h1;have kf:∀i,many<=i->Z3[i]?=Z'[i]?:=λi hi=>hf3 i λz=>absurd (jA i z) (Gv.mpr hi);refine⟨U',J',s',qZ,aU,(Zb x2 h1).imp λok s4 U4 H4 ⟨x4,jz,h6⟩=>?_⟩;cases ok with
 |false=>
  refine iF (hN Z3 H4 U4 s4 acc vs Zd kf (x2.trans x4) (by rw[Zc (kp.mono x4).at_];exact x4) jz (kp.mono x4) (zO.mono x4 aU.lz) ?_);rw[if_neg UJ] at h6;exact h6
 |true=>
  rw[if_pos rfl,iH] at h6;refine iT ⟨U4,J',s4,qZ.mono x4 aU.lz,jz,(Zb (x2.trans x4) h6).imp λy s5 U5 H5 ⟨x5,uq,h7⟩ u ru=>?_⟩;rw[iH] at h7;have k5:=(kp.mono x4).mono x5;have r5:=(zO.mono x4 aU.lz).mono x5 jz.lz;have x15:=(x2.trans x4).trans x5;obtain⟨dd,ey,rd,h8⟩ : ∃d,y=.d d/\Rep K cA U5 H5 d u/\Run K cA (M.bd (if acc.length<sizeLine then M.ret (acc++[d]) else M.no) kk) U1 H1 s5 P Ee:=by
   cases ru with
   |l _=>exact h7.elim
   |d r=>exact⟨_,rfl,r,h7⟩
  by_cases hz:acc.length<sizeLine
  ·rw[if_pos hz] at h8;refine⟨vs,k5.at_,by rw[<-r5.len];exact hz,?_⟩;have ox:eF U5 H5 (upd H5 Dd (.lst (vs++[u]))):=k5.ext.1;exact hN Z3 _ U5 s5 (acc++[dd]) (vs++[u]) Zd kf (Ext.keep (vs:=vs) x15 hD) (by rw[WX,Zc k5.at_];exact x4.trans x5) (uq.keep k5) k5.ext.2 ((r5.app (.cons rd .nil)).out ox) h8
  ·rw[if_neg hz] at h8;exact h8.elim
theorem zf6{g:TG}{iter':Expr}(hT:q_ X.K cA g fV)(jA:∀i∈fV,i<many){Z:L2.St}{H:Hp}{Q:VK}(hh:tE X.K cA EX (ev ao aj F (.comp fz B fV w fr many cond)) Z H Q) :
  zc (tI X.K cA EX (ou ao aj F w)) (dH many fr) g (zK X.K cA (λ_ _ _ _=>False) (uo ao aj F cond)) (tE X.K cA (λ_ _ _ _=>False) (ev ao aj F B)) Z H Q:=un hh λU J s hL hS h=>by
 by_cases bR:aj=true
 ·have h:Run X.K cA (if aj=true then M.bd (ou ao aj F w J) λcn=>M.bd (walk cn.1 (f9 ao aj F B cond fV (blk many fr J)) (cn.2+1) 0 []) λxs=>newL fz xs else M.no) U H s (λd _ U' H'=>∀v,bF X.K cA U' H' d v->Q v H') (eX X.K cA EX Z):=h;rw[if_pos bR] at h;refine⟨U,J,s,hL,hS,h.bd.imp λcn s1 U1 H1 ⟨x1,aL,h1⟩ b_ hJ=>?_⟩;have hL1:=hL.mono x1 hS.lz;obtain⟨c,n⟩:=cn;dsimp only at h1 hJ;intro Dd hD;obtain⟨x0,Sx,k0⟩:=zeY aL hD;have Sy:∀{Z':L2.St},(Z'.length=many+fr.length/\∀i,many<=i->Z'[i]?=(dH many fr Z)[i]?)->∀{U' H'},Ext U1 H1 U' H'->bx X.K cA U' H' Z' (blk many fr J):=λ{Z'} hZ {U' H'} x=>zjc (hL1.mono x aL.lz) hZ.1 λi j v e1 e2=>by
   rw[hZ.2 _ (by omega)];unfold dH;rw[oE Zaa,Ge,ju,show many+i-many=i by omega,e1];simp[e2]
  refine⟨λi m Z' H'=>m=n+1-i/\(Z'.length=many+fr.length/\∀i,many<=i->Z'[i]?=(dH many fr Z)[i]?)/\∃U' s' acc vs,Ext U1 H1 U' H'/\aG X.K cA U' H' s'/\Keep U' H' Dd vs/\aB X.K cA U' H' acc vs /\
   Run X.K cA (M.bd (walk c (f9 ao aj F B cond fV (blk many fr J)) (n+1-i) i acc) λxs=>newL fz xs) U1 H1 s' (λd _ U' H'=>∀v,bF X.K cA U' H' d v->Q v H') (eX X.K cA EX Z),⟨n+1,rfl,⟨by simp[dH],λi _=>rfl⟩,U1.mark Dd,s1,[],[],x0,Sx,k0,.nil,h1⟩,?_⟩
  rintro i m Z' H' ⟨rfl,hZ,U',s',acc,vs,x2,aU,kp,zO,h3⟩;have hL2:=Sy hZ x2;cases ek:n+1-i with
  |zero=>rw[ek] at h3;exact h3.elim
  |succ k=>
   rw[ek] at h3;cases ei:c.at i s' with
   |none=>
    exfalso
    unfold Run M.bd walk at h3;simp only[ei] at h3
   |some oi=>
    cases oi with
    |none=>
     refine .inl ⟨hJ.stop U' H' H' s' i x2 eF.refl aU ei,?_⟩;have h4:Run X.K cA (newL fz acc) U1 H1 s' (λd _ U' H'=>∀v,bF X.K cA U' H' d v->Q v H') (eX X.K cA EX Z):=by
      unfold Run M.bd walk at h3;simp only[ei] at h3;exact h3
     exact zgw h4 x2 hD (aL.nz hD) aU kp zO
    |some xi=>
     refine .inr ⟨hJ.go U' H' H' s' i xi x2 eF.refl aU ei,λZ2 H2=>(Z2.length=many+fr.length/\∀i,many<=i->Z2[i]?=(dH many fr Z)[i]?)/\∃U' s' acc vs,Ext U1 H1 U' H2/\aG X.K cA U' H2 s'/\Keep U' H2 Dd vs/\aB X.K cA U' H2 acc vs /\
      Run X.K cA (M.bd (walk c (f9 ao aj F B cond fV (blk many fr J)) k (i+1) acc) λxs=>newL fz xs) U1 H1 s' (λd _ U' H'=>∀v,bF X.K cA U' H' d v->Q v H') (eX X.K cA EX Z),λZ2 H2 hn=>⟨k,by omega,by omega,hn.1,?_⟩,λv H2 hy=>?_⟩
     ·have:n+1-(i+1)=k:=by omega
      rw[this];exact hn.2
     ·obtain⟨gr,rx⟩:=hJ.Az U' H' H' s' i xi v H2 x2 eF.refl aU ei hy;have h4:Run X.K cA (M.bd (f9 ao aj F B cond fV (blk many fr J) xi acc) λacc'=>M.bd (walk c (f9 ao aj F B cond fV (blk many fr J)) k (i+1) acc') λxs=>newL fz xs) U1 H1 s' (λd _ U' H'=>∀v,bF X.K cA U' H' d v->Q v H') (eX X.K cA EX Z):=by
       have h5:=zkd (m':=M.bd (f9 ao aj F B cond fV (blk many fr J) xi acc) λacc'=>walk c (f9 ao aj F B cond fV (blk many fr J)) k (i+1) acc') (by rw[walk];simp only[ei]) h3;rw[iH] at h5;exact h5
      exact zg4 hT jA hD (x2.trans gr.ext) (hL2.mono gr.ext aU.lz) (aU.grow gr) (kp.mono gr.ext) (zO.mono gr.ext aU.lz) rx h4 λZ3 H3 U3 s3 xX MJ l3 f3 x3 _ iI k3 r3 h6=>⟨⟨l3.trans hZ.1,λi hi=>(f3 i hi).trans (hZ.2 i hi)⟩,U3,s3,xX,MJ,x3,iI,k3,r3,h6⟩
 ·have h:Run X.K cA (if aj=true then M.bd (ou ao aj F w J) λcn=>M.bd (walk cn.1 (f9 ao aj F B cond fV (blk many fr J)) (cn.2+1) 0 []) λxs=>newL fz xs else M.no) U H s (λd _ U' H'=>∀v,bF X.K cA U' H' d v->Q v H') (eX X.K cA EX Z):=h;rw[if_neg bR] at h;exact h.elim
theorem zhd{XN:List Str}(hfr:∀(i:Nat) (y:Str) (j:Nat),N[many+i]?=some y->fr[i]?=some j->scope.names.lookup y=some .free/\XN[j]?=some y)(Z:L2.St)(i:Nat)(x:Str)(v:V)(e1:N[i]?=some x)(e2:(dH many fr Z)[i]?=some (some v)):scope.names.lookup x=some .free/\∃j:Nat,XN[j]?=some x/\Z[j]?=some (some v):=by
 unfold dH at e2;by_cases hi:i<many
 ·rw[pQ (by simpa using hi),KH,if_pos hi] at e2;cases e2
 ·rw[oE (by simpa using Gn hi),Ge,ju] at e2;cases z:fr[i-many]? with
  |none=>rw[z] at e2;cases e2
  |some j=>
   rw[z] at e2;have e3:(Z[j]?).join=some v:=by simpa using e2
   obtain⟨a1,a2⟩:=hfr (i-many) x j (by rw[show many+(i-many)=i by omega];exact e1) z;exact⟨a1,j,a2,RW e3⟩
theorem zjL{g:TG}(hc:X.aj=true)(B':iR X.env.scope scope)(hi:SI X cA ao aj F EX tg iter w)(hN:N.length=many+fr.length)
  (hfr:∀(i:Nat) (y:Str) (j:Nat),N[many+i]?=some y->fr[i]?=some j->scope.names.lookup y=some .free/\X.N[j]?=some y)
  (hg:∀cl C s3 H3 fp ak,PG (X.blk scope cl N C s3 H3 fp ak) tg g) (hT:q_ X.K cA g fV) (jA:∀i∈fV,i<many)
  (ht:∀cl C s3 H3 fp ak,MF (X.blk scope cl N C s3 H3 fp ak) cA ao aj F (λ_ _ _ _=>False) ifs cond) (he:∀cl C s3 H3 fp ak,SE (X.blk scope cl N C s3 H3 fp ak) cA ao aj F (λ_ _ _ _=>False) elt B)
  (hs:∀x,foldedSetIterable iter X.env x=pure x:=by intro _;rfl):SE X cA ao aj F EX (.ListComp elt [⟨tg,iter,ifs,0⟩] scope pos) (.comp fz B fV w fr many cond):=
 PE.weak (zi1 hc B' hi (⟨hg,ht,he⟩ : Parts X elt tg ifs scope N g (zK X.K cA (λ_ _ _ _=>False) (uo ao aj F cond)) (tE X.K cA (λ_ _ _ _=>False) (ev ao aj F B))) (ZY:=dH many fr) (λZ=>by simp[dH,hN]) (λZ i x v e1 e2=>zhd hfr Z i x v e1 e2) hs) λZ H Q hh=>zf6 (iter':=iter) hT jA hh
end
section
variable (K:W.Frag)(cA:Cl)
def aN(m:MS)(U:Ph)(H:Hp)(s:S)(D:Ends)(EX:XS):Prop:=match m s with
 |some (.nx J,s')=>∀U' H' Z',Ext U H U' H'->aG K cA U' H' s'->bx K cA U' H' Z' J->D.nx Z' H'
 |some (.bk J,s')=>∀U' H' Z',Ext U H U' H'->aG K cA U' H' s'->bx K cA U' H' Z' J->D.bk Z' H'
 |some (.ct J,s')=>∀U' H' Z',Ext U H U' H'->aG K cA U' H' s'->bx K cA U' H' Z' J->D.ct Z' H'
 |some (.rt d,s')=>∀U' H' v,Ext U H U' H'->aG K cA U' H' s'->bF K cA U' H' d v->D.rt v H'
 |some (.er c fs J,s')=>∀U' H' Z',Ext U H U' H'->aG K cA U' H' s'->bx K cA U' H' Z' J->∀dx,jZ K cA U' H' c fs dx->EX Z' (.ref (cA.a c)) dx H'
 |none=>False
noncomputable def tS(EX:XS)(m:Vs->MS):TS:=λD Z H=>∃U J s,bx K cA U H Z J/\aG K cA U H s/\aN K cA (m J) U H s D EX
end
section
variable {K:W.Frag}{cA:Cl}{U U':Ph}{H H':Hp}{s:S}{Z:L2.St}{J:Vs}{EX:XS}{D:Ends}
theorem aN.ext{m:MS}(x:Ext U H U' H')(h:aN K cA m U H s D EX):aN K cA m U' H' s D EX:=by
 unfold aN at *;split at h<;>first
  |exact λU2 H2 a y r l=>h U2 H2 a (x.trans y) r l
  |exact h.elim
theorem aN.ofM{α:Type}{m:M α}{k:α->MS}(hL:bx K cA U H Z J)(hz:∀a∈U.l,U.z a)(h:aN K cA (ofM m J k) U H s D EX):Run K cA m U H s (λa s1 U1 H1=>Ext U H U1 H1/\aG K cA U1 H1 s1/\aN K cA (k a) U1 H1 s1 D EX) (eX K cA EX Z):=by
 unfold aN Mi.ofM at h;unfold Run;cases e:m s with
 |none=>rw[e] at h;exact h
 |some r=>
  obtain⟨r,s1⟩:=r;rw[e] at h;cases r with
  |er c fs=>exact λU1 H1 x r=>h U1 H1 Z x r (hL.mono x hz)
  |ok a=>
   intro U1 H1 x r;refine⟨x,r,?_⟩;have h2:aN K cA (k a) U H s1 D EX:=h;exact h2.ext x
theorem aN.then_(h:aN K cA (cF m k) U H s D EX):aN K cA m U H s {D with nx:=λZ' H'=>∃U' J' s',bx K cA U' H' Z' J'/\aG K cA U' H' s'/\aN K cA (k J') U' H' s' D EX} EX:=by
 unfold aN cF at h;unfold aN;cases e:m s with
 |none=>rw[e] at h;exact h
 |some r=>
  obtain⟨r,s1⟩:=r;rw[e] at h;cases r with
  |nx J=>
   intro U1 H1 Z1 x r l;have h2:aN K cA (k J) U H s1 D EX:=h;exact⟨U1,J,s1,l,r,h2.ext x⟩
  |bk J=>exact h
  |ct J=>exact h
  |rt d=>exact h
  |er c fs J=>exact h
end
section
variable (X:Cx)(cA:Cl)(ao:Nat->Nat->Bool)(aj:Bool)(F:Bool->Fn)(EX:XS)
def SS(st:Stmt)(m:St):Prop:=PS X st (tS X.K cA EX (ex ao aj F m))
def uH(st:List Stmt)(m:bH):Prop:=oO X st (tS X.K cA EX (exs ao aj F m))
end
section
variable {X:Cx}{cA:Cl}{ao:Nat->Nat->Bool}{aj:Bool}{F:Bool->Fn}{EX:XS}{a b c d e:Expr}{A B C:E}{pos p p2:Pos}{st:Stmt}{sts body orelse:List Stmt}{m:St}{ms mb me mh:bH}{es:List Expr}{Xs:Es}{x y n:Str}{i j:Nat}
theorem PS.weak{t t':TS}(h:PS X st t)(f:∀D Z H,t' D Z H->t D Z H):PS X st t':=λak s Z H D I q=>h ak s Z H D I (f D Z H q)
theorem oO.weak{t t':TS}(h:oO X sts t)(f:∀D Z H,t' D Z H->t D Z H):oO X sts t':=λak s Z H D I q=>h ak s Z H D I (f D Z H q)
theorem zmO:SS X cA ao aj F EX st .no:=λ_ _ _ _ _ _ ⟨_,_,_,_,_,h⟩=>h.elim
theorem zjB:uH X cA ao aj F EX [] .nil:=oO.weak ziM λD Z H hh=>un hh λU J s hL hS h=>h U H Z Ext.refl hS hL
theorem zhj(h1:SS X cA ao aj F EX st m)(h2:uH X cA ao aj F EX sts ms):uH X cA ao aj F EX (st::sts) (.cons m ms):=oO.weak (zhU h1 h2) λD Z H hh=>un hh λU J s hL hS h=>by
 have h:aN X.K cA (cF (ex ao aj F m J) λJ'=>exs ao aj F ms J') U H s D EX:=h;exact⟨U,J,s,hL,hS,h.then_⟩
theorem zm9(ha:SE X cA ao aj (F aj) EX a A)(hs:swapsWith a none pos.line X.env=pure false:=by rfl):SS X cA ao aj F EX (.Expr a pos) (.ex A):=PS.weak (zjF ha hs) λD Z H hh=>un hh λU J s hL hS h=>
 ⟨U,J,s,hL,hS,(aN.ofM hL hS.lz h).imp λd s1 U1 H1 ⟨x1,aL,h1⟩ v rv=>h1 U1 H1 Z Ext.refl aL (hL.mono x1 hS.lz)⟩
theorem zlP(ha:SE X cA ao aj (F aj) EX a A):SS X cA ao aj F EX (.Return (some a) pos) (.ret A):=PS.weak (zkJ ha) λD Z H hh=>un hh λU J s hL hS h=>
 ⟨U,J,s,hL,hS,(aN.ofM hL hS.lz h).imp λd s1 U1 H1 ⟨x1,aL,h1⟩ v rv=>h1 U1 H1 v Ext.refl aL rv⟩
theorem zkF(hN:X.N.Nodup)(hi:X.N[i]?=some x)(hx:Loc X.env.scope x)(ha:SE X cA ao aj (F aj) EX a A)(hs:swapsWith a (some (.Name x p)) pos.line X.env=pure false:=by rfl)(hf:X.fn x=true\/X.env.scope.names.lookup x=some .local:=by first|exact .inl rfl|exact .inr rfl) :
  SS X cA ao aj F EX (.Assign [.Name x p] a pos) (.asg (.nm i) A):=PS.weak (zlR hN hi hx ha hs hf) λD Z H hh=>un hh λU J s hL hS h=>
 ⟨U,J,s,hL,hS,(aN.ofM hL hS.lz h).imp λd s1 U1 H1 ⟨x1,aL,h1⟩ v rv=>h1 U1 H1 _ Ext.refl aL ((hL.mono x1 hS.lz).set rv)⟩
theorem SJ{k}(hc:X.aj=true)(hN:X.N.Nodup)(hi:X.N[i]?=some x)(hj:X.N[j]?=some y)(hx:Loc X.env.scope x)(hy:Loc X.env.scope y)(xY:X.fn x=true\/X.env.scope.names.lookup x=some .local)(xZ:X.fn y=true\/X.env.scope.names.lookup y=some .local) :
  PG X (.Tuple [.Name x px,.Name y py] k pos) (tu X.K 2 (gM (d9 i) (gM (d9 j) sZ))):=zlN hc (W8 (Ly hN hi hx xY) (W8 (Ly hN hj hy xZ) zi0))
theorem Ze{K:W.Frag}{U:Ph}{H:Hp}{s:S}{J:Vs}{Z:L2.St}{D:Ends}{d:Xv}{v:V}(bR:aj=true)(hL:bx K cA U H Z J)(hS:aG K cA U H s)(rv:bF K cA U H d v)(h:aN K cA (store ao aj (F aj) (.tp [i,j]) d J) U H s D EX):tu K 2 (gM (d9 i) (gM (d9 j) sZ)) v Z H D.nx:=by
 have h:aN K cA (if aj=true then ofM (M.bd (dat d) λd=>M.opt ((lG d).bind λds=>gw [i,j] (ds.map Xv.d) J)) J (λJ' s=>some (Out.nx J',s)) else λ_=>none) U H s D EX:=h;rw[if_pos bR] at h;obtain⟨dd,e0,rd,h1⟩:=Yy rv (aN.ofM hL hS.lz h);obtain⟨J',e,_,aL,h2⟩:=Run.opt hS h1;refine(Sw i j).run U H s Z J J' dd v _ hL hS rd e λZ' hL' _ _=>h2 U H Z' Ext.refl hS hL'
theorem ziY{k}(hc:X.aj=true)(bR:aj=true)(hN:X.N.Nodup)(hi:X.N[i]?=some x)(hj:X.N[j]?=some y)(hx:Loc X.env.scope x)(hy:Loc X.env.scope y)(xY:X.fn x=true\/X.env.scope.names.lookup x=some .local)(xZ:X.fn y=true\/X.env.scope.names.lookup y=some .local)(ha:SE X cA ao aj (F aj) EX a A)
  (hs:swapsWithSole [.Tuple [.Name x px,.Name y py] k pt] a pos.line X.env=pure false:=by rfl) (hw:swappedStores [.Tuple [.Name x px,.Name y py] k pt] a X.env=pure none:=by rfl)
  (h1:(assignEach [.Tuple [.Name x px,.Name y py] k pt] X.env).map (·.2)=[assign (.Tuple [.Name x px,.Name y py] k pt) X.env]:=by rfl) :
  SS X cA ao aj F EX (.Assign [.Tuple [.Name x px,.Name y py] k pt] a pos) (.asg (.tp [i,j]) A):=PS.weak (W9 ha (SJ hc hN hi hj hx hy xY xZ) hs hw h1) λD Z H hh=>un hh λU J s hL hS h=>
 ⟨U,J,s,hL,hS,(aN.ofM hL hS.lz h).imp λd s1 U1 H1 ⟨x1,aL,h1⟩ v rv=>Ze bR (hL.mono x1 hS.lz) aL rv h1⟩
theorem zkw(hO:SE X cA ao aj (F aj) EX oo O)(hI:SE X cA ao aj (F aj) EX ii I')(ha:SE X cA ao aj (F aj) EX a A)
  (B_:∀v,assign (.Subscript oo ii p) X.env v=(do
   let ov <-holding [v] (eval oo X.env)
   let iv <-holding [v,ov] (eval ii X.env)
   standAt p
   holding [v,ov,iv] (setItem ov iv v)
   release [v,ov,iv] []):=by intro _;rfl) (hs:swapsWithSole [.Subscript oo ii p] a pos.line X.env=pure false:=by rfl) (hw:swappedStores [.Subscript oo ii p] a X.env=pure none:=by rfl)
  (h1:(assignEach [.Subscript oo ii p] X.env).map (·.2)=[assign (.Subscript oo ii p) X.env]:=by rfl) :
  SS X cA ao aj F EX (.Assign [.Subscript oo ii p] a pos) (.asg (.ao O I') A):=PS.weak (W9 ha (zly hO hI zgZ B_) hs hw h1) λD Z H hh=>un hh λU J s hL hS h=>by
 refine⟨U,J,s,hL,hS,(aN.ofM hL hS.lz h).imp λd s1 U1 H1 ⟨x1,aL,h1⟩ v rv=>?_⟩;obtain⟨dd,e0,rd,h2⟩:=Yy rv (aN.ofM (hL.mono x1 hS.lz) aL.lz h1);refine bf (hL.mono x1 hS.lz) aL h2 λxo H2 U2 d2 s2 x2 hL2 aU r2 h3=>bf hL2 aU h3 λyi H3 U3 d3 s3 x3 qZ iI r3 h4=>?_;obtain⟨k,_,ek,h5⟩:=Jh r3 h4;obtain⟨n,ad,xs,vs,_,ea,e1,f1,g1,q1,h6⟩:=zfU iI (r2.mono x3 aU.lz) h5;subst ek ea;cases ej:L2.wW xs.length k with
 |none=>simp only[ej] at h6;exact h6.elim
 |some jj=>
  simp only[ej] at h6;refine⟨ad,vs,k,jj,rfl,rfl,g1,by rw[<-q1.len];exact ej,?_⟩;have rv3:=(rd.mono x2 aL.lz).mono x3 aU.lz;have jz:=iI.write e1 f1 (q1.set rv3 jj);have x4:Ext U3 H3 U3 (upd H3 ad (.lst (vs.set jj v))):=Ext.write f1 ⟨_,g1⟩;obtain⟨_,_,h8⟩:=h6 U3 _ x4 jz;exact h8 U3 _ Z Ext.refl jz (qZ.mono x4 iI.lz)
theorem zl4{kt k2 tD}(hc:X.aj=true)(bR:aj=true)(hN:X.N.Nodup)(hi:X.N[i]?=some x)(hj:X.N[j]?=some y)(lD:i≠j)(hx:X.env.scope.names.lookup x=some .local)(hy:X.env.scope.names.lookup y=some .local)
  (ha:SE X cA ao aj (F aj) EX a A) (hb:SE X cA ao aj (F aj) EX b B) (h1:starEach [a,b] X.env=(false,eval a X.env)::starEach [b] X.env) (h2:starEach [b] X.env=(false,eval b X.env)::starEach [] X.env)
  (hw:swappedStores [.Tuple [.Name x px,.Name y py] kt pt] (.Tuple [a,b] k2 tD) X.env=pure (some [x,y]))
  (hs:swapsWithSole [.Tuple [.Name x px,.Name y py] kt pt] (.Tuple [a,b] k2 tD) pos.line X.env=pure false:=by rfl) :
  SS X cA ao aj F EX (.Assign [.Tuple [.Name x px,.Name y py] kt pt] (.Tuple [a,b] k2 tD) pos) (.par i j A B):=PS.weak (zlD hc hN hi hj lD hx hy (vC ha (vC hb Et h2) h1) hw hs) λD Z H hh=>un hh λU J s hL hS h=>by
 have h:aN X.K cA (if aj=true then ofM (M.bd (ev ao aj (F aj) A J) λx=>M.bd (ev ao aj (F aj) B J) λy=>M.ret (x,y)) J (λxy s=>some (.nx ((J.set i (some xy.1)).set j (some xy.2)),s)) else λ_=>none) U H s D EX:=h;rw[if_pos bR] at h;refine bf hL hS (aN.ofM hL hS.lz h) λx H1 U1 d1 s1 x1 hL1 aL r1 h1=>bf hL1 aL h1 λy H2 U2 d2 s2 x2 hL2 aU r2 h2=>?_;obtain⟨_,_,h3⟩:=h2.bB aU;exact⟨x,y,rfl,h3 U2 H2 _ Ext.refl aU ((hL2.set (r1.mono x2 aL.lz)).set r2)⟩
theorem znf(hc:ST X cA ao aj (F aj) EX c C)(ht:uH X cA ao aj F EX body mb)(he:uH X cA ao aj F EX orelse me):SS X cA ao aj F EX (.If c body orelse pos) (.iff C mb me):=PS.weak (zmW hc ht he) λD Z H hh=>un hh λU J s hL hS h=>by
 refine⟨U,J,s,hL,hS,(aN.ofM hL hS.lz h).imp λk s1 U1 H1 ⟨x1,aL,h1⟩=>?_⟩;cases k with
 |true=>exact iT ⟨U1,J,s1,hL.mono x1 hS.lz,aL,h1⟩
 |false=>exact iF ⟨U1,J,s1,hL.mono x1 hS.lz,aL,h1⟩
theorem zhL{cc:Nat}{B' Bn newId nid initId inN:String}{bmB bmN:List Value}{apos:Pos}(hf:cA.f cc=[])(Fn':ExcBaseFacts Bn newId inN bmN)(vG:bmB.contains (.type Bn)=true)(FB:ExcBaseFacts B' nid initId bmB)(hc:X.aj=true)(bR:aj=true)(hX:PySem.W.excIn X.K (cA.a cc) bmB newId=true)(hg:Gl X x)(hm:X.mg x=some (.ref (cA.a cc)))
  (R:Raises X EX) (ha:SA X cA ao aj (F aj) EX (e::es) Xs) (hz:Es.len Xs<=sizeLine) (jP:(x==("__debug__" : Str))=false:=by decide) (he:starEach (e::es) X.env=(false,eval e X.env)::starEach es X.env:=by rfl) (bG:(backTo apos (starEach es X.env)).any (·.1)=false:=by rfl) :
  SS X cA ao aj F EX (.Raise (some (.Call (.Name x p) (e::es) [] apos)) none pos) (.rise cc false Xs):=PS.weak (zhC Fn' vG FB hc hX hg hm R ha jP he bG) λD Z H hh=>un hh λU J s hL hS h=>by
 have h:aN X.K cA (if aj=true then ofM (M.bd (evs ao aj (F aj) Xs J) dF) J (λds s=>some (.er cc (if false=true then ds else []) J,s)) else λ_=>none) U H s D EX:=h;rw[if_pos bR] at h;refine xR hL hS (aN.ofM hL hS.lz h) λvs H1 U1 xs s1 hl x1 hL1 aL rv h1=>?_;have h1:Run X.K cA (M.bd (dF xs) M.ret) U1 H1 s1 (λa s1 U1 H1=>Ext U H U1 H1/\aG X.K cA U1 H1 s1/\aN X.K cA (λs=>some (.er cc (if false=true then a else []) J,s)) U1 H1 s1 D EX) (eX X.K cA EX Z):=by
  unfold Run at h1 ⊢;unfold M.bd;cases e1:dF xs s1 with
  |none=>rw[e1] at h1;exact h1
  |some r=>
   obtain⟨r,s2⟩:=r;rw[e1] at h1;cases r with
   |er c f=>exact h1
   |ok ds=>exact h1
 obtain⟨ds,e1,rs,h2⟩:=Mv rv h1;obtain⟨_,_,h3⟩:=h2.bB aL;exact⟨by rw[<-rv.len,hl];exact hz,h3 U1 H1 Z Ext.refl aL hL1 none (.inl ⟨hf,rfl,rfl⟩)⟩
noncomputable def qu(m:MS)(kN:Vs->MS):MS:=λs=>match m s with
 |some (.nx J',s')=>kN J' s'
 |some (.ct J',s')=>kN J' s'
 |some (.bk J',s')=>some (.nx J',s')
 |r=>r
theorem Kae{K:W.Frag}{U:Ph}{H:Hp}{s:S}{D:Ends}{m:MS}{kN:Vs->MS}{N:L2.St->Hp->Prop}(hN:∀U' J' s' Z' H',Ext U H U' H'->bx K cA U' H' Z' J'->aG K cA U' H' s'->aN K cA (kN J') U' H' s' D EX->N Z' H')(h:aN K cA (qu m kN) U H s D EX) :
  aN K cA m U H s {D with nx:=N,ct:=N,bk:=D.nx} EX:=by
 unfold aN qu at h;unfold aN;cases e:m s with
 |none=>rw[e] at h;exact h
 |some r=>
  obtain⟨r,s1⟩:=r;rw[e] at h;cases r with
  |nx J'=>
   intro U1 H1 Z1 x r l;have h2:aN K cA (kN J') U H s1 D EX:=h;exact hN U1 J' s1 Z1 H1 x l r (h2.ext x)
  |ct J'=>
   intro U1 H1 Z1 x r l;have h2:aN K cA (kN J') U H s1 D EX:=h;exact hN U1 J' s1 Z1 H1 x l r (h2.ext x)
  |bk J'=>exact h
  |rt d=>exact h
  |er c fs J'=>exact h
def SG(X:Cx)(cA:Cl)(ao:Nat->Nat->Bool)(aj:Bool)(F:Bool->Fn)(EX:XS)(tg:Expr)(t:Tg):Prop:=∃g:TG,PG X tg g/\∀(U:Ph) (H:Hp) (s:S) (Z:L2.St) (J:Vs) (d:Xv) (v:V) (D:Ends),bx X.K cA U H Z J->aG X.K cA U H s->bF X.K cA U H d v->
 aN X.K cA (store ao aj (F aj) t d J) U H s D EX->g v Z H D.nx
theorem zj0(hN:X.N.Nodup)(hi:X.N[i]?=some x)(hx:Loc X.env.scope x)(hf:X.fn x=true\/X.env.scope.names.lookup x=some .local:=by first|exact .inl rfl|exact .inr rfl):SG X cA ao aj F EX (.Name x pos) (.nm i):=
 ⟨_,Ly hN hi hx hf,λU H s Z J d v D hL hS r h=>h U H _ Ext.refl hS (hL.set r)⟩
theorem zjC{k}(hc:X.aj=true)(bR:aj=true)(hN:X.N.Nodup)(hi:X.N[i]?=some x)(hj:X.N[j]?=some y)(hx:Loc X.env.scope x)(hy:Loc X.env.scope y)(xY:X.fn x=true\/X.env.scope.names.lookup x=some .local)(xZ:X.fn y=true\/X.env.scope.names.lookup y=some .local) :
  SG X cA ao aj F EX (.Tuple [.Name x px,.Name y py] k pos) (.tp [i,j]):=
 ⟨_,SJ hc hN hi hj hx hy xY xZ,λU H s Z J d v D hL hS r h=>Ze bR hL hS r h⟩
theorem zme(hp:PassesOwn (model X.prog X.w) X.A X.env X.xe)(hc:X.aj=true)(bR:aj=true)(ha:SI X cA ao aj (F aj) EX tg a w)(hg:SG X cA ao aj F EX tg t)(hb:uH X cA ao aj F EX body mb)
  (hs:∀x,foldedSetIterable a X.env x=pure x:=by intro _;rfl):SS X cA ao aj F EX (.For tg a body [] pos) (.fr t w mb):=by
 obtain⟨g,hG,hg⟩:=hg;refine PS.weak (zk6 hp hc ha hG hb hs) λD Z H hh=>un hh λU J s hL hS h=>?_;have h:aN X.K cA (if aj=true then ofM (ou ao aj (F aj) w J) J λcn=>dG cn.1 (λd J=>cF (store ao aj (F aj) t (.d d) J) λJ'=>exs ao aj F mb J') (cn.2+1) 0 J else λ_=>none) U H s D EX:=h;rw[if_pos bR] at h;refine⟨U,J,s,hL,hS,(aN.ofM hL hS.lz h).imp λcn s1 U1 H1 ⟨x1,aL,h1⟩ b_ hJ=>?_⟩;have hL1:=hL.mono x1 hS.lz;obtain⟨c,n⟩:=cn;dsimp only at h1 hJ;refine⟨λi m Z' H'=>∃U' J' s',Ext U1 H1 U' H'/\bx X.K cA U' H' Z' J'/\aG X.K cA U' H' s'/\aN X.K cA (dG c (λd J=>cF (store ao aj (F aj) t (.d d) J) λJ'=>exs ao aj F mb J') m i J') U' H' s' D EX,⟨n+1,U1,J,s1,Ext.refl,hL1,aL,h1⟩,?_⟩;rintro i m Z' H' ⟨U',J',s',x2,hL2,aU,h4⟩;cases m with
 |zero=>exact h4.elim
 |succ m=>
  cases ei:c.at i s' with
  |none=>
   exfalso
   unfold aN dG at h4;simp only[ei] at h4
  |some oi=>
   cases oi with
   |none=>
    refine .inl ⟨hJ.stop U' H' H' s' i x2 eF.refl aU ei,?_⟩;unfold aN dG at h4;simp only[ei] at h4;exact h4 U' H' Z' Ext.refl aU hL2
   |some xi=>
    refine .inr ⟨hJ.go U' H' H' s' i xi x2 eF.refl aU ei,_,λZ3 H3 z=>⟨m,Nat.lt_succ_self m,z⟩,λv H3 hy=>?_⟩;obtain⟨gr,rx⟩:=hJ.Az U' H' H' s' i xi v H3 x2 eF.refl aU ei hy;have h5:aN X.K cA (qu (cF (store ao aj (F aj) t (.d xi) J') λJ'=>exs ao aj F mb J') (dG c (λd J=>cF (store ao aj (F aj) t (.d d) J) λJ'=>exs ao aj F mb J') m (i+1))) U' H' s' D EX:=by
     unfold aN at h4 ⊢;have e:dG c (λd J=>cF (store ao aj (F aj) t (.d d) J) λJ'=>exs ao aj F mb J') (m+1) i J' s'=qu (cF (store ao aj (F aj) t (.d xi) J') λJ'=>exs ao aj F mb J') (dG c (λd J=>cF (store ao aj (F aj) t (.d d) J) λJ'=>exs ao aj F mb J') m (i+1)) s':=by
      rw[dG];simp only[ei];rfl
     rw[e] at h4;exact h4
    exact hg U' H3 s' Z' J' (.d xi) v _ (hL2.mono gr.ext aU.lz) (aU.grow gr) (.d rx) (aN.then_ (Kae (λU4 J4 s4 Z4 H4 x4 l4 r4 q4=>⟨U4,J4,s4,(x2.trans gr.ext).trans x4,l4,r4,q4⟩) (h5.ext gr.ext)))
theorem zmj(bR:aj=true)(hex:X.ex=[])(p7:X.stack=X.env::X.outer/\X.env.frame=some X.env.locals)(hg:Gl X x)(hm:X.mg x=some (.ref (cA.a dc)))(hN:X.N.Nodup)(hi:X.N[i]?=some n)(hl:X.env.scope.names.lookup n=some .local)
  (hsub:∀c,ao c dc=true->subIn X.K (cA.a c) (cA.a dc)=true)
  (hb:∀(pn:List (Addr×Obj)) (E':Value->Shared->Prop) (rQ:XS),Raises (X.seen X.A X.aj pn E') rQ->PassesOwn (model X.prog X.w) X.A X.env E'->uH (X.seen X.A X.aj pn E') cA ao aj F rQ body mb)
  (hh:∀e:Value,uH (X.seen (X.A.mark (some e)) false X.pn (λ_ _=>False)) cA ao false F (λ_ _ _ _=>False) (b₀::suite) mh) (jP:(x==("__debug__" : Str))=false:=by decide) :
  SS X cA ao aj F EX (.Try body [.ExceptHandler (some (.Name x np)) (some n) (b₀::suite) tR] [] [] pos) (.ud mb dc i mh):=by
 refine PS.weak (zle (tb:=λrQ=>tS X.K cA rQ (exs ao aj F mb)) (th:=tS X.K cA (λ_ _ _ _=>False) (exs ao false F mh)) hex p7 hg hm hN hi hl hb hh jP) λD Z H hh=>un hh λU J s hL hS h=>?_;refine⟨U,J,s,hL,hS,?_⟩;have h:aN X.K cA (if aj=true then λs=>match exs ao aj F mb J s with
   |some (.er c fs J',s')=>if ao c dc=true then (match exs ao false F mh (J'.set i (some (.d (.exc c fs)))) s' with
    |some (r,s'')=>(match r with
     |.er _ _ _=>none
     |r=>some (goes i r,s''))
    |none=>none) else none
   |r=>r
  else λ_=>none) U H s D EX:=h
 rw[if_pos bR] at h;unfold aN at h ⊢;cases e:exs ao aj F mb J s with
 |none=>simp only[e] at h
 |some r=>
  obtain⟨r,s1⟩:=r;simp only[e] at h;cases r with
  |nx J'=>exact h
  |ct J'=>exact h
  |bk J'=>exact h
  |rt d=>exact h
  |er c fs J'=>
   intro U1 H1 Z1 x1 r1 l1 dx yZ;by_cases zP:ao c dc=true
   ·simp only[if_pos zP] at h;refine⟨cA.a c,rfl,hsub c zP,λad hn=>?_⟩;have gr:bI H1 (upd H1 ad (iz ad (cA.a c) dx)):=bI.new hn;have xe:Ext U1 H1 U1 (upd H1 ad (iz ad (cA.a c) dx)):=gr.ext;have rx:Rep X.K cA U1 (upd H1 ad (iz ad (cA.a c) dx)) (.exc c fs) (.ref ad):=by
     rcases yZ with ⟨e1,e2,e3⟩|⟨d,vs,e3,nz,hd,hl,rs⟩
     ·subst e2 e3;exact .exc ⟨r1.nz hn,.inl ⟨e1,rfl,kZ⟩⟩ .nil
     ·subst e3;exact .exc ⟨r1.nz hn,.inr ⟨d,kZ,nz,gr _ _ hd,hl⟩⟩ (rs.mono xe r1.lz)
    refine⟨U1,J'.set i (some (.d (.exc c fs))),s1,(l1.mono xe r1.lz).set (.d rx),r1.grow gr,?_⟩;unfold aN;cases e2:exs ao false F mh (J'.set i (some (.d (.exc c fs)))) s1 with
    |none=>rw[e2] at h;exact h
    |some q=>
     obtain⟨q,s2⟩:=q;rw[e2] at h;cases q with
     |er c2 f2 J2=>exact h.elim
     |nx J2=>exact λU2 H2 Z2 x2 r2 l2=>h U2 H2 _ ((x1.trans xe).trans x2) r2 l2.unset
     |bk J2=>exact λU2 H2 Z2 x2 r2 l2=>h U2 H2 _ ((x1.trans xe).trans x2) r2 l2.unset
     |ct J2=>exact λU2 H2 Z2 x2 r2 l2=>h U2 H2 _ ((x1.trans xe).trans x2) r2 l2.unset
     |rt dd=>exact λU2 H2 v x2 r2 rv=>h U2 H2 v ((x1.trans xe).trans x2) r2 rv
   ·simp only[if_neg zP] at h
end
end Mi
namespace L2
open PySem PySem.Spec PyProof.Rows
structure vO(K:W.Frag)(x qual:Str)(st:Stmt)(f:Addr)(fd:FuncData):Prop where
 ex:∃(oc:Value) (od:Option Addr) (kV doc pm:Value) (an:Option Addr) (cdv ct:Value) (osl:Array (Option Value)),
  fd=PySem.W.fnOf x qual (aV st) (aM st) (aA st) .none kV doc pm an cdv ct/\K.lookup f=some ⟨oc,od,.func fd,osl⟩/\PySem.W.codeIn K cdv qual=true
 kp:PySem.W.keepIn K (.ref f)=true
end L2
namespace Mi
open PySem PySem.Spec PyProof.Rows L2
section
variable {P:Program}{w:World}{K:W.Frag}{mg:Str->Option Value}{base:Heap}{cA:Cl}{ao:Nat->Nat->Bool}{T:Nat->Option Df}
theorem zeS{U:Ph}{H:Hp}{N:List Str}{ds:List Xv}{vs:List V}{m p:Nat}(r:bQ K cA U H ds vs)(hp:p=ds.length)(hm:m=N.length):bx K cA U H (L2.start N vs) (ds.map some++List.replicate (m-p) none):=by
 subst hp hm;unfold L2.start;have hl:=r.len;refine⟨by simp[hl],λi d e=>?_⟩;by_cases hi:i<ds.length
 ·rw[pQ (by simpa using hi),ju] at e;cases z:ds[i]? with
  |none=>rw[z] at e;cases e
  |some x=>
   rw[z] at e;cases e;obtain⟨v,a,b⟩:=r.get z;exact⟨v,by rw[pQ (by simp;lia),ju,a];rfl,b⟩
 ·rw[oE (by simpa using hi),KH] at e;split at e<;>cases e
theorem Zf{U:Ph}{H:Hp}{s:S}{ds:List Xv}{k n:Nat}{cm:Bool}{df:Df}{Q:VK}{E:XK}(hT:T n=some df)
  (h:Run K cA (call ao T (k+1) cm n ds) U H s (λd _ U' H'=>∀v,bF K cA U' H' d v->Q v H') (λc fs _ U' H'=>∀dx,jZ K cA U' H' c fs dx->E (.ref (cA.a c)) dx H')) :
  ds.length=df.gY/\aN K cA (exs ao cm (λc=>call ao T k c) df.body (ds.map some++List.replicate (df.many-df.gY) none)) U H s {nx:=λ_ H'=>Q .non H',rt:=Q} (λ_ C dx H'=>E C dx H'):=by
 unfold call at h;simp only[hT] at h;by_cases hl:ds.length=df.gY
 ·refine⟨hl,?_⟩;rw[if_pos hl] at h;unfold Run at h;unfold aN;cases e:exs ao cm (λc=>call ao T k c) df.body (ds.map some++List.replicate (df.many-df.gY) none) s with
  |none=>simp only[e] at h
  |some r=>
   obtain⟨r,s1⟩:=r;simp only[e] at h;cases r with
   |nx J=>exact λU' H' Z' x r l=>h U' H' x r _ (.d .non)
   |rt d=>exact λU' H' v x r rv=>h U' H' x r v rv
   |er c fs J=>exact λU' H' Z' x r l=>h U' H' x r
   |bk J=>exact h.elim
   |ct J=>exact h.elim
 ·rw[if_neg hl] at h;exact h.elim
theorem dX:eE P w K mg base (lq P w) cm 0 f fd ps (uF K cA (call ao T 0 cm n)):=
 ⟨λvs H Q E ⟨_,_,_,_,_,h⟩=>h.elim,λA outer s H args us vs Q E _ _ _ _ _ ⟨_,_,_,_,_,h⟩=>h.elim⟩
theorem zlQ{x qual:Str}{st:Stmt}{f:Addr}{fd:FuncData}{N ps:List Str}{k n:Nat}{cm:Bool}{df:Df}(F:vO K x qual st f fd)(S:fM N ps (aA st))(hT:T n=some df)(hp:df.gY=ps.length)(hm:df.many=N.length)
  (hb:∀(cdv:Value) (A:Around) (outer:List Env) (s:Shared) (H:Hp) (E:XK),bW (k+1) A->
   uH (iy (lq P w) P w K mg base N qual (aA st) f cdv A outer s H E cm) cA ao cm (λc=>call ao T k c) (λ_ C dx H'=>E C dx H') (aM st) df.body) :
  eE P w K mg base (lq P w) cm (k+1) f fd ps (uF K cA (call ao T (k+1) cm n)):=by
 obtain⟨oc,od,kV,doc,pm,an,cdv,ct,osl,rfl,lk,lZ⟩:=F.ex;refine zmC lk lZ S (λvs H Q E ⟨U,ds,s,r,hS,h⟩=>?_) λA outer s H vs Q E hr ⟨U,ds,st',r,hS,h⟩=>?_
 ·rw[<-r.len,(Zf hT h).1,hp]
 ·obtain⟨hl,h2⟩:=Zf hT h;exact⟨_,hb cdv A outer s H E hr,U,_,st',zeS r hl.symm hm,hS,h2⟩
theorem zkL{x qual:Str}{st:Stmt}{f:Addr}{fd:FuncData}{N ps:List Str}{k n:Nat}{cm:Bool}{df:Df}(F:vO K x qual st f fd)(S:fM N ps (aA st))(hT:T n=some df)(hp:df.gY=ps.length)(hm:df.many=N.length)
  (hb:∀(cdv:Value) (A:Around) (outer:List Env) (s:Shared) (H:Hp) (E:XK),bW k (A.deeper (envOfC qual (aA st) s.heap.objs.size f cdv))->
   uH (iy (lq P w) P w K mg base N qual (aA st) f cdv A outer s H E cm) cA ao cm (λc=>call ao T k c) (λ_ C dx H'=>E C dx H') (aM st) df.body) :
  eE P w K mg base (lq P w) cm (k+1) f fd ps (uF K cA (call ao T (k+1) cm n)):=zlQ F S hT hp hm λcdv A outer s H E hr=>hb cdv A outer s H E (hr.deeper _)
end
theorem zlZ{K:W.Frag}{cA:Cl}{m:List Xv->M Xv}{H:Hp}{a:Addr}{ns:List Int}(hq:dw K H a (ns.map V.int))(hm:∃s',m [.d (.fl (ns.map D.int))] []=some (.ok (.d (.bl true)),s')) :
  uF K cA m [.ref a] H (λv _=>v=.bl true) λ_ _ _=>False:=by
 have rs:∀(l:List Int) U,aB K cA U H (l.map D.int) (l.map V.int):=λl U=>by
  induction l with
  |nil=>exact .nil
  |cons i l ih=>exact .cons (.int i) ih
 have hl:LstAt K ⟨λ_=>False,[]⟩ H a (ns.map V.int):=by
  rcases hq with h|h
  ·exact .inl ⟨h,λz=>z⟩
  ·exact .inr (.inr h)
 refine⟨⟨λ_=>False,[]⟩,[.d (.fl (ns.map D.int))],[],.cons (.d (.fl hl (rs ns _))) .nil,⟨rfl,(λn o b e1 e2=>by simp at e1),D_,(λb hb=>by cases hb),(λb z=>False.elim z)⟩,?_⟩;obtain⟨s',e⟩:=hm;unfold Run;rw[e];intro U' H' _ _ v rv;cases rv with
 |d rv=>cases rv;rfl
theorem zfZ:Raises X (λ_ _ _ _=>False):=λ_ _ _ _ _ _ _ _ _ _ _ _ _ z=>z.elim
theorem MK(r:bW k A):bW k (A.mark o):=⟨r.dp,r.un,r.gd⟩
theorem Cd(r:bW k A):A.units+60<cLine:=by have:=r.un;lia
noncomputable def aD:Expr->Bool
 |.Starred _ _=>false
 |_=>true
theorem bw(h:aD e=true):starEach (e::es) env=(false,eval e env)::starEach es env:=by
 cases e<;>first|rfl|cases h
theorem aW:∀{es:List Expr} {env:Env} {pos:Pos},es.all aD=true->(backTo pos (starEach es env)).any (·.1)=false
 |[],_,_,_=>rfl
 |e::es,env,pos,h=>by
  rw[jG,cG] at h;rw[bw h.1];show (false||(backTo pos (starEach es env)).any (·.1))=false;rw[aW h.2];rfl
theorem qw:∀{es:List Expr} {env:Env} {pos:Pos},es.all aD=true->(backTo pos (starEach es env)).all (λx=>!x.1)=true
 |[],_,_,_=>rfl
 |e::es,env,pos,h=>by
  rw[jG,cG] at h;rw[bw h.1];show (true&&(backTo pos (starEach es env)).all (λx=>!x.1))=true;rw[qw h.2];rfl
theorem qx(h1:aD e=true)(h2:es.all aD=true)(h3:decide (es.length<28)=true):((backTo pos (starEach (e::es) env)).all (λx=>!x.1)&&(backToKw pos (keywordEach [] env)).all (λx=>x.1.isSome)&&decide ((e::es).length+([]:List Keyword).length+(if ([]:List Keyword).isEmpty then 0 else 1)<30))=true:=by
 rw[qw (es:=e::es) (by rw[jG,h1,h2];rfl)];have:=lO h3;have z:(e::es).length+([]:List Keyword).length+(if ([]:List Keyword).isEmpty then 0 else 1)<30:=by
  show es.length+1+0+0<30
  lia
 rw[dR z];rfl
noncomputable def Ce(sc scope:Scope):Bool:=(match scope.kind with|.function=>true|_=>false)&&scope.names.all λy=>match y.2 with
 |.cell=>(match scope.names.lookup y.1 with|some .cell=>true|_=>false)
 |.free=>(match sc.names.lookup y.1 with|some .cell=>true|some .free=>true|_=>false)
 |.local=>(match scope.names.lookup y.1 with|some .local=>true|_=>false)
 |_=>true
theorem iR.of(h:Ce sc scope=true):iR sc scope:=by
 unfold Ce at h;rw[cG,fX] at h;obtain⟨h1,h2⟩:=h;refine⟨?_,λy hy z=>?_,λy hy z=>?_,λy hy z=>?_⟩
 ·split at h1
  ·assumption
  ·cases h1
 ·have:=h2 y hy;rw[z] at this;dsimp only at this;split at this
  ·assumption
  ·cases this
 ·have:=h2 y hy;rw[z] at this;dsimp only at this;split at this
  ·exact .inl (by assumption)
  ·exact .inr (by assumption)
  ·cases this
 ·have:=h2 y hy;rw[z] at this;dsimp only at this;split at this
  ·assumption
  ·cases this
noncomputable def frB(scope:Scope)(XN:List Str):List Str->List Nat->Bool
 |y::N,j::fr=>(match scope.names.lookup y with|some .free=>true|_=>false)&&decide (XN[j]?=some y)&&frB scope XN N fr
 |[],[]=>true
 |_,_=>false
theorem Zg:∀{N:List Str} {fr:List Nat},frB scope XN N fr=true->N.length=fr.length/\∀(i:Nat) (y:Str) (j:Nat),N[i]?=some y->fr[i]?=some j->scope.names.lookup y=some .free/\XN[j]?=some y
 |[],[],_=>⟨rfl,λi y j h=>by simp at h⟩
 |[],_::_,h=>by cases h
 |_::_,[],h=>by cases h
 |y::N,j::fr,h=>by
  unfold frB at h;rw[cG,cG,DX] at h;obtain⟨⟨h1,h2⟩,h3⟩:=h;obtain⟨l,q⟩:=Zg h3;refine⟨by simp[l],λi z m e1 e2=>?_⟩;cases i with
  |zero=>
   simp at e1 e2;subst e1 e2;refine⟨?_,h2⟩;split at h1
   ·assumption
   ·cases h1
  |succ i=>exact q i z m (by simpa using e1) (by simpa using e2)
noncomputable def okN(x:Str):Bool:=!(x==("__debug__" : Str)) && !(x==("__classdict__" : Str)) && !decide (x="__name__")
theorem rW(h:okN x=true):(x==("__debug__" : Str))=false/\(x==("__classdict__" : Str))=false/\x≠"__name__":=by
 unfold okN at h;simp only[cG,K1,KJ] at h;exact⟨h.1.1,h.1.2,h.2⟩
theorem SM{env:Env}{k:NameKind}(hk:k≠.free):∀{names:List (Str×NameKind)} {x:Str},names.lookup x=some k->
  (names.map λ(n,k)=>if (k==NameKind.free&&env.scope.kind==.function&&env.kindOf n==some .cell) then (n,NameKind.cell) else (n,k)).lookup x=some k
 |[],x,h=>by simp at h
 |(n,q)::r,x,h=>by
  rw[mY] at h;rw[kh,mY];have hd:∀c:Bool,(if c=true then (n,NameKind.cell) else (n,q)).1=n:=λc=>by cases c<;>rfl
  rw[hd];by_cases z:x=n
  ·subst z;simp only[yH] at h ⊢;cases h
   split
   ·rename_i y;simp only[cG,iM] at y;exact absurd y.1.1 hk
   ·rfl
  ·have z':(x==n)=false:=by simpa using z
   simp only[z'] at h ⊢;exact SM hk h
theorem zl5{K:W.Frag}{C:Addr}(h:Lj K C=true):XC K C:=by
 unfold Lj at h;simp only[cG,iM] at h;obtain⟨⟨⟨⟨⟨⟨⟨h1,h2⟩,h3⟩,h4⟩,h5⟩,h6⟩,h7⟩,h8⟩:=h;exact⟨h1,h2,h3,h4,h5,h6,h7,h8⟩
theorem SN{n c:Nat}(hn:0<n):n_ n c<n:=by unfold n_;split<;>lia
theorem SQ{n c:Nat}(hn:0<n):n_ n (n_ n c)=n_ n c:=by unfold n_;split<;>simp_all
theorem zi9{n c e:Nat}(hn:0<n):jJ n (n_ n c) (n_ n e)=jJ n c e:=by unfold jJ;rw[SQ hn,SQ hn]
theorem zjt{K:W.Frag}{L:List Addr}{f g:Nat->List Str}{b:Nat->Addr}(hL:0<L.length)(h:pU K L=true):uz K ⟨dI L,f,b,g⟩ (jJ L.length):=by
 unfold pU at h;rw[fX] at h;have key:∀c,Lj K (dI L c)=true/\PySem.W.kitOne K (.ref (dI L c)) (.type "ValueError")=some true/\∀e,PySem.W.kitOne K (.ref (dI L c)) (.ref (dI L e))=some (jJ L.length c e):=λc=>by
  have z:=h (n_ L.length c) (vh.mpr (SN hL));simp only[cG,iM,fX] at z;obtain⟨⟨z1,z2⟩,z3⟩:=z;refine⟨z1,z2,λe=>?_⟩;have y:=z3 (n_ L.length e) (vh.mpr (SN hL));rw[zi9 hL] at y;exact y
 exact⟨λc=>zl5 (key c).1,λc e=>(key c).2.2 e,λc=>(key c).2.1⟩
theorem zi8{K:W.Frag}{L:List Addr}{d:Nat}(hL:0<L.length)(h:subB K L d=true):∀c,jJ L.length c d=true->L2.subIn K (dI L c) (dI L d)=true:=λc hc=>by
 unfold subB at h;rw[fX] at h;have z:=h (n_ L.length c) (vh.mpr (SN hL));have y:jJ L.length (n_ L.length c) d=true:=by
  unfold jJ at hc ⊢;rw[SQ hL];exact hc
 rw[y] at z;exact z
noncomputable def uI(K:W.Frag):Sp:=λvs H Q _=>∃(a:Addr) (ns:List Int),vs=[.ref a]/\dw K H a (ns.map V.int)/\ns.length<=63/\Only H/\∀H',Q (.bl true) H'
theorem zjo{K:W.Frag}{cA:Cl}{m:List Xv->M Xv}(hm:∀ns:List Int,ns.length<=63->∃s',m [.d (.fl (ns.map D.int))] []=some (.ok (.d (.bl true)),s'))(vs:List V)(H:Hp)(Q:VK)(E:XK)(h:uI K vs H Q E):uF K cA m vs H Q E:=by
 obtain⟨a,ns,rfl,hq,hl,hO,k⟩:=h;obtain⟨U,ds,s,r1,r2,h⟩:=zlZ (cA:=cA) (m:=m) hq (hm ns hl);refine⟨U,ds,s,r1,r2,?_⟩;unfold Run at h ⊢;split at h
 ·intro U' H' x r v rv;rw[h U' H' x r v rv];exact k H'
 ·exact λU' H' x r dx q=>(h U' H' x r dx q).elim
 ·exact h
theorem Cg{K:W.Frag}{fd:FuncData}{p:Str}(h:∀a,bindArgs fd ⟨[a],[]⟩=pure [(p,a)]):Binds K fd [p] []:=.all λus hl=>by
 cases us with
 |nil=>cases hl
 |cons a r=>cases r with
  |nil=>exact h a
  |cons b r=>cases hl
theorem Cj{K:W.Frag}{fd:FuncData}{p q:Str}(h:∀a b,bindArgs fd ⟨[a,b],[]⟩=pure [(p,a),(q,b)]):Binds K fd [p,q] []:=.all λus hl=>by
 cases us with
 |nil=>cases hl
 |cons a r=>cases r with
  |nil=>cases hl
  |cons b r=>cases r with
   |nil=>exact h a b
   |cons c r=>cases hl
theorem Cm{K:W.Frag}{fd:FuncData}{p q t:Str}(h:∀a b c,bindArgs fd ⟨[a,b,c],[]⟩=pure [(p,a),(q,b),(t,c)]):Binds K fd [p,q,t] []:=.all λus hl=>by
 cases us with
 |nil=>cases hl
 |cons a r=>cases r with
  |nil=>cases hl
  |cons b r=>cases r with
   |nil=>cases hl
   |cons c r=>cases r with
    |nil=>exact h a b c
    |cons d r=>cases hl
theorem Cp{K:W.Frag}{fd:FuncData}{p q t u:Str}(h:∀a b c d,bindArgs fd ⟨[a,b,c,d],[]⟩=pure [(p,a),(q,b),(t,c),(u,d)]):Binds K fd [p,q,t,u] []:=.all λus hl=>by
 cases us with
 |nil=>cases hl
 |cons a r=>cases r with
  |nil=>cases hl
  |cons b r=>cases r with
   |nil=>cases hl
   |cons c r=>cases r with
    |nil=>cases hl
    |cons d r=>cases r with
     |nil=>exact h a b c d
     |cons e r=>cases hl
theorem SX:bootBuiltins "int"=some (.type "int"):=by decide +kernel
theorem S5:bootBuiltins "bool"=some (.type "bool"):=by decide +kernel
theorem Cq:bootBuiltins "tuple"=some (.type "tuple"):=by decide +kernel
theorem zjI:bootBuiltins "list"=some (.type "list"):=by decide +kernel
theorem zcD:bootBuiltins "ValueError"=some (.type "ValueError"):=by decide +kernel
structure JE(X:Cx)(cA:Cl)(ao:Nat->Nat->Bool)(aj:Bool)(F:Fn)(EX:XS)(e:Expr)(m:E):Prop where
 o:SE X cA ao aj F EX e m
structure JA(X:Cx)(cA:Cl)(ao:Nat->Nat->Bool)(aj:Bool)(F:Fn)(EX:XS)(e:List Expr)(m:Es):Prop where
 o:SA X cA ao aj F EX e m
structure JT(X:Cx)(cA:Cl)(ao:Nat->Nat->Bool)(aj:Bool)(F:Fn)(EX:XS)(e:Expr)(m:E):Prop where
 o:ST X cA ao aj F EX e m
structure JW(X:Cx)(cA:Cl)(ao:Nat->Nat->Bool)(aj:Bool)(F:Fn)(EX:XS)(e:Expr)(m:E):Prop where
 o:SW X cA ao aj F EX e m
structure JC(X:Cx)(cA:Cl)(ao:Nat->Nat->Bool)(aj:Bool)(F:Fn)(EX:XS)(e:List Expr)(m:Eo):Prop where
 o:MF X cA ao aj F EX e m
structure JO(X:Cx)(cA:Cl)(ao:Nat->Nat->Bool)(aj:Bool)(F:Fn)(EX:XS)(e:Option Expr)(m:Eo):Prop where
 o:Jq X cA ao aj F EX e m
structure JI(X:Cx)(cA:Cl)(ao:Nat->Nat->Bool)(aj:Bool)(F:Fn)(EX:XS)(tg e:Expr)(m:Wk):Prop where
 o:SI X cA ao aj F EX tg e m
structure JG(X:Cx)(cA:Cl)(ao:Nat->Nat->Bool)(aj:Bool)(F:Bool->Fn)(EX:XS)(e:Expr)(m:Tg):Prop where
 o:SG X cA ao aj F EX e m
structure JS(X:Cx)(cA:Cl)(ao:Nat->Nat->Bool)(aj:Bool)(F:Bool->Fn)(EX:XS)(e:Stmt)(m:St):Prop where
 o:SS X cA ao aj F EX e m
structure JB(X:Cx)(cA:Cl)(ao:Nat->Nat->Bool)(aj:Bool)(F:Bool->Fn)(EX:XS)(e:List Stmt)(m:bH):Prop where
 o:uH X cA ao aj F EX e m
structure JK(X:Cx)(x:Str)(k:NameKind):Prop where
 o:X.env.scope.names.lookup x=some k
structure JP(X:Cx)(cA:Cl)(op:CmpOp)(p:Pr):Prop where
 o:∃r,cI X (compareOp op) r/\aR X.K cA p (r2 r)
structure JQ(X:Cx)(cA:Cl)(op:Operator)(p:Pr):Prop where
 o:∃r,cI X (binaryOp op) r/\aR X.K cA p (r2 r)
structure JN(X:Cx)(cA:Cl)(kx:Expr)(k:Kd):Prop where
 o:PE X kx (tC (Fg cA k))
structure JR(X:Cx)(EX:XS):Prop where
 o:Raises X EX
structure JH(X:Cx):Prop where
 o:PassesOwn (model X.prog X.w) X.A X.env X.xe
structure JY(X:Cx)(tg:Expr)(g:TG):Prop where
 o:PG X tg g
noncomputable def pI:NameKind->Bool
 |.local=>true
 |.cell=>true
 |_=>false
noncomputable def Cr:NameKind->Bool
 |.local=>true
 |.cell=>true
 |.free=>true
 |_=>false
section
variable {X:Cx}{cA:Cl}{ao:Nat->Nat->Bool}{aj:Bool}{F:Fn}{EX:XS}{a b c d e:Expr}{A B C Dd E':E}{pos p p2 apos:Pos}{es:List Expr}{Xs:Es}{x y:Str}{k k':NameKind}{q q1 q2 q3:Pr}{fz:Bool}
theorem Zh(h:scope.names.lookup x=some k)(hk:(match k with|.free=>false|_=>true)=true):JK (X.blk scope cl N Cc s3 H3 fp ak) x k:=
 ⟨SM (by intro z;subst z;cases hk) h⟩
theorem Zi(i:Nat)(hN:X.N[i]?=some x)(h:JK X x k)(hv:Cr k=true)(hd:okN x=true):JE X cA ao aj F EX (.Name x pos) (.v i):=
 ⟨Yz i hN (by cases k<;>first|exact .inl h.o|exact .inr (.inl h.o)|exact .inr (.inr h.o)|cases hv) (rW hd).1 (rW hd).2.1⟩
theorem zn5(i:Nat)(hN:N[i]?=some x)(h:scope.names.lookup x=some .free)(hd:okN x=true):JE (X.blk scope cl N Cc s3 H3 fp ak) cA ao aj F EX (.Name x pos) (.v i):=
 ⟨Yz i hN (.inr (QG h)) (rW hd).1 (rW hd).2.1⟩
theorem aF{i j p}:JE X cA ao aj F EX (.Constant (.int i) j p) (.c (.int i)):=⟨zk1⟩
theorem jB{i j p}:JE X cA ao aj F EX (.Constant (.bool i) j p) (.c (.bl i)):=⟨zmX⟩
theorem m8{j p}:JE X cA ao aj F EX (.Constant .none j p) (.c .non):=⟨zkD⟩
theorem jo{i j p}:JE X cA ao aj F EX (.Constant (.str i) j p) (.c (.str i)):=⟨zls⟩
theorem Zj(h:∃t,X.mg x=some (.int i t))(hg:JK X x .globalImplicit)(hd:okN x=true):JE X cA ao aj F EX (.Name x pos) (.c (.int i)):=by
 obtain⟨t,h⟩:=h;exact⟨zju hg.o h (rW hd).1⟩
theorem iW:JQ X cA .Add .add:=⟨_,zfO,zkb⟩
theorem uJ:JQ X cA .Sub .ao:=⟨_,zkG,zks⟩
theorem S6:JQ X cA .Mult .mul:=⟨_,zkV,zmk⟩
theorem Zk:JQ X cA .FloorDiv .fdiv:=⟨_,zi5,zjn⟩
theorem Fl:JQ X cA .Mod .mod:=⟨_,zkE,zkZ⟩
theorem Zm:JQ X cA .Pow .pow:=⟨_,zkm,zj3⟩
theorem cj(h:JQ X cA op q)(ha:JE X cA ao aj F EX a A)(hb:JE X cA ao aj F EX b B):JE X cA ao aj F EX (.BinOp a op b pos) (.pr fz q (.cons A (.cons B .nil))):=by
 obtain⟨r,h1,h2⟩:=h.o;exact⟨zk0 h1 h2 ha.o hb.o⟩
theorem MN(ha:JE X cA ao aj F EX a A):JE X cA ao aj F EX (.UnaryOp .USub a pos) (.pr true .neg (.cons A .nil)):=⟨znn Xc zl2 ha.o⟩
theorem S7(ha:JE X cA ao aj F EX a A):JE X cA ao aj F EX (.UnaryOp .Not a pos) (.not A):=⟨zkQ ha.o⟩
theorem uK{op}(ha:JE X cA ao aj F EX a A):JE X cA ao aj F EX (.BoolOp op [a] pos) A:=⟨zk7 ha.o⟩
theorem uL{rest:List Expr}(ha:JE X cA ao aj F EX a A)(hb:JE X cA ao aj F EX (.BoolOp .And (b::rest) pos) B):JE X cA ao aj F EX (.BoolOp .And (a::b::rest) pos) (.and A B):=⟨zkB ha.o hb.o⟩
theorem znZ{rest:List Expr}(ha:JE X cA ao aj F EX a A)(hb:JE X cA ao aj F EX (.BoolOp .Or (b::rest) pos) B):JE X cA ao aj F EX (.BoolOp .Or (a::b::rest) pos) (.or A B):=⟨zmL ha.o hb.o⟩
theorem uM{k:Nat}(hr:bW k X.A):JP X cA .Eq .eq:=⟨_,zkX (Cd hr),zna⟩
theorem Cu{k:Nat}(hr:bW k X.A):JP X cA .NotEq .ne:=⟨_,zlt (Cd hr),zne⟩
theorem Cv{k:Nat}(hr:bW k X.A):JP X cA .Lt .lt:=⟨_,Hg.or (zj9 (by have:=Cd hr;lia)),zno⟩
theorem zQ:JP X cA .LtE .le:=⟨_,zmw,zmM⟩
theorem zn1:JP X cA .Gt .gt:=⟨_,zmU,zm7⟩
theorem znY:JP X cA .GtE .ge:=⟨_,zm0,zmr⟩
noncomputable def j9:Expr->Bool
 |.Set _ _ _=>false
 |_=>true
theorem rm(h:j9 b=true):behindInMarks op b=false:=by cases b<;>first|rfl|cases h
theorem Jv(ho:JP X cA op q)(ha:JE X cA ao aj F EX a A)(hb:JE X cA ao aj F EX b B)(h1:j9 b=true:=by rfl):JE X cA ao aj F EX (.Compare a [op] [b] pos) (.pr true q (.cons A (.cons B .nil))):=by
 obtain⟨r,h2,h3⟩:=ho.o;exact⟨zkx h2 h3 ha.o hb.o (rm h1)⟩
theorem lJ(ho:JP X cA op q)(ha:JE X cA ao aj F EX a A)(hb:JE X cA ao aj F EX b B)(h1:j9 b=true:=by rfl):JT X cA ao aj F EX (.Compare a [op] [b] pos) (.pr true q (.cons A (.cons B .nil))):=by
 obtain⟨r,h2,h3⟩:=ho.o;exact⟨zlK h2 h3 ha.o hb.o (rm h1)⟩
theorem zm8(h1:JP X cA op q1)(h2:JP X cA op' q2)(ha:JE X cA ao aj F EX a A)(hb:JE X cA ao aj F EX b B)(hc:JE X cA ao aj F EX c C)(hm:j9 c=true:=by rfl):JE X cA ao aj F EX (.Compare a [op,op'] [b,c] pos) (.rT q1 q2 A B C):=by
 obtain⟨r,h3,h4⟩:=h1.o;obtain⟨r',h5,h6⟩:=h2.o;exact⟨zj4 h3 h4 h5 h6 ha.o hb.o hc.o (rm hm)⟩
theorem zni(h1:JP X cA op q1)(h2:JP X cA op' q2)(h3:JP X cA fQ q3)(ha:JE X cA ao aj F EX a A)(hb:JE X cA ao aj F EX b B)(hc:JE X cA ao aj F EX c C)(hd:JE X cA ao aj F EX d Dd)(hm:j9 d=true:=by rfl) :
  JE X cA ao aj F EX (.Compare a [op,op',fQ] [b,c,d] pos) (.t_ q1 q2 q3 A B C Dd):=by
 obtain⟨r,h4,h5⟩:=h1.o;obtain⟨r',h6,h7⟩:=h2.o;obtain⟨r'',h8,h9⟩:=h3.o;exact⟨zlV h4 h5 h6 h7 h8 h9 ha.o hb.o hc.o hd.o (rm hm)⟩
theorem zm6(h1:JP X cA op q1)(h2:JP X cA op' q2)(ha:JE X cA ao aj F EX a A)(hb:JE X cA ao aj F EX b B)(hc:JE X cA ao aj F EX c C)(hm:j9 c=true:=by rfl):JT X cA ao aj F EX (.Compare a [op,op'] [b,c] pos) (.rT q1 q2 A B C):=by
 obtain⟨r,h3,h4⟩:=h1.o;obtain⟨r',h5,h6⟩:=h2.o;exact⟨zkT h3 h4 h5 h6 ha.o hb.o hc.o (rm hm)⟩
theorem zmA(h1:JP X cA op q1)(h2:JP X cA op' q2)(h3:JP X cA fQ q3)(ha:JE X cA ao aj F EX a A)(hb:JE X cA ao aj F EX b B)(hc:JE X cA ao aj F EX c C)(hd:JE X cA ao aj F EX d Dd)(hm:j9 d=true:=by rfl) :
  JT X cA ao aj F EX (.Compare a [op,op',fQ] [b,c,d] pos) (.t_ q1 q2 q3 A B C Dd):=by
 obtain⟨r,h4,h5⟩:=h1.o;obtain⟨r',h6,h7⟩:=h2.o;obtain⟨r'',h8,h9⟩:=h3.o;exact⟨zlF h4 h5 h6 h7 h8 h9 ha.o hb.o hc.o hd.o (rm hm)⟩
theorem Zn{j p}(ha:JE X cA ao aj F EX a A):JE X cA ao aj F EX (.Compare a [.Is] [.Constant .none j p] pos) (.pr true .EY (.cons A .nil)):=⟨zma ha.o⟩
theorem zk9{j p}(ha:JE X cA ao aj F EX a A):JT X cA ao aj F EX (.Compare a [.IsNot] [.Constant .none j p] pos) (.pr true .Ir (.cons A .nil)):=⟨zi7 ha.o⟩
noncomputable def Jw:Expr->Bool
 |.Call _ _ _ _=>true
 |.Name _ _=>true
 |.Subscript _ _ _=>true
 |.Attribute _ _ _=>true
 |_=>false
theorem lA(ha:JE X cA ao aj F EX a A)(he:Jw a=true:=by rfl):JT X cA ao aj F EX a A:=⟨zlL ha.o (by cases a<;>first|(intro _;rfl)|cases he)⟩
theorem kO(ha:JT X cA ao aj F EX a A):JT X cA ao aj F EX (.UnaryOp .Not a pos) (.not A):=⟨zl7 ha.o⟩
theorem Zo(ha:JT X cA ao aj F EX a A):JW X cA ao aj F EX (.BoolOp .And [a] pos) A:=⟨zjm ha.o⟩
theorem Jx(ha:JT X cA ao aj F EX a A):JW X cA ao aj F EX (.BoolOp .Or [a] pos) A:=⟨zkh ha.o⟩
theorem Zq{rest:List Expr}(ha:JT X cA ao aj F EX a A)(hb:JW X cA ao aj F EX (.BoolOp .And (b::rest) pos) B):JW X cA ao aj F EX (.BoolOp .And (a::b::rest) pos) (.and A B):=⟨zmg ha.o hb.o⟩
theorem yc{rest:List Expr}(ha:JT X cA ao aj F EX a A)(hb:JW X cA ao aj F EX (.BoolOp .Or (b::rest) pos) B):JW X cA ao aj F EX (.BoolOp .Or (a::b::rest) pos) (.or A B):=⟨zmy ha.o hb.o⟩
theorem Cw(h:JW X cA ao aj F EX a A):JT X cA ao aj F EX a A:=⟨znW h.o⟩
theorem zmZ(hc:JT X cA ao aj F EX c C)(ha:JE X cA ao aj F EX a A)(hb:JE X cA ao aj F EX b B):JE X cA ao aj F EX (.IfExp c a b pos) (.ite C A B):=⟨zkI hc.o ha.o hb.o⟩
theorem aC:JA X cA ao aj F EX [] .nil:=⟨zlu⟩
theorem aq(ha:JE X cA ao aj F EX a A)(hr:JA X cA ao aj F EX es Xs)(hs:aD a=true:=by rfl):JA X cA ao aj F EX (a::es) (.cons A Xs):=⟨zjV ha.o hr.o (bw hs)⟩
theorem bK{k}(ha:JA X cA ao aj F EX es Xs)(hz:decide (Es.len Xs<=sizeLine)=true:=by rfl):JE X cA ao aj F EX (.Tuple es k pos) (.tup Xs):=⟨zlH ha.o (lO hz)⟩
theorem gA(ha:JA X cA ao aj F EX es Xs)(hz:decide (Es.len Xs<=sizeLine)=true:=by rfl):JE X cA ao aj F EX (.List es pos) (.lst fz Xs):=⟨zl8 ha.o (lO hz)⟩
theorem zlI{j p1 j2 p3}{k:Str}{i:Int}:JE X cA ao aj F EX (.Dict [some (.Constant (.str k) j p1)] [.Constant (.int i) j2 p3] pos) (.uc k i):=⟨zis⟩
noncomputable def uN:Expr->Bool
 |.Constant _ _ _=>true
 |.Name _ _=>true
 |.Call _ _ _ _=>true
 |.BinOp _ _ _ _=>true
 |.UnaryOp _ _ _=>true
 |.Subscript _ _ _=>true
 |.IfExp _ _ _ _=>true
 |.Attribute _ _ _=>true
 |.Compare _ _ _ _=>true
 |.BoolOp _ _ _=>true
 |_=>false
theorem dY(ha:JE X cA ao aj F EX a A)(hb:JE X cA ao aj F EX b B)(hs:uN b=true:=by rfl):JE X cA ao aj F EX (.Subscript a b pos) (.pr true .ix (.cons A (.cons B .nil))):=⟨zmY zm1 ha.o hb.o (by cases b<;>first|(intro _ _;rfl)|cases hs)⟩
theorem Cy:JO X cA ao aj F EX none .no:=⟨zmP⟩
theorem yd(ha:JE X cA ao aj F EX a A):JO X cA ao aj F EX (some a) (.yes A):=⟨zkR ha.o⟩
theorem zR{lo hi:Option Expr}{Lo Hi:Eo}(ha:JE X cA ao aj F EX a A)(hl:JO X cA ao aj F EX lo Lo)(hh:JO X cA ao aj F EX hi Hi):JE X cA ao aj F EX (.Subscript a (.Slice lo hi none p2) pos) (.sl fz A Lo Hi):=⟨znj ha.o hl.o hh.o⟩
theorem zmK(ha:JE X cA ao aj F EX a A):JE X cA ao aj F EX (.Subscript a (.Slice none none (some (.UnaryOp .USub (.Constant (.int 1) j p3) p4)) p2) pos) (.pr true .rev (.cons A .nil)):=⟨zk8 ha.o⟩
theorem zkW(f:Nat){cm:Bool}{k:Nat}{fa:Addr}{fd:FuncData}{ps:List Str}(Fo:eE X.prog X.w X.K X.mg X.base (lq X.prog X.w) cm k fa fd ps (uF X.K cA (F f)))(qP:cm=true->X.aj=true)(hr:bW k X.A)(hm:X.mg x=some (.ref fa))(hk:PySem.W.keepIn X.K (.ref fa)=true)(hb:Binds X.K fd ps [])(R:JR X EX)(hg:JK X x .globalImplicit)
  (ha:JA X cA ao aj F EX (e::es) Xs) (hd:okN x=true) (he:aD e=true:=by rfl) (bG:es.all aD=true:=by rfl) :
  JE X cA ao aj F EX (.Call (.Name x p) (e::es) [] pos) (.call f Xs):=⟨zjr Fo qP hr hg.o hm hk hb R.o ha.o (rW hd).1 (bw he) (aW bG)⟩
theorem uO{c:Nat}(hm:X.mg x=some (.ref (cA.a c)))(hg:JK X x .globalImplicit)(hd:okN x=true):JN X cA (.Name x pos) (.cls c):=⟨W7 hg.o hm rfl (rW hd).1⟩
theorem rz(hv:Fg cA kd=.ty T)(hm:X.mg x=none)(hb:bootBuiltins x=some (.type T))(hg:JK X x .globalImplicit)(hd:okN x=true):JN X cA (.Name x pos) kd:=⟨λak s Z H Q I h=>by
 rw[hv] at h;exact yW I hg.o hm hb ⟨.ty T,H,I,rfl,h⟩ (rW hd).2.2 (rW hd).1⟩
theorem jC(Cs:uz X.K cA ao)(hm:X.mg "isinstance"=none)(hg:JK X "isinstance" .globalImplicit)(ha:JE X cA ao aj F EX a A)(hk:JN X cA kx kd)(h1:aD a=true:=by rfl)(h2:aD kx=true:=by rfl):JE X cA ao aj F EX (.Call (.Name "isinstance" p) [a,kx] [] pos) (.fZ A kd):=
 ⟨zlW (λ_=>Cs) hg.o hm ha.o hk.o (bw h1) (bw h2) (aW (by rw[jG,h2];rfl))⟩
theorem Fp(hm:X.mg "len"=none)(hg:JK X "len" .globalImplicit)(ha:JA X cA ao aj F EX (e::es) Xs)(he:aD e=true:=by rfl)(bG:es.all aD=true:=by rfl):JE X cA ao aj F EX (.Call (.Name "len" p) (e::es) [] pos) (.pr fz .len Xs):=⟨BX zcU zmi hg.o hm PySem.boot_len ha.o UJ UJ (bw he) (aW bG)⟩
theorem zm3(hm:X.mg "abs"=none)(hg:JK X "abs" .globalImplicit)(ha:JA X cA ao aj F EX (e::es) Xs)(he:aD e=true:=by rfl)(bG:es.all aD=true:=by rfl):JE X cA ao aj F EX (.Call (.Name "abs" p) (e::es) [] pos) (.pr fz .abs Xs):=⟨BX zhD zlO hg.o hm PyProof.Rows.boot_abs ha.o UJ UJ (bw he) (aW bG)⟩
theorem Zr(hc:X.aj=true)(hm:X.mg "max"=none)(hg:JK X "max" .globalImplicit)(ha:JA X cA ao aj F EX (e::es) Xs)(he:aD e=true:=by rfl)(bG:es.all aD=true:=by rfl):JE X cA ao aj F EX (.Call (.Name "max" p) (e::es) [] pos) (.pr fz .max2 Xs):=⟨BX (zgi hc) zjR hg.o hm PyProof.Rows.boot_max ha.o UJ UJ (bw he) (aW bG)⟩
theorem zl1(hc:X.aj=true)(hm:X.mg "min"=none)(hg:JK X "min" .globalImplicit)(ha:JA X cA ao aj F EX (e::es) Xs)(he:aD e=true:=by rfl)(bG:es.all aD=true:=by rfl):JE X cA ao aj F EX (.Call (.Name "min" p) (e::es) [] pos) (.pr fz .min2 Xs):=⟨BX (zfY hc) zjT hg.o hm PyProof.Rows.boot_min ha.o UJ UJ (bw he) (aW bG)⟩
theorem zkl(hm:X.mg "int"=none)(hg:JK X "int" .globalImplicit)(ha:JA X cA ao aj F EX (e::es) Xs)(he:aD e=true:=by rfl)(bG:es.all aD=true:=by rfl):JE X cA ao aj F EX (.Call (.Name "int" p) (e::es) [] pos) (.pr fz .xJ Xs):=⟨Mw zgn ziP hg.o hm PyProof.Rows.boot_int ha.o UJ UJ (bw he) (aW bG)⟩
theorem zhi(hm:X.mg "divmod"=none)(hg:JK X "divmod" .globalImplicit)(ha:JA X cA ao aj F EX (e::es) Xs)(he:aD e=true:=by rfl)(bG:es.all aD=true:=by rfl):JE X cA ao aj F EX (.Call (.Name "divmod" p) (e::es) [] pos) (.pr fz .divmod Xs):=⟨BX zdE zfb hg.o hm PyProof.Rows.boot_divmod ha.o UJ UJ (bw he) (aW bG)⟩
theorem Fq(hc:X.aj=true)(hm:X.mg "all"=none)(hg:JK X "all" .globalImplicit)(ha:JA X cA ao aj F EX (e::es) Xs)(he:aD e=true:=by rfl)(bG:es.all aD=true:=by rfl):JE X cA ao aj F EX (.Call (.Name "all" p) (e::es) [] pos) (.pr fz .all Xs):=⟨BX (zgc hc) zlE hg.o hm PyProof.Rows.boot_all ha.o UJ UJ (bw he) (aW bG)⟩
theorem Zu(hm:X.mg "list"=none)(hg:JK X "list" .globalImplicit)(ha:JA X cA ao aj F EX (e::es) Xs)(he:aD e=true:=by rfl)(bG:es.all aD=true:=by rfl):JE X cA ao aj F EX (.Call (.Name "list" p) (e::es) [] pos) (.pr fz .list Xs):=⟨Mw zcX zjy hg.o hm zjI ha.o UJ UJ (bw he) (aW bG)⟩
theorem zjJ(hm:X.mg "tuple"=none)(hg:JK X "tuple" .globalImplicit)(ha:JA X cA ao aj F EX (e::es) Xs)(he:aD e=true:=by rfl)(bG:es.all aD=true:=by rfl):JE X cA ao aj F EX (.Call (.Name "tuple" p) (e::es) [] pos) (.pr fz .tuple Xs):=⟨Mw zcG zgU hg.o hm Cq ha.o UJ UJ (bw he) (aW bG)⟩
theorem ziR{k:Nat}(hr:bW k X.A)(ho:JE X cA ao aj F EX a A)(ha:JA X cA ao aj F EX (e::es) Xs)(dJ:attributeBase a "count" X.env (eval a X.env)=eval a X.env:=by rfl)(oW:decide (es.length<28)=true:=by rfl)(jR:(apos.endLine==pos.line)=true:=by rfl)(hs:aD e=true:=by rfl)(cV:es.all aD=true:=by rfl) :
  JE X cA ao aj F EX (.Call (.Attribute a "count" apos) (e::es) [] pos) (.meth true .count .list A Xs):=⟨Y4 (k:=.list) PySem.F.plainAttrs_list PySem.F.slot_list_count PySem.F.type_list_count (zgD (by have:=hr.un;lia)) zhQ ho.o ha.o dJ (qx hs cV oW) jR (bw hs) (aW cV)⟩
theorem zjA(ho:JE X cA ao aj F EX a A)(ha:JA X cA ao aj F EX (e::es) Xs)(dJ:attributeBase a "index" X.env (eval a X.env)=eval a X.env:=by rfl)(oW:decide (es.length<28)=true:=by rfl)(jR:(apos.endLine==pos.line)=true:=by rfl)(hs:aD e=true:=by rfl)(cV:es.all aD=true:=by rfl) :
  JE X cA ao aj F EX (.Call (.Attribute a "index" apos) (e::es) [] pos) (.meth true .index .list A Xs):=⟨Y4 (k:=.list) PySem.F.plainAttrs_list PySem.F.slot_list_index PySem.F.type_list_index zgh zgO ho.o ha.o dJ (qx hs cV oW) jR (bw hs) (aW cV)⟩
theorem vP:JC X cA ao aj F EX [] .no:=⟨zlG⟩
theorem zmN(h:JT X cA ao aj F EX c C):JC X cA ao aj F EX [c] (.yes C):=⟨ziU h.o⟩
theorem rY(ha:JE X cA ao aj F EX a A):JI X cA ao aj F EX tg a (.seq A):=⟨zlM ha.o⟩
theorem Zv(hmg:X.mg "range"=none)(uG:JK X "range" .globalImplicit)(ha:JE X cA ao aj F EX a A)(hb:JE X cA ao aj F EX b B)(h1:aD a=true:=by rfl)(h2:aD b=true:=by rfl):JI X cA ao aj F EX tg (.Call (.Name "range" p) [a,b] [] pos) (.rg A B):=⟨zmH uG.o hmg ha.o hb.o (bw h1) (bw h2)⟩
theorem S8(hmg:X.mg "range"=none)(uG:JK X "range" .globalImplicit)(hb:JE X cA ao aj F EX b B)(h2:aD b=true:=by rfl):JI X cA ao aj F EX tg (.Call (.Name "range" p) [b] [] pos) (.rg (.c (.int 0)) B):=⟨zmb uG.o hmg hb.o (bw h2)⟩
noncomputable def Jy(scope:Scope)(x:Str):Bool:=match scope.names.lookup x with
 |some .local=>true
 |some .cell=>true
 |_=>false
theorem Ft(h:Jy scope x=true):Loc (X.blk scope cl N Cc s3 H3 fp ak).env.scope x/\((X.blk scope cl N Cc s3 H3 fp ak).fn x=true\/(X.blk scope cl N Cc s3 H3 fp ak).env.scope.names.lookup x=some .local):=by
 unfold Jy at h;split at h
 ·rename_i z;exact⟨.inl (lookup_relabel_local z),.inr (lookup_relabel_local z)⟩
 ·rename_i z;exact⟨.inr (SM (by intro y;cases y) z),.inl (by show (scope.names.lookup x==some NameKind.cell)=true;rw[z];rfl)⟩
 ·cases h
theorem yg(i:Nat)(vH:N.Nodup)(hi:N[i]?=some x)(hl:Jy scope x=true):JY (X.blk scope cl N Cc s3 H3 fp ak) (.Name x tp) (d9 i):=
 ⟨Ly vH hi (Ft hl).1 (Ft hl).2⟩
theorem Zw(i j:Nat)(hc:X.aj=true)(vH:N.Nodup)(hi:N[i]?=some x)(hj:N[j]?=some y)(hl:Jy scope x=true)(tO:Jy scope y=true):JY (X.blk scope cl N Cc s3 H3 fp ak) (.Tuple [.Name x px,.Name y py] kt tp) (tu X.K 2 (gM (d9 i) (gM (d9 j) sZ))):=
 ⟨SJ (X:=X.blk scope cl N Cc s3 H3 fp ak) hc vH hi hj (Ft hl).1 (Ft tO).1 (Ft hl).2 (Ft tO).2⟩
theorem Zx{scope:Scope}{XN:List Str}{M0 N:List Str}{fr:List Nat}(h:frB scope XN N fr=true):(M0++N).length=M0.length+fr.length/\∀(i:Nat) (y:Str) (j:Nat),(M0++N)[M0.length+i]?=some y->fr[i]?=some j->scope.names.lookup y=some .free/\XN[j]?=some y:=by
 obtain⟨l,q⟩:=Zg h;refine⟨by rw[fK,l],λi y j e1 e2=>q i y j ?_ e2⟩;rw[oE gV] at e1;rw[show M0.length+i-M0.length=i by lia] at e1;exact e1
theorem uP{elt iter tg:Expr}{ifs:List Expr}{scope:Scope}{cond:Eo}{fV:List Nat}{g:TG}{w:Wk}(sc:Scope)(XN M0 N:List Str)(fr:List Nat)(hc:X.aj=true)(hsc:X.env.scope=sc)(Zy:X.N=XN)(hB:Ce sc scope=true)(hf:frB scope XN N fr=true)(hT:q_ X.K cA g fV)(jA:fV.all (λi=>decide (i<M0.length))=true)
  (hi:JI X cA ao aj F EX tg iter w) (hg:∀cl C s3 H3 fp ak,JY (X.blk scope cl (M0++N) C s3 H3 fp ak) tg g)
  (ht:∀cl C s3 H3 fp ak,JC (X.blk scope cl (M0++N) C s3 H3 fp ak) cA ao aj F (λ_ _ _ _=>False) ifs cond) (he:∀cl C s3 H3 fp ak,JE (X.blk scope cl (M0++N) C s3 H3 fp ak) cA ao aj F (λ_ _ _ _=>False) elt B)
  (hs:∀x,foldedSetIterable iter X.env x=pure x:=by intro _;rfl):JE X cA ao aj F EX (.ListComp elt [⟨tg,iter,ifs,0⟩] scope pos) (.comp fz B fV w fr M0.length cond):=
 ⟨zjL hc (iR.of (hsc▸hB)) hi.o (Zx (Zy▸hf)).1 (Zx (Zy▸hf)).2 (λa b c d e f=>(hg a b c d e f).o) hT (λi hi=>lO (fX.mp jA i hi)) (λa b c d e f=>(ht a b c d e f).o) (λa b c d e f=>(he a b c d e f).o) hs⟩
theorem rZ:JR X (λ_ _ _ _=>False):=⟨zfZ⟩
theorem bY{P:Program}{w:World}{K:W.Frag}{mg:Str->Option Value}{base:Heap}{N:List Str}{qual:Str}{scope:Scope}{f:Addr}{cd:Value}{A:Around}{outer:List Env}{s:Shared}{H:Hp}{E:XK}{cm:Bool} :
  JR (iy (lq P w) P w K mg base N qual scope f cd A outer s H E cm) (λ_ C dx H'=>E C dx H'):=⟨zeD⟩
theorem Cz{CX:rP}{P:Program}{w:World}{K:W.Frag}{mg:Str->Option Value}{base:Heap}{N:List Str}{qual:Str}{scope:Scope}{f:Addr}{cd:Value}{A:Around}{outer:List Env}{s:Shared}{H:Hp}{E:XK}{cm:Bool} :
  JH (iy CX P w K mg base N qual scope f cd A outer s H E cm):=⟨PassesOwn.leaving⟩
end
section
variable {X:Cx}{cA:Cl}{ao:Nat->Nat->Bool}{aj:Bool}{F:Bool->Fn}{EX:XS}{a b c d e:Expr}{A B C:E}{pos p p2:Pos}{st:Stmt}{sts body orelse:List Stmt}{m:St}{ms mb me mh:bH}{es:List Expr}{Xs:Es}{x y n:Str}{k k':NameKind}
theorem Fv(h:JK X x k)(hv:pI k=true):Loc X.env.scope x:=by cases k<;>first|exact .inl h.o|exact .inr h.o|cases hv
theorem Fw(h:JK X x k)(hv:X.fn x=true\/k=.local):X.fn x=true\/X.env.scope.names.lookup x=some .local:=by
 rcases hv with hv|hv
 ·exact .inl hv
 ·subst hv;exact .inr h.o
theorem aP:JB X cA ao aj F EX [] .nil:=⟨zjB⟩
theorem aH(h1:JS X cA ao aj F EX st m)(h2:JB X cA ao aj F EX sts ms):JB X cA ao aj F EX (st::sts) (.cons m ms):=⟨zhj h1.o h2.o⟩
theorem su:JS X cA ao aj F EX st .no:=⟨zmO⟩
theorem qy(ha:JE X cA ao aj (F aj) EX a A)(hs:swapsWith a none pos.line X.env=pure false:=by rfl):JS X cA ao aj F EX (.Expr a pos) (.ex A):=⟨zm9 ha.o hs⟩
theorem cJ(ha:JE X cA ao aj (F aj) EX a A):JS X cA ao aj F EX (.Return (some a) pos) (.ret A):=⟨zlP ha.o⟩
theorem jD(i:Nat)(hN:X.N.Nodup)(hi:X.N[i]?=some x)(hx:JK X x k)(hl:pI k=true)(ha:JE X cA ao aj (F aj) EX a A)(hs:swapsWith a (some (.Name x p)) pos.line X.env=pure false:=by rfl)(hf:X.fn x=true\/k=.local:=by first|exact .inl rfl|exact .inr rfl):JS X cA ao aj F EX (.Assign [.Name x p] a pos) (.asg (.nm i) A):=
 ⟨zkF hN hi (Fv hx hl) ha.o hs (Fw hx hf)⟩
theorem CG(i j:Nat){k0}(hc:X.aj=true)(bR:aj=true)(hN:X.N.Nodup)(hi:X.N[i]?=some x)(hj:X.N[j]?=some y)(hx:JK X x k)(hy:JK X y k')(S9:pI k=true)(S_:pI k'=true)(ha:JE X cA ao aj (F aj) EX a A)
  (xY:X.fn x=true\/k=.local:=by first|exact .inl rfl|exact .inr rfl) (xZ:X.fn y=true\/k'=.local:=by first|exact .inl rfl|exact .inr rfl)
  (hs:swapsWithSole [.Tuple [.Name x px,.Name y py] k0 pt] a pos.line X.env=pure false:=by rfl) (hw:swappedStores [.Tuple [.Name x px,.Name y py] k0 pt] a X.env=pure none:=by rfl) (h1:(assignEach [.Tuple [.Name x px,.Name y py] k0 pt] X.env).map (·.2)=[assign (.Tuple [.Name x px,.Name y py] k0 pt) X.env]:=by rfl) :
  JS X cA ao aj F EX (.Assign [.Tuple [.Name x px,.Name y py] k0 pt] a pos) (.asg (.tp [i,j]) A):=⟨ziY hc bR hN hi hj (Fv hx S9) (Fv hy S_) (Fw hx xY) (Fw hy xZ) ha.o hs hw h1⟩
theorem Zz(hO:JE X cA ao aj (F aj) EX oo O)(hI:JE X cA ao aj (F aj) EX ii I')(ha:JE X cA ao aj (F aj) EX a A)
  (B_:∀v,assign (.Subscript oo ii p) X.env v=(do
   let obj <-holding [v] (eval oo X.env)
   let at_ <-holding [v,obj] (eval ii X.env)
   standAt p
   holding [v,obj,at_] (setItem obj at_ v)
   release [v,obj,at_] []):=by intro _;rfl) (hs:swapsWithSole [.Subscript oo ii p] a pos.line X.env=pure false:=by rfl) (hw:swappedStores [.Subscript oo ii p] a X.env=pure none:=by rfl)
  (h1:(assignEach [.Subscript oo ii p] X.env).map (·.2)=[assign (.Subscript oo ii p) X.env]:=by rfl):JS X cA ao aj F EX (.Assign [.Subscript oo ii p] a pos) (.asg (.ao O I') A):=⟨zkw hO.o hI.o ha.o B_ hs hw h1⟩
theorem zmJ(i j:Nat){kt k2 tD}(hc:X.aj=true)(bR:aj=true)(hN:X.N.Nodup)(hi:X.N[i]?=some x)(hj:X.N[j]?=some y)(lD:i≠j)(hx:JK X x .local)(hy:JK X y .local)
  (ha:JE X cA ao aj (F aj) EX a A) (hb:JE X cA ao aj (F aj) EX b B) (hw:swappedStores [.Tuple [.Name x px,.Name y py] kt pt] (.Tuple [a,b] k2 tD) X.env=pure (some [x,y])) (h1:aD a=true:=by rfl) (h2:aD b=true:=by rfl)
  (hs:swapsWithSole [.Tuple [.Name x px,.Name y py] kt pt] (.Tuple [a,b] k2 tD) pos.line X.env=pure false:=by rfl):JS X cA ao aj F EX (.Assign [.Tuple [.Name x px,.Name y py] kt pt] (.Tuple [a,b] k2 tD) pos) (.par i j A B):=
 ⟨zl4 hc bR hN hi hj lD hx.o hy.o ha.o hb.o (bw h1) (bw h2) hw hs⟩
theorem gB(hc:JT X cA ao aj (F aj) EX c C)(ht:JB X cA ao aj F EX body mb)(he:JB X cA ao aj F EX orelse me):JS X cA ao aj F EX (.If c body orelse pos) (.iff C mb me):=⟨znf hc.o ht.o he.o⟩
theorem Fx(i:Nat)(hN:X.N.Nodup)(hi:X.N[i]?=some x)(hx:JK X x k)(hl:pI k=true)(hf:X.fn x=true\/k=.local:=by first|exact .inl rfl|exact .inr rfl):JG X cA ao aj F EX (.Name x pos) (.nm i):=⟨zj0 hN hi (Fv hx hl) (Fw hx hf)⟩
theorem zj6(i j:Nat){k0}(hc:X.aj=true)(bR:aj=true)(hN:X.N.Nodup)(hi:X.N[i]?=some x)(hj:X.N[j]?=some y)(hx:JK X x k)(hy:JK X y k')(S9:pI k=true)(S_:pI k'=true)(xY:X.fn x=true\/k=.local:=by first|exact .inl rfl|exact .inr rfl)(xZ:X.fn y=true\/k'=.local:=by first|exact .inl rfl|exact .inr rfl) :
  JG X cA ao aj F EX (.Tuple [.Name x px,.Name y py] k0 pos) (.tp [i,j]):=⟨zjC hc bR hN hi hj (Fv hx S9) (Fv hy S_) (Fw hx xY) (Fw hy xZ)⟩
theorem CJ(hp:JH X)(hc:X.aj=true)(bR:aj=true)(ha:JI X cA ao aj (F aj) EX tg a w)(hg:JG X cA ao aj F EX tg t)(hb:JB X cA ao aj F EX body mb)(hs:∀x,foldedSetIterable a X.env x=pure x:=by intro _;rfl):JS X cA ao aj F EX (.For tg a body [] pos) (.fr t w mb):=
 ⟨zme hp.o hc bR ha.o hg.o hb.o hs⟩
theorem Tc{cc:Nat}{apos:Pos}(hf:cA.f cc=[])(hc:X.aj=true)(bR:aj=true)(hX:PySem.W.excIn X.K (cA.a cc) [.type "ValueError",.type "Exception",.type "BaseException",.type "object"] "ValueError.__new__"=true)(hm:X.mg x=some (.ref (cA.a cc)))(hg:JK X x .globalImplicit)
  (R:JR X EX) (ha:JA X cA ao aj (F aj) EX (e::es) Xs) (hd:okN x=true) (hz:decide (Es.len Xs<=sizeLine)=true:=by rfl) (he:aD e=true:=by rfl) (bG:es.all aD=true:=by rfl) :
  JS X cA ao aj F EX (.Raise (some (.Call (.Name x p) (e::es) [] apos)) none pos) (.rise cc false Xs):=⟨zhL hf Gb Bd Gb hc bR hX hg.o hm R.o ha.o (lO hz) (rW hd).1 (bw he) (aW bG)⟩
theorem znp(i:Nat)(bR:aj=true)(hex:X.ex=[])(p7:X.stack=X.env::X.outer/\X.env.frame=some X.env.locals)(hg:JK X x .globalImplicit)(hm:X.mg x=some (.ref (cA.a dc)))(hN:X.N.Nodup)(hi:X.N[i]?=some n)(hl:JK X n .local)
  (hsub:∀c,ao c dc=true->subIn X.K (cA.a c) (cA.a dc)=true)
  (hb:∀(pn:List (Addr×Obj)) (E':Value->Shared->Prop) (rQ:XS),JR (X.seen X.A X.aj pn E') rQ->JH (X.seen X.A X.aj pn E')->JB (X.seen X.A X.aj pn E') cA ao aj F rQ body mb)
  (hh:∀e:Value,JB (X.seen (X.A.mark (some e)) false X.pn (λ_ _=>False)) cA ao false F (λ_ _ _ _=>False) (b₀::suite) mh) (hd:okN x=true) :
  JS X cA ao aj F EX (.Try body [.ExceptHandler (some (.Name x np)) (some n) (b₀::suite) tR] [] [] pos) (.ud mb dc i mh):=
 ⟨zmj bR hex p7 hg.o hm hN hi hl.o hsub (λpn E' rQ R H=>(hb pn E' rQ ⟨R⟩ ⟨H⟩).o) (λe=>(hh e).o) (rW hd).1⟩
end
theorem zmf{P:Program}{w:World}{K:W.Frag}{mg:Str->Option Value}{base:Heap}{cA:Cl}{ao:Nat->Nat->Bool}{T:Nat->Option Df}{x qual:Str}{st:Stmt}{f:Addr}{fd:FuncData}{N ps:List Str}{k n:Nat}{cm:Bool}{df:Df}(F:vO K x qual st f fd)(S:fM N ps (aA st))(hT:T n=some df)(hp:df.gY=ps.length)(hm:df.many=N.length)
  (hb:∀(cdv:Value) (A:Around) (outer:List Env) (s:Shared) (H:Hp) (E:XK),bW k (A.deeper (envOfC qual (aA st) s.heap.objs.size f cdv))->
   JB (iy (lq P w) P w K mg base N qual (aA st) f cdv A outer s H E cm) cA ao cm (λc=>call ao T k c) (λ_ C dx H'=>E C dx H') (aM st) df.body) :
  eE P w K mg base (lq P w) cm (k+1) f fd ps (uF K cA (call ao T (k+1) cm n)):=zkL F S hT hp hm λcdv A outer s H E hr=>(hb cdv A outer s H E hr).o
end Mi
namespace Mi
open PySem PySem.Spec PyProof.Rows L2 PySem.W
theorem zkN{fd:FuncData}{x:Str}{st:Stmt}(h:rO fd=vq x st):fd=fnOf x x (aV st) (aM st) (aA st) .none fd.kwdefaults fd.doc fd.pyModule fd.annotations fd.code fd.closureTuple:=by
 cases fd;unfold rO vq at h;cases h;rfl
noncomputable def jq(K:Frag)(x:Str):Addr:=match Al K x with
 |some p=>p.1
 |none=>0
noncomputable def fdOf(K:Frag)(x:Str)(st:Stmt):FuncData:=match Al K x with
 |some p=>p.2
 |none=>vq x st
structure FnAt(K:Frag)(x:Str)(st:Stmt):Prop where
 ns:nsIn K mainGlobals x=some (some (.ref (jq K x)))
 fn:vO K x x st (jq K x) (fdOf K x st)
theorem zng{K:Frag}{x:Str}{st:Stmt}(h:(Al K x).map (λp=>rO p.2)=some (vq x st)):FnAt K x st:=by
 cases e:Al K x with
 |none=>rw[e] at h;cases h
 |some p=>
  rw[e] at h;have hp:rO p.2=vq x st:=cT h;have h1:jq K x=p.1:=by unfold jq;rw[e]
  have h2:fdOf K x st=p.2:=by unfold fdOf;rw[e]
  unfold Al at e;split at e
  ·rename_i f hf;split at e
   ·rename_i oc od fd sl hl;split at e
    ·rename_i hc;cases e;rw[cG] at hc;refine⟨by rw[h1];exact hf,?_⟩;rw[h1,h2];exact⟨⟨oc,od,_,_,_,_,_,_,sl,zkN hp,hl,hc.1⟩,hc.2⟩
    ·cases e
   ·cases e
  ·cases e
theorem FnAt.m{K:Frag}{x:Str}{st:Stmt}(F:FnAt K x st){h:Heap}{mg:Str->Option Value}(X:K.In h)(G:h.Ns mainGlobals mg):mg x=some (.ref (jq K x)):=mg_of X G F.ns
theorem sy{K:Frag}{x:Str}(h:wB K x=true){hp:Heap}{mg:Str->Option Value}(X:K.In hp)(G:hp.Ns mainGlobals mg):mg x=some (.ref (Am K x)):=by
 refine mg_of X G ?_;unfold wB at h;unfold Am;split at h
 ·rename_i C e;rw[e]
 ·cases h
theorem ZC{K:Frag}{x:Str}{i:Int}(h:lU K (x,i)=true){hp:Heap}{mg:Str->Option Value}(X:K.In hp)(G:hp.Ns mainGlobals mg):∃t,mg x=some (.int i t):=by
 unfold lU at h;split at h
 ·rename_i j t e;rw[DX] at h;subst h;exact⟨t,mg_of X G e⟩
 ·cases h
theorem nQ{K:Frag}{x:Str}(h:pW K x=true){hp:Heap}{mg:Str->Option Value}(X:K.In hp)(G:hp.Ns mainGlobals mg):mg x=none:=by
 refine mg_none_of X G ?_;unfold pW at h;split at h
 ·rename_i e;exact e
 ·cases h
structure zT(l:Lk)(K:Frag):Prop where
 cl:∀x∈l.Gx,wB K x=true
 cs:l.Gx.isEmpty=true\/pU K (l.L K)=true
 ra:∀k∈l.WD,Gw K (dI (l.L K) k)=true
 ca:∀k∈l.WK,subB K (l.L K) k=true
 it:∀p∈l.yO,lU K p=true
 no:∀x∈l.Wz,pW K x=true
theorem Kaa{l:Lk}{K:Frag}(h:l.good K=true):zT l K:=by
 unfold Lk.good at h;simp only[cG,Bool.or_eq_true,fX] at h;obtain⟨⟨⟨⟨⟨h1,h2⟩,h3⟩,h4⟩,h5⟩,h6⟩:=h;exact⟨h1,h2,h3,h4,h5,h6⟩
theorem yh{K:Frag}{x:Str}{st:Stmt}{f:Addr}{fd:FuncData}{p:Str}(F:vO K x x st f fd)(h:∀(kV doc pm:Value) (an:Option Addr) (cdv ct a:Value),bindArgs (fnOf x x (aV st) (aM st) (aA st) .none kV doc pm an cdv ct) ⟨[a],[]⟩=pure [(p,a)]):Binds K fd [p] []:=by
 obtain⟨oc,od,kV,doc,pm,an,cdv,ct,osl,rfl,lk,lZ⟩:=F.ex;exact Cg (h kV doc pm an cdv ct)
theorem yj{K:Frag}{x:Str}{st:Stmt}{f:Addr}{fd:FuncData}{p q:Str}(F:vO K x x st f fd)(h:∀(kV doc pm:Value) (an:Option Addr) (cdv ct a b:Value),bindArgs (fnOf x x (aV st) (aM st) (aA st) .none kV doc pm an cdv ct) ⟨[a,b],[]⟩=pure [(p,a),(q,b)]):Binds K fd [p,q] []:=by
 obtain⟨oc,od,kV,doc,pm,an,cdv,ct,osl,rfl,lk,lZ⟩:=F.ex;exact Cj (h kV doc pm an cdv ct)
theorem yp{K:Frag}{x:Str}{st:Stmt}{f:Addr}{fd:FuncData}{p q t:Str}(F:vO K x x st f fd)(h:∀(kV doc pm:Value) (an:Option Addr) (cdv ct a b c:Value),bindArgs (fnOf x x (aV st) (aM st) (aA st) .none kV doc pm an cdv ct) ⟨[a,b,c],[]⟩=pure [(p,a),(q,b),(t,c)]):Binds K fd [p,q,t] []:=by
 obtain⟨oc,od,kV,doc,pm,an,cdv,ct,osl,rfl,lk,lZ⟩:=F.ex;exact Cm (h kV doc pm an cdv ct)
theorem yq{K:Frag}{x:Str}{st:Stmt}{f:Addr}{fd:FuncData}{p q t u:Str}(F:vO K x x st f fd)(h:∀(kV doc pm:Value) (an:Option Addr) (cdv ct a b c d:Value),bindArgs (fnOf x x (aV st) (aM st) (aA st) .none kV doc pm an cdv ct) ⟨[a,b,c,d],[]⟩=pure [(p,a),(q,b),(t,c),(u,d)]):Binds K fd [p,q,t,u] []:=by
 obtain⟨oc,od,kV,doc,pm,an,cdv,ct,osl,rfl,lk,lZ⟩:=F.ex;exact Cp (h kV doc pm an cdv ct)
theorem CK{K:Frag}{x:Str}{st:Stmt}{f:Addr}{fd:FuncData}{p:Str}(F:vO K x x st f fd)(h:∀(kV doc pm:Value) (an:Option Addr) (cdv ct a:Value),bindArgs (fnOf x x (aV st) (aM st) (aA st) .none kV doc pm an cdv ct) ⟨[a],[]⟩=pure [(p,a)]):∀(s:Shared) (u:Value),BindsTo s fd ⟨[u],[]⟩ [(p,u)]:=by
 obtain⟨oc,od,kV,doc,pm,an,cdv,ct,osl,rfl,lk,lZ⟩:=F.ex;exact λs u=>.of_eq (h kV doc pm an cdv ct u)
end Mi
namespace Mi
open PySem PySem.Spec PyProof.Rows L2
section
variable {K:W.Frag}{cA:Cl}{U:Ph}{H:Hp}
theorem aB.CP(r:aB K cA U H xs ys):∀l:List Nat,aB K cA U H (l.map λi=>xs.getD i .non) (l.map λi=>ys.getD i .non)
 |[]=>.nil
 |i::l=>by
  refine .cons ?_ (aB.CP r l);show Rep K cA U H (xs.getD i .non) (ys.getD i .non);cases e:xs[i]? with
  |some x=>
   obtain⟨u,e1,e2⟩:=r.get e;rw[kY,kY,e,e1];exact e2
  |none=>
   have e1:ys[i]?=Option.none:=r.none e;rw[kY,kY,e,e1];exact .non
theorem aB.mem(r:aB K cA U H xs ys):∀v∈ys,∃d∈xs,Rep K cA U H d v:=by
 intro v hv;obtain⟨i,hi,e⟩:=DK hv;have e':ys[i]?=some v:=by rw[fH hi,e]
 cases ex:xs[i]? with
 |none=>rw[r.none ex] at e';cases e'
 |some d=>
  obtain⟨u,e1,e2⟩:=r.get ex;rw[e1] at e';cases e';exact⟨d,gD ex,e2⟩
theorem ZD:∀{us ws:List D} {xs ys:List V},aB K cA U H us xs->aB K cA U H ws ys->∀{b:Bool},nM us ws=some b->ji xs ys=some b
 |[],ws,_,ys,r1,r2,b,h=>by
  cases r1;unfold nM at h;unfold ji;rw[<-r2.len];exact h
 |_::_,[],_,_,r1,r2,b,h=>by
  cases r2;cases r1;unfold nM at h;unfold ji;exact h
 |x::us,y::ws,_,_,r1,r2,b,h=>by
  cases r1 with
  |cons a1 b1=>
   cases r2 with
   |cons a2 b2=>
    unfold nM at h;split at h
    ·rename_i z;cases z
    ·rename_i z;cases z
    ·rename_i p ps q qs e1 e2;cases e1;cases e2;cases a1;cases a2;unfold ji;by_cases e:p=q
     ·rw[if_pos e] at h ⊢;exact ZD b1 b2 h
     ·rw[if_neg e] at h ⊢;exact h
    ·cases h
theorem zhl(r:aB K cA U H xs ys)(h:(xs.all jW||xs.all iD)=true):tV K H ys (zA xs):=by
 rw[Bool.or_eq_true] at h;rcases h with h|h
 ·left
  rw[fX] at h;refine⟨λv hv=>?_,λi j b e=>?_⟩
  ·obtain⟨d,hd,q⟩:=r.mem v hv;have:=h d hd;cases q<;>first|exact⟨_,rfl⟩|cases this
  ·unfold zA at e;cases e1:xs[i]? with
   |none=>rw[e1] at e;cases e
   |some d1=>
    cases e2:xs[j]? with
    |none=>rw[e1,e2] at e;cases d1<;>cases e
    |some d2=>
     have h1:=h d1 (gD e1);have h2:=h d2 (gD e2);rw[e1,e2] at e;obtain⟨v1,a1,b1⟩:=r.get e1;obtain⟨v2,a2,b2⟩:=r.get e2;cases d1<;>first|cases h1|skip
     cases d2<;>first|cases h2|skip
     cases b1;cases b2;cases e;exact⟨_,_,a1,a2,rfl⟩
 ·right
  rw[fX] at h;refine⟨λv hv=>?_,λi j b e=>?_⟩
  ·obtain⟨d,hd,q⟩:=r.mem v hv;have:=h d hd;unfold iD at this;split at this
   ·cases q with
    |tup t r'=>
     cases r' with
     |cons a1 b1=>
      cases a1;exact⟨_,_,_,rfl,t.jm⟩
   ·cases this
  ·unfold zA at e;cases e1:xs[i]? with
   |none=>rw[e1] at e;cases e
   |some d1=>
    cases e2:xs[j]? with
    |none=>rw[e1,e2] at e;cases d1<;>cases e
    |some d2=>
     have h1:=h d1 (gD e1);have h2:=h d2 (gD e2);rw[e1,e2] at e;obtain⟨v1,a1,b1⟩:=r.get e1;obtain⟨v2,a2,b2⟩:=r.get e2;unfold iD at h1 h2;split at h1
     ·split at h2
      ·cases b1 with
       |tup t1 r1=>
        cases b2 with
        |tup t2 r2=>exact⟨_,_,_,_,a1,a2,t1.jm,t2.jm,ZD r1 r2 e⟩
      ·cases h2
     ·cases h1
theorem zfh:aR K cA .sorted (λxs H Q=>∃l ys lt p,xs=[.ref l]/\dw K H l ys/\ys.length<64/\(2<=ys.length->tV K H ys lt/\bD lt (PySem.W.kas_sort ys.length)=some p/\p.size=ys.length)/\∀r,H r=none->Q (.ref r) (upd H r (.lst (lu ys p)))):=by
 intro U H ds vs Q zt rs o;have o:aZ K cA U H (mJ ds) Q:=o;unfold mJ at o;split at o
 ·rename_i xs _;obtain⟨v,rfl,r1⟩:=rs.one;obtain⟨z,e⟩:=o.some';obtain⟨zs,e1,e2⟩:=m9.mp e;subst e2;obtain⟨a,us,rfl,sq,q⟩ : ∃a us,v=.ref a/\dw K H a us/\aB K cA U H xs us:=r1;have hl:=q.len;unfold BJ at e1;by_cases hk:(xs.all jW||xs.all iD)=true
  ·rw[if_pos hk] at e1;unfold ql at e1;by_cases h2:xs.length<2
   ·rw[if_pos h2] at e1;cases e1;refine⟨a,us,λ_ _=>none,#[],rfl,sq,by lia,λz=>absurd z gV,λr hr=>?_⟩;have:lu us #[]=us:=by unfold lu;rw[if_pos gV]
    rw[this];exact(o.of e) r us hr q
   ·rw[if_neg h2] at e1;by_cases xr:xs.length<64
    ·rw[if_pos xr] at e1;cases ek:bD (zA xs) (PySem.W.kas_sort xs.length) with
     |none=>rw[ek] at e1;cases e1
     |some p=>
      rw[ek] at e1;dsimp only at e1;by_cases hp:p.size=xs.length
      ·rw[if_pos hp] at e1;cases e1;refine⟨a,us,zA xs,p,rfl,sq,by lia,λ_=>⟨zhl q hk,by rw[<-hl];exact ek,by lia⟩,λr hr=>?_⟩;have:lu us p=p.toList.map λi=>us.getD i .non:=by unfold lu;rw[if_neg gV]
       rw[this];exact(o.of e) r _ hr (q.CP p.toList)
      ·rw[if_neg hp] at e1;cases e1
    ·rw[if_neg xr] at e1;cases e1
  ·rw[if_neg hk] at e1;cases e1
 ·exact o.elim
end
section
variable {X:Cx}{cA:Cl}{ao:Nat->Nat->Bool}{aj:Bool}{F:Fn}{EX:XS}{e:Expr}{pos p:Pos}{es:List Expr}{Xs:Es}{fz:Bool}
theorem ZF:bootBuiltins "sorted"=some (.builtin "sorted"):=by decide +kernel
theorem zhu(hm:X.mg "sorted"=none)(hg:JK X "sorted" .globalImplicit)(ha:JA X cA ao aj F EX (e::es) Xs)(he:aD e=true:=by rfl)(bG:es.all aD=true:=by rfl):JE X cA ao aj F EX (.Call (.Name "sorted" p) (e::es) [] pos) (.pr fz .sorted Xs):=⟨BX zdB zfh hg.o hm ZF ha.o UJ UJ (bw he) (aW bG)⟩
end
section
variable {X:Cx}{cA:Cl}{ao:Nat->Nat->Bool}{aj:Bool}{F:Fn}{EX:XS}{a b:Expr}{A B:E}{pos pp tpos:Pos}{elts:List Expr}{kk:Nat}
noncomputable def CQ(f:Nat->List Str)(cs:List Nat)(i:Nat)(x:Str):Bool:=cs.all λc=>(f c)[i]?==some x
theorem ZG:∀(ns:List Str) (vs:List V),((ns.zip vs).map (·.1)).Sublist ns
 |[],vs=>by simp
 |n::ns,[]=>by simp
 |n::ns,v::vs=>by
  rw[DN,kh];exact(ZG ns vs).cons₂ n
theorem zeO:∀{ns:List Str} {vs:List V} {i:Nat} {x:Str} {v:V},ns.Nodup->ns[i]?=some x->vs[i]?=some v->(ns.zip vs).lookup x=some v
 |ns,vs,i,x,v,hn,h1,h2=>by
  refine Ri ?_ (Yi h1 h2);exact List.Sublist.nodup (ZG ns vs) hn
theorem zkC(hf:CQ cA.f cs i x=true)(hn:∀c∈cs,(cA.f c).Nodup)(hX:∀c∈cs,XF X.K (cA.a c) x)(ha:SE X cA ao aj F EX a A)(hb:attributeBase a x X.env (eval a X.env)=eval a X.env) :
  SE X cA ao aj F EX (.Attribute a x pos) (.fld A cs i):=PE.weak (zm4 ha hb) λZ H Q hh=>un hh λU J s hL hS h=>by
 refine bf hL hS h λy H2 U2 d2 s2 x2 hL2 aU r2 h2=>?_;cases r2 with
 |l _=>exact h2.elim
 |d r2=>
  cases r2 with
  |@exc ad c xs vs q r=>
   by_cases hc:cs.contains c=true
   ·have hm:c∈cs:=List.contains_iff_mem.mp hc;have h3:Run X.K cA (M.opt (xs[i]?.map Xv.d)) U2 H2 s2 (λd x U' H'=>∀(v:V),bF X.K cA U' H' d v->Q v H') (eX X.K cA EX Z):=by
     have h2':=h2;dsimp only at h2';rw[if_pos hc] at h2';exact h2'
    cases ex:xs[i]? with
    |none=>rw[ex] at h3;exact h3.elim
    |some dd=>
     rw[ex] at h3;obtain⟨v,e1,rv⟩:=r.get ex;unfold CQ at hf;rw[fX] at hf;have e2:(cA.f c)[i]?=some x:=by simpa using hf c hm
     rcases q.2 with ⟨z,_,_⟩|⟨dx,q1,q2,q3,q4⟩
     ·rw[z] at e2;cases e2
     ·exact⟨ad,_,dx,_,v,rfl,q1,q3,hX c hm,zeO (hn c hm) e2 e1,(h3.bB aU) v (.d rv)⟩
   ·have h2':=h2;dsimp only at h2';rw[if_neg hc] at h2';exact h2'.elim
  |_=>exact h2.elim
end
section
variable {X:Cx}{cA:Cl}{ao:Nat->Nat->Bool}{aj:Bool}{F:Bool->Fn}{EX:XS}{e:Expr}{es:List Expr}{Xs:Es}{pos p:Pos}{x:Str}
theorem zfG{k cc:Nat}{ar:Arguments}{bd:List Stmt}{sc:Scope}{apos:Pos}(hr:bW k X.A)(hc:X.aj=true)(bR:aj=true)(IO:jV X.K (cA.a cc) ar bd sc (cA.f cc))(hl:Es.len Xs=(cA.f cc).length)(hg:Gl X x)(hm:X.mg x=some (.ref (cA.a cc)))
  (R:Raises X EX) (ha:SA X cA ao aj (F aj) EX (e::es) Xs) (hz:Es.len Xs<=sizeLine) (jP:(x==("__debug__" : Str))=false:=by decide) (he:starEach (e::es) X.env=(false,eval e X.env)::starEach es X.env:=by rfl) (bG:(backTo apos (starEach es X.env)).any (·.1)=false:=by rfl) :
  SS X cA ao aj F EX (.Raise (some (.Call (.Name x p) (e::es) [] apos)) none pos) (.rise cc true Xs):=PS.weak (zfA hr hc IO hg hm R ha jP he bG) λD Z H hh=>un hh λU J s hL hS h=>by
 have h:aN X.K cA (if aj=true then ofM (M.bd (evs ao aj (F aj) Xs J) dF) J (λds s=>some (.er cc (if true=true then ds else []) J,s)) else λ_=>none) U H s D EX:=h;rw[if_pos bR] at h;refine xR hL hS (aN.ofM hL hS.lz h) λvs H1 U1 xs s1 Fy x1 hL1 aL rv h1=>?_;have h1:Run X.K cA (M.bd (dF xs) M.ret) U1 H1 s1 (λa s1 U1 H1=>Ext U H U1 H1/\aG X.K cA U1 H1 s1/\aN X.K cA (λs=>some (.er cc (if true=true then a else []) J,s)) U1 H1 s1 D EX) (eX X.K cA EX Z):=by
  unfold Run at h1 ⊢;unfold M.bd;cases e1:dF xs s1 with
  |none=>rw[e1] at h1;exact h1
  |some r=>
   obtain⟨r,s2⟩:=r;rw[e1] at h1;cases r with
   |er c f=>exact h1
   |ok ds=>exact h1
 obtain⟨ds,e1,rs,h2⟩:=Mv rv h1;obtain⟨_,_,h3⟩:=h2.bB aL;have ZJ:vs.length=(cA.f cc).length:=by rw[<-rv.len,Fy];exact hl
 refine⟨ZJ,by rw[<-rv.len,Fy];exact hz,λd hd=>?_⟩;have g:bI H1 (upd H1 d (.xd ((cA.f cc).zip vs))):=bI.new hd;exact h3 U1 _ Z g.ext (aL.grow g) (hL1.mono g.ext aL.lz) (some d) (.inr ⟨d,vs,rfl,aL.nz hd,kZ,ZJ.symm,rs.mono g.ext aL.lz⟩)
theorem zhR{k cc:Nat}{kk:NameKind}{ar:Arguments}{bd:List Stmt}{sc:Scope}{apos:Pos}(hr:bW k X.A)(hc:X.aj=true)(bR:aj=true)(IO:jV X.K (cA.a cc) ar bd sc (cA.f cc))(hm:X.mg x=some (.ref (cA.a cc)))(hg:JK X x .globalImplicit)
  (R:JR X EX) (ha:JA X cA ao aj (F aj) EX (e::es) Xs) (hd:okN x=true) (hl:decide (Es.len Xs=(cA.f cc).length)=true:=by rfl) (hz:decide (Es.len Xs<=sizeLine)=true:=by rfl) (he:aD e=true:=by rfl) (bG:es.all aD=true:=by rfl) :
  JS X cA ao aj F EX (.Raise (some (.Call (.Name x p) (e::es) [] apos)) none pos) (.rise cc true Xs):=⟨zfG hr hc bR IO (lO hl) hg.o hm R.o ha.o (lO hz) (rW hd).1 (bw he) (aW bG)⟩
end
section
variable {X:Cx}{cA:Cl}{ao:Nat->Nat->Bool}{aj:Bool}{F:Fn}{EX:XS}{a b:Expr}{A B:E}{pos p tpos:Pos}{elts:List Expr}{kk:Nat}
theorem ZK(hX:∀c∈cs,XF X.K (cA.a c) x/\(cA.f c).Nodup)(ha:JE X cA ao aj F EX a A)(hf:CQ cA.f cs i x=true:=by decide +kernel)(hb:attributeBase a x X.env (eval a X.env)=eval a X.env:=by rfl) :
  JE X cA ao aj F EX (.Attribute a x pos) (.fld A cs i):=⟨zkC hf (λc hc=>(hX c hc).2) (λc hc=>(hX c hc).1) ha.o hb⟩
end
end Mi
namespace Mi
open PySem PySem.Spec PyProof.Rows L2 PySem.W
theorem zil{fd:FuncData}{q:Str}{st:Stmt}(h:rO fd=Ao q st):fd=fnOf "__init__" q (aV st) (aM st) (aA st) .none fd.kwdefaults fd.doc fd.pyModule fd.annotations fd.code fd.closureTuple:=by
 cases fd;unfold rO Ao at h;cases h;rfl
structure CT(K:Frag)(C:Addr)(q:Str)(st:Stmt):Prop where
 ex:∃(fI:Addr) (od:Option Addr) (kV doc pm:Value) (an:Option Addr) (cdv ct:Value) (osl:Array (Option Value)) (cd:ClassData),
  K.lookup fI=some ⟨.type "function",od,.func (fnOf "__init__" q (aV st) (aM st) (aA st) .none kV doc pm an cdv ct),osl⟩/\codeIn K cdv q=true/\jH K C fI=true/\clsIn K C=some cd/\bA cd.mro=true/\cd.hasDict=true
theorem zmF{K:Frag}{C:Addr}{q:Str}{st:Stmt}(h:(Gy K C).map rO=some (Ao q st)):CT K C q st:=by
 cases e:Gy K C with
 |none=>rw[e] at h;cases h
 |some fd=>
  rw[e] at h;have hp:rO fd=Ao q st:=cT h;unfold Gy at e;split at e
  ·rename_i cd lZ;split at e
   ·rename_i f hf;split at e
    ·rename_i od fd' sl hl;split at e
     ·rename_i hc;cases e;simp only[cG] at hc;obtain⟨⟨⟨c1,c2⟩,c3⟩,c4⟩:=hc;have eq:=zil hp;have qn:fd.qualname=q:=by rw[eq]
      refine⟨⟨f,od,fd.kwdefaults,fd.doc,fd.pyModule,fd.annotations,fd.code,fd.closureTuple,sl,cd,?_,by rw[<-qn];exact c1,c2,lZ,c3,c4⟩⟩;rw[<-eq];exact hl
     ·cases e
    ·cases e
   ·cases e
  ·cases e
structure uQ(q:Str)(st:Stmt)(fs:List Str):Prop where
 bind:∀(kV doc pm:Value) (an:Option Addr) (cdv ct:Value) (us:List Value),us.length=fs.length+1->bindArgs (fnOf "__init__" q (aV st) (aM st) (aA st) .none kV doc pm an cdv ct) ⟨us,[]⟩=pure (((("self" : Str))::fs).zip us)
 nd:(("self" : Str)::fs).Nodup
 ne:fs≠[]
 few:fs.length<=900
 body:gR "self" (aM st) fs=true
 oY:∀x∈(aA st).names,x.2≠.cell
 loc:∀f∈(("self" : Str)::fs),(aA st).names.lookup f=some .local/\(f==("__debug__" : Str))=false
 co:(aA st).isCoroutine=false
 gen:(aA st).isGenerator=false
 kind:(aA st).kind=.function
noncomputable def ZL(sc:Scope)(fs:List Str):Bool:=sc.names.all (λx=>match x.2 with|.cell=>false|_=>true)&&(("self" : Str)::fs).all (λf=>(match sc.names.lookup f with|some .local=>true|_=>false) && !(f==("__debug__" : Str)))
theorem uQ.of{q:Str}{st:Stmt}{fs:List Str}(bind:∀(kV doc pm:Value) (an:Option Addr) (cdv ct:Value) (us:List Value),us.length=fs.length+1->bindArgs (fnOf "__init__" q (aV st) (aM st) (aA st) .none kV doc pm an cdv ct) ⟨us,[]⟩=pure (((("self" : Str))::fs).zip us))(nd:(("self" : Str)::fs).Nodup)(ne:fs≠[])(few:fs.length<=900)(body:gR "self" (aM st) fs=true)
  (sc:ZL (aA st) fs=true) (co:(aA st).isCoroutine=false) (gen:(aA st).isGenerator=false) (kind:(aA st).kind=.function):uQ q st fs:=by
 unfold ZL at sc;rw[cG,fX,fX] at sc;refine⟨bind,nd,ne,few,body,λx hx z=>?_,λf hf=>?_,co,gen,kind⟩
 ·have:=sc.1 x hx;rw[z] at this;cases this
 ·have:=sc.2 f hf;rw[cG,K1] at this;refine⟨?_,this.2⟩;have h1:=this.1;split at h1
  ·assumption
  ·cases h1
theorem ziw{K:Frag}{C:Addr}{q:Str}{st:Stmt}{fs:List Str}(a:CT K C q st)(t:uQ q st fs)(s:setB K C fs=true):jV K C (aV st) (aM st) (aA st) fs:=by
 obtain⟨fI,od,kV,doc,pm,an,cdv,ct,osl,cd,h1,h2,h3,h4,h5,h6⟩:=a.ex;unfold setB at s;rw[cG,iM,fX] at s;exact⟨⟨fI,od,kV,doc,pm,an,cdv,ct,osl,q,cd,h1,h2,h3,h4,h5,h6,λus hl=>t.bind kV doc pm an cdv ct us hl⟩,s.1,t.nd,t.ne,t.few,t.body,t.oY,t.loc,λf hf=>iM.mp (s.2 f hf),t.co,t.gen,t.kind⟩
theorem znl{K:Frag}{C:Addr}{f:Str}(h:Ln K C f=true):XF K C f:=by
 unfold Ln at h;simp only[cG,iM] at h;obtain⟨⟨⟨⟨h1,h2⟩,h3⟩,h4⟩,h5⟩:=h;exact⟨h1,h2,h3,h4,h5⟩
structure iY(fs:List (Str×Stmt))(ms:List wD)(xs:List (Nat×Str))(l:Lk)(K:Frag):Prop where
 fn:∀p∈fs,FnAt K p.1 p.2
 gd:zT l K
 mi:∀m∈ms,CT K (dI (l.L K) m.c) m.q m.st
 se:∀m∈ms,setB K (dI (l.L K) m.c) m.fs=true
 xf:∀x∈xs,XF K (dI (l.L K) x.1) x.2
theorem Td{a:Nat}{o:Obj}:∀{l:List Obj} {i:Nat},((a:Addr),o)∈Gz i l->i<=a/\l[a-i]?=some o/\o.isFreed=false
 |[],i,h=>by cases h
 |p::r,i,h=>by
  unfold Gz at h;split at h
  ·obtain⟨h1,h2,h3⟩:=Td h;refine⟨by lia,?_,h3⟩;rw[show a-i=(a-(i+1))+1 by lia];exact h2
  ·rename_i hf;rcases cH.mp h with e|h
   ·cases e;exact⟨bV _,by simp,hf⟩
   ·obtain⟨h1,h2,h3⟩:=Td h;refine⟨by lia,?_,h3⟩;rw[show a-i=(a-(i+1))+1 by lia];exact h2
theorem ZM:∀{K:Frag},K.lookup a=some o->(a,o)∈K
 |[],h=>by cases h
 |(b,p)::r,h=>by
  rw[mY] at h;by_cases e:a=b
  ·subst e;simp only[yH] at h;cases h;exact dO
  ·rw[show (a==b)=false by simpa using e] at h;exact dN _ (ZM h)
theorem zhK:(cg h).In h:=λa o e=>by
 have hm:=ZM e;unfold cg at hm;rcases gK.mp hm with z|z
 ·unfold pX at z;split at z
  ·rename_i p hp;rcases cH.mp z with e|z
   ·cases e;exact hp
   ·cases z
  ·cases z
 ·obtain⟨_,h2,h3⟩:=Td (List.mem_reverse.mp z);rw[Heap.get?_some_iff];refine⟨?_,h3⟩;have:h.objs.toList[a]?=some o:=by simpa using h2
  simpa using this
noncomputable def lK(fs:List (Str×Stmt))(ms:List wD)(xs:List (Nat×Str))(l:Lk):Hook where
 α:=List (Option FuncData)×List (Option FuncData)×Bool
 obs:=qN fs ms xs l
 val:=sU fs ms
 says:=λ_ h=>∃K:Frag,K.In h/\iY fs ms xs l K
 of:=λw s e=>by
  have e3:(_&&_&&_)=true:=qL (λx=>x.2.2) e;rw[cG,cG,fX,fX] at e3;refine⟨cg s.heap,zhK,⟨λp hp=>?_,Kaa e3.1.1,λm hm=>?_,e3.1.2,λx hx=>znl (e3.2 x hx)⟩⟩
  ·have e1:=qL Prod.fst e;exact zng (List.map_inj_left.mp e1 p hp)
  ·have e1:=qL (λx=>x.2.1) e;exact zmF (List.map_inj_left.mp e1 m hm)
 keeps:=λw h h' ⟨K,X,Y⟩ k=>⟨K,X.keeps k,Y⟩
theorem Jz{l:OpenLaw}{k:Nat}{q:Program}{loose:List Str}{XP:(Str->Option Value)->Heap->Prop}{fs:List (Str×Stmt)}{ms:List wD}{xs:List (Nat×Str)}{lk:Lk}{d:DefRec}{x:Str}(hn:l.most=some 63)(Qu:d.params.defaults=[])(hr:bW k callerA)
  (F:∀(w:World) (K:Frag) (mg:Str->Option Value) (fa:Addr) (h:Heap),iY fs ms xs lk K->K.In h->h.Ns mainGlobals mg->mg d.name=some (.ref fa)->
   ∃fd:FuncData,(∀(s:Shared) (u:Value),BindsTo s fd ⟨[u],[]⟩ [(x,u)])/\∀base:Heap,K.In base->base.Ns mainGlobals mg->eE l.prog w K mg base (lq l.prog w) true k fa fd [x] (uI K)) :
  WalkO q loose XP (lK fs ms xs lk).says l.row.toRowW d [] (λf vs=>PySem.call f vs):=by
 refine Xq.nA hn Qu λw s₀ s₁ mg mb fa o pm cd doc a vs ns G Y ho hd lZ hmg Bj hints hlen hg=>?_;obtain⟨K,KX,SY⟩:=Y;obtain⟨fd,hb,hF⟩:=F w K mg fa _ SY KX G.T.g hmg;exact zhr KX G.T.g G.T.b G.T.builtins G.T.nolimit hg Bj hints (n8 hlen UJ) hr hF hb (λH hO hS=>⟨a,ns,rfl,hS,hlen,hO,λ_=>rfl⟩) λH e s' h=>by
  obtain⟨_,_,_,_,_,_,_,_,_,_,z⟩:=h;exact z
theorem bind1{f:List Value->Sem (List (Str×Value))}{a b:Str}(h:∀x y,f [x,y]=pure [(a,x),(b,y)])(us:List Value)(hl:us.length=[b].length+1):f us=pure ([a,b].zip us):=by
 cases us with
 |nil=>cases hl
 |cons x t=>
  cases t with
  |nil=>cases hl
  |cons y t=>
   cases t with
   |nil=>exact h x y
   |cons z t=>cases hl
end Mi
namespace Mi
open PySem PySem.Spec PyProof.Rows L2
section
variable {K:W.Frag}{cA:Cl}{U:Ph}{H:Hp}
noncomputable def iZ(K:W.Frag)(U:Ph)(H:Hp):Bool->Addr->List V->Prop
 |true,a,vs=>LstAt K U H a vs
 |false,a,vs=>TupAt K U H a vs
theorem iZ.sk{kd:Bool}{a:Addr}{vs:List V}(h:iZ K U H kd a vs):Sk kd K H a vs:=by
 cases kd
 ·exact TupAt.jm h
 ·exact LstAt.vK h
theorem iZ.later{kd:Bool}{a:Addr}{vs:List V}{U':Ph}{H₁ H':Hp}(hz:∀a∈U.l,U.z a)(h:iZ K U H kd a vs)(x:Ext U H U' H₁)(o:eF U' H₁ H'):iZ K U' H' kd a vs:=by
 cases kd
 ·exact TupAt.later hz h x o
 ·exact LstAt.later hz h x o
theorem Te{xs ys:List D}{i:Nat}:(List.zipWith (λp q=>D.tup [p,q]) xs ys)[i]?=match xs[i]?,ys[i]? with
  |some p,some q=>some (.tup [p,q])
  |_,_=>none:=by
 rw[List.getElem?_zipWith];cases xs[i]?<;>cases ys[i]?<;>rfl
theorem nP.zip{k1 k2:Bool}{l1 l2:Addr}{xs ys:List D}{us vs:List V}(hz:∀a∈U.l,U.z a)(h1:iZ K U H k1 l1 us)(h2:iZ K U H k2 l2 vs)(r1:aB K cA U H xs us)(r2:aB K cA U H ys vs):nP K cA (.fix (List.zipWith (λp q=>D.tup [p,q]) xs ys)) U H (Rq K k1 k2 l1 l2):=by
 refine⟨λU' H₁ H' s' i x o hS e=>?_,λU' H₁ H' s' i d x o hS e=>?_,λU' H₁ H' s' i d v H2 x o hS e y=>?_⟩
 ·have e:(List.zipWith (λp q=>D.tup [p,q]) xs ys)[i]?=none:=cT e;rw[Te] at e;refine⟨us,vs,(h1.later hz x o).sk,(h2.later hz x o).sk,?_⟩;cases ex:xs[i]? with
  |none=>exact .inl (pR.mp (r1.none ex))
  |some p=>
   cases ey:ys[i]? with
   |none=>exact .inr (pR.mp (r2.none ey))
   |some q=>rw[ex,ey] at e;cases e
 ·have e:(List.zipWith (λp q=>D.tup [p,q]) xs ys)[i]?=some d:=cT e;rw[Te] at e;cases ex:xs[i]? with
  |none=>rw[ex] at e;cases e
  |some p=>
   cases ey:ys[i]? with
   |none=>rw[ex,ey] at e;cases e
   |some q=>
    obtain⟨u,q1,_⟩:=r1.get ex;obtain⟨v,q2,_⟩:=r2.get ey;exact⟨us,vs,u,v,(h1.later hz x o).sk,(h2.later hz x o).sk,q1,q2⟩
 ·have e:(List.zipWith (λp q=>D.tup [p,q]) xs ys)[i]?=some d:=cT e;rw[Te] at e;cases ex:xs[i]? with
  |none=>rw[ex] at e;cases e
  |some p=>
   cases ey:ys[i]? with
   |none=>rw[ex,ey] at e;cases e
   |some q=>
    rw[ex,ey] at e;cases e;obtain⟨a,u,w,hn,rfl,rfl,hu,hw⟩:=y;obtain⟨u',q1,ru⟩:=((r1.mono x hz).out o).get ex;obtain⟨w',q2,oR⟩:=((r2.mono x hz).out o).get ey;have e1:=hu us (h1.later hz x o).sk;have e2:=hw vs (h2.later hz x o).sk;rw[q1] at e1;rw[q2] at e2;cases e1;cases e2;have g:bI H' (upd H' a (.tup [u,w])):=bI.new hn;exact⟨g,.tup (.inl ⟨.inl kZ,hS.nz hn⟩) (.cons (ru.mono g.ext hS.lz) (.cons (oR.mono g.ext hS.lz) .nil))⟩
theorem ZP(r:bF K cA U H x v)(h:Run K cA (M.bd (pD x) k) U H s P Ee) :
  ∃xs kd a vs,v=.ref a/\iZ K U H kd a vs/\aB K cA U H xs vs/\Run K cA (k xs) U H s P Ee:=by
 cases r with
 |l _=>exact h.elim
 |d r=>
  cases r with
  |tup q r=>exact⟨_,false,_,_,rfl,q,r,h⟩
  |fl q r=>exact⟨_,true,_,_,rfl,q,r,h⟩
  |_=>exact h.elim
end
section
variable {X:Cx}{cA:Cl}{ao:Nat->Nat->Bool}{aj:Bool}{F:Fn}{EX:XS}{a b:Expr}{A B:E}{pos pp tpos:Pos}{elts:List Expr}{kk:Nat}
theorem zln(uG:Gl X "zip")(hmg:X.mg "zip"=none)(ha:SE X cA ao aj F EX a A)(hb:SE X cA ao aj F EX b B)(h1:starEach [a,b] X.env=(false,eval a X.env)::starEach [b] X.env)(h2:starEach [b] X.env=(false,eval b X.env)::starEach [] X.env) :
  SI X cA ao aj F EX (.Tuple elts kk tpos) (.Call (.Name "zip" pp) [a,b] [] pos) (.zip A B):=PI.weak (zll uG hmg (vC ha (vC hb Et h2) h1) (by rw[h1,h2];rfl) (by rw[h2];rfl)) λZ H R hh=>un hh λU J s hL hS h=>by
 refine bf hL hS h λx H1 U1 d1 s1 x1 hL1 aL r1 h1=>bf hL1 aL h1 λy H2 U2 d2 s2 x2 hL2 aU r2 h2=>?_;obtain⟨xs,k1,l1,us,e1,q1,p1,h3⟩:=ZP (r1.mono x2 aL.lz) h2;obtain⟨ys,k2,l2,vs,e2,q2,p2,h4⟩:=ZP r2 h3;subst e1 e2;exact⟨k1,k2,l1,l2,us,vs,rfl,q1.sk,q2.sk,(h4.bB aU) _ (nP.zip aU.lz q1 q2 p1 p2)⟩
theorem zmR(hmg:X.mg "zip"=none)(uG:JK X "zip" .globalImplicit)(ha:JE X cA ao aj F EX a A)(hb:JE X cA ao aj F EX b B)(h1:aD a=true:=by rfl)(h2:aD b=true:=by rfl):JI X cA ao aj F EX (.Tuple elts kk tpos) (.Call (.Name "zip" p) [a,b] [] pos) (.zip A B):=⟨zln uG.o hmg ha.o hb.o (bw h1) (bw h2)⟩
end
end Mi
namespace Mi
open PySem PySem.Spec PyProof.Rows L2 PySem.W
structure D3(K:Frag)(mg:Str->Option Value)(x:Str)(st:Stmt)(ps:List Str):Prop where
 f:vO K x x st (jq K x) (fdOf K x st)
 m:mg x=some (.ref (jq K x))
 b:Binds K (fdOf K x st) ps []
theorem dk{p:Prop}(h:p:=by decide +kernel):p:=h
section
variable {fs:List (Str×Stmt)}{ms:List wD}{xs:List (Nat×Str)}{lk:Lk}{K:Frag}{h:Heap}{mg:Str->Option Value}{x:Str}{st:Stmt}
theorem pJ(S:iY fs ms xs lk K)(X:K.In h)(G:h.Ns mainGlobals mg)(j:Nat)(hj:fs[j]?=some (x,st):=by rfl)(hb:∀(kV doc pm:Value) (an:Option Addr) (cdv ct a:Value),bindArgs (fnOf x x (aV st) (aM st) (aA st) .none kV doc pm an cdv ct) ⟨[a],[]⟩=pure [(p,a)]:=by intros;rfl):D3 K mg x st [p]:=have F:=S.fn (x,st) (gD hj);⟨F.fn,F.m X G,yh F.fn hb⟩
theorem vQ(S:iY fs ms xs lk K)(X:K.In h)(G:h.Ns mainGlobals mg)(j:Nat)(hj:fs[j]?=some (x,st):=by rfl)(hb:∀(kV doc pm:Value) (an:Option Addr) (cdv ct a b:Value),bindArgs (fnOf x x (aV st) (aM st) (aA st) .none kV doc pm an cdv ct) ⟨[a,b],[]⟩=pure [(p,a),(q,b)]:=by intros;rfl):D3 K mg x st [p,q]:=have F:=S.fn (x,st) (gD hj);⟨F.fn,F.m X G,yj F.fn hb⟩
theorem uR(S:iY fs ms xs lk K)(X:K.In h)(G:h.Ns mainGlobals mg)(j:Nat)(hj:fs[j]?=some (x,st):=by rfl)(hb:∀(kV doc pm:Value) (an:Option Addr) (cdv ct a b c:Value),bindArgs (fnOf x x (aV st) (aM st) (aA st) .none kV doc pm an cdv ct) ⟨[a,b,c],[]⟩=pure [(p,a),(q,b),(t,c)]:=by intros;rfl):D3 K mg x st [p,q,t]:=have F:=S.fn (x,st) (gD hj);⟨F.fn,F.m X G,yp F.fn hb⟩
theorem ZQ(S:iY fs ms xs lk K)(X:K.In h)(G:h.Ns mainGlobals mg)(j:Nat)(hj:fs[j]?=some (x,st):=by rfl)(hb:∀(kV doc pm:Value) (an:Option Addr) (cdv ct a b c d:Value),bindArgs (fnOf x x (aV st) (aM st) (aA st) .none kV doc pm an cdv ct) ⟨[a,b,c,d],[]⟩=pure [(p,a),(q,b),(t,c),(u,d)]:=by intros;rfl):D3 K mg x st [p,q,t,u]:=have F:=S.fn (x,st) (gD hj);⟨F.fn,F.m X G,yq F.fn hb⟩
theorem mG{α:Type}{l:List α}{a:α}(j:Nat)(h:l[j]?=some a:=by rfl):a∈l:=gD h
end
end Mi
namespace Mi
open PySem PySem.Spec PyProof.Rows L2
section
variable {X:Cx}{cA:Cl}
theorem zfz:cN X (.type "str") (λxs H Q=>∃i:Int,xs=[.int i]/\i.natAbs<2^62/\Q (.str (Str.ofString (toString i))) H):=by
 intro ak s Z H xs us Q I r ⟨i,e,hi,q⟩;subst e;obtain⟨u,rfl,t,rfl⟩:=vals1 r;exact str_of_int_fit (N:=4611686018427387904) (by split<;>lia) (Int.le_refl _) λ_=>⟨.str (Str.ofString (toString i)),H,I.tok _,⟨_,rfl⟩,q⟩
theorem zjb:aR X.K cA .str1 (λxs H Q=>∃i:Int,xs=[.int i]/\i.natAbs<2^62/\Q (.str (Str.ofString (toString i))) H):=by
 intro U H ds vs Q zt rs o;have o:aZ X.K cA U H (BL ds) Q:=o;unfold BL at o;split at o
 ·rename_i i _;obtain⟨v,rfl,r1⟩:=rs.one;cases r1;by_cases hk:i.natAbs<2^62
  ·rw[if_pos hk] at o;exact⟨i,rfl,hk,(o.of rfl).here (.str _)⟩
  ·rw[if_neg hk] at o;exact o.elim
 ·exact o.elim
end
section
variable {X:Cx}{cA:Cl}{ao:Nat->Nat->Bool}{aj:Bool}{F:Fn}{EX:XS}{e:Expr}{pos p:Pos}{es:List Expr}{Xs:Es}{fz:Bool}
theorem zlC(hm:X.mg "str"=none)(hg:JK X "str" .globalImplicit)(ha:JA X cA ao aj F EX (e::es) Xs)(he:aD e=true:=by rfl)(bG:es.all aD=true:=by rfl):JE X cA ao aj F EX (.Call (.Name "str" p) (e::es) [] pos) (.pr fz .str1 Xs):=⟨Mw zfz zjb hg.o hm PyProof.Rows.boot_str ha.o UJ UJ (bw he) (aW bG)⟩
end
end Mi
namespace Mi
open PySem
def W{α:Type}(m:M α)(s:S)(P:α->S->Prop):Prop:=∃a s',m s=some (.ok a,s')/\P a s'
def WS(m:MS)(s:S)(Q:Out->S->Prop):Prop:=∃o s',m s=some (o,s')/\Q o s'
section
variable {α β:Type}{m:M α}{k:α->M β}{s:S}{P:α->S->Prop}{R:β->S->Prop}
theorem W.bd(h:W m s λa s'=>W (k a) s' R):W (M.bd m k) s R:=by
 obtain⟨a,s',e,b,s2,e2,r⟩:=h;exact⟨b,s2,by unfold M.bd;rw[e];exact e2,r⟩
theorem W.ret{a:α}(h:P a s):W (M.ret a) s P:=⟨a,s,rfl,h⟩
theorem W.qt(h:W m s P):W (M.qt m) s P:=by
 obtain⟨a,s',e,p⟩:=h;exact⟨a,s',by unfold M.qt;rw[e],p⟩
theorem W.opt(e:o=some a)(h:P a s):W (M.opt o) s P:=by subst e;exact⟨a,s,rfl,h⟩
theorem W.imp{P':α->S->Prop}(h:W m s P)(f:∀a s',P a s'->P' a s'):W m s P':=let ⟨a,s',e,p⟩:=h;⟨a,s',e,f a s' p⟩
theorem W.eq(e:m s=some (.ok a,s'))(p:P a s'):W m s P:=⟨a,s',e,p⟩
theorem KaU{d:D}{P:D->S->Prop}(h:P d s):W (rd (.d d)) s P:=⟨d,s,rfl,h⟩
theorem ZR{n:Nat}{xs:List D}{P:D->S->Prop}(e:s[n]?=some (.lst xs))(h:P (.fl xs) s):W (rd (.l n)) s P:=⟨.fl xs,s,by unfold rd;simp only[e],h⟩
theorem KaX{P:List D->S->Prop}(h:P [] s):W (dW []) s P:=⟨[],s,rfl,h⟩
theorem KaW{x:Xv}{r:List Xv}{P:List D->S->Prop}(h:W (rd x) s λd s1=>W (dW r) s1 λds s2=>P (d::ds) s2):W (dW (x::r)) s P:=W.bd (h.imp λd s1 h1=>W.bd (h1.imp λds s2 h2=>W.ret h2))
theorem ZS{P:List D->S->Prop}(h:P [] s):W (dF []) s P:=⟨[],s,rfl,h⟩
theorem Tf{d:D}{r:List Xv}{P:List D->S->Prop}(h:W (dF r) s λds s2=>P (d::ds) s2):W (dF (.d d::r)) s P:=W.bd (W.ret (W.bd (h.imp λds s2 h2=>W.ret h2)))
theorem W.dat{x:D}{P:D->S->Prop}(h:P x s):W (dat (.d x)) s P:=⟨x,s,rfl,h⟩
theorem W.bool{b:Bool}{P:Bool->S->Prop}(h:P b s):W (bool (.d (.bl b))) s P:=⟨b,s,rfl,h⟩
theorem W.int{b:Int}{P:Int->S->Prop}(h:P b s):W (int (.d (.int b))) s P:=⟨b,s,rfl,h⟩
theorem g8{fz:Bool}{o:Option Rz}{d:D}{P:Xv->S->Prop}(e:o=some (.dat d))(h:P (.d d) s):W (bJ fz o) s P:=by subst e;exact⟨_,s,rfl,h⟩
theorem Fz{o:Option Rz}{xs:List D}{P:Xv->S->Prop}(e:o=some (.nw xs))(h:P (.d (.fl xs)) s):W (bJ true o) s P:=by subst e;exact⟨_,s,rfl,h⟩
theorem KaL{xs:List D}{P:Xv->S->Prop}(h:P (.d (.fl xs)) s):W (newL true xs) s P:=⟨_,s,rfl,h⟩
theorem KaK{xs:List D}{P:Xv->S->Prop}(h:P (.l s.length) (s++[.lst xs])):W (newL false xs) s P:=⟨_,_,rfl,h⟩
theorem W.aY{F:List Xv->M Xv}{xs:List Xv}{P:Xv->S->Prop}(hl:locs xs=[])(h:W (F (dz 0 xs)) [] λv _=>∃d,v=.d d/\P (.d d) s):W (cC F xs) s P:=by
 obtain⟨v,s1,e,d,rfl,p⟩:=h;refine⟨.d d,s,?_,p⟩;unfold cC;rw[hl,if_pos D_];simp only[iG,e,cP]
theorem Kal{F:List Xv->M Xv}{xs:List Xv}{P:Xv->S->Prop}(hl:locs xs=[])(h:W (F (dz 0 xs)) [] λv s1=>∃n o,v=.l n/\s1[n]?=some o/\P (.l s.length) (s++[o])):W (cC F xs) s P:=by
 obtain⟨v,s1,e,n,o,rfl,eo,p⟩:=h;refine⟨.l s.length,s++[o],?_,p⟩;unfold cC;rw[hl,if_pos D_];simp only[iG,e,cP,List.getElem?_nil,eo]
theorem ZV{F:List Xv->M Xv}{xs:List Xv}{n:Nat}{o:SO}{P:Xv->S->Prop}(hl:locs xs=[n])(ho:s[n]?=some o)(h:W (F (dz 0 xs)) [o] λv s1=>∃d o',v=.d d/\s1=[o']/\P (.d d) (s.set n o')):W (cC F xs) s P:=by
 obtain⟨v,s1,e,d,o',rfl,rfl,p⟩:=h;refine⟨.d d,s.set n o',?_,p⟩;unfold cC;rw[hl,if_pos Zaa];simp only[iG,ho,e,cP]
end
section
variable {s:S}{Q:Out->S->Prop}
theorem WS.ofM(h:W m s λa s'=>WS (k a) s' Q):WS (Mi.ofM m J k) s Q:=by
 obtain⟨a,s',e,o,s2,e2,q⟩:=h;exact⟨o,s2,by unfold Mi.ofM;rw[e];exact e2,q⟩
theorem WS.nx(h:Q (.nx J) s):WS (λs=>some (.nx J,s)) s Q:=⟨_,s,rfl,h⟩
theorem WS.rt(h:Q (.rt x) s):WS (λs=>some (.rt x,s)) s Q:=⟨_,s,rfl,h⟩
theorem WS.imp(h:WS m s Q)(f:∀o s',Q o s'->Q' o s'):WS m s Q':=let ⟨a,s',e,p⟩:=h;⟨a,s',e,f a s' p⟩
end
theorem W.call(hT:T f=some d)(hl:xs.length=d.gY)
  (h:WS (exs ao aj (λc=>Mi.call ao T k c) d.body (xs.map some++List.replicate (d.many-d.gY) none)) s λo s'=>match o with|.nx _=>P (.d .non) s'|.rt v=>P v s'|_=>False):W (Mi.call ao T (k+1) aj f xs) s P:=by
 obtain⟨o,s',e,q⟩:=h;unfold Mi.call;simp only[hT,if_pos hl];unfold W;simp only[e];cases o with
 |nx J=>exact⟨_,_,rfl,q⟩
 |rt v=>exact⟨_,_,rfl,q⟩
 |bk J=>exact q.elim
 |ct J=>exact q.elim
 |er c fs J=>exact q.elim
theorem JD(I:Nat->Vs->S->Prop)(h0:I 0 J s)(hb:∀i x J s,c[i]?=some x->I i J s->WS (b x J) s λo s'=>∃J',o=.nx J'/\I (i+1) J' s')
  (he:∀J s,I c.length J s->Q (.nx J) s):WS (dG (.fix c) b (c.length+1) 0 J) s Q:=by
 have key:∀n i J s,i+n=c.length->I i J s->WS (dG (.fix c) b (n+1) i J) s Q:=by
  intro n
  induction n with
  |zero=>
   intro i J s hi hI;have e:c[i]?=none:=by rw[pR];lia
   have:i=c.length:=by lia
   subst this;refine⟨_,s,?_,he J s hI⟩;unfold dG;simp only[Src.at,e]
  |succ n ih=>
   intro i J s hi hI;have hlt:i<c.length:=by lia
   have e:c[i]?=some c[i]:=fH hlt;obtain⟨o,s',eb,J',rfl,JF⟩:=hb i c[i] J s e hI;obtain⟨o2,s2,e2,q⟩:=ih (i+1) J' s' gV JF;refine⟨o2,s2,?_,q⟩;unfold dG;simp only[Src.at,e,eb];exact e2
 exact key c.length 0 J s gV h0
theorem znh{i j:Int}(h:(-(2^64)<i/\i<2^64)\/(-(2^64)<j/\j<2^64)):prim .mul [.int i,.int j]=some (.dat (.int (i*j))):=by
 show Option.map _ (if _ then _ else _)=_;rw[if_pos h];rfl
theorem zmQ{i j:Int}(h:0<j):prim .mod [.int i,.int j]=some (.dat (.int (i%j))):=by
 show Option.map _ (if _ then _ else _)=_;rw[if_pos h];rfl
theorem zkK{i j:Int}(h:0<j/\j<1073741824):prim .fdiv [.int i,.int j]=some (.dat (.int (i/j))):=by
 show Option.map _ (if _ then _ else _)=_;rw[if_pos h];rfl
theorem zg5{i j:Int}(h:0<j/\j<1073741824):prim .divmod [.int i,.int j]=some (.dat (.tup [.int (i/j),.int (i%j)])):=by
 show Option.map _ (if _ then _ else _)=_;rw[if_pos h];rfl
theorem zmm{i j:Int}(h:0<=j/\j<=1000000/\i.natAbs<2^64):prim .pow [.int i,.int j]=some (.dat (.int (i^j.toNat))):=by
 show Option.map _ (if _ then _ else _)=_;rw[if_pos h];rfl
theorem CV{xs:List D}{i:Nat}{x:D}(h:xs[i]?=some x):prim .ix [.fl xs,.int i]=some (.dat x):=by
 show Option.map Rz.dat (L2.tK xs i)=_;have:L2.tK xs (i:Int)=some x:=by
  unfold L2.tK L2.wW;have hl:i<xs.length:=(jt.mp h).1;simp[hl];exact(jt.mp h).2
 rw[this];rfl
theorem ZW(h:xs.length+ys.length<=sizeLine):prim .add [.fl xs,.fl ys]=some (.nw (xs++ys)):=by
 show (if _ then _ else _)=_;rw[if_pos h]
theorem W.ite[Decidable c](h1:c->W m1 s P)(h2:¬c->W m2 s P):W (if c then m1 else m2) s P:=by
 by_cases h:c
 ·rw[if_pos h];exact h1 h
 ·rw[if_neg h];exact h2 h
theorem WS.ite[Decidable c](h1:c->WS m1 s P)(h2:¬c->WS m2 s P):WS (if c then m1 else m2) s P:=by
 by_cases h:c
 ·rw[if_pos h];exact h1 h
 ·rw[if_neg h];exact h2 h
theorem Ti{n:Nat}{xs:List D}{s:S}{P:Unit->S->Prop}(h:P () (s.set n (.lst xs))):W (putL n xs) s P:=⟨_,_,rfl,h⟩
theorem W.cO{n:Nat}{xs:List D}{s:S}{P:Nat×List D->S->Prop}(e:s[n]?=some (.lst xs))(h:P (n,xs) s):W (cO (.l n)) s P:=⟨_,s,by unfold Mi.cO;simp only[e],h⟩
theorem KaZ{xs:List D}{s:S}{P:Src×Nat->S->Prop}(h:P (.fix xs,xs.length) s):W (src (.d (.tup xs))) s P:=⟨_,s,rfl,h⟩
theorem KaY{xs:List D}{s:S}{P:Src×Nat->S->Prop}(h:P (.fix xs,xs.length) s):W (src (.d (.fl xs))) s P:=⟨_,s,rfl,h⟩
theorem WS.nil{ao:Nat->Nat->Bool}{aj:Bool}{F:Bool->Fn}{J:Vs}{s:S}{Q:Out->S->Prop}(h:Q (.nx J) s):WS (exs ao aj F .nil J) s Q:=⟨_,s,rfl,h⟩
theorem WS.cons{ao:Nat->Nat->Bool}{aj:Bool}{F:Bool->Fn}{a:St}{r:bH}{J:Vs}{s:S}{Q:Out->S->Prop}(h:WS (ex ao aj F a J) s λo s'=>match o with|.nx J'=>WS (exs ao aj F r J') s' Q|.rt x=>Q (.rt x) s'|_=>False):WS (exs ao aj F (.cons a r) J) s Q:=by
 obtain⟨o,s',e,q⟩:=h;unfold WS exs Mi.cF;rw[e];cases o with
 |nx J'=>exact q
 |rt x=>exact⟨_,_,rfl,q⟩
 |bk _=>exact q.elim
 |ct _=>exact q.elim
 |er _ _ _=>exact q.elim
def vR{α:Type}(o:Option α)(P:α->Prop):Prop:=∃a,o=some a/\P a
theorem vR.mk{α:Type}{o:Option α}{P:α->Prop}{a:α}(e:o=some a)(h:P a):vR o P:=⟨a,e,h⟩
section
variable {ao:Nat->Nat->Bool}{aj:Bool}{F:Fn}{J:Vs}{s:S}{P:Xv->S->Prop}
theorem W.eC{d:D}(h:P (.d d) s):W (ev ao aj F (.c d) J) s P:=W.ret h
theorem W.eV{i:Nat}{x:Xv}(e:J[i]?.join=some x)(h:P x s):W (ev ao aj F (.v i) J) s P:=W.opt e h
theorem ZX{fz:Bool}{p:Pr}{xs:Es}(h:W (evs ao aj F xs J) s λvs s1=>W (dW vs) s1 λds s2=>W (bJ fz (prim p ds)) s2 P):W (ev ao aj F (.pr fz p xs) J) s P:=W.bd (h.imp λ_ _ h=>W.bd h)
theorem Kat{a b:E}(h:W (ev ao aj F a J) s λx s1=>W (Mi.bool x) s1 λk s2=>W (if k=true then ev ao aj F b J else M.ret (.d (.bl false))) s2 P):W (ev ao aj F (.and a b) J) s P:=W.bd (h.imp λ_ _ h=>W.bd h)
theorem KaB{a b:E}(h:W (ev ao aj F a J) s λx s1=>W (Mi.bool x) s1 λk s2=>W (if k=true then M.ret (.d (.bl true)) else ev ao aj F b J) s2 P):W (ev ao aj F (.or a b) J) s P:=W.bd (h.imp λ_ _ h=>W.bd h)
theorem KaA{a:E}(h:W (ev ao aj F a J) s λx s1=>W (Mi.bool x) s1 λk s2=>P (.d (.bl (!k))) s2):W (ev ao aj F (.not a) J) s P:=W.bd (h.imp λ_ _ h=>W.bd (h.imp λ_ _ h=>W.ret h))
theorem KaE{xs:Es}(h:W (evs ao aj F xs J) s λvs s1=>W (dF vs) s1 λds s2=>P (.d (.tup ds)) s2):W (ev ao aj F (.tup xs) J) s P:=W.bd (h.imp λ_ _ h=>W.bd (h.imp λ_ _ h=>W.ret h))
theorem Kaz{fz:Bool}{xs:Es}(h:W (evs ao aj F xs J) s λvs s1=>W (dF vs) s1 λds s2=>W (newL fz ds) s2 P):W (ev ao aj F (.lst fz xs) J) s P:=W.bd (h.imp λ_ _ h=>W.bd h)
theorem Kaw{k:Str}{i:Int}(h:P (.d (.fd [.str k] [.int i])) s):W (ev ao aj F (.uc k i) J) s P:=W.ret h
theorem Z0{f:Nat}{xs:Es}(h:W (evs ao aj F xs J) s λvs s1=>W (cC (F f) vs) s1 P):W (ev ao aj F (.call f xs) J) s P:=W.bd h
theorem KaD{fz:Bool}{a:E}{lo hi:Eo}(h:W (ev ao aj F a J) s λx s1=>W (xO ao aj F lo J) s1 λl s2=>W (xO ao aj F hi J) s2 λu s3=>W (rd x) s3 λd s4=>W (bJ fz (cutD d l u)) s4 P):W (ev ao aj F (.sl fz a lo hi) J) s P:=W.bd (h.imp λ_ _ h=>W.bd (h.imp λ_ _ h=>W.bd (h.imp λ_ _ h=>W.bd h)))
theorem KaM{P:Option Int->S->Prop}(h:P none s):W (xO ao aj F .no J) s P:=W.ret h
theorem KaN{a:E}{P:Option Int->S->Prop}(h:W (ev ao aj F a J) s λx s1=>W (Mi.int x) s1 λi s2=>P (some i) s2):W (xO ao aj F (.yes a) J) s P:=W.bd (h.imp λ_ _ h=>W.bd (h.imp λ_ _ h=>W.ret h))
theorem Z9{P:List Xv->S->Prop}(h:P [] s):W (evs ao aj F .nil J) s P:=W.ret h
theorem Kah{a:E}{r:Es}{P:List Xv->S->Prop}(h:W (ev ao aj F a J) s λx s1=>W (evs ao aj F r J) s1 λxs s2=>P (x::xs) s2):W (evs ao aj F (.cons a r) J) s P:=W.bd (h.imp λ_ _ h=>W.bd (h.imp λ_ _ h=>W.ret h))
theorem KaI{a:E}{P:Src×Nat->S->Prop}(h:W (ev ao aj F a J) s λx s1=>W (src x) s1 P):W (ou ao aj F (.seq a) J) s P:=W.bd h
end
section
variable {ao:Nat->Nat->Bool}{aj:Bool}{F:Bool->Fn}{J:Vs}{s:S}{Q:Out->S->Prop}
theorem WS.Tj{b:Bool}{m1 m2:MS}(e:b=true)(h:WS m1 s Q):WS (if b=true then m1 else m2) s Q:=by rw[if_pos e];exact h
theorem WS.Tn{b:Bool}{m1 m2:MS}(e:b=false)(h:WS m2 s Q):WS (if b=true then m1 else m2) s Q:=by rw[if_neg (by rw[e];decide)];exact h
theorem WS.rA{m1 m2:MS}(h:WS m1 s Q):WS (if true=true then m1 else m2) s Q:=by rw[if_pos rfl];exact h
theorem WS.MP{m1 m2:MS}(h:WS m2 s Q):WS (if false=true then m1 else m2) s Q:=by rw[if_neg UJ];exact h
theorem Kbc{e:E}(h:W (ev ao aj (F aj) e J) s λ_ s1=>Q (.nx J) s1):WS (ex ao aj F (.ex e) J) s Q:=WS.ofM (h.imp λ_ _ h=>WS.nx h)
theorem Z_{i:Nat}{e:E}(h:W (ev ao aj (F aj) e J) s λx s1=>Q (.nx (J.set i (some x))) s1):WS (ex ao aj F (.asg (.nm i) e) J) s Q:=WS.ofM (h.imp λ_ _ h=>WS.nx h)
theorem Kbk{is:List Nat}{e:E}(h:W (ev ao true (F true) e J) s λx s1=>W (dat x) s1 λd s2=>vR ((lG d).bind λds=>gw is (ds.map .d) J) λJ'=>Q (.nx J') s2):WS (ex ao true F (.asg (.tp is) e) J) s Q:=by
 refine WS.ofM (h.imp λx s1 h=>?_);exact WS.rA (m2:=λ_=>none) (WS.ofM (W.bd (h.imp λd s2 ⟨J',e,q⟩=>W.opt e (WS.nx q))))
theorem Kbj{o i e:E}(h:W (ev ao aj (F aj) e J) s λx s1=>W (dat x) s1 λd s2=>W (ev ao aj (F aj) o J) s2 λy s3=>W (ev ao aj (F aj) i J) s3 λz s4=>W (Mi.int z) s4 λj s5=>W (cO y) s5 λnx s6=>vR (L2.wW nx.2.length j) λq=>Q (.nx J) (s6.set nx.1 (.lst (nx.2.set q d)))):WS (ex ao aj F (.asg (.ao o i) e) J) s Q:=by
 refine WS.ofM (h.imp λx s1 h=>WS.ofM (W.bd (h.imp λd s2 h=>W.bd (h.imp λy s3 h=>W.bd (h.imp λz s4 h=>W.bd (h.imp λj s5 h=>W.bd (h.imp λnx s6 h=>?_)))))));obtain⟨q,e,h⟩:=h;simp only[e];exact Ti (WS.nx h)
theorem Kbg{i j:Nat}{a b:E}(h:W (ev ao true (F true) a J) s λx s1=>W (ev ao true (F true) b J) s1 λy s2=>Q (.nx ((J.set i (some x)).set j (some y))) s2):WS (ex ao true F (.par i j a b) J) s Q:=by
 exact WS.rA (m2:=λ_=>none) (WS.ofM (W.bd (h.imp λx s1 h=>W.bd (h.imp λy s2 h=>W.ret (WS.nx h)))))
theorem Kbh{e:E}(h:W (ev ao aj (F aj) e J) s λx s1=>Q (.rt x) s1):WS (ex ao aj F (.ret e) J) s Q:=WS.ofM (h.imp λ_ _ h=>WS.rt h)
theorem M4{c:E}{t e:bH}(h:W (ev ao aj (F aj) c J) s λx s1=>W (Mi.bool x) s1 λb s2=>WS (if b=true then exs ao aj F t J else exs ao aj F e J) s2 Q):WS (ex ao aj F (.iff c t e) J) s Q:=WS.ofM (W.bd h)
theorem Kbd{t:Tg}{w:Wk}{b:bH}(h:W (ou ao true (F true) w J) s λcn s1=>WS (dG cn.1 (λd J=>Mi.cF (store ao true (F true) t (.d d) J) λJ'=>exs ao true F b J') (cn.2+1) 0 J) s1 Q):WS (ex ao true F (.fr t w b) J) s Q:=by
 exact WS.rA (m2:=λ_=>none) (WS.ofM h)
end
theorem W.Tj{α:Type}{b:Bool}{m1 m2:M α}{s:S}{P:α->S->Prop}(e:b=true)(h:W m1 s P):W (if b=true then m1 else m2) s P:=by rw[if_pos e];exact h
theorem W.Tn{α:Type}{b:Bool}{m1 m2:M α}{s:S}{P:α->S->Prop}(e:b=false)(h:W m2 s P):W (if b=true then m1 else m2) s P:=by rw[if_neg (by rw[e];decide)];exact h
theorem W.rA{α:Type}{m1 m2:M α}{s:S}{P:α->S->Prop}(h:W m1 s P):W (if true=true then m1 else m2) s P:=by rw[if_pos rfl];exact h
theorem W.MP{α:Type}{m1 m2:M α}{s:S}{P:α->S->Prop}(h:W m2 s P):W (if false=true then m1 else m2) s P:=by rw[if_neg UJ];exact h
structure Bx(R:Prop):Prop where
 o:R
end Mi
namespace Mi
open PySem PySem.W PyProof.Rows L2
abbrev cB(n:Nat)(p:Array Nat):Prop:=p.Perm (List.range n).toArray
theorem cB.lt(h:cB n p)(hn:0<n)(i:Nat):p.getD i 0<n:=by
 by_cases hi:i<p.size
 ·have e:p.getD i 0=p[i]:=by simp[Array.getD,hi]
  rw[e];have hm:p[i]∈(List.range n).toArray:=h.mem_iff.mp (Array.getElem_mem hi);simpa using hm
 ·have e:p.getD i 0=0:=by simp[Array.getD,hi]
  rw[e];exact hn
theorem cB.rev(h:cB n p)(i j:Nat):cB n (kas_rev p i j):=(mirror_perm p i j _).trans h
theorem cB.bub(h:cB n p)(i j:Nat):cB n (bubble p i j):=(bubble_perm p i j).trans h
def jE{α:Type}(lt:Nat->Nat->Option Bool)(t:KasT α)(P:α->Prop):Prop:=∃a,bD lt t=some a/\P a
section
variable {α β:Type}{lt:Nat->Nat->Option Bool}{n:Nat}
theorem jE.ret(h:P a):jE lt (.ret a) P:=⟨a,rfl,h⟩
theorem jE.bind(hf:∀a,P a->jE lt (f a) R):∀{t:KasT α},jE lt t P->jE lt (t.bind f) R
 |.ret a,⟨a',e,h⟩=>by cases e;exact hf _ h
 |.ask i j k,⟨a',e,h⟩=>by
  unfold bD at e;cases el:lt i j with
  |none=>rw[el] at e;cases e
  |some b=>
   rw[el] at e;obtain⟨c,e1,h1⟩:=jE.bind hf (t:=k b) ⟨a',e,h⟩;refine⟨c,?_,h1⟩;show bD lt (.ask i j λb=>(k b).bind f)=some c;unfold bD;rw[el];exact e1
def Tot(n:Nat)(lt:Nat->Nat->Option Bool):Prop:=∀i j,i<n->j<n->∃b,lt i j=some b
variable (ht:Tot n lt)(hn:0<n)
include ht hn
end
noncomputable def cZ(p:Int×Int):D:=.tup [.int p.1,.int p.2]
end Mi
namespace Mi
open PySem
theorem W.walk{c:List D}{f:D->List D->M (List D)}{s:S}{acc:List D}{P:List D->S->Prop}(I:Nat->List D->S->Prop)(h0:I 0 acc s)(hb:∀i x acc s,c[i]?=some x->I i acc s->W (f x acc) s λa s'=>I (i+1) a s')
  (he:∀acc s,I c.length acc s->P acc s):W (Mi.walk (.fix c) f (c.length+1) 0 acc) s P:=by
 have key:∀n i acc s,i+n=c.length->I i acc s->W (Mi.walk (.fix c) f (n+1) i acc) s P:=by
  intro n
  induction n with
  |zero=>
   intro i acc s hi hI;have e:c[i]?=none:=by rw[pR];lia
   have:i=c.length:=by lia
   subst this;refine⟨acc,s,?_,he acc s hI⟩;unfold Mi.walk;simp only[Src.at,e]
  |succ n ih=>
   intro i acc s hi hI;have hlt:i<c.length:=by lia
   have e:c[i]?=some c[i]:=fH hlt;obtain⟨a,s',eb,JF⟩:=hb i c[i] acc s e hI;obtain⟨a2,s2,e2,q⟩:=ih (i+1) a s' gV JF;refine⟨a2,s2,?_,q⟩;unfold Mi.walk;simp only[Src.at,e,M.bd,eb];exact e2
 exact key c.length 0 acc s gV h0
section
variable {ao:Nat->Nat->Bool}{aj:Bool}{F:Fn}{J:Vs}{s:S}{P:Xv->S->Prop}
theorem Kax(h:W (ev ao aj F a J) s λx s1=>W (rd x) s1 λd s2=>∃b,lF ao d k=some b/\P (.d (.bl b)) s2):W (ev ao aj F (.fZ a k) J) s P:=
 W.bd (h.imp λ_ _ h=>W.bd (h.imp λ_ _ ⟨_,e,h⟩=>W.bd (W.opt e (W.ret h))))
theorem Kav(h:W (ev ao aj F a J) s λx s1=>W (ev ao aj F b J) s1 λy s2=>W (dW [x,y]) s2 λds s3=>W (bJ true (prim p ds)) s3 λt s4=>W (Mi.bool t) s4 λk s5=>
  W (if k=true then M.bd (ev ao aj F c J) λz=>M.bd (dW [y,z]) λds=>bJ true (prim q ds) else M.ret (.d (.bl false))) s5 P):W (ev ao aj F (.rT p q a b c) J) s P:=
 W.bd (h.imp λ_ _ h=>W.bd (h.imp λ_ _ h=>W.bd (h.imp λ_ _ h=>W.bd (h.imp λ_ _ h=>W.bd h))))
end
noncomputable def JL(fz:Bool):Option Rz->Option Xv
 |some (.dat d)=>some (.d d)
 |some (.nw ys)=>match fz with
  |true=>some (.d (.fl ys))
  |false=>none
 |none=>none
noncomputable def addQ:D->D->Option Rz
 |.int i,.int j=>some (.dat (.int (i+j)))
 |_,_=>none
noncomputable def zU:List D->Option Rz
 |a::r=>match r with
  |b::r=>match r with
   |[]=>addQ a b
   |_::_=>none
  |[]=>none
 |[]=>none
noncomputable def quick:Pr->Bool
 |.Iw=>false|.Yq=>false|.mul=>false|.fdiv=>false|.mod=>false|.pow=>false|.divmod=>false|.sorted=>false|.dU=>false|.mH=>false|.mult=>false|.zx=>false|.repr=>false|.str1=>false|.Yr=>false|.Iu=>false|.Iv=>false
 |_=>true
noncomputable def qz(p:Pr)(ds:List D):Option Rz:=match p with
 |.add=>zU ds
 |p=>match quick p with
  |true=>prim p ds
  |false=>none
theorem JM{ds:List D}{r:Rz}(h:zU ds=some r):Bu ds=some r:=by
 cases ds with
 |nil=>cases h
 |cons a t=>cases t with
  |nil=>cases h
  |cons b t=>cases t with
   |cons _ _=>cases h
   |nil=>cases a with
    |int i=>cases b with
     |int j=>exact h
     |_=>cases h
    |_=>cases h
theorem CW{p:Pr}{ds:List D}{r:Rz}(h:qz p ds=some r):prim p ds=some r:=by
 cases p with
 |add=>exact JM h
 |_=>first|exact h|cases h
noncomputable def Tq(fz:Bool)(ds:List D):Option Xv:=match fz with
 |true=>some (.d (.fl ds))
 |false=>none
noncomputable def JV:Xv->Option D
 |.d x=>some x
 |.l _=>none
noncomputable def obP(c:Nat):Xv->Option (List D)
 |.d (.ob e fs)=>if e=c then some fs else none
 |_=>none
noncomputable def notP:Xv->Option Xv
 |.d (.bl b)=>some (.d (.bl (!b)))
 |_=>none
noncomputable def Tt(r:Option Xv):Xv->Option Xv
 |.d (.bl true)=>r
 |.d (.bl false)=>some (.d (.bl false))
 |_=>none
noncomputable def orP(r:Option Xv):Xv->Option Xv
 |.d (.bl true)=>some (.d (.bl true))
 |.d (.bl false)=>r
 |_=>none
section
variable (ao:Nat->Nat->Bool)
mutual
noncomputable def fu:E->Vs->Option Xv
 |.c d,_=>some (.d d)
 |.v i,J=>J[i]?.join
 |.pr fz p xs,J=>(pK xs J).bind λds=>JL fz (qz p ds)
 |.tup xs,J=>(pK xs J).bind λds=>some (.d (.tup ds))
 |.lst fz xs,J=>(pK xs J).bind λds=>Tq fz ds
 |.not a,J=>(fu a J).bind notP
 |.and a b,J=>(fu a J).bind (Tt (fu b J))
 |.or a b,J=>(fu a J).bind (orP (fu b J))
 |.fZ a k,J=>(fu a J).bind λx=>(JV x).bind λd=>(lF ao d k).bind λb=>some (.d (.bl b))
 |.of o c i,J=>(fu o J).bind λx=>(obP c x).bind λfs=>fs[i]?.map .d
 |_,_=>none
noncomputable def pK:Es->Vs->Option (List D)
 |.nil,_=>some []
 |.cons a r,J=>(fu a J).bind λx=>(JV x).bind λd=>(pK r J).bind λds=>some (d::ds)
end
noncomputable def qC:Es->Vs->Option (List Xv)
 |.nil,_=>some []
 |.cons a r,J=>(fu ao a J).bind λx=>(qC r J).bind λxs=>some (x::xs)
end
theorem mO{α β:Type}{o:Option α}{f:α->Option β}{b:β}(h:o.bind f=some b):∃a,o=some a/\f a=some b:=wj.mp h
theorem i_{α β:Type}{m:M α}{k:α->M β}{s s':S}{a:α}(e:m s=some (.ok a,s')):M.bd m k s=k a s':=by
 show (match m s with|some (.ok a,s')=>k a s'|some (.er c f,s')=>some (.er c f,s')|none=>none)=_;rw[e]
theorem CZ(s:S):∀ds:List D,dW (ds.map .d) s=some (.ok ds,s)
 |[]=>rfl
 |d::r=>(i_ (s':=s) (a:=d) rfl).trans ((i_ (CZ s r)).trans rfl)
theorem uU(s:S):∀ds:List D,dF (ds.map .d) s=some (.ok ds,s)
 |[]=>rfl
 |d::r=>(i_ (s':=s) (a:=d) rfl).trans ((i_ (uU s r)).trans rfl)
theorem Tv{fz:Bool}{p:Pr}{ds:List D}{x:Xv}{s:S}(h:JL fz (qz p ds)=some x):bJ fz (prim p ds) s=some (.ok x,s):=by
 cases o:qz p ds with
 |none=>rw[o] at h;cases h
 |some r=>
  rw[o] at h;rw[CW o];cases r with
  |dat d=>cases h;rfl
  |nw ys=>cases fz with
   |true=>cases h;rfl
   |false=>cases h
section
variable {ao:Nat->Nat->Bool}{aj:Bool}{F:Fn}{J:Vs}{s:S}
theorem uV(e:E):∀x:Xv,fu ao e J=some x->ev ao aj F e J s=some (.ok x,s):=by
 refine E.rec (motive_1:=λe=>∀x:Xv,fu ao e J=some x->ev ao aj F e J s=some (.ok x,s)) (motive_2:=λ_=>True) (motive_3:=λxs=>∀ds:List D,pK ao xs J=some ds->evs ao aj F xs J s=some (.ok (ds.map .d),s)) (motive_4:=λ_=>True)
  ?c ?v ?pr (λ_ _ _ _ _ _ _ _ _ h=>nomatch h) (λ_ _ _ _ _ _ _ _ _ _ _ _ h=>nomatch h) ?and ?or ?not (λ_ _ _ _ _ _ _ h=>nomatch h) ?tup ?lst (λ_ _ _ h=>nomatch h) (λ_ _ _ _ h=>nomatch h) ?fZ (λ_ _ _ _ _ _ _ _ h=>nomatch h) (λ_ _ _ _ _ _ _ _ h=>nomatch h) (λ_ _ _ _ _ h=>nomatch h) (λ_ _ _ h=>nomatch h)
  (λ_ _ _ _ _ _ _ _ _ _ _ h=>nomatch h) (λ_ _ _ _ _ _ _ _ _ _ _ _ _ _ h=>nomatch h) (λ_ _ _ _ _ h=>nomatch h) ?of (λ_ _ _ _ _ h=>nomatch h) (λ_ _ _ _ _ _ _ h=>nomatch h) (λ_ h=>nomatch h) (λ_ _ _ _ _ _ h=>nomatch h) (λ_ _ _ _ _ h=>nomatch h) (λ_ _ _ h=>nomatch h) (λ_ _ _ _ _ _ h=>nomatch h) (λ_ _ _ _ _ h=>nomatch h) (λ_ _ _ _ _ _ _ h=>nomatch h) (λ_ h=>nomatch h)
  (λ_ _=>trivial) (λ_ _ _ _=>trivial) (λ_ _ _ _=>trivial) (λ_ _=>trivial) (λ_ _=>trivial) ?nil ?cons trivial (λ_ _=>trivial) e
 case c=>intro d x h;cases h;rfl
 case v=>intro i x h;exact(show M.opt (J[i]?.join) s=_ from by rw[show J[i]?.join=some x from h];rfl)
 case pr=>
  intro fz p xs ih x h;obtain⟨ds,e1,e2⟩:=mO h;exact(i_ (ih _ e1)).trans ((i_ (CZ s ds)).trans (Tv e2))
 case tup=>
  intro xs ih x h;obtain⟨ds,e1,e2⟩:=mO h;cases e2;exact(i_ (ih _ e1)).trans ((i_ (uU s ds)).trans rfl)
 case lst=>
  intro fz xs ih x h;obtain⟨ds,e1,e2⟩:=mO h;cases fz with
  |false=>cases e2
  |true=>cases e2;exact(i_ (ih _ e1)).trans ((i_ (uU s ds)).trans rfl)
 case not=>
  intro a ih x h;obtain⟨y,e1,e2⟩:=mO h;cases y with
  |l n=>cases e2
  |d y=>cases y with
   |bl b=>cases e2;exact(i_ (ih _ e1)).trans rfl
   |_=>cases e2
 case and=>
  intro a b ih ih2 x h;obtain⟨y,e1,e2⟩:=mO h;cases y with
  |l n=>cases e2
  |d y=>cases y with
   |bl b=>cases b with
    |true=>exact(i_ (ih _ e1)).trans (ih2 _ e2)
    |false=>cases e2;exact(i_ (ih _ e1)).trans rfl
   |_=>cases e2
 case or=>
  intro a b ih ih2 x h;obtain⟨y,e1,e2⟩:=mO h;cases y with
  |l n=>cases e2
  |d y=>cases y with
   |bl b=>cases b with
    |true=>cases e2;exact(i_ (ih _ e1)).trans rfl
    |false=>exact(i_ (ih _ e1)).trans (ih2 _ e2)
   |_=>cases e2
 case fZ=>
  intro a k ih x h;obtain⟨y,e1,e2⟩:=mO h;cases y with
  |l n=>cases e2
  |d y=>
   obtain⟨d,e3,e4⟩:=mO e2;cases e3;obtain⟨b,e5,e6⟩:=mO e4;cases e6;refine(i_ (ih _ e1)).trans ((i_ (s':=s) (a:=y) rfl).trans ((i_ (s':=s) (a:=b) ?_).trans rfl));rw[e5];rfl
 case of=>
  intro o c i ih x h;obtain⟨y,e1,e2⟩:=mO h;obtain⟨fs,e3,e4⟩:=mO e2;refine(i_ (ih _ e1)).trans ((i_ (s':=s) (a:=fs) ?_).trans ?_)
  ·cases y with
   |l n=>cases e3
   |d y=>cases y with
    |ob e gs=>
     have e3:(if e=c then some gs else none)=some fs:=e3;show (if e=c then M.ret gs else M.no) s=_;split at e3
     ·rename_i h;cases e3;rw[if_pos h];rfl
     ·cases e3
    |_=>cases e3
  ·show M.opt (fs[i]?.map Xv.d) s=_;rw[e4];rfl
 case nil=>intro ds h;cases h;rfl
 case cons=>
  intro a r ih ih2 ds h;obtain⟨y,e1,e2⟩:=mO h;cases y with
  |l n=>cases e2
  |d y=>
   obtain⟨d,e3,e4⟩:=mO e2;cases e3;obtain⟨rs,e5,e6⟩:=mO e4;cases e6;exact(i_ (ih _ e1)).trans ((i_ (ih2 _ e5)).trans rfl)
theorem uW:∀(xs:Es) (ds:List D),pK ao xs J=some ds->evs ao aj F xs J s=some (.ok (ds.map .d),s)
 |.nil,ds,h=>by cases h;rfl
 |.cons a r,ds,h=>by
  obtain⟨y,e1,e2⟩:=mO h;cases y with
  |l n=>cases e2
  |d y=>
   obtain⟨d,e3,e4⟩:=mO e2;cases e3;obtain⟨rs,e5,e6⟩:=mO e4;cases e6;exact(i_ (uV a _ e1)).trans ((i_ (uW r _ e5)).trans rfl)
theorem mQ:∀(xs:Es) {vs:List Xv},qC ao xs J=some vs->evs ao aj F xs J s=some (.ok vs,s)
 |.nil,vs,h=>by cases h;rfl
 |.cons a r,vs,h=>by
  obtain⟨y,e1,e2⟩:=mO h;obtain⟨ys,e3,e4⟩:=mO e2;cases e4;exact(i_ (uV a _ e1)).trans ((i_ (mQ r e3)).trans rfl)
variable {P:Xv->S->Prop}
theorem W.pv{e:E}{x:Xv}(h:fu ao e J=some x)(k:P x s):W (ev ao aj F e J) s P:=W.eq (uV e _ h) k
theorem KaS{f:Nat}{xs:Es}{vs:List Xv}(h:qC ao xs J=some vs)(k:W (cC (F f) vs) s P):W (ev ao aj F (.call f xs) J) s P:=Z0 (W.eq (mQ xs h) k)
theorem KaT{fz:Bool}{p:Pr}{xs:Es}{ds:List D}(h:pK ao xs J=some ds)(k:W (bJ fz (prim p ds)) s P):W (ev ao aj F (.pr fz p xs) J) s P:=ZX (W.eq (uW xs _ h) (W.eq (CZ s ds) k))
theorem KaR{xs:Es}{vs:List Xv}{P:List Xv->S->Prop}(h:qC ao xs J=some vs)(k:P vs s):W (evs ao aj F xs J) s P:=W.eq (mQ xs h) k
end
section
variable {ao:Nat->Nat->Bool}{aj:Bool}{F:Bool->Fn}{J:Vs}{s:S}{Q:Out->S->Prop}{e:E}{r:bH}
theorem Kba{i:Nat}{x:Xv}(h:fu ao e J=some x)(k:WS (exs ao aj F r (J.set i (some x))) s Q):WS (exs ao aj F (.cons (.asg (.nm i) e) r) J) s Q:=WS.cons (Z_ (W.pv h k))
theorem Kbb{x:Xv}(h:fu ao e J=some x)(k:Q (.rt x) s):WS (exs ao aj F (.cons (.ret e) r) J) s Q:=WS.cons (Kbh (W.pv h k))
theorem Ka9{b:Bool}{t u:bH}(h:fu ao e J=some (.d (.bl b)))(k:WS (if b=true then exs ao aj F t J else exs ao aj F u J) s λo s'=>match o with|.nx J'=>WS (exs ao aj F r J') s' Q|.rt x=>Q (.rt x) s'|_=>False):WS (exs ao aj F (.cons (.iff e t u) r) J) s Q:=WS.cons (M4 (W.pv h (W.bool k)))
end
def WR{α:Type}(m:M α)(s:S)(c:Nat)(fs:List D):Prop:=∃s',m s=some (.er c fs,s')
section
variable {α β:Type}{m:M α}{k:α->M β}{s:S}{c:Nat}{fs:List D}
theorem Tw(h:WR m s c fs):WR (M.bd m k) s c fs:=by
 obtain⟨s',e⟩:=h;exact⟨s',by unfold M.bd;rw[e]⟩
theorem uX(h:W m s λa s'=>WR (k a) s' c fs):WR (M.bd m k) s c fs:=by
 obtain⟨a,s',e,s2,e2⟩:=h;exact⟨s2,by unfold M.bd;rw[e];exact e2⟩
theorem WR.aY(hl:locs xs=[])(h:WR (F (dz 0 xs)) [] c fs):WR (cC F xs) s c fs:=by
 obtain⟨s1,e⟩:=h;refine⟨s,?_⟩;unfold cC;rw[hl,if_pos D_];simp only[iG,e,cP]
end
theorem WR.call(hT:T f=some d)(hl:xs.length=d.gY)
  (h:WS (exs ao aj (λc=>Mi.call ao T k c) d.body (xs.map some++List.replicate (d.many-d.gY) none)) s λo _=>∃J,o=.er c fs J):WR (Mi.call ao T (k+1) aj f xs) s c fs:=by
 obtain⟨o,s',e,J,rfl⟩:=h;unfold Mi.call;simp only[hT,if_pos hl];unfold WR;simp only[e];exact⟨_,rfl⟩
section
variable {ao:Nat->Nat->Bool}{aj:Bool}{F:Bool->Fn}{J:Vs}{s:S}{Q:Out->S->Prop}{c:Nat}{fs:List D}
theorem Ka8(h:WR m s c fs)(q:∀s',Q (.er c fs J) s'):WS (Mi.ofM m J k) s Q:=by
 obtain⟨s',e⟩:=h;exact⟨_,s',by unfold Mi.ofM;rw[e],q s'⟩
theorem sE(h:WS (ex ao aj F a J) s λo s'=>(∃c fs J',o=.er c fs J')/\Q o s'):WS (exs ao aj F (.cons a r) J) s Q:=by
 obtain⟨o,s',e,⟨c,fs,J',rfl⟩,q⟩:=h;exact⟨_,s',by unfold exs Mi.cF;rw[e],q⟩
theorem M5(h:WR (ev ao aj (F aj) e J) s c fs)(q:∀s',Q (.er c fs J) s'):WS (ex ao aj F (.ex e) J) s Q:=Ka8 h q
theorem Kbi{c:Nat}{kp:Bool}{xs:Es}(h:W (evs ao true (F true) xs J) s λvs s1=>W (dF vs) s1 λds s2=>Q (.er c (if kp=true then ds else []) J) s2):WS (ex ao true F (.rise c kp xs) J) s Q:=by
 refine WS.rA (m2:=λ_=>none) (WS.ofM (W.bd (h.imp λvs s1 h=>h.imp λds s2 h=>?_)));exact⟨_,s2,rfl,h⟩
theorem Kbn{m:MS}{k:Vs->MS}(h:WS m s λo s'=>match o with|.nx J'=>WS (k J') s' Q|.rt x=>Q (.rt x) s'|_=>False):WS (Mi.cF m k) s Q:=by
 obtain⟨o,s',e,q⟩:=h;unfold WS Mi.cF;rw[e];cases o with
 |nx J'=>exact q
 |rt x=>exact⟨_,_,rfl,q⟩
 |bk _=>exact q.elim
 |ct _=>exact q.elim
 |er _ _ _=>exact q.elim
theorem Kbl{F:Fn}{i:Nat}{x:Xv}(h:Q (.nx (J.set i (some x))) s):WS (store ao aj F (.nm i) x J) s Q:=⟨_,s,rfl,h⟩
theorem Kbm{F:Fn}{is:List Nat}{d:D}(h:vR ((lG d).bind λds=>gw is (ds.map .d) J) λJ'=>Q (.nx J') s):WS (store ao true F (.tp is) (.d d) J) s Q:=by
 obtain⟨J',e,q⟩:=h;exact WS.rA (m2:=λ_=>none) (WS.ofM (W.bd (W.dat (W.opt e (WS.nx q)))))
theorem Kbo(hb:WS (exs ao true F b J) s λo s'=>∃c fs J',o=.er c fs J'/\ao c d=true/\WS (exs ao false F h (J'.set i (some (.d (.exc c fs))))) s' λr s2=>(∃x,r=.rt x)/\Q r s2):WS (ex ao true F (.ud b d i h) J) s Q:=by
 obtain⟨o,s',e,c,fs,J',rfl,hs,r,s2,e2,⟨x,rfl⟩,q⟩:=hb;exact⟨_,s2,by unfold ex;rw[if_pos rfl];simp only[e,hs,if_true,e2];rfl,q⟩
end
section
variable {ao:Nat->Nat->Bool}{aj:Bool}{F:Fn}{J:Vs}{s:S}{P:Xv->S->Prop}
theorem W.fZ{a:E}{k:Kd}(h:W (ev ao aj F a J) s λx s1=>W (rd x) s1 λd s2=>vR (lF ao d k) λb=>P (.d (.bl b)) s2):W (ev ao aj F (.fZ a k) J) s P:=Kax h
theorem W.rT{p q:Pr}{a b c:E}(h:W (ev ao aj F a J) s λx s1=>W (ev ao aj F b J) s1 λy s2=>W (dW [x,y]) s2 λds s3=>W (bJ true (prim p ds)) s3 λt s4=>W (Mi.bool t) s4 λk s5=>
  W (if k=true then M.bd (ev ao aj F c J) λz=>M.bd (dW [y,z]) λds=>bJ true (prim q ds) else M.ret (.d (.bl false))) s5 P):W (ev ao aj F (.rT p q a b c) J) s P:=Kav h
theorem Kay{c a b:E}(h:W (ev ao aj F c J) s λx s1=>W (Mi.bool x) s1 λk s2=>W (if k=true then ev ao aj F a J else ev ao aj F b J) s2 P):W (ev ao aj F (.ite c a b) J) s P:=W.bd (h.imp λ_ _ h=>W.bd h)
theorem KaG{a:E}{P:Src×Nat->S->Prop}(h:W (ev ao aj F a J) s λx s1=>W (uh x) s1 P):W (ou ao aj F (.enum a) J) s P:=W.bd h
theorem KaF{xs:List D}{P:Src×Nat->S->Prop}(h:P (.fix (enumFrom 0 xs),(enumFrom 0 xs).length) s):W (uh (.d (.fl xs))) s P:=⟨_,s,rfl,h⟩
theorem KaH{a b:E}{P:Src×Nat->S->Prop}(h:W (ev ao aj F a J) s λx s1=>W (ev ao aj F b J) s1 λy s2=>W (Mi.int x) s2 λi s3=>W (Mi.int y) s3 λj s4=>(fj i&&fj j)=true/\P (.fix (jk i j),(jk i j).length) s4):W (ou ao aj F (.rg a b) J) s P:=by
 refine W.bd (h.imp λx s1 h=>W.bd (h.imp λy s2 h=>W.bd (h.imp λi s3 h=>W.bd (h.imp λj s4 h=>?_))));rw[if_pos h.1];exact W.ret h.2
theorem KaJ{a b:E}{P:Src×Nat->S->Prop}(h:W (ev ao aj F a J) s λx s1=>W (ev ao aj F b J) s1 λy s2=>W (pD x) s2 λxs s3=>W (pD y) s3 λys s4=>P (.fix (List.zipWith (λp q=>.tup [p,q]) xs ys),(List.zipWith (λ(p q:D)=>D.tup [p,q]) xs ys).length) s4):W (ou ao aj F (.zip a b) J) s P:=
 W.bd (h.imp λx s1 h=>W.bd (h.imp λy s2 h=>W.bd (h.imp λxs s3 h=>W.bd (h.imp λys s4 h=>W.ret h))))
theorem W.jm{xs:List D}{P:List D->S->Prop}(h:P xs s):W (pD (.d (.tup xs))) s P:=W.ret h
theorem W.vK{xs:List D}{P:List D->S->Prop}(h:P xs s):W (pD (.d (.fl xs))) s P:=W.ret h
theorem Kaj{P:Bool->S->Prop}(h:P true s):W (uo ao aj F .no J) s P:=W.ret h
theorem Kak{a:E}{P:Bool->S->Prop}(h:W (ev ao aj F a J) s λx s1=>W (Mi.bool x) s1 P):W (uo ao aj F (.yes a) J) s P:=W.bd h
theorem vU{α:Type}{f:α->D}{l:List α}{fz:Bool}{elt:E}{tg:List Nat}{it:Wk}{fr:List Nat}{many:Nat}{cond:Eo}(g:α->Option D)(hc:l.length<=sizeLine)
  (hw:W (ou ao true F it J) s λcn s1=>cn=(.fix (l.map f),(l.map f).length)/\s1=s)
  (hb:∀x∈l,vR (jY tg (f x) (blk many fr J)) λJ'=>W (uo ao true F cond J') s λb s1=>s1=s/\(b=true->W (ev ao true F elt J') s λy s2=>s2=s/\∃d,y=.d d/\g x=some d)/\(b=false->g x=none))
  (h:W (newL fz (l.filterMap g)) s P):W (ev ao true F (.comp fz elt tg it fr many cond) J) s P:=by
 change W (_root_.ite (true=true) _ _) s P
 rw[if_pos rfl];refine W.bd (hw.imp λcn s1=>?_);rintro⟨rfl,rfl⟩;refine W.bd ?_;refine W.walk (c:=l.map f) (λi acc s'=>s'=s1/\acc=(l.take i).filterMap g) ⟨rfl,rfl⟩ (λi x acc s' e hI=>?_) (λacc s' hI=>?_)
 ·obtain⟨rfl,rfl⟩:=hI;rw[ju] at e;cases el:l[i]? with
  |none=>rw[el] at e;cases e
  |some y=>
   rw[el] at e;cases e;have hi:i<l.length:=(jt.mp el).1;have ht:l.take (i+1)=l.take i++[y]:=by rw[List.take_succ,el];rfl
   have hl:((l.take i).filterMap g).length<sizeLine:=Nat.lt_of_le_of_lt (List.length_filterMap_le _ _) (by rw[yG];lia);obtain⟨J',e1,h1⟩:=hb y (gD el);refine W.bd (W.opt e1 ?_);refine W.bd (W.qt (h1.imp λb s2=>?_));rintro⟨rfl,h2,h3⟩;rw[ht,List.filterMap_append];cases b
   ·rw[if_neg UJ];refine W.ret ⟨rfl,?_⟩;simp[h3 rfl]
   ·rw[if_pos rfl];refine W.bd (W.qt ((h2 rfl).imp λy s3=>?_));rintro⟨rfl,d,rfl,eg⟩;refine W.bd (W.dat ?_);rw[if_pos hl];refine W.ret ⟨rfl,?_⟩;simp[eg]
 ·obtain⟨rfl,rfl⟩:=hI;rw[bZ,K9];exact h
theorem Kao{c:List D}{fz:Bool}{elt:E}{tg:List Nat}{it:Wk}{fr:List Nat}{many:Nat}{cond:Eo}(I:Nat->List D->S->Prop)
  (hw:W (ou ao true F it J) s λcn s1=>cn=(.fix c,c.length)/\I 0 [] s1)
  (hb:∀i x acc s,c[i]?=some x->I i acc s->vR (jY tg x (blk many fr J)) λJ'=>W (uo ao true F cond J') s λb s1=>(b=true->W (ev ao true F elt J') s1 λy s2=>∃d,y=.d d/\acc.length<sizeLine/\I (i+1) (acc++[d]) s2)/\(b=false->I (i+1) acc s1))
  (h:∀acc s,I c.length acc s->W (newL fz acc) s P):W (ev ao true F (.comp fz elt tg it fr many cond) J) s P:=by
 change W (_root_.ite (true=true) _ _) s P
 rw[if_pos rfl];refine W.bd (hw.imp λcn s1=>?_);rintro⟨rfl,h0⟩;refine W.bd ?_;refine W.walk (c:=c) I h0 (λi x acc s' e hI=>?_) (λacc s' hI=>h acc s' hI);obtain⟨J',e1,h1⟩:=hb i x acc s' e hI;refine W.bd (W.opt e1 ?_);refine W.bd (W.qt (h1.imp λb s2=>?_));rintro⟨h2,h3⟩;cases b
 ·rw[if_neg UJ];exact W.ret (h3 rfl)
 ·rw[if_pos rfl];refine W.bd (W.qt ((h2 rfl).imp λy s3=>?_));rintro⟨d,rfl,hl,hi⟩;refine W.bd (W.dat ?_);rw[if_pos hl];exact W.ret hi
theorem W.push{o a:E}(h:W (ev ao aj F o J) s λx s1=>W (Mi.cO x) s1 λ_ s2=>W (ev ao aj F a J) s2 λy s3=>W (Mi.dat y) s3 λd s4=>W (Mi.cO x) s4 λnx s5=>nx.2.length<sizeLine/\P (.d .non) (s5.set nx.1 (.lst (nx.2++[d])))):W (ev ao aj F (.push o a) J) s P:=by
 refine W.bd (h.imp λx s1 h=>W.bd (h.imp λ_ s2 h=>W.bd (h.imp λy s3 h=>W.bd (h.imp λd s4 h=>W.bd (h.imp λnx s5 h=>?_)))));rw[if_pos h.1];exact W.bd (Ti (W.ret h.2))
end
theorem zes{s:S}{o:SO}:(s++[o])[s.length]?=some o:=by simp
theorem Y{P R:Prop}(k:R)(h:Bx R->P:=by
 intro k
 repeat (first|with_reducible first
   |refine Kba (by with_unfolding_all rfl) ?_|refine Kbb (by with_unfolding_all rfl) ?_|refine Ka9 (by with_unfolding_all rfl) ?_|refine W.pv (by with_unfolding_all rfl) ?_|refine KaT (by with_unfolding_all rfl) ?_|refine KaS (by with_unfolding_all rfl) ?_|refine KaR (by with_unfolding_all rfl) ?_
   |refine WS.cons ?_|refine WS.nil ?_|refine Kbn ?_|refine Kbl ?_|refine Kbm ?_|refine Z_ ?_|refine Kbh ?_|refine M4 ?_|refine Kbk ?_|refine Kbj ?_|refine Kbg ?_|refine Kbc ?_|refine Kbd ?_|refine Kbi ?_|refine WS.rA ?_|refine WS.MP ?_|refine WS.Tj (by with_unfolding_all rfl) ?_|refine WS.Tn (by with_unfolding_all rfl) ?_|refine vR.mk (by with_unfolding_all rfl) ?_
   |refine Kah ?_|refine Z9 ?_|refine W.eC ?_|refine W.eV (by with_unfolding_all rfl) ?_|refine ZX ?_|refine Z0 ?_|refine KaE ?_|refine Kaz ?_|refine KaA ?_|refine Kat ?_|refine KaB ?_|refine Kay ?_|refine W.fZ ?_|refine W.rT ?_|refine W.push ?_|refine KaD ?_|refine Kaw ?_|refine KaM ?_|refine KaN ?_|refine KaI ?_|refine KaH ?_|refine KaJ ?_|refine KaG ?_|refine Kaj ?_|refine Kak ?_|refine W.rA ?_|refine W.MP ?_|refine W.Tj (by with_unfolding_all rfl) ?_|refine W.Tn (by with_unfolding_all rfl) ?_
   |refine KaW ?_|refine KaX ?_|refine KaU ?_|refine ZR (by with_unfolding_all rfl) ?_|refine ZR zes ?_|refine Tf ?_|refine ZS ?_|refine W.dat ?_|refine W.bool ?_|refine W.int ?_|refine W.cO (by with_unfolding_all rfl) ?_|refine W.cO zes ?_|refine Ti ?_|refine KaZ ?_|refine KaF ?_|refine W.jm ?_|refine W.vK ?_|refine KaY ?_|refine KaL ?_|refine KaK ?_
   |refine g8 (by first|(with_unfolding_all rfl)|exact znh (by first|(left;constructor<;>lia)|(right;constructor<;>lia))|exact zmQ gV|exact zkK gV|exact zg5 gV|exact zmm UJ) ?_|refine Fz (by with_unfolding_all rfl) ?_
   |refine W.ret ?_|refine W.bd ?_
   | (dsimp only))
 all_goals exact k.o):P:=h ⟨k⟩
def lx(p q:Int×Int):Prop:=p.1<q.1\/p.1=q.1/\p.2<q.2
noncomputable def dM(n:Int)(ps:List (Int×Int)):D:=.tup [.int n,.tup (ps.map cZ)]
structure Web(n:Int)(ps:List (Int×Int)):Prop where
 h1:1<=n
 h8:n<=8
 tie:∀p∈ps,0<=p.1/\p.1<p.2/\p.2<n
 inc:ps.Pairwise lx
 len:(ps.length:Int)<=7*n
theorem zkk(p q:Int×Int):dD (k+1) (cZ p) (cZ q)=some (decide (p=q)):=by
 show gq (dD k) [.int p.1,.int p.2] [.int q.1,.int q.2]=_;have hi:∀a b:Int,dD k (.int a) (.int b)=some (a==b):=by intro a b;cases k<;>rfl
 simp only[gq,hi];obtain⟨a,b⟩:=p;obtain⟨c,d⟩:=q;by_cases h1:a=c
 ·by_cases h2:b=d
  ·simp[h1,h2]
  ·simp[h1,h2]
 ·simp[h1]
theorem Tz(xs:List D):cut xs (some 1) none=xs.drop 1:=by
 unfold cut;rw[HT.tH];rw[show (some 1:Option Int)=some ((1:Nat):Int) from rfl,HT.wR];cases xs with
 |nil=>rfl
 |cons x r=>simp
theorem zkz{p:Int×Int}:¬lx p p:=by rintro(h|⟨_,h⟩)<;>lia
theorem zgS{ps:List (Int×Int)}(h:ps.Pairwise lx):ps.Nodup:=h.imp λ{p q} h e=>by subst e;exact zkz h
theorem zgy(h:BJ xs=some ys):prim .sorted [.fl xs]=some (.nw ys):=by
 show Option.map Rz.nw (BJ xs)=_;rw[h];rfl
theorem TF:∀{es:List Int} {a n:Int},es.Pairwise (·<·)->(∀e∈es,a<=e/\e<n)->a<=n->(es.length:Int)<=n-a
 |[],a,n,_,_,h=>by simp;lia
 |e::r,a,n,h,hb,ha=>by
  obtain⟨h1,h2⟩:=Ae.mp h;have he:=hb e Zaa;have:=TF (es:=r) (a:=e+1) (n:=n) h2 (λx hx=>⟨by have:=h1 x hx;lia,(hb x (by simp[hx])).2⟩) gV;rw[je]
  lia
theorem zl9{a b:Int}{i:Nat}{x:D}(h:(jk a b)[i]?=some x):x=.int (a+i)/\a+i<b:=by
 unfold jk at h;rw[ju] at h;cases e:(List.range (b-a).toNat)[i]? with
 |none=>rw[e] at h;cases h
 |some j=>
  rw[e] at h;cases h;obtain⟨hl,rfl⟩:=jt.mp e;rw[List.length_range] at hl;rw[List.getElem_range];exact⟨rfl,by lia⟩
theorem zh2:(jk a b).length=(b-a).toNat:=by unfold jk;simp
theorem M6(h1 : -1000<=a)(h2:a<=1000):fj a=true:=by
 unfold fj;rw[dR gV,dR gV];rfl
theorem yr(hl:locs xs=[s.length])(h:W (F (dz 0 xs)) [o] λv s1=>∃d o',v=.d d/\s1=[o']/\P (.d d) (s++[o'])):W (cC F xs) (s++[o]) P:=by
 refine ZV (n:=s.length) (o:=o) hl Zaa (h.imp λv s1=>?_);rintro⟨d,o',rfl,rfl,hp⟩;exact⟨d,o',rfl,rfl,by rw[show (s++[o]).set s.length o'=s++[o'] by simp];exact hp⟩
theorem zjZ{ns:List Int}{lo hi:Option Int}{x:D}(h:x∈cut (ns.map D.int) lo hi):∃n,x=.int n:=by
 have:=List.mem_of_mem_drop (List.mem_of_mem_take h);obtain⟨n,_,rfl⟩:=gG.mp this;exact⟨n,rfl⟩
theorem zjU{ns:List Int}{lo hi:Option Int}:(cut (ns.map D.int) lo hi).length<=ns.length:=by
 unfold cut;rw[yG,Gm,bZ]
 lia
theorem Ka4(R:Vs->S->Prop)(h:WS (ex ao aj F a J) s λo s'=>∃J',o=.nx J'/\R J' s')(h2:∀J' s',R J' s'->WS (exs ao aj F r J') s' Q):WS (exs ao aj F (.cons a r) J) s Q:=
 WS.cons (h.imp λo s' ⟨J',e,hr⟩=>by subst e;exact h2 J' s' hr)
theorem ze6(fs:List Int):eZ (fs.map D.int)=some fs:=by
 induction fs with
 |nil=>rfl
 |cons a r ih=>
  show Option.map _ (eZ (r.map D.int))=_;rw[ih];rfl
noncomputable def at'(fs:List Int)(j:Int):Int:=fs.getD j.toNat 0
theorem zke{fs:List Int}{j:Int}(h0:0<=j)(h:j<fs.length):∃(i:Nat) (hi:i<fs.length),j=i/\at' fs j=fs[i]:=by
 obtain⟨i,rfl⟩:=Oh h0;have hi:i<fs.length:=by lia
 refine⟨i,hi,rfl,?_⟩;unfold at';rw[yF,kY,fH hi];rfl
theorem zn3{fs:List Int}{j:Int}(h0:0<=j)(h:j<fs.length):(fs.map D.int)[j.toNat]?=some (.int (at' fs j)):=by
 obtain⟨i,hi,rfl,e⟩:=zke h0 h;rw[e,yF,ju,fH hi];rfl
theorem zmV(h0:0<=j)(h:xs[j.toNat]?=some x):prim .ix [.fl xs,.int j]=some (.dat x):=by
 obtain⟨k,rfl⟩:=Oh h0;exact CV h
theorem zh1(h0:0<=j)(h:j<fs.length):prim .ix [.tup (fs.map .int),.int j]=some (.dat (.int (at' fs j))):=zmV h0 (zn3 h0 h)
noncomputable def pN(k a b:Int):Int:=if k-(if a-b<0 then -(a-b) else a-b)<(if a-b<0 then -(a-b) else a-b) then k-(if a-b<0 then -(a-b) else a-b) else (if a-b<0 then -(a-b) else a-b)
noncomputable def bC(k d:Int):D:=.tup [.int k,.int d]
noncomputable def nR(k d:Int)(ps:List (Int×Int))(hs:List Int):Bool:=ps.all λp=>decide (d<=pN k (at' hs p.1) (at' hs p.2))
theorem zhz:nR k d ps hs=true↔∀p∈ps,d<=pN k (at' hs p.1) (at' hs p.2):=by
 unfold nR;rw[fX];exact⟨λh p hp=>lO (h p hp),λh p hp=>dR (h p hp)⟩
theorem C_{α:Type}{l:List α}{f:α->D}:l.filterMap (λx=>some (f x))=l.map f:=by
 rw[<-List.filterMap_eq_map];rfl
theorem Ka7(I:Nat->Vs->S->Prop)(h0:I 0 J s)(hb:∀i x J s,c[i]?=some x->I i J s->WS (b x J) s λo s'=>(∃J',o=.nx J'/\I (i+1) J' s')\/(∃x,o=.rt x/\Q (.rt x) s'))
  (he:∀J s,I c.length J s->Q (.nx J) s):WS (dG (.fix c) b (c.length+1) 0 J) s Q:=by
 have key:∀n i J s,i+n=c.length->I i J s->WS (dG (.fix c) b (n+1) i J) s Q:=by
  intro n
  induction n with
  |zero=>
   intro i J s hi hI;have e:c[i]?=none:=by rw[pR];lia
   have:i=c.length:=by lia
   subst this;refine⟨_,s,?_,he J s hI⟩;unfold dG;simp only[Src.at,e]
  |succ n ih=>
   intro i J s hi hI;have hlt:i<c.length:=by lia
   have e:c[i]?=some c[i]:=fH hlt;obtain⟨o,s',eb,hr⟩:=hb i c[i] J s e hI;rcases hr with ⟨J',rfl,JF⟩|⟨x,rfl,hq⟩
   ·obtain⟨o2,s2,e2,q⟩:=ih (i+1) J' s' gV JF;refine⟨o2,s2,?_,q⟩;unfold dG;simp only[Src.at,e,eb];exact e2
   ·refine⟨_,s',?_,hq⟩;unfold dG;simp only[Src.at,e,eb]
 exact key c.length 0 J s gV h0
theorem yt(h:xs.length+ys.length<=sizeLine):prim .add [.tup xs,.tup ys]=some (.dat (.tup (xs++ys))):=by
 show (if _ then _ else _)=_;rw[if_pos h]
noncomputable def jr:D->Bool
 |.exc _ _=>false
 |.ob _ _=>false
 |.any=>false
 |_=>true
noncomputable def TJ:D->Bool
 |.int _=>true
 |_=>false
noncomputable def eG:D->Bool
 |.tup xs=>xs.all jr
 |d=>jr d
theorem zfd{α:Type}(l:List α)(f:α->Bool):gU (l.map λx=>D.bl (f x))=some (l.map f):=by
 induction l with
 |nil=>rfl
 |cons x r ih=>
  show Option.map _ (gU (r.map λx=>D.bl (f x)))=_;rw[ih];rfl
theorem M7{α:Type}{l:List α}{f:α->Bool}:prim .all [.fl (l.map λx=>D.bl (f x))]=some (.dat (.bl (l.all f))):=by
 show Option.map _ (gU (l.map λx=>D.bl (f x)))=_;rw[zfd];show some (Rz.dat (.bl ((l.map f).all id)))=_;rw[Eh];rfl
theorem M8(h:x∈cut xs lo hi):x∈xs:=List.mem_of_mem_drop (List.mem_of_mem_take h)
theorem M9:(cut xs lo hi).length<=xs.length:=by
 unfold cut;rw[yG,Gm]
 lia
end Mi
namespace Mi
open PySem PySem.W PyProof.Rows L2
structure Ord(n:Nat)(lt:Nat->Nat->Option Bool)(le:Nat->Nat->Prop):Prop where
 ans:∀i j,i<n->j<n->(lt i j=some true/\le i j)\/(lt i j=some false/\le j i)
 tr:∀i j k,i<n->j<n->k<n->le i j->le j k->le i k
section
variable {lt:Nat->Nat->Option Bool}{le:Nat->Nat->Prop}{n:Nat}
theorem Ord.rfl'(o:Ord n lt le)(hi:i<n):le i i:=by
 rcases o.ans i i hi hi with ⟨_,e⟩|⟨_,e⟩<;>exact e
def fB(le:Nat->Nat->Prop)(p:Array Nat)(r:Nat):Prop:=∀a b,a<b->b<r->le (p.getD a 0) (p.getD b 0)
def vV(le:Nat->Nat->Prop)(p:Array Nat)(r:Nat):Prop:=∀a b,a<b->b<r->le (p.getD b 0) (p.getD a 0)
def JZ(le:Nat->Nat->Prop)(p:Array Nat)(l r:Nat):Prop:=∀a b,l<=a->a<r->l<=b->b<r->le (p.getD a 0) (p.getD b 0)
theorem getD_get?{p q:Array Nat}{i j:Nat}(h:p[i]?=q[j]?):p.getD i 0=q.getD j 0:=by
 have e:∀(x:Array Nat) (k:Nat),x.getD k 0=(x[k]?).getD 0:=by
  intro x k;unfold Array.getD
  split
  ·rename_i h;rw[Gd h];rfl
  ·rename_i h;rw[Array.getElem?_eq_none gV];rfl
 rw[e,e,h]
theorem cB.size{p:Array Nat}(h:cB n p):p.size=n:=by have:=h.size_eq;simpa using this
theorem vW{p:Array Nat}{i j k:Nat}(hj:j<=p.size):(kas_rev p i j).getD k 0=if i<=k/\k<j then p.getD (i+j-1-k) 0 else p.getD k 0:=by
 have:=getElem?_mirror_all (xs:=p) (i:=i) hj k;unfold kas_rev
 split
 ·rename_i h;rw[if_pos h] at this;exact getD_get? this
 ·rename_i h;rw[if_neg h] at this;exact getD_get? this
theorem zd5{p:Array Nat}{src d k:Nat}(hs:src<p.size)(hd:d<=src):(bubble p src d).getD k 0=if k=src-d then p.getD src 0 else if src-d<k/\k<=src then p.getD (k-1) 0 else p.getD k 0:=by
 have:=getElem?_bubble hs d hd k;by_cases h:k=src-d
 ·rw[if_pos h] at this ⊢;exact getD_get? this
 ·rw[if_neg h] at this ⊢;by_cases h2:src-d<k/\k<=src
  ·rw[if_pos h2] at this ⊢;exact getD_get? this
  ·rw[if_neg h2] at this ⊢;exact getD_get? this
variable (o:Ord n lt le)(hn:0<n)
include o hn
theorem uY(hi:i<n)(hj:j<n)(h1:le i j->jE lt (k true) P)(h2:le j i->jE lt (k false) P):jE lt (.ask i j k) P:=by
 rcases o.ans i j hi hj with ⟨e,hl⟩|⟨e,hl⟩
 ·obtain⟨a,e1,q⟩:=h1 hl;exact⟨a,by unfold bD;rw[e];exact e1,q⟩
 ·obtain⟨a,e1,q⟩:=h2 hl;exact⟨a,by unfold bD;rw[e];exact e1,q⟩
theorem zgW(hp:cB n p)(hk:1<=k)(h:fB le p k)(hl:le (p.getD (k-1) 0) (p.getD k 0)):fB le p (k+1):=λa b qD hb=>by
 by_cases e:b=k
 ·subst e;by_cases e2:a=b-1
  ·subst e2;exact hl
  ·exact o.tr _ _ _ (hp.lt hn _) (hp.lt hn _) (hp.lt hn _) (h a (b-1) gV gV) hl
 ·exact h a b qD gV
theorem J1(hp:cB n p)(hk:1<=k)(h:vV le p k)(hl:le (p.getD k 0) (p.getD (k-1) 0)):vV le p (k+1):=λa b qD hb=>by
 by_cases e:b=k
 ·subst e;by_cases e2:a=b-1
  ·subst e2;exact hl
  ·exact o.tr _ _ _ (hp.lt hn _) (hp.lt hn _) (hp.lt hn _) hl (h a (b-1) gV gV)
 ·exact h a b qD gV
theorem TQ(hp:cB n p):∀f k,1<=k->k+f<=n->fB le p k->jE lt (kas_asc p f k) λr=>k<=r/\r<=k+f/\fB le p r/\(r<k+f->le (p.getD r 0) (p.getD (r-1) 0))
 |0,k,_,_,h=>.ret ⟨bV _,by lia,h,λz=>by lia⟩
 |f+1,k,hk,hkf,h=>uY o hn (hp.lt hn _) (hp.lt hn _) (λhl=>.ret ⟨bV _,by lia,h,λ_=>hl⟩) λhl=>by
  obtain⟨r,e,h1,h2,h3,h4⟩:=TQ hp f (k+1) gV gV (zgW o hn hp hk h hl);exact⟨r,e,by lia,by lia,h3,λz=>h4 gV⟩
theorem zfr(hp:cB n p)(hk:k<=n)(h:vV le p k)(ha:JZ le p l k):vV le (kas_rev p l k) k:=λa b qD hb=>by
 have hs:=hp.size;rw[vW gV,vW gV];by_cases ca:l<=a/\a<k
 ·rw[if_pos ca,if_pos gV];exact ha _ _ gV gV gV gV
 ·rw[if_neg ca];by_cases cb:l<=b/\b<k
  ·rw[if_pos cb];exact h a _ gV gV
  ·rw[if_neg cb];exact h a b qD hb
theorem M_:∀f {p:Array Nat} k q,cB n p->1<=k->k+f<=n->q+1<=k->vV le p k->JZ le p (k-(q+1)) k->jE lt (kas_desc f p k q) λr=>cB n r.1/\k<=r.2.1/\r.2.1<=k+f/\r.2.2+1<=r.2.1/\vV le r.1 r.2.1/\JZ le r.1 (r.2.1-(r.2.2+1)) r.2.1
 |0,p,k,q,hp,_,_,hq,h,ha=>.ret ⟨hp,bV _,by dsimp only;lia,hq,h,ha⟩
 |f+1,p,k,q,hp,hk,hkf,hq,h,ha=>uY o hn (hp.lt hn _) (hp.lt hn _) (λhl=>by
   show jE lt (if q>0 then _ else _) _;have hs:=hp.size;have one:∀{x:Array Nat},cB n x->JZ le x (k+1-(0+1)) (k+1):=λ{x} hx a b h1 h2 h3 h4=>by
    have:a=k:=by lia
    have:b=k:=by lia
    subst a;subst b;exact o.rfl' (hx.lt hn _)
   split
   ·have hp':=hp.rev (k-(q+1)) k;have h':vV le (kas_rev p (k-(q+1)) k) (k+1):=J1 o hn hp' hk (zfr o hn hp gV h ha) (by
     rw[vW gV,vW gV,if_neg gV,if_pos gV];refine o.tr _ _ _ (hp.lt hn _) (hp.lt hn _) (hp.lt hn _) hl (ha _ _ gV gV gV gV))
    obtain⟨r,e,w⟩:=M_ f (k+1) 0 hp' gV gV gV h' (one hp');exact⟨r,e,w.1,by lia,by lia,w.2.2.2⟩
   ·obtain⟨r,e,w⟩:=M_ f (k+1) 0 hp gV gV gV (J1 o hn hp hk h hl) (one hp);exact⟨r,e,w.1,by lia,by lia,w.2.2.2⟩) λhl=>uY o hn (hp.lt hn _) (hp.lt hn _) (λ_=>.ret ⟨hp,bV _,by dsimp only;lia,hq,h,ha⟩) λtO=>by
   have hA:JZ le p (k+1-(q+1+1)) (k+1):=λa b h1 h2 h3 h4=>by
    have key:∀c,k-(q+1)<=c->c<k->le (p.getD c 0) (p.getD k 0)/\le (p.getD k 0) (p.getD c 0):=λc c1 c2=>
     ⟨o.tr _ _ _ (hp.lt hn _) (hp.lt hn _) (hp.lt hn _) (ha c (k-1) c1 c2 gV gV) hl,o.tr _ _ _ (hp.lt hn _) (hp.lt hn _) (hp.lt hn _) tO (ha (k-1) c gV gV c1 c2)⟩
    by_cases ea:a=k
    ·by_cases eb:b=k
     ·subst a;subst b;exact o.rfl' (hp.lt hn _)
     ·subst a;exact(key b gV gV).2
    ·by_cases eb:b=k
     ·subst b;exact(key a gV gV).1
     ·exact ha a b gV gV gV gV
   obtain⟨r,e,w⟩:=M_ f (k+1) (q+1) hp gV gV gV (J1 o hn hp hk h tO) hA;exact⟨r,e,w.1,by lia,by lia,w.2.2.2⟩
theorem zjH(hp:cB n p)(hk:k<=n)(h:vV le p k):fB le (kas_rev p 0 k) k:=λa b qD hb=>by
 have hs:=hp.size;rw[vW gV,vW gV,if_pos gV,if_pos gV];exact h _ _ gV gV
theorem zfm(hp:cB n p)(hk:1<=k)(J3:k<=n)(h:vV le p k):jE lt (kas_tail3 k n p) λr=>cB n r.2/\1<=r.1/\r.1<=n/\fB le r.2 r.1:=by
 refine jE.bind (λc hc=>?_) (TQ o hn (hp.rev 0 k) (n-k) k hk gV (zjH o hn hp J3 h));exact⟨_,rfl,hp.rev 0 k,by dsimp only;lia,by dsimp only;lia,hc.2.2.1⟩
theorem zch(hp:cB n p)(hk:1<=k)(J3:k<n)(h:vV le p (k+1)):jE lt (kas_descPart k n p) λr=>cB n r.2/\1<=r.1/\r.1<=n/\fB le r.2 r.1:=by
 refine jE.bind (λr hr=>?_) (M_ o hn (n-(k+1)) (k+1) 0 hp gV gV gV h (λa b h1 h2 h3 h4=>by
  have:a=k:=by lia
  have:b=k:=by lia
  subst a;subst b;exact o.rfl' (hp.lt hn _)))
 obtain⟨w1,w2,w3,w4,w5,w6⟩:=hr
 split
 ·exact zfm o hn (w1.rev _ _) gV gV (zfr o hn w1 gV w5 w6)
 ·exact zfm o hn w1 gV gV w5
theorem zjD(hp:cB n p):jE lt (kas_count n p) λr=>cB n r.2/\1<=r.1/\r.1<=n/\fB le r.2 r.1:=by
 refine jE.bind (λk hk=>?_) (TQ o hn hp (n-1) 1 (bV _) gV (λa b h1 h2=>by lia));obtain⟨k1,k2,k3,k4⟩:=hk;have hs:=hp.size;by_cases e:(k==n)=true
 ·rw[if_pos e];exact .ret ⟨hp,k1,by dsimp only;lia,k3⟩
 ·rw[if_neg e];have J3:k<n:=by
   have:k≠n:=by simpa using e
   lia
  have hl:=k4 gV
  split
  ·refine uY o hn (hp.lt hn _) (hp.lt hn _) (λ_=>.ret ⟨hp,k1,by dsimp only;lia,k3⟩) λhz=>?_;have alk:∀a b,a<k->b<k->le (p.getD a 0) (p.getD b 0):=λa b ha hb=>by
    have h1:le (p.getD a 0) (p.getD (k-1) 0):=by
     by_cases q:a=k-1
     ·subst q;exact o.rfl' (hp.lt hn _)
     ·exact k3 a (k-1) gV gV
    have h2:le (p.getD 0 0) (p.getD b 0):=by
     by_cases q:b=0
     ·subst q;exact o.rfl' (hp.lt hn _)
     ·exact k3 0 b gV gV
    exact o.tr _ _ _ (hp.lt hn _) (hp.lt hn _) (hp.lt hn _) (o.tr _ _ _ (hp.lt hn _) (hp.lt hn _) (hp.lt hn _) h1 hz) h2
   refine zch o hn (hp.rev 0 k) k1 J3 (J1 o hn (hp.rev 0 k) k1 (λa b h1 h2=>?_) ?_)
   ·rw[vW gV,vW gV,if_pos gV,if_pos gV];exact alk _ _ gV gV
   ·rw[vW gV,vW gV,if_neg gV,if_pos gV];exact o.tr _ _ _ (hp.lt hn _) (hp.lt hn _) (hp.lt hn _) hl (alk _ _ gV gV)
  ·have:k=1:=by lia
   subst this;refine zch o hn hp (bV _) J3 (J1 o hn hp (bV _) (λa b h1 h2=>by lia) hl)
theorem TX(hp:cB n p)(h:fB le p k):∀f l r,l<=r->r<=k->r-l<=f->(∀a,a<l->le (p.getD a 0) (p.getD k 0))->(∀a,r<=a->a<k->le (p.getD k 0) (p.getD a 0))->jE lt (kas_place p k f l r) λi=>i<=k/\(∀a,a<i->le (p.getD a 0) (p.getD k 0))/\(∀a,i<=a->a<k->le (p.getD k 0) (p.getD a 0))
 |0,l,r,h1,h2,h3,h4,h5=>.ret ⟨by lia,h4,λa z=>h5 a gV⟩
 |f+1,l,r,h1,h2,h3,h4,h5=>by
  unfold kas_place;by_cases e:l>=r
  ·rw[if_pos e];exact .ret ⟨by lia,h4,λa z=>h5 a gV⟩
  ·rw[if_neg e];refine uY o hn (hp.lt hn _) (hp.lt hn _) (λhl=>?_) λhl=>?_
   ·refine TX hp h f l ((l+r)/2) gV gV gV h4 λa z1 z2=>?_;by_cases q:a=(l+r)/2
    ·subst q;exact hl
    ·exact o.tr _ _ _ (hp.lt hn _) (hp.lt hn _) (hp.lt hn _) hl (h _ a gV z2)
   ·refine TX hp h f ((l+r)/2+1) r gV h2 gV (λa z=>?_) h5;by_cases q:a=(l+r)/2
    ·subst q;exact hl
    ·exact o.tr _ _ _ (hp.lt hn _) (hp.lt hn _) (hp.lt hn _) (h a _ gV gV) hl
theorem zky:∀f {p:Array Nat} k,cB n p->k+f=n->fB le p k->jE lt (kas_bin f p k) λr=>cB n r/\fB le r n
 |0,p,k,hp,hk,h=>.ret ⟨hp,(show k=n by lia)▸h⟩
 |f+1,p,k,hp,hk,h=>jE.bind (λl hl=>by
   obtain⟨l1,l2,l3⟩:=hl;have hs:=hp.size;refine zky f (k+1) (hp.bub _ _) gV λa b qD hb=>?_;rw[zd5 gV gV,zd5 gV gV,show k-(k-l)=l by lia];by_cases ea:a=l
   ·rw[if_pos ea,if_neg gV,if_pos gV];exact l3 (b-1) gV gV
   ·rw[if_neg ea];by_cases ca:l<a/\a<=k
    ·rw[if_pos ca,if_neg gV,if_pos gV];exact h _ _ gV gV
    ·rw[if_neg ca];by_cases eb:b=l
     ·rw[if_pos eb];exact l2 a gV
     ·rw[if_neg eb];by_cases cb:l<b/\b<=k
      ·rw[if_pos cb];by_cases q:a=b-1
       ·lia
       ·exact h _ _ gV gV
      ·rw[if_neg cb];exact h _ _ qD gV) (TX o hn hp h k 0 k gV (bV _) gV (λa z=>by lia) (λa z1 z2=>by lia))
theorem zkg:jE lt (kas_sort n) λp=>cB n p/\fB le p n:=by
 refine jE.bind (λr hr=>?_) (zjD o hn (.refl _));obtain⟨w1,w2,w3,w4⟩:=hr
 split
 ·rw[Nat.max_eq_left w2];exact zky o hn _ _ w1 gV w4
 ·have:r.1=n:=by lia
  exact .ret ⟨w1,this▸w4⟩
end
end Mi
namespace Ts
open PySem PySem.SetTable
theorem TY{ss:List Nat}{j:Nat}(hs:ss.Pairwise (·<·)):∀(fuel lo hi:Nat),hi-lo<=fuel->lo<=hi->hi<=ss.length->(∀i (h:i<ss.length),i<lo->ss[i]<j)->(∀i (h:i<ss.length),hi<=i->j<=ss[i])->
  below.go ss.toArray j fuel lo hi<=ss.length/\(∀i (h:i<ss.length),i<below.go ss.toArray j fuel lo hi->ss[i]<j)/\(∀i (h:i<ss.length),below.go ss.toArray j fuel lo hi<=i->j<=ss[i])
 |0,lo,hi,hf,h1,h2,h3,h4=>by
  unfold below.go;have:lo=hi:=by lia
  subst this;exact⟨h2,h3,h4⟩
 |fuel+1,lo,hi,hf,h1,h2,h3,h4=>by
  unfold below.go;by_cases hlt:lo<hi
  ·rw[if_pos hlt];have hm:(lo+hi)/2<ss.length:=by lia
   have e:ss.toArray.getD ((lo+hi)/2) j=ss[(lo+hi)/2]:=by simp[hm]
   dsimp only;rw[e];by_cases hc:ss[(lo+hi)/2]<j
   ·rw[if_pos hc];refine TY hs fuel _ _ gV gV h2 (λi h vX=>?_) h4;rcases Ej i ((lo+hi)/2) with z|z
    ·have:=rF.mp hs i ((lo+hi)/2) h hm z
     lia
    ·have:i=(lo+hi)/2:=by lia
     subst this;exact hc
   ·rw[if_neg hc];refine TY hs fuel _ _ gV gV gV h3 (λi h vX=>?_);rcases Ej ((lo+hi)/2) i with z|z
    ·have:=rF.mp hs ((lo+hi)/2) i hm h z
     lia
    ·have:i=(lo+hi)/2:=by lia
     subst this
     lia
  ·rw[if_neg hlt];have:lo=hi:=by lia
   subst this;exact⟨h2,h3,h4⟩
theorem zeT{ss:List Nat}(hs:ss.Pairwise (·<·))(j:Nat):below ss.toArray j<=ss.length/\(∀x∈ss.take (below ss.toArray j),x<j)/\∀x∈ss.drop (below ss.toArray j),j<=x:=by
 obtain⟨h1,h2,h3⟩:=TY (j:=j) hs ss.length 0 ss.length gV gV (bV _) (λi h hi=>by lia) (λi h hi=>by lia);have e:below ss.toArray j=below.go ss.toArray j ss.length 0 ss.length:=by unfold below;rw[dh]
 rw[e];refine⟨h1,λx hx=>?_,λx hx=>?_⟩
 ·obtain⟨i,hi,rfl⟩:=yD.mp hx;rw[yG] at hi;rw[List.getElem_take];exact h2 i gV gV
 ·obtain⟨i,hi,rfl⟩:=yD.mp hx;rw[Gm] at hi;rw[List.getElem_drop];exact h3 _ gV gV
noncomputable abbrev Ent:=List (Nat×Nat)
def fB(L:Ent):Prop:=(L.map (·.1)).Pairwise (·<·)
theorem T3{L:Ent}(hs:fB L)(j:Nat):∃La Lb,L=La++Lb/\below (L.map (·.1)).toArray j=La.length/\(∀e∈La,e.1<j)/\∀e∈Lb,j<=e.1:=by
 obtain⟨h1,h2,h3⟩:=zeT hs j;generalize below (L.map (·.1)).toArray j=b at h1 h2 h3;rw[bZ] at h1;refine⟨L.take b,L.drop b,(Oo b L).symm,by rw[yG];lia,λe he=>h2 _ ?_,λe he=>h3 _ ?_⟩
 ·rw[<-List.map_take];exact sO he
 ·rw[<-List.map_drop];exact sO he
theorem zk3{La Lb:Ent}{e:Nat×Nat}(h:fB (La++e::Lb)):(∀x∈La,x.1<e.1)/\∀x∈Lb,e.1<x.1:=by
 unfold fB at h;rw[m_,kh,Gh] at h;refine⟨λx hx=>h.2.2 _ (sO hx) _ dO,λx hx=>?_⟩;exact(Ae.mp h.2.1).1 _ (sO hx)
theorem zio{La Lb:Ent}{e:Nat×Nat}(h:fB (La++Lb))(ha:∀x∈La,x.1<e.1)(hb:∀x∈Lb,e.1<x.1):fB (La++e::Lb):=by
 unfold fB at h ⊢;rw[m_,Gh] at h;rw[m_,kh,Gh];refine⟨h.1,Ae.mpr ⟨λx hx=>?_,h.2.1⟩,λx hx y hy=>?_⟩
 ·obtain⟨z,hz,rfl⟩:=gG.mp hx;exact hb z hz
 ·rcases cH.mp hy with rfl|hy
  ·obtain⟨z,hz,rfl⟩:=gG.mp hx;exact ha z hz
  ·exact h.2.2 x hx y hy
theorem zf5{j:Nat}:has #[] j=false:=by unfold has;rfl
theorem zkp{t:SetTable}{L:Ent}(ht:t.place=(L.map (·.1)).toArray)(hd:t.dummies=#[])(hs:fB L)(j:Nat) :
  (∃La k Lb,L=La++(j,k)::Lb/\t.slot j=.live La.length)\/((∀e∈L,e.1≠j)/\t.slot j=.empty):=by
 obtain⟨La,Lb,e,hb,h1,h2⟩:=T3 hs j;have mC:t.slot j=if (L.map (·.1)).toArray[La.length]?==some j then .live La.length else if has t.dummies j then .dummy else .empty:=by
  unfold slot;rw[ht,hb]
 rw[hd,zf5] at mC;have hg:(L.map (·.1)).toArray[La.length]?=(Lb.map (·.1))[0]?:=by
  rw[Gf,e,m_,oE Zaa];simp
 rw[hg] at mC;cases Lb with
 |nil=>
  right
  refine⟨λx hx=>?_,by rw[mC];rfl⟩;rw[e,Ag] at hx;exact cR (h1 x hx)
 |cons x Lb=>
  by_cases hx:x.1=j
  ·left
   refine⟨La,x.2,Lb,by rw[e,<-hx],?_⟩;rw[mC,if_pos (by simp[hx])]
  ·right
   have hgt:j<x.1:=by have:=h2 x dO;lia
   rw[e] at hs;obtain⟨_,a2⟩:=zk3 hs;refine⟨λy hy=>?_,by rw[mC,if_neg (by simp[hx])];rfl⟩;rw[e] at hy;rcases gK.mp hy with hy|hy
   ·exact cR (h1 y hy)
   ·rcases cH.mp hy with rfl|hy
    ·exact hx
    ·have:=a2 y hy;lia
theorem zba{α:Type}(a b:List α)(x:α):insertAt (a++b).toArray a.length x=(a++x::b).toArray:=by
 unfold insertAt;apply Array.toList_inj.mp;simp
theorem zmD{t:SetTable}{L:Ent}(ht:t.place=(L.map (·.1)).toArray)(hd:t.dummies=#[])(hs:fB L){j:Nat}(hj:∀e∈L,e.1≠j)(k:Nat) :
  ∃La Lb,L=La++Lb/\t.put j=({t with place:=((La++(j,k)::Lb).map (·.1)).toArray},La.length)/\fB (La++(j,k)::Lb):=by
 obtain⟨La,Lb,e,hb,h1,h2⟩:=T3 hs j;refine⟨La,Lb,e,?_,?_⟩
 ·unfold put;rw[hd,zf5,ht,hb];dsimp only;have:insertAt (L.map (·.1)).toArray La.length j=((La++(j,k)::Lb).map (·.1)).toArray:=by
   rw[e,m_];have:=zba (La.map (·.1)) (Lb.map (·.1)) j;rw[bZ] at this;rw[this,m_,kh]
  rw[this];simp[hd]
 ·rw[e] at hs;exact zio hs (λx hx=>h1 x hx) (λx hx=>by
   have:=h2 x hx;have:=hj x (by rw[e];exact oF _ hx);show j<x.1
   lia)
noncomputable def eN(m:Nat)(p:Probe):Probe:=
 if p.more>0 then {p with j:=p.j+1,more:=p.more-1} else {p with j:=(leap m p.i p.perturb).1,more:=runEnd m (leap m p.i p.perturb).1-(leap m p.i p.perturb).1,i:=(leap m p.i p.perturb).1,perturb:=(leap m p.i p.perturb).2}
theorem zeP(t:SetTable)(p:Probe):t.advance p=eN t.mask p:=rfl
noncomputable def vY(m i pt:Nat):Probe:={j:=i,more:=runEnd m i-i,i,perturb:=pt,dummy:=none}
noncomputable def start(m:Nat)(h:Int):Probe:=vY m (bits h%(m+1)) (bits h)
noncomputable def steps(m:Nat):Nat->Probe->List Nat
 |0,_=>[]
 |n+1,p=>p.j::steps m n (eN m p)
theorem zgx{m:Nat}{p:Probe}(h:p.dummy=none):(eN m p).dummy=none:=by unfold eN;split<;>exact h
def Taken(hk:Nat->Int)(L:Ent)(h:Int)(pre:List Nat):Prop:=∀x∈pre,∃e∈L,e.1=x/\hk e.2≠h
def sG(hk:Nat->Int)(L:Ent)(h:Int)(js:List Nat)(j:Nat):Prop:=∃pre post,js=pre++j::post/\Taken hk L h pre
theorem zf2{t:SetTable}{L:Ent}{hk:Nat->Int}{hashAt:Nat->Int}{h:Int}(ht:t.place=(L.map (·.1)).toArray)(hd:t.dummies=#[])(hs:fB L)(hH:∀La e Lb,L=La++e::Lb->hashAt La.length=hk e.2) :
  ∀(fuel:Nat) (p:Probe),p.dummy=none->match probe.go t hashAt h fuel p with
   |none=>∀j∈steps t.mask fuel p,∃e∈L,e.1=j
   |some (.empty j d)=>d=none/\(∀e∈L,e.1≠j)/\sG hk L h (steps t.mask fuel p) j
   |some (.candidate j i next)=>∃La k Lb,L=La++(j,k)::Lb/\i=La.length/\hk k=h
 |0,p,hp=>by unfold probe.go;intro j hj;cases hj
 |fuel+1,p,hp=>by
  unfold probe.go;rcases zkp ht hd hs p.j with ⟨La,k,Lb,e,mC⟩|⟨Ht,mC⟩
  ·rw[mC];dsimp only;have hh:hashAt La.length=hk k:=hH La (p.j,k) Lb e;rw[hh];by_cases hc:hk k=h
   ·rw[if_pos (by simpa using hc)];exact⟨La,k,Lb,e,rfl,hc⟩
   ·rw[if_neg (by simpa using hc),zeP];have ih:=zf2 ht hd hs hH (h:=h) fuel (eN t.mask p) (zgx hp);have Dg:(p.j,k)∈L:=by rw[e];simp
    cases hg:probe.go t hashAt h fuel (eN t.mask p) with
    |none=>
     rw[hg] at ih;intro j hj;rcases cH.mp (show j∈p.j::steps t.mask fuel (eN t.mask p) from hj) with rfl|hj
     ·exact⟨_,Dg,rfl⟩
     ·exact ih j hj
    |some met=>
     rw[hg] at ih;cases met with
     |empty j d=>
      obtain⟨a1,a2,pre,post,a3,a4⟩:=ih;refine⟨a1,a2,p.j::pre,post,by show p.j::steps t.mask fuel (eN t.mask p)=_;rw[a3];rfl,λx hx=>?_⟩;rcases cH.mp hx with rfl|hx
      ·exact⟨_,Dg,rfl,hc⟩
      ·exact a4 x hx
     |candidate j i next=>exact ih
  ·rw[mC];exact⟨hp,Ht,[],steps t.mask fuel (eN t.mask p),rfl,λx hx=>by cases hx⟩
theorem zc0{P:Nat->Prop}{j j':Nat}:∀{pre post pre' post':List Nat},pre++j::post=pre'++j'::post'->(∀x∈pre,P x)->¬P j->(∀x∈pre',P x)->¬P j'->j=j'
 |[],_,[],_,e,_,_,_,_=>by cases e;rfl
 |[],_,x::pre',_,e,_,hj,h',_=>by cases e;exact absurd (h' _ dO) hj
 |x::pre,_,[],_,e,h,_,_,J5=>by cases e;exact absurd (h _ dO) J5
 |x::pre,post,y::pre',post',e,h,hj,h',J5=>by
  injection e with _ e;exact zc0 e (λz hz=>h z (dN _ hz)) hj (λz hz=>h' z (dN _ hz)) J5
structure Tab(hk:Nat->Int)(t:SetTable)(L:Ent):Prop where
 place:t.place=(L.map (·.1)).toArray
 Dh:t.dummies=#[]
 asc:fB L
 inj:∀e∈L,∀e'∈L,hk e.2=hk e'.2->e=e'
 J6:∀e∈L,sG hk L (hk e.2) (steps t.mask (10*turns t.mask) (start t.mask (hk e.2))) e.1
def Wide(m c:Nat)(h:Int):Prop:=∃l:List Nat,l.Nodup/\c<=l.length/\∀x∈l,x∈steps m (10*turns m) (start m h)
theorem zgV{L:Ent}(h:fB L){e e':Nat×Nat}(he:e∈L)(rB:e'∈L)(q:e.1=e'.1):e=e':=by
 obtain⟨i,hi,rfl⟩:=yD.mp he;obtain⟨k,hk,rfl⟩:=yD.mp rB;have hp:=rF.mp h;rcases O4 i k with z|z|z
 ·have:=hp i k (by simpa using hi) (by simpa using hk) z;simp at this;lia
 ·subst z;rfl
 ·have:=hp k i (by simpa using hk) (by simpa using hi) z;simp at this;lia
theorem T4{α:Type}[DecidableEq α]:∀{l m:List α},l.Nodup->l ⊆ m->l.length<=m.length
 |[],_,_,_=>oJ _
 |x::l,m,hn,h=>by
  have hx:x∈m:=h dO;rw[rM] at hn;have ih:=T4 (m:=m.erase x) hn.2 λy hy=>(List.mem_erase_of_ne (λe=>hn.1 (by rw[<-e];exact hy))).mpr (h (dN _ hy));have:=List.length_erase_of_mem hx;have:=List.length_pos_of_mem hx;rw[je]
  lia
theorem few{L:Ent}{l:List Nat}(hn:l.Nodup)(hl:∀x∈l,∃e∈L,e.1=x):l.length<=L.length:=by
 have h:l ⊆ L.map (·.1):=λx hx=>by obtain⟨e,he,q⟩:=hl x hx;exact gG.mpr ⟨e,he,q⟩
 have:=T4 hn h
 rwa [bZ] at this
theorem zgP{t:SetTable}{L:Ent}{hk:Nat->Int}{hashAt:Nat->Int}{h:Int}(T:Tab hk t L)(hH:∀La e Lb,L=La++e::Lb->hashAt La.length=hk e.2){c:Nat}(hw:Wide t.mask c h)(hc:L.length<c) :
  (∃La j k Lb next,t.probe hashAt h (t.probeStart h)=some (.candidate j La.length next)/\L=La++(j,k)::Lb/\hk k=h) \/
  (∃j,t.probe hashAt h (t.probeStart h)=some (.empty j none)/\(∀e∈L,hk e.2≠h)/\(∀e∈L,e.1≠j)/\sG hk L h (steps t.mask (10*turns t.mask) (start t.mask h)) j):=by
 have g:=zf2 (h:=h) T.place T.Dh T.asc hH (10*turns t.mask) (start t.mask h) rfl;have e0:t.probe hashAt h (t.probeStart h)=probe.go t hashAt h (10*turns t.mask) (start t.mask h):=rfl;rw[e0];cases hg:probe.go t hashAt h (10*turns t.mask) (start t.mask h) with
 |none=>
  rw[hg] at g;obtain⟨l,l1,l2,l3⟩:=hw;have:=few l1 λx hx=>g x (l3 x hx)
  lia
 |some met=>
  rw[hg] at g;cases met with
  |candidate j i next=>
   obtain⟨La,k,Lb,a1,rfl,a3⟩:=g;exact .inl ⟨La,j,k,Lb,next,rfl,a1,a3⟩
  |empty j d=>
   obtain⟨rfl,a2,a3⟩:=g;refine .inr ⟨j,rfl,λe he q=>?_,a2,a3⟩;obtain⟨pre,post,b1,b2⟩:=a3;obtain⟨pre',post',c1,c2⟩:=T.J6 e he;rw[q] at c1 c2;have:j=e.1:=zc0 (P:=λx=>∃e∈L,e.1=x/\hk e.2≠h) (b1.symm.trans c1) b2 (λ⟨e',h1,h2,_⟩=>a2 e' h1 h2) c2 (λ⟨e',h1,h2,h3⟩=>h3 (by rw[zgV T.asc h1 he h2];exact q));exact a2 e he this.symm
theorem Tab.add(T:Tab hk t (La++Lb))(ha:fB (La++(j,k)::Lb))(hn:∀e∈La++Lb,hk e.2≠hk k)(hf:sG hk (La++Lb) (hk k) (steps t.mask (10*turns t.mask) (start t.mask (hk k))) j) :
  Tab hk {t with place:=((La++(j,k)::Lb).map (·.1)).toArray} (La++(j,k)::Lb):=by
 have ao:∀e∈La++Lb,e∈La++(j,k)::Lb:=λe he=>by
  rcases gK.mp he with z|z
  ·exact rG _ z
  ·exact oF _ (dN _ z)
 have cas:∀e∈La++(j,k)::Lb,e=(j,k)\/e∈La++Lb:=λe he=>by
  rcases gK.mp he with z|z
  ·exact .inr (rG _ z)
  ·rcases cH.mp z with z|z
   ·exact .inl z
   ·exact .inr (oF _ z)
 have mono:∀{h js x},sG hk (La++Lb) h js x->sG hk (La++(j,k)::Lb) h js x:=λ⟨pre,post,a,b⟩=>⟨pre,post,a,λx hx=>let ⟨e,h1,h2⟩:=b x hx;⟨e,ao e h1,h2⟩⟩;refine⟨rfl,T.Dh,ha,λe he e' rB q=>?_,λe he=>?_⟩
 ·rcases cas e he with rfl|z<;>rcases cas e' rB with rfl|z'
  ·rfl
  ·exact absurd q.symm (hn e' z')
  ·exact absurd q (hn e z)
  ·exact T.inj e z e' z' q
 ·rcases cas e he with rfl|z
  ·exact mono hf
  ·exact mono (T.J6 e z)
noncomputable def rounds(m:Nat):Nat->Nat->Nat->List Nat
 |0,_,_=>[]
 |f+1,i,pt=>(List.range (runEnd m i+1-i)).map (i+·)++rounds m f (leap m i pt).1 (leap m i pt).2
theorem zcV:∀(c f:Nat) (p:Probe),p.more=c->p.dummy=none->steps m (c+1+f) p=(List.range (c+1)).map (p.j+·)++steps m f (vY m (leap m p.i p.perturb).1 (leap m p.i p.perturb).2)
 |0,f,p,hc,hd=>by
  have e:eN m p=vY m (leap m p.i p.perturb).1 (leap m p.i p.perturb).2:=by
   unfold eN vY;rw[if_neg gV,hd]
  rw[show 0+1+f=f+1 by lia];show p.j::steps m f (eN m p)=_;rw[e];rfl
 |c+1,f,p,hc,hd=>by
  have e:eN m p={p with j:=p.j+1,more:=p.more-1}:=by
   unfold eN;rw[if_pos gV]
  rw[show c+1+1+f=(c+1+f)+1 by lia];show p.j::steps m (c+1+f) (eN m p)=_;rw[e,zcV c f {p with j:=p.j+1,more:=p.more-1} (by show p.more-1=c;lia) hd];rw[Ol (n:=c+1),kh,lQ,List.cons_append]
  congr 1
  congr 1
  apply Gj;intro x _;show p.j+1+x=p.j+(x+1)
  lia
theorem zcd:∀(a b:Nat) (p:Probe),∃r,steps m (a+b) p=steps m a p++r
 |0,b,p=>⟨steps m (0+b) p,rfl⟩
 |a+1,b,p=>by
  obtain⟨r,e⟩:=zcd a b (eN m p);refine⟨r,?_⟩;rw[show a+1+b=(a+b)+1 by lia];show p.j::steps m (a+b) (eN m p)=p.j::steps m a (eN m p)++r;rw[e];rfl
theorem ziG:runEnd m i-i=9\/runEnd m i-i=0:=by
 unfold runEnd
 split<;>lia
theorem zl3:i<=runEnd m i:=by
 unfold runEnd
 split<;>lia
theorem T5{m:Nat}:∀(f i pt:Nat),∃post,steps m (10*f) (vY m i pt)=rounds m f i pt++post
 |0,i,pt=>⟨[],rfl⟩
 |f+1,i,pt=>by
  obtain⟨post,e⟩:=T5 (m:=m) f (leap m i pt).1 (leap m i pt).2;obtain⟨r,e2⟩:=zcd (m:=m) (10*f) (9-(runEnd m i-i)) (vY m (leap m i pt).1 (leap m i pt).2);have hr:=ziG (m:=m) (i:=i);have hg:=zl3 (m:=m) (i:=i);refine⟨post++r,?_⟩;have h1:10*(f+1)=(runEnd m i-i)+1+(10*f+(9-(runEnd m i-i))):=by lia
  rw[h1,zcV (runEnd m i-i) _ (vY m i pt) rfl rfl];show (List.range (runEnd m i-i+1)).map (i+·)++steps m (10*f+(9-(runEnd m i-i))) (vY m (leap m i pt).1 (leap m i pt).2)=(List.range (runEnd m i+1-i)).map (i+·)++rounds m f (leap m i pt).1 (leap m i pt).2++(post++r);rw[e2,e,show runEnd m i+1-i=runEnd m i-i+1 by lia];simp only[DW]
theorem T6{m:Nat}:∀(f i pt:Nat),i<=m->∀x∈rounds m f i pt,x<=m
 |0,_,_,_,x,hx=>by cases hx
 |f+1,i,pt,hi,x,hx=>by
  rcases gK.mp (show x∈(List.range (runEnd m i+1-i)).map (i+·)++rounds m f (leap m i pt).1 (leap m i pt).2 from hx) with z|z
  ·obtain⟨k,hk,rfl⟩:=gG.mp z;rw[vh] at hk;unfold runEnd at hk;split at hk<;>lia
  ·exact T6 f _ _ (by show (i*5+1+pt/32)%(m+1)<=m;have:=Nat.mod_lt (i*5+1+pt/32) (show 0<m+1 by lia);lia) x z
theorem zc1{m:Nat}{owner:Array (Option Nat)}:∀(f i pt:Nat),match layClean.free m owner f i pt with
  |none=>∀x∈rounds m f i pt,(owner.getD x (some 0)).isNone=false
  |some j=>∃pre post,rounds m f i pt=pre++j::post/\(owner.getD j (some 0)).isNone=true/\∀x∈pre,(owner.getD x (some 0)).isNone=false
 |0,i,pt=>by unfold layClean.free;intro x hx;cases hx
 |f+1,i,pt=>by
  unfold layClean.free;cases hf:(List.range (runEnd m i+1-i)).find? λk=>(owner.getD (i+k) (some 0)).isNone with
  |some k=>
   dsimp only;obtain⟨h1,as,bs,h2,h3⟩:=List.find?_eq_some_iff_append.mp hf;refine⟨as.map (i+·),bs.map (i+·)++rounds m f (leap m i pt).1 (leap m i pt).2,?_,h1,λx hx=>?_⟩
   ·show (List.range (runEnd m i+1-i)).map (i+·)++_=_;rw[h2];simp
   ·obtain⟨a,ha,rfl⟩:=gG.mp hx;simpa using h3 a ha
  |none=>
   have hn:=List.find?_eq_none.mp hf;have J7:∀x∈(List.range (runEnd m i+1-i)).map (i+·),(owner.getD x (some 0)).isNone=false:=λx hx=>by
    obtain⟨a,ha,rfl⟩:=gG.mp hx;exact O1.mpr (hn a ha)
   have ih:=zc1 (m:=m) (owner:=owner) f (leap m i pt).1 (leap m i pt).2;show match layClean.free m owner f (leap m i pt).1 (leap m i pt).2 with
    |none=>∀x∈rounds m (f+1) i pt,(owner.getD x (some 0)).isNone=false
    |some j=>∃pre post,rounds m (f+1) i pt=pre++j::post/\(owner.getD j (some 0)).isNone=true/\∀x∈pre,(owner.getD x (some 0)).isNone=false
   cases hg:layClean.free m owner f (leap m i pt).1 (leap m i pt).2 with
   |none=>
    rw[hg] at ih;intro x hx;rcases gK.mp (show x∈(List.range (runEnd m i+1-i)).map (i+·)++rounds m f (leap m i pt).1 (leap m i pt).2 from hx) with z|z
    ·exact J7 x z
    ·exact ih x z
   |some j=>
    rw[hg] at ih;obtain⟨pre,post,a1,a2,a3⟩:=ih;refine⟨(List.range (runEnd m i+1-i)).map (i+·)++pre,post,?_,a2,λx hx=>?_⟩
    ·show (List.range (runEnd m i+1-i)).map (i+·)++rounds m f (leap m i pt).1 (leap m i pt).2=_;rw[a1,DW]
    ·rcases gK.mp hx with z|z
     ·exact J7 x z
     ·exact a3 x z
structure Own(m:Nat)(owner:Array (Option Nat))(O:Ent):Prop where
 size:owner.size=m+1
 at':∀x k,owner[x]?=some (some k)↔(x,k)∈O
theorem Own.yes{m:Nat}{owner:Array (Option Nat)}{O:Ent}(h:Own m owner O){x:Nat}(hx:x<=m)(q:(owner.getD x (some 0)).isNone=false):∃e∈O,e.1=x:=by
 have hs:x<owner.size:=by rw[h.size];lia
 have e:owner.getD x (some 0)=owner[x]:=by simp[hs]
 rw[e] at q;cases hc:owner[x] with
 |none=>rw[hc] at q;cases q
 |some k=>exact⟨(x,k),(h.at' x k).mp (by rw[Gd hs,hc]),rfl⟩
theorem Own.no{m:Nat}{owner:Array (Option Nat)}{O:Ent}(h:Own m owner O){x:Nat}(q:(owner.getD x (some 0)).isNone=true):x<owner.size/\∀e∈O,e.1≠x:=by
 have hs:x<owner.size:=by
  rcases Ej x owner.size with z|z
  ·exact z
  ·rw[show owner.getD x (some 0)=some 0 by simp[Gv.mpr z]] at q;cases q
 have e:owner.getD x (some 0)=owner[x]:=by simp[hs]
 rw[e] at q;refine⟨hs,λe he z=>?_⟩;have:=(h.at' e.1 e.2).mpr he;rw[z,Gd hs] at this;rw[cT this] at q;cases q
theorem Own.set{m:Nat}{owner:Array (Option Nat)}{O:Ent}(h:Own m owner O){x k:Nat}(hs:x<owner.size)(hn:∀e∈O,e.1≠x):Own m (owner.setIfInBounds x (some k)) (O++[(x,k)]):=by
 refine⟨by rw[Array.size_setIfInBounds];exact h.size,λy l=>?_⟩;rw[Array.getElem?_setIfInBounds];by_cases e:x=y
 ·subst e;rw[if_pos rfl,if_pos hs]
  constructor
  ·intro z;cases z;simp
  ·intro z;rcases gK.mp z with z|z
   ·exact absurd rfl (hn _ z)
   ·simp at z;rw[z]
 ·rw[if_neg e,h.at' y l]
  constructor
  ·exact λz=>rG _ z
  ·intro z;rcases gK.mp z with z|z
   ·exact z
   ·simp at z;exact absurd z.1.symm e
def fC(m c:Nat)(h:Int):Prop:=∃l:List Nat,l.Nodup/\c<=l.length/\∀x∈l,x∈rounds m (turns m) (bits h%(m+1)) (bits h)
theorem fC.wide(w:fC m c h):Wide m c h:=by
 obtain⟨l,a,b,d⟩:=w;obtain⟨post,e⟩:=T5 (m:=m) (turns m) (bits h%(m+1)) (bits h);refine⟨l,a,b,λx hx=>?_⟩;show x∈steps m (10*turns m) (vY m (bits h%(m+1)) (bits h));rw[e];exact rG _ (d x hx)
structure Lay(m:Nat)(hk:Nat->Int)(owner:Array (Option Nat))(k:Nat)(O:Ent):Prop where
 own:Own m owner O
 ids:O.map (·.2)=List.range k
 slots:(O.map (·.1)).Nodup
 le:∀e∈O,e.1<=m
 J6:∀e∈O,sG hk O (hk e.2) (steps m (10*turns m) (start m (hk e.2))) e.1
noncomputable def jF(m:Nat)(acc:Option (Array (Option Nat)×Nat))(h:Int):Option (Array (Option Nat)×Nat):=do
  let (owner,k) <-acc
  let j <-layClean.free m owner (turns m) (bits h%(m+1)) (bits h)
  pure (owner.setIfInBounds j (some k),k+1)
theorem zd8{m c:Nat}{hs:List Int}(hw:∀h∈hs,fC m c h)(hc:hs.length<=c)(hd:hs.Nodup):∀(rest:List Int) (k:Nat) (owner:Array (Option Nat)) (O:Ent),hs.drop k=rest->k<=hs.length->Lay m (λi=>hs.getD i 0) owner k O->
  ∃mR O',rest.foldl (jF m) (some (owner,k))=some (mR,hs.length)/\Lay m (λi=>hs.getD i 0) mR hs.length O'
 |[],k,owner,O,e,hk,L=>by
  have:hs.length<=k:=List.drop_eq_nil_iff.mp e;have:k=hs.length:=by lia
  subst this;exact⟨owner,O,rfl,L⟩
 |h::rest,k,owner,O,e,hk,L=>by
  have hlt:k<hs.length:=by
   rcases Ej k hs.length with z|z
   ·exact z
   ·rw[List.drop_eq_nil_iff.mpr z] at e;cases e
  have e':=e;rw[List.drop_eq_getElem_cons hlt] at e';injection e' with eh er;have hOl:O.length=k:=by have:=qL List.length L.ids;simpa using this
  have hgk:hs.getD k 0=h:=by rw[<-eh];simp[hlt]
  have hmh:h∈hs:=by rw[<-eh];exact qK _
  have f:=zc1 (m:=m) (owner:=owner) (turns m) (bits h%(m+1)) (bits h);have J8:bits h%(m+1)<=m:=by have:=Nat.mod_lt (bits h) (show 0<m+1 by lia);lia
  have hne:∀e∈O,hs.getD e.2 0≠h:=λx hx q=>by
   have xq:x.2∈List.range k:=by rw[<-L.ids];exact sO hx
   rw[vh] at xq;have g1:hs.getD x.2 0=hs[x.2]:=by simp[show x.2<hs.length by lia]
   rw[g1,<-eh] at q;have:=(Ab.mp hd);exact rF.mp this x.2 k gV hlt xq q
  cases hg:layClean.free m owner (turns m) (bits h%(m+1)) (bits h) with
  |none=>
   rw[hg] at f;obtain⟨l,l1,l2,l3⟩:=hw h hmh;have:=few (L:=O) l1 λx hx=>L.own.yes (T6 _ _ _ J8 x (l3 x hx)) (f x (l3 x hx))
   lia
  |some j=>
   rw[hg] at f;obtain⟨pre,post,a1,a2,a3⟩:=f;obtain⟨zV,hjn⟩:=L.own.no a2;have hjm:j<=m:=by have:=L.own.size;lia
   have Di:sG (λi=>hs.getD i 0) O h (steps m (10*turns m) (start m h)) j:=by
    obtain⟨post2,e2⟩:=T5 (m:=m) (turns m) (bits h%(m+1)) (bits h);refine⟨pre,post++post2,?_,λx hx=>?_⟩
    ·show steps m (10*turns m) (vY m (bits h%(m+1)) (bits h))=_;rw[e2,a1,DW,List.cons_append]
    ·obtain⟨e,he,q⟩:=L.own.yes (T6 _ _ _ J8 x (by rw[a1];exact rG _ hx)) (a3 x hx);exact⟨e,he,q,hne e he⟩
   have mono:∀{h js x},sG (λi=>hs.getD i 0) O h js x->sG (λi=>hs.getD i 0) (O++[(j,k)]) h js x:=λ⟨pre,post,a,b⟩=>⟨pre,post,a,λx hx=>let ⟨e,h1,h2⟩:=b x hx;⟨e,rG _ h1,h2⟩⟩;have L':Lay m (λi=>hs.getD i 0) (owner.setIfInBounds j (some k)) (k+1) (O++[(j,k)]):=by
    refine⟨L.own.set zV hjn,by rw[m_,L.ids,List.range_succ];rfl,?_,λe he=>?_,λe he=>?_⟩
    ·rw[m_,K5];refine⟨L.slots,by simp,λa ha b hb=>?_⟩;obtain⟨x,hx,rfl⟩:=gG.mp ha;simp at hb;rw[hb];exact hjn x hx
    ·rcases gK.mp he with z|z
     ·exact L.le e z
     ·simp at z;rw[z];exact hjm
    ·rcases gK.mp he with z|z
     ·exact mono (L.J6 e z)
     ·simp at z;rw[z];show sG _ _ (hs.getD k 0) (steps m (10*turns m) (start m (hs.getD k 0))) j;rw[hgk];exact mono Di
   obtain⟨mR,O',b1,b2⟩:=zd8 hw hc hd rest (k+1) _ _ er hlt L';refine⟨mR,O',?_,b2⟩;rw[List.foldl_cons];have:jF m (some (owner,k)) h=some (owner.setIfInBounds j (some k),k+1):=by
    unfold jF;show (layClean.free m owner (turns m) (bits h%(m+1)) (bits h)).bind _=_;rw[hg];rfl
   rw[this];exact b1
theorem T7{m:Nat}:Own m (Array.replicate (m+1) none) []:=⟨by simp,λx k=>by
 constructor
 ·intro h;rw[Array.getElem?_replicate] at h;split at h<;>cases h
 ·intro h;cases h⟩
theorem zhy{m c:Nat}{hs:List Int}(hw:∀h∈hs,fC m c h)(hc:hs.length<=c)(hd:hs.Nodup):∃owner O,layClean m hs.toArray=some owner/\Lay m (λi=>hs.getD i 0) owner hs.length O:=by
 obtain⟨owner,O,a,b⟩:=zd8 hw hc hd hs 0 _ [] rfl (oJ _) ⟨T7,rfl,by simp,(λe he=>by cases he),λe he=>by cases he⟩;refine⟨owner,O,?_,b⟩;unfold layClean;rw[List.foldl_toArray];show (hs.foldl (jF m) (some (Array.replicate (m+1) none,0))).map (·.1)=_;rw[a];rfl
noncomputable def cL(m:Nat)(owner:Array (Option Nat)):Ent:=(List.range (m+1)).filterMap λj=>(owner.getD j none).map (j,·)
theorem zhp(h:Own m owner O):e∈cL m owner↔e∈O:=by
 unfold cL;rw[Oz]
 constructor
 ·rintro⟨j,hj,q⟩;rw[m9] at q;obtain⟨k,q1,rfl⟩:=q;rw[<-h.at'];rw[vh] at hj;have hs:j<owner.size:=by rw[h.size];exact hj
  have e:owner.getD j none=owner[j]:=by simp[hs]
  rw[Gd hs,<-e,q1]
 ·intro he;have q:=(h.at' e.1 e.2).mpr he;obtain⟨hs,q2⟩:=Dy.mp q;refine⟨e.1,by rw[vh,<-h.size];exact hs,?_⟩;have e1:owner.getD e.1 none=owner[e.1]:=by simp[hs]
  rw[e1,q2];rfl
theorem zeb{m:Nat}{owner:Array (Option Nat)}:fB (cL m owner):=by
 unfold fB cL;rw[sS];refine List.Pairwise.filterMap _ (R:=(·<·)) (λa a' hlt b hb b' hb'=>?_) List.pairwise_lt_range;obtain⟨_,_,rfl⟩:=m9.mp hb;obtain⟨_,_,rfl⟩:=m9.mp hb';exact hlt
theorem zf8{m k:Nat}{hk:Nat->Int}{owner:Array (Option Nat)}{O:Ent}(h:Lay m hk owner k O):(cL m owner).Perm O:=by
 refine(List.perm_ext_iff_of_nodup ?_ ?_).mpr λe=>zhp h.own
 ·have:=zeb (m:=m) (owner:=owner);unfold fB at this;rw[sS] at this;exact Ab.mpr (this.imp λz q=>by rw[q] at z;exact m5 _ z)
 ·have:=Ab.mp h.slots;rw[sS] at this;exact Ab.mpr (this.imp λz q=>z (by rw[q]))
theorem T8{α:Type}{l:List α}(h:l.Nodup){i j:Nat}(hi:i<l.length)(hj:j<l.length)(e:l[i]=l[j]):i=j:=by
 have p:=rF.mp (Ab.mp h);rcases O4 i j with z|z|z
 ·exact absurd e (p i j hi hj z)
 ·exact z
 ·exact absurd e.symm (p j i hj hi z)
theorem zha{t:SetTable}{L:Ent}{hk:Nat->Int}(T:Tab hk t L){wanted c:Nat}(hw:∀e∈L,fC (sizeAbove wanted-1) c (hk e.2))(hc:L.length<=c) :
  ∃(ord:List Nat) (L':Ent),t.relaid (L.map λe=>hk e.2).toArray wanted=some ({t with mask:=sizeAbove wanted-1,moves:=t.movedTo (sizeAbove wanted-1),place:=(L'.map (·.1)).toArray},ord.toArray) /\
   ord.length=L.length/\(∀i∈ord,i<L.length)/\L'.map (·.2)=ord.map (λi=>(L.getD i (0,0)).2)/\L'.length=L.length/\(L'.map (·.2)).Perm (L.map (·.2)) /\
   Tab hk {t with mask:=sizeAbove wanted-1,moves:=t.movedTo (sizeAbove wanted-1),place:=(L'.map (·.1)).toArray} L':=by
 generalize hm:sizeAbove wanted-1=m at hw;have vH:(L.map λe=>hk e.2).Nodup:=by
  rw[Ab,sS];have:=T.asc;unfold fB at this;rw[sS,rF] at this;rw[rF];intro i j hi hj lD q;have e:=T.inj _ (qK hi) _ (qK hj) q;have:=this i j hi hj lD;rw[e] at this;exact m5 _ this
 obtain⟨owner,O,h1,h2⟩:=zhy (m:=m) (c:=c) (hs:=L.map λe=>hk e.2) (λh hh=>by obtain⟨e,he,rfl⟩:=gG.mp hh;exact hw e he) (by rw[bZ];exact hc) vH;rw[bZ] at h2;have hp:=zf8 h2;have J9:((cL m owner).map (·.2)).Perm (List.range L.length):=by rw[<-h2.ids];exact hp.map _
 have hlt:∀e∈cL m owner,e.2<L.length:=λe he=>by
  have:=J9.mem_iff.mp (sO (f:=(·.2)) he);simpa using this
 have Nb:∀e∈O,(L.map λe=>hk e.2).getD e.2 0=hk (L.getD e.2 (0,0)).2:=λe he=>by
  have:=hlt e (hp.mem_iff.mpr he);simp[this]
 refine⟨(cL m owner).map (·.2),(cL m owner).map λe=>(e.1,(L.getD e.2 (0,0)).2),?_,?_,?_,?_,?_,?_,?_⟩
 ·unfold relaid laid;rw[hm,h1];show some (_,_)=some (_,_)
  congr 2
  ·rw[lQ];show SetTable.mk _ _ _ _ _ _ _=SetTable.mk _ _ _ _ _ _ _;rw[T.Dh];rfl
 ·rw[bZ,hp.length_eq];have:=qL List.length h2.ids;simpa using this
 ·intro i hi;obtain⟨e,he,rfl⟩:=gG.mp hi;exact hlt e he
 ·rw[lQ,lQ];rfl
 ·rw[bZ,hp.length_eq];have:=qL List.length h2.ids;simpa using this
 ·rw[lQ];have q1:((cL m owner).map ((λx=>x.2)∘λe=>(e.1,(L.getD e.2 (0,0)).2)))=((cL m owner).map (·.2)).map λi=>(L.getD i (0,0)).2:=by rw[lQ];rfl
  rw[q1];have q2:L.map (·.2)=(List.range L.length).map λi=>(L.getD i (0,0)).2:=by
   apply List.ext_getElem
   ·simp
   ·intro i hi vX;rw[bZ] at hi;simp[hi]
  rw[q2];exact J9.map _
 ·have T9:fB ((cL m owner).map λe=>(e.1,(L.getD e.2 (0,0)).2)):=by
   have:=zeb (m:=m) (owner:=owner);unfold fB at this ⊢;rw[lQ];exact this
  have T_:∀e∈O,∀e'∈O,hk (L.getD e.2 (0,0)).2=hk (L.getD e'.2 (0,0)).2->e=e':=λe he e' rB q=>by
   have a:=hlt e (hp.mem_iff.mpr he);have a':=hlt e' (hp.mem_iff.mpr rB);rw[<-Nb e he,<-Nb e' rB] at q;have q':(L.map λe=>hk e.2)[e.2]'(by rw[bZ];exact a)=(L.map λe=>hk e.2)[e'.2]'(by rw[bZ];exact a'):=by simpa [a,a'] using q
   have e2:e.2=e'.2:=T8 vH _ _ q';have Ua:(O.map (·.2)).Nodup:=by rw[h2.ids];exact List.nodup_range
   obtain⟨i,hi,rfl⟩:=yD.mp he;obtain⟨i',vX,rfl⟩:=yD.mp rB;have:(O.map (·.2))[i]'(by rw[bZ];exact hi)=(O.map (·.2))[i']'(by rw[bZ];exact vX):=by simpa using e2
   have:=T8 Ua _ _ this;subst this;rfl
  refine⟨rfl,T.Dh,T9,λe he e' rB q=>?_,λe he=>?_⟩
  ·obtain⟨x,hx,rfl⟩:=gG.mp he;obtain⟨x',G6,rfl⟩:=gG.mp rB;rw[T_ x (hp.mem_iff.mp hx) x' (hp.mem_iff.mp G6) q]
  ·obtain⟨x,hx,rfl⟩:=gG.mp he;have hxO:=hp.mem_iff.mp hx;obtain⟨pre,post,a,b⟩:=h2.J6 x hxO;rw[Nb x hxO] at a b;refine⟨pre,post,a,λy hy=>?_⟩;obtain⟨z,hz,q1,q2⟩:=b y hy;have q2:hk (L.getD z.2 (0,0)).2≠hk (L.getD x.2 (0,0)).2:=by rw[<-Nb z hz];exact q2
   exact⟨(z.1,(L.getD z.2 (0,0)).2),sO (f:=λe=>(e.1,(L.getD e.2 (0,0)).2)) (hp.mem_iff.mpr hz),q1,q2⟩
end Ts
namespace Ts
open Mi PySem PySem.SetTable
noncomputable def hf(p:Int×Int):Int:=reduceHash (Builtin.Tuple.tupleHashOf [hashInt p.1,hashInt p.2])
noncomputable def dd(l:List Nat):List Nat:=l.foldr (λx r=>if r.contains x then r else x::r) []
theorem zlc(h:x∈dd l):x∈l:=by
 induction l with
 |nil=>cases h
 |cons y r ih=>
  have h:x∈(if (dd r).contains y then dd r else y::dd r):=h;split at h
  ·exact dN _ (ih h)
  ·rcases cH.mp h with rfl|h
   ·exact dO
   ·exact dN _ (ih h)
theorem Ub:∀l:List Nat,(dd l).Nodup
 |[]=>D_
 |y::r=>by
  show (if (dd r).contains y then dd r else y::dd r).Nodup
  split
  ·exact Ub r
  ·rename_i h;exact rM.mpr ⟨by simpa using h,Ub r⟩
theorem zbP:∀(a b i pt:Nat) (x:Nat),x∈rounds m a i pt->x∈rounds m (a+b) i pt
 |0,_,_,_,x,h=>by cases h
 |a+1,b,i,pt,x,h=>by
  rw[show a+1+b=(a+b)+1 by lia];rcases gK.mp (show x∈(List.range (runEnd m i+1-i)).map (i+·)++rounds m a (leap m i pt).1 (leap m i pt).2 from h) with z|z
  ·exact rG _ z
  ·exact oF _ (zbP a b _ _ x z)
noncomputable def qF(m c f:Nat)(h:Int):Bool:=decide (c<=(dd (rounds m f (bits h%(m+1)) (bits h))).length)
theorem Uc(hf:f<=turns m)(hb:qF m c f h=true):fC m c h:=by
 refine⟨dd (rounds m f (bits h%(m+1)) (bits h)),Ub _,lO hb,λx hx=>?_⟩;have:=zbP f (turns m-f) _ _ x (zlc hx)
 rwa [show f+(turns m-f)=turns m by lia] at this
theorem w28:(gW.all λp=>qF 7 5 13 (hf p)&&qF 31 19 9 (hf p)&&qF 127 29 5 (hf p))=true:=by decide +kernel
theorem n28:(gW.map hf).Nodup:=by decide +kernel
def gC(p:Int×Int):Prop:=0<=p.1/\p.1<p.2/\p.2<8
theorem J_(h:gC p):p∈gW:=by
 obtain⟨a,b⟩:=p;obtain⟨h1,h2,h3⟩:=h;dsimp only at h1 h2 h3;have ha:a=0\/a=1\/a=2\/a=3\/a=4\/a=5\/a=6:=by lia
 have hb:b=1\/b=2\/b=3\/b=4\/b=5\/b=6\/b=7:=by lia
 rcases ha with rfl|rfl|rfl|rfl|rfl|rfl|rfl<;>rcases hb with rfl|rfl|rfl|rfl|rfl|rfl|rfl<;>first|(exfalso;lia)|decide
theorem Ud(h:gC p):fC 7 5 (hf p)/\fC 31 19 (hf p)/\fC 127 29 (hf p):=by
 have:=fX.mp w28 p (J_ h);rw[cG,cG] at this;exact⟨Uc UJ this.1.1,Uc UJ this.1.2,Uc UJ this.2⟩
theorem ziz(h:gC p)(h':gC q)(e:hf p=hf q):p=q:=by
 obtain⟨i,hi,rfl⟩:=yD.mp (J_ h);obtain⟨j,hj,rfl⟩:=yD.mp (J_ h');have:(gW.map hf)[i]'(by rw[bZ];exact hi)=(gW.map hf)[j]'(by rw[bZ];exact hj):=by simpa using e
 have:=T8 n28 _ _ this;subst this;rfl
end Ts
namespace Ts
open PySem PySem.SetTable
noncomputable def aQ(ts:List (Int×Int))(i:Nat):Int×Int:=ts.getD i (0,1)
noncomputable def bL(ts:List (Int×Int))(i:Nat):Int:=hf (aQ ts i)
noncomputable def aK(items:List Value)(ts:List (Int×Int))(L:Ent):List (Int×Value):=L.map λe=>(bL ts e.2,items.getD e.2 .none)
structure fD(prog:Program)(w:World)(h:Heap)(S:Addr)(items:List Value)(ts:List (Int×Int)):Prop where
 len:ts.length=items.length
 tie:∀i,i<ts.length->gC (aQ ts i)
 at':∀i,i<ts.length->∃a,items.getD i .none=.ref a/\a≠S/\IsTupleKey (intKind prog w) h [(aQ ts i).1,(aQ ts i).2] a
def uZ(m n:Nat):Prop:=m=7/\n<=4\/m=31/\n<=18\/m=127/\n<=28
structure fG(h:Heap)(S:Addr)(items:List Value)(ts:List (Int×Int))(L:Ent)(led:Bool):Prop where
 ob:∃ep t,h.get? S=some {cls:=.type "set",dict:=none,data:=.set (aK items ts L).toArray ep t}/\Tab (bL ts) t L/\uZ t.mask L.length/\t.plain=true/\t.led=led
 idx:∀e∈L,e.2<ts.length
section
variable {prog:Program}{w:World}{A:Around}{E:Value->Shared->Prop}{s:Shared}{S:Addr}{items:List Value}{ts:List (Int×Int)}{L:Ent}{led:Bool}
theorem fD.mono(T:fD prog w h S items ts)(k:∀b o,b≠S->h.get? b=some o->h'.get? b=some o):fD prog w h' S items ts:=
 ⟨T.len,T.tie,λi hi=>let ⟨a,e,n,o,its,m,ho,r⟩:=T.at' i hi;⟨a,e,n,o,its,m,k a o n ho,r⟩⟩
theorem zh4:(aK items ts (La++e::Lb)).toArray[La.length]?=some (bL ts e.2,items.getD e.2 .none):=by
 rw[Gf];unfold aK;rw[m_,kh,oE Zaa];simp
theorem Ka(T:Tab (bL ts) t L)(c:uZ t.mask L.length):t.fits (aK items ts L).toArray.size=true:=by
 unfold SetTable.fits SetTable.fill aK;rw[T.place,T.Dh];simp only[dh,bZ,cG,DX];refine⟨yH _,?_⟩;show L.length+0<=t.mask;rcases c with c|c|c<;>lia
theorem zdl(hk:IsTupleKey (intKind prog w) s.heap [x,y] a)(h:Q true s):wpAny (model prog w) A (hashByValue 8 (.ref a)) Q E s:=by
 have hT:=hk.typeIs;obtain⟨o,its,n,ho,_,hd,hi⟩:=hk;unfold hashByValue;refine au (wpAny_specialOf hT F.slot_tuple_hash.lookup ?_);show wpAny _ _ (seqItems? (.ref a) >>= _) _ _ s;refine au (vm ho hd ?_);refine au ?_;show wpAny _ _ (forIn its _ _) _ _ s;rw[<-Array.forIn_toList];refine K8 _ (λrest r s'=>r.1=none/\s'=s/\∃ks,ItemsAre (intKind prog w) ks rest) _ ?_ ?_ _ _ ⟨rfl,rfl,_,hi⟩
 ·rintro v rest r s' ⟨hr,rfl,ks,lg⟩;cases lg with
  |@cons k0 _ _ _ hv hrest=>
   obtain⟨t,rfl⟩:=DQ hv;have e:hashByValue 7 (.int k0 t)=pure true:=by unfold hashByValue;rfl
   refine au ?_;show wpAny _ _ (hashByValue 7 (.int k0 t)) _ _ _;rw[e];refine aJ ?_;simp only[wA,jd,iQ];exact aJ ⟨rfl,rfl,_,hrest⟩
 ·rintro⟨r1,r2⟩ s' ⟨hr,rfl,_⟩;simp only at hr;subst hr;exact aJ h
theorem zbc(hk:IsTupleKey (intKind prog w) s.heap [x,y] a)(h:Q false s):wpAny (model prog w) A (ofAClassStatement 8 (.ref a)) Q E s:=by
 have hT:=hk.typeIs;obtain⟨o,its,n,ho,_,hd,hi⟩:=hk;unfold ofAClassStatement;refine au (yK hT ?_);dsimp only;rw[if_pos UJ];refine au (aJ ?_);simp only[wA,jd,iQ];refine au (vm ho hd ?_);refine au ?_;show wpAny _ _ (forIn its _ _) _ _ s;rw[<-Array.forIn_toList];refine K8 _ (λrest r s'=>r.1=none/\s'=s/\∃ks,ItemsAre (intKind prog w) ks rest) _ ?_ ?_ _ _ ⟨rfl,rfl,_,hi⟩
 ·rintro v rest r s' ⟨hr,rfl,ks,lg⟩;cases lg with
  |@cons k0 _ _ _ hv hrest=>
   obtain⟨t,rfl⟩:=DQ hv;have e:ofAClassStatement 7 (.int k0 t)=pure false:=by unfold ofAClassStatement;rfl
   refine au ?_;show wpAny _ _ (ofAClassStatement 7 (.int k0 t)) _ _ _;rw[e];refine aJ ?_;simp only[jd,iQ];exact aJ ⟨rfl,rfl,_,hrest⟩
 ·rintro⟨r1,r2⟩ s' ⟨hr,rfl,_⟩;simp only at hr;subst hr;exact aJ h
theorem zdp(hk:IsTupleKey (intKind prog w) s.heap [x,y] a)(hl:∀v∈l,∃b x' y',v=.ref b/\IsTupleKey (intKind prog w) s.heap [x',y'] b)(h:Q false s):wpAny (model prog w) A (searchCouldBeSeen (.ref a) l) Q E s:=by
 unfold searchCouldBeSeen;refine au ?_;refine K8 _ (λrest r s'=>r.1=none/\s'=s/\∀v∈rest,∃b x' y',v=.ref b/\IsTupleKey (intKind prog w) s.heap [x',y'] b) _ ?_ ?_ _ _ ⟨rfl,rfl,hl⟩
 ·rintro v rest r s' ⟨hr,rfl,lg⟩;obtain⟨b,x',y',rfl,hb⟩:=lg v dO;have hrest:=λu hu=>lg u (dN _ hu);dsimp only
  split
  ·exact aJ ⟨rfl,rfl,hrest⟩
  ·refine au (wpAny_eqIsQuiet_tuple hk ?_);simp only[wA,jd,iQ];refine au (wpAny_eqIsQuiet_tuple hb ?_);simp only[wA,jd,iQ];refine au (zbc hk ?_);simp only[jd,iQ];refine au (zbc hb ?_);simp only[jd,iQ];exact aJ ⟨rfl,rfl,hrest⟩
 ·rintro⟨r1,r2⟩ s' ⟨hr,rfl,_⟩;simp only at hr;subst hr;exact aJ h
theorem zjE(c:uZ m n):(m%2==0)=false:=by rcases c with ⟨rfl,_⟩|⟨rfl,_⟩|⟨rfl,_⟩<;>rfl
theorem zhV(c:uZ m n)(h:gC p):∃k,Wide m k (hf p)/\n<k:=by
 obtain⟨a,b,d⟩:=Ud h;rcases c with ⟨rfl,_⟩|⟨rfl,_⟩|⟨rfl,_⟩
 ·exact⟨5,a.wide,by lia⟩
 ·exact⟨19,b.wide,by lia⟩
 ·exact⟨29,d.wide,by lia⟩
theorem zcH(hu:A.units<cLine)(T:fD prog w s.heap S items ts)(hS:fG s.heap S items ts L led)(hk:k<ts.length)(ha:items.getD k .none=.ref a)
  (jA:∀e∈L,aQ ts e.2=aQ ts k->Q (.there none) s)
  (hout:∀j,(∀e∈L,bL ts e.2≠bL ts k)->(∀e∈L,e.1≠j)->(∀ep t,s.heap.get? S=some {cls:=.type "set",dict:=none,data:=.set (aK items ts L).toArray ep t}->sG (bL ts) L (bL ts k) (steps t.mask (10*turns t.mask) (start t.mask (bL ts k))) j)->Q (.free j false) s) :
  wpAny (model prog w) A (setSearchFrom S (.ref a) (bL ts k) true (fuel+1) none) Q E s:=by
 obtain⟨⟨ep,t,ho,tb,cap,bG,iJ⟩,rC⟩:=hS;have hf':=Ka (items:=items) tb cap;unfold setSearchFrom;refine au (wu ho rfl hf' ?_);dsimp only;have hgw:t.gaveWay=false:=zjE cap;rw[hgw];simp only[jd,iQ];obtain⟨c,hw,hc⟩:=zhV cap (T.tie k hk);have po:=zgP (hashAt:=λi=>((aK items ts L).toArray[i]?.map (·.1)).getD 0) (h:=bL ts k) tb (λLa e Lb q=>by
  subst q;rw[zh4,Option.map_some,Option.getD_some]) hw hc
 split
 ·rename_i met hq;have Dj:t.probe (λi=>((aK items ts L).toArray[i]?.map (·.1)).getD 0) (bL ts k) (t.probeStart (bL ts k))=some met:=hq;rcases po with ⟨La,j,i,Lb,next,e1,e2,e3⟩|⟨j,e1,e2,e3,e4⟩
  ·rw[e1] at Dj;cases Dj;dsimp only;have Dg:(j,i)∈L:=by rw[e2];simp
   have hti:aQ ts i=aQ ts k:=ziz (T.tie i (rC _ Dg)) (T.tie k hk) e3;have qR:(aK items ts L).toArray[La.length]?=some (bL ts i,items.getD i .none):=by
    have:=zh4 (items:=items) (ts:=ts) (La:=La) (e:=(j,i)) (Lb:=Lb);rw[<-e2] at this;exact this
   obtain⟨b,FJ,zm,Nf⟩:=T.at' i (rC _ Dg);obtain⟨a',uE,ha2,Dk⟩:=T.at' k hk;rw[ha] at uE;cases uE;by_cases hl:t.led=true
   ·rw[hl];simp only[wA,jd,iQ];rw[qR];dsimp only;rw[FJ];refine au (jw (wpAny_eqBool_tuple hu Nf Dk ?_));rw[hti,dR rfl];refine au (wu ho rfl hf' ?_);dsimp only;simp only[Bool.and_self,if_true];exact aJ (jA _ Dg hti)
   ·rw[show t.led=false by simpa using hl];simp only[Bool.not_false,if_true];refine au (zdp Dk (λv hv=>?_) ?_)
    ·obtain⟨x,hx,rfl⟩:=gG.mp hv;have G6:x∈(aK items ts L):=by
      have:=Array.mem_toList_iff.mp hx;rw[Array.mem_filter] at this;simpa using this.1
     obtain⟨e,he,rfl⟩:=gG.mp G6;obtain⟨b',c1,_,c3⟩:=T.at' e.2 (rC e he);exact⟨b',_,_,c1,c3⟩
    ·simp only[jd,iQ];rw[qR];dsimp only;rw[FJ];refine au (jw (wpAny_eqBool_tuple hu Nf Dk ?_));rw[hti,dR rfl];refine au (wu ho rfl hf' ?_);dsimp only;simp only[Bool.and_self,if_true];exact aJ (jA _ Dg hti)
  ·rw[e1] at Dj;cases Dj;dsimp only;refine aJ (hout j e2 e3 λep' t' jM=>?_);rw[ho] at jM;cases jM;exact e4
 ·rename_i hq;have Dj:∀met,t.probe (λi=>((aK items ts L).toArray[i]?.map (·.1)).getD 0) (bL ts k) (t.probeStart (bL ts k))≠some met:=hq;rcases po with ⟨La,j,i,Lb,next,e1,_⟩|⟨j,e1,_⟩
  ·exact absurd e1 (Dj _)
  ·exact absurd e1 (Dj _)
end
end Ts
namespace Ts
open Mi (gW)
open PySem PySem.SetTable
def Kc(ts:List (Int×Int))(L L':Ent)(k:Nat):Prop:=(L'=L/\∃e∈L,aQ ts e.2=aQ ts k)\/((∀e∈L,aQ ts e.2≠aQ ts k)/\(L'.map (·.2)).Perm (k::L.map (·.2)))
section
variable {prog:Program}{w:World}{A:Around}{E:Value->Shared->Prop}{s:Shared}{S:Addr}{items:List Value}{ts:List (Int×Int)}{L:Ent}{led:Bool}
theorem Ke{t:SetTable}(T:Tab (bL ts) t L)(ht:∀e∈L,gC (aQ ts e.2)):L.length<=28:=by
 have vH:(L.map λe=>bL ts e.2).Nodup:=by
  rw[Ab,sS];have:=T.asc;unfold fB at this;rw[sS,rF] at this;rw[rF];intro i j hi hj lD q;have e:=T.inj _ (qK hi) _ (qK hj) q;have:=this i j hi hj lD;rw[e] at this;exact m5 _ this
 have:=T4 (m:=gW.map hf) vH λx hx=>by
  obtain⟨e,he,rfl⟩:=gG.mp hx;exact sO (J_ (ht e he))
 rwa [bZ,bZ] at this
theorem zgt:∀{l:List α},(∀x∈l,f x=some (g x))->l.filterMap f=l.map g
 |[],_=>rfl
 |x::l,h=>by
  rw[Gi,h x dO,kh];rw[zgt λy hy=>h y (dN _ hy)]
theorem zff{h:Heap}{es es':Array (Int×Value)}{ep:Nat}{t t':SetTable}(ho:h.get? S=some {cls:=.type "set",dict:=none,data:=.set es ep t}):(h.update S (Obj.putSet es' t')).get? S=some {cls:=.type "set",dict:=none,data:=.set es' (ep+1) t'}:=by
 have:=sJ (Obj.putSet es' t') ho (by rw[putSet_of es' t' rfl];rfl);rw[putSet_of es' t' rfl] at this;exact this
theorem zds{ep:Nat}{t:SetTable}{wanted c:Nat}{Q:Unit->Shared->Prop}(ho:s.heap.get? S=some {cls:=.type "set",dict:=none,data:=.set (aK items ts L).toArray ep t})(tb:Tab (bL ts) t L)(Ue:t.fits (aK items ts L).toArray.size=true)
  (hw:∀e∈L,fC (sizeAbove wanted-1) c (bL ts e.2)) (hc:L.length<=c) (hz:sizeAbove wanted<=sizeLine) (hz2:L.length<=sizeLine)
  (h:∀L' t',t'.mask=sizeAbove wanted-1->t'.plain=t.plain->t'.led=t.led->L'.length=L.length->(L'.map (·.2)).Perm (L.map (·.2))->Tab (bL ts) t' L'->Q () {s with heap:=s.heap.update S (Obj.putSet (aK items ts L').toArray t')}) :
  wpAny (model prog w) A (setRelay S wanted) Q E s:=by
 obtain⟨ord,L',r1,r2,r3,r4,r5,r6,r7⟩:=zha tb hw hc;unfold setRelay;refine au (wu ho rfl Ue ?_);dsimp only;rw[if_neg (Gv.mpr hz)];have e1:(aK items ts L).toArray.map (·.1)=(L.map λe=>bL ts e.2).toArray:=by
  unfold aK;rw[List.map_toArray,lQ];rfl
 rw[e1,r1];have e2:ord.toArray.filterMap (λi=>(aK items ts L).toArray[i]?)=(aK items ts L').toArray:=by
  have q:aK items ts L'=ord.map λi=>(bL ts (L.getD i (0,0)).2,items.getD (L.getD i (0,0)).2 .none):=by
   have:aK items ts L'=(L'.map (·.2)).map λi=>(bL ts i,items.getD i .none):=by unfold aK;rw[lQ];rfl
   rw[this,r4,lQ];rfl
  rw[List.filterMap_toArray,q]
  congr 1
  refine zgt λi hi=>?_;have:=r3 i hi;unfold aK;simp[this]
 refine au ?_;show wpAny _ _ (if ((ord.toArray.filterMap (λi=>(aK items ts L).toArray[i]?)).size != (aK items ts L).toArray.size)=true then _ else _) _ _ _;rw[e2];have e3:((aK items ts L').toArray.size != (aK items ts L).toArray.size)=false:=by
  unfold aK;simp[r5]
 rw[e3];simp only[jd,iQ];refine aJ ?_;refine wpAny_storeSet_of ho rfl ?_ (by unfold aK;simpa [r5] using hz2);exact h L' _ rfl rfl rfl r5 r6 r7
theorem ze0{fuel k:Nat}{a:Addr}{Q:Bool->Shared->Prop}(hu:A.units<cLine)(T:fD prog w s.heap S items ts)(hS:fG s.heap S items ts L led)(hk:k<ts.length)(ha:items.getD k .none=.ref a)
  (h:∀h' L' b,Heap.SameBut S s.heap h'->fG h' S items ts L' led->Kc ts L L' k->Q b {s with heap:=h'}) :
  wpAny (model prog w) A (setAddHashedIn S (.ref a) (bL ts k) (fuel+1)) Q E s:=by
 obtain⟨⟨ep,t,ho,tb,cap,bG,iJ⟩,rC⟩:=id hS;have hf':=Ka (items:=items) tb cap;have aad:(100:Nat)<=sizeLine:=by decide
 unfold setAddHashedIn;refine au (wu ho rfl hf' ?_);dsimp only;have hbs:byScan (.ref a) (aK items ts L).toArray=false:=by simp[byScan,Value.scannable]
 rw[hbs];simp only[jd,iQ];refine au ?_;unfold setSearch;refine zcH (fuel:=99999) hu T hS hk ha (λe he q=>?_) (λj h1 h2 h3=>?_)
 ·exact aJ (h s.heap L false (Heap.SameBut.refl S s.heap) hS (.inl ⟨rfl,e,he,q⟩))
 ·have Di:=h3 ep t ho;dsimp only;refine au (wu ho rfl hf' ?_);dsimp only;obtain⟨La,Lb,e,Kf,Ug⟩:=zmD tb.place tb.Dh tb.asc h2 k;have hlen:(La++(j,k)::Lb).length=L.length+1:=by rw[e];simp;lia
  have tb':=tb;have h1':=h1;have zW:=Di;rw[e] at tb' h1' zW;have zX:=tb'.add Ug h1' zW;have m1:({t with place:=((La++(j,k)::Lb).map (·.1)).toArray}:SetTable).mask=t.mask:=rfl;have p1:({t with place:=((La++(j,k)::Lb).map (·.1)).toArray}:SetTable).plain=true:=bG;have l1:({t with place:=((La++(j,k)::Lb).map (·.1)).toArray}:SetTable).led=led:=iJ;generalize ({t with place:=((La++(j,k)::Lb).map (·.1)).toArray}:SetTable)=t1 at Kf zX m1 p1 l1;rw[Kf];dsimp only;rw[p1];simp only[if_true];obtain⟨a',uE,ha2,Dk⟩:=T.at' k hk;rw[ha] at uE;cases uE;refine au (zdl Dk ?_);simp only[if_true];have Uh:insertAt (aK items ts L).toArray La.length (bL ts k,.ref a)=(aK items ts (La++(j,k)::Lb)).toArray:=by
   have q:aK items ts L=(aK items ts La)++(aK items ts Lb):=by rw[e];unfold aK;rw[m_]
   have q2:La.length=(aK items ts La).length:=by unfold aK;rw[bZ]
   rw[q,q2,zba];unfold aK;rw[m_,kh,ha]
  rw[Uh];have hsub:∀x∈La++(j,k)::Lb,x.2<ts.length:=λx hx=>by
   rcases gK.mp hx with z|z
   ·exact rC x (by rw[e];exact rG _ z)
   ·rcases cH.mp z with rfl|z
    ·exact hk
    ·exact rC x (by rw[e];exact oF _ z)
  have u5:((La++(j,k)::Lb).map (·.2)).Perm (k::L.map (·.2)):=by
   rw[e,m_,m_,kh];exact List.perm_middle
  generalize La++(j,k)::Lb=L1 at hlen zX hsub u5;have h28:=Ke zX λx hx=>T.tie x.2 (hsub x hx);have hne:∀x∈L,aQ ts x.2≠aQ ts k:=λx hx q=>h1 x hx (by unfold bL;rw[q]);have jh:(aK items ts L1).toArray.size<=sizeLine:=by unfold aK;rw[dh,bZ,hlen];lia
  refine au (wpAny_storeSet_of ho rfl ?_ jh);have hg1:=zff (es':=(aK items ts L1).toArray) (t':=t1) ho;have u6:t1.fill=L.length+1:=by
   unfold fill;rw[zX.place,zX.Dh,dh,bZ,hlen];rfl
  have vZ:(aK items ts L).toArray.size=L.length:=by unfold aK;rw[dh,bZ]
  have Kg:t1.fits (aK items ts L1).toArray.size=true:=by
   unfold SetTable.fits;rw[u6,zX.place];unfold aK;rw[dh,dh,bZ,bZ,yH,Bool.true_and];refine dR ?_;rw[m1];rcases cap with c|c|c<;>lia
  have zP:Heap.SameBut S s.heap (s.heap.update S (Obj.putSet (aK items ts L1).toArray t1)):=Ad s.heap S _;by_cases qG:t1.tooFull=true
  ·rw[qG];simp only[Bool.not_false,Bool.and_self,if_true];have Dl:(L.length+1)*5>=t.mask*3:=by
    have:=qG;unfold tooFull at this;rw[u6,m1] at this;exact lO this
   rw[vZ];have Kh:(t.mask=7/\L.length=4)\/(t.mask=31/\L.length=18):=by rcases cap with c|c|c<;>lia
   have Kl:∃c,(∀x∈L1,fC (sizeAbove (grown (L.length+1))-1) c (bL ts x.2))/\L.length+1<=c/\uZ (sizeAbove (grown (L.length+1))-1) (L.length+1)/\sizeAbove (grown (L.length+1))<=sizeLine:=by
    rcases Kh with ⟨_,q⟩|⟨_,q⟩
    ·rw[q];refine⟨19,λx hx=>?_,by lia,.inr (.inl ⟨by decide,by lia⟩),by decide⟩;rw[show sizeAbove (grown (4+1))-1=31 by decide];exact(Ud (T.tie x.2 (hsub x hx))).2.1
    ·rw[q];refine⟨29,λx hx=>?_,by lia,.inr (.inr ⟨by decide,by lia⟩),by decide⟩;rw[show sizeAbove (grown (18+1))-1=127 by decide];exact(Ud (T.tie x.2 (hsub x hx))).2.2
   obtain⟨c,hw,hc,Dm,hz⟩:=Kl;refine au (zds (s:={s with heap:=s.heap.update S (Obj.putSet (aK items ts L1).toArray t1)}) hg1 zX Kg hw (by rw[hlen];exact hc) hz (by rw[hlen];lia) λL' t' n1 n2 n3 n4 n5 n6=>?_);refine aJ ?_;refine h _ L' true (zP.trans (Ad _ S _)) ⟨⟨_,t',zff hg1,n6,by rw[n1,n4,hlen];exact Dm,n2.trans p1,n3.trans l1⟩,λx hx=>?_⟩ (.inr ⟨hne,n5.trans u5⟩);have:x.2∈L1.map (·.2):=n5.mem_iff.mp (sO hx);obtain⟨y,hy,q⟩:=gG.mp this;rw[<-q];exact hsub y hy
  ·rw[show t1.tooFull=false by simpa using qG];simp only[Bool.not_false,Ai,jd,iQ];have Dl:¬(L.length+1)*5>=t.mask*3:=by
    have:=qG;unfold tooFull at this;rw[u6,m1] at this;simpa using this
   have Dm:uZ t1.mask L1.length:=by
    rw[hlen,m1];rcases cap with ⟨c,_⟩|⟨c,_⟩|⟨c,_⟩
    ·exact .inl ⟨c,by lia⟩
    ·exact .inr (.inl ⟨c,by lia⟩)
    ·exact .inr (.inr ⟨c,by lia⟩)
   refine aJ ?_;exact h _ _ true zP ⟨⟨_,_,hg1,zX,Dm,p1,l1⟩,hsub⟩ (.inr ⟨hne,u5⟩)
end
end Ts
namespace Ts
open PySem PySem.SetTable
def Dn(ts:List (Int×Int))(L:Ent)(i:Nat):Prop:=(∀e∈L,e.2<i)/\∀k,k<i->∃e∈L,aQ ts e.2=aQ ts k
theorem Dn.Ui{ts:List (Int×Int)}{L L':Ent}{i:Nat}(d:Dn ts L i)(g:Kc ts L L' i):Dn ts L' (i+1):=by
 rcases g with ⟨rfl,e,he,q⟩|⟨hn,hp⟩
 ·refine⟨λx hx=>qJ (d.1 x hx),λk hk=>?_⟩;rcases Ej k i with z|z
  ·exact d.2 k z
  ·have:k=i:=by lia
   subst this;exact⟨e,he,q⟩
 ·have back:∀k∈i::L.map (·.2),∃e∈L',e.2=k:=λk hk=>by
   obtain⟨e,he,q⟩:=gG.mp (hp.mem_iff.mpr hk);exact⟨e,he,q⟩
  refine⟨λx hx=>?_,λk hk=>?_⟩
  ·rcases cH.mp (hp.mem_iff.mp (sO (f:=(·.2)) hx)) with q|q
   ·lia
   ·obtain⟨y,hy,q⟩:=gG.mp q;have:=d.1 y hy
    lia
  ·rcases Ej k i with z|z
   ·obtain⟨e,he,q⟩:=d.2 k z;obtain⟨e',rB,q'⟩:=back e.2 (dN _ (sO he));exact⟨e',rB,by rw[q'];exact q⟩
   ·obtain⟨e',rB,q'⟩:=back i dO;exact⟨e',rB,by rw[q'];congr 1;lia⟩
theorem zjk{prog:Program}{w:World}{x y:Int}:tupleKeyHash (intKind prog w) [x,y]=hf (x,y):=by unfold tupleKeyHash hf;rfl
section
variable {prog:Program}{w:World}{A:Around}{R:Result->Shared->Prop}{I:Addr}{fp wr:List Addr}{G:Array GenState->Array GenState->Prop}{n:Nat}{P:Nat->Value->Prop}{St:Nat->Shared->Prop}{S:Addr}{items:List Value}{ts:List (Int×Int)}{led:Bool}
theorem fG.keep{h h':Heap}{L:Ent}(x:fG h S items ts L led)(k:∀o,h.get? S=some o->h'.get? S=some o):fG h' S items ts L led:=
 let ⟨⟨ep,t,ho,r⟩,i⟩:=x;⟨⟨ep,t,k _ ho,r⟩,i⟩
theorem fD.keep{h h':Heap}(T:fD prog w h S items ts)(k:∀i a o,i<ts.length->items.getD i .none=.ref a->h.get? a=some o->h'.get? a=some o):fD prog w h' S items ts:=
 ⟨T.len,T.tie,λi hi=>let ⟨a,e,n,o,its,m,ho,r⟩:=T.at' i hi;⟨a,e,n,o,its,m,k i a o hi e ho,r⟩⟩
theorem zjv(W:WalksS prog w A.in1 I fp wr G n P St)(Ng:S∉fp)(hn:n=ts.length)(Dp:∀i v,P i v->items.getD i .none=v)(hu:A.in1.units<cLine)(Nh:∀i a,i<ts.length->items.getD i .none=.ref a->a∉wr) :
  ∀(k i:Nat) (s:Shared) (L:Ent),n-i=k->i<=n->St i s->fD prog w s.heap S items ts->fG s.heap S items ts L led->Dn ts L i->
   (∀s' L',Moved (S::wr) G s s'->fD prog w s'.heap S items ts->fG s'.heap S items ts L' led->Dn ts L' n->R (.ok (.ret .none)) s')->
   codeAny (model prog w) A (.builtin "set.update.loop" ⟨[.ref S,.ref I],[]⟩) R s:=by
 have hSw:S∉wr:=λh=>Ng (W.«sub» _ h);have hsub:∀b∈wr,b∈S::wr:=λb hb=>dN _ hb;intro k
 induction k with
 |zero=>
  intro i s L hk hi p7 hT hS hD hR;have jA:i=n:=by lia
  subst jA;refine DY Wy ?_;rw[Ox Oc _];show wpAny _ A.in1 (pyNext (.ref I) >>= _) _ _ s;refine au (W.done s _ _ p7 λs' hm=>?_);show wpAny _ A.in1 (ret Value.none) _ _ s';exact aJ (hR s' L (hm.mono hsub) (hT.keep λi a o hi e=>hm.heap a o (Nh i a hi e)) (hS.keep λo=>hm.heap S o hSw) hD)
 |succ k ih=>
  intro i s L hk hi p7 hT hS hD hR;have hlt:i<n:=by lia
  have Km:i<ts.length:=by lia
  refine DY Wy ?_;rw[Ox Oc _];show wpAny _ A.in1 (pyNext (.ref I) >>= _) _ _ s;refine au (W.item i s _ _ hlt p7 λv s' hP Uj hm=>?_);have hv:=Dp i v hP;have Dq:fD prog w s'.heap S items ts:=hT.keep λi a o hi e=>hm.heap a o (Nh i a hi e);have Dr:fG s'.heap S items ts L led:=hS.keep λo=>hm.heap S o hSw;obtain⟨a,uE,ha2,Dk⟩:=Dq.at' i Km;have hva:v=.ref a:=hv.symm.trans uE;subst hva;show wpAny _ A.in1 (holding [Value.ref a] (setAdd S (.ref a)) >>= _) _ _ s';refine au (jw ?_);unfold setAdd;refine jw ?_;refine au (wpAny_pyHash_tuple hu Dk ?_);rw[zjk];unfold setAddHashed;refine jw ?_;refine ze0 (fuel:=99999) (k:=i) (s:={s' with toks:=s'.toks+([(aQ ts i).1,(aQ ts i).2].length+1)}) hu Dq Dr Km uE λh' L' b zP aU hg=>?_;have zN:∀b o,b≠S->s'.heap.get? b=some o->h'.get? b=some o:=λb o hb e=>by rw[zP.2 b hb];exact e
  refine aJ ⟨plainId_quiet Oc _,ih (i+1) _ L' gV hlt (W.frame _ s' _ _ Uj (Nat.le_add_right _ _) λb hb o e=>zN b o (λh=>Ng (by rw[<-h];exact hb)) e) (Dq.mono zN) aU (hD.Ui hg) λs'' L'' Uk Ul Um Uo=>?_⟩;refine hR s'' L'' (Moved.trans W.gtrans ((hm.mono hsub).then_heap (Nat.le_add_right _ _) λb o hb e=>zN b o (λh=>hb (by rw[h];exact dO)) e) Uk) Ul Um Uo
end
section
variable {prog:Program}{w:World}{A:Around}{E:Value->Shared->Prop}{s:Shared}
noncomputable def bT(w:World):Bool:=!w.params.followText "set-order"
theorem zg8(a:Value){Q₁:Value->Shared->Prop}
  (h:Q₁ (.ref s.heap.objs.size) {s with heap:=s.heap.push {cls:=.type "set",dict:=none,data:=.set #[] 0 (.fresh 0 0 (bT w))}}) :
  codeAny (model prog w) A (.call (.builtin "set.__new__") ⟨[.type "set",a],[]⟩) (wants Q₁ E) s:=by
 refine codeAny_of_tree ?_;show wpAny _ A.in1 (do checkBuiltinCall "set.__new__" ⟨[.type "set",a],[]⟩;again (.builtin "set.__new__" ⟨[.type "set",a],[]⟩)) _ _ s;refine au (Aj (F.newCall_set_1 a) (aJ ⟨plainId_quiet F.plain_set_new _,DY F.entry_set_new ?_⟩));rw[Ox F.plain_set_new _];unfold Builtin.«set.__new__» Builtin.Frozenset.newClass;have hsub:=sub_set_self;obtain⟨hp,g,d,tk,os⟩:=s;dsimp only
 wp_walk
 refine wpAny_askSetting (aJ ?_);dsimp only;simp only[newObj];refine au (wpAny_alloc (aJ ?_));exact aJ h
theorem tab0{hk:Nat->Int}{led:Bool}:Tab hk (.fresh 0 0 led) []:=⟨rfl,rfl,List.Pairwise.nil,(λe he=>by cases he),λe he=>by cases he⟩
theorem zcy{l:Addr}{items:List Value}{ts:List (Int×Int)}{Q:Value->Shared->Prop}(hh:A.handled=none)(hu:A.units+8<cLine)(hl:s.heap.IsTuple l items.toArray)(hT:fD prog w s.heap s.heap.objs.size items ts)
  (h:∀(h':Heap) (tk:Nat) (L:Ent),fG h' s.heap.objs.size items ts L (bT w)->fD prog w h' s.heap.objs.size items ts->Dn ts L ts.length->(∀b o,b<s.heap.objs.size->s.heap.get? b=some o->h'.get? b=some o)->Q (.ref s.heap.objs.size) {s with heap:=h',toks:=tk}) :
  wpAny (model prog w) A (call (.type "set") [.ref l]) Q E s:=by
 obtain⟨c,tl,Im⟩:=yL.mro;have hmade:=yL.made;have hsub:=yL.«sub»;refine yN (codeAny_of_tree ?_);show wpAny _ _ (callAny (.type "set") _) _ _ _;refine aJ ⟨KZ _ Bd,DY F.entry_type_call ?_⟩;rw[Around.under_plain (weight_type_call_type "set" [.ref l] []) rfl];have h1:=yL.notType;have h2:=yL.canCreate;have hct:=F.typeCall_set_1 (.ref l)
 repeat (any_goals (first|assumption|wp_step))
 refine Gu (zg8 (.ref l) (E:=E) (Q₁:=λobj s₁=>obj=.ref s.heap.objs.size/\s₁={s with heap:=s.heap.push {cls:=.type "set",dict:=none,data:=.set #[] 0 (.fresh 0 0 (bT w))}}) ⟨rfl,rfl⟩) λr s₁ hr=>?_;cases r with
 |error e=>exact hr
 |ok fl=>
  cases fl with
  |ret obj=>
   obtain⟨rfl,rfl⟩:=hr;have hS:(s.heap.push {cls:=.type "set",dict:=none,data:=.set #[] 0 (.fresh 0 0 (bT w))}).get? s.heap.objs.size=some {cls:=.type "set",dict:=none,data:=.set #[] 0 (.fresh 0 0 (bT w))}:=gF _ rfl;have hTy:Shared.TypeIs {s with heap:=s.heap.push {cls:=.type "set",dict:=none,data:=.set #[] 0 (.fresh 0 0 (bT w))}} (.ref s.heap.objs.size) "set":=⟨_,hS,rfl⟩;have hli:=yL.init.lookup;have hbi:=yL.init.bind (.ref s.heap.objs.size)
   repeat (any_goals (first|assumption|wp_step))
   refine Gu (Ov (R:=wants (λr s₂=>r=.none/\∃h' tk L,s₂={s with heap:=h',toks:=tk}/\fG h' s.heap.objs.size items ts L (bT w)/\fD prog w h' s.heap.objs.size items ts/\Dn ts L ts.length /\
     (∀b o,b<s.heap.objs.size->s.heap.get? b=some o->h'.get? b=some o)) E) yL.init.plain F.entry_set_init (check_set_init_1 hTy ?_)) λr₂ s₂ hr₂=>?_
   ·obtain⟨ol,hol,jT,nl,hdl⟩:=id hl;obtain⟨ocls,odict,odata,oslots⟩:=ol;simp only at jT hdl;subst jT;subst hdl;have Uq:(s.heap.push {cls:=.type "set",dict:=none,data:=.set #[] 0 (.fresh 0 0 (bT w))}).get? l=some {cls:=.type "tuple",dict:=odict,data:=.seq items.toArray nl,slots:=oslots}:=bU _ hol;have hsls:=F.sub_tuple_set;have hslf:=F.sub_tuple_frozenset;have hne:(Value.type "tuple"==Value.type "dict")=false:=by decide
    have Fy:(s.heap.push {cls:=.type "set",dict:=none,data:=.set #[] 0 (.fresh 0 0 (bT w))}).IsTuple l items.toArray:=⟨_,Uq,rfl,nl,rfl⟩;unfold Builtin.«set.__init__» noKeywords Builtin.Frozenset.updateFrom;generalize hPI:pyIter=PI
    wp_walk
    subst hPI;refine wpAny_pyIter_tuple Fy ?_;refine au (wpAny_runValue ?_);have hlS:l<s.heap.objs.size:=bM hol;have hh3:A.in1.in1.in1.handled=none:=by simp[hh]
    have Ur:l≠(s.heap.push {cls:=.type "set",dict:=none,data:=.set #[] 0 (.fresh 0 0 (bT w))}).objs.size:=by
     rw[rN];exact cR (qJ hlS)
    have Ng:s.heap.objs.size∉[(s.heap.push {cls:=.type "set",dict:=none,data:=.set #[] 0 (.fresh 0 0 (bT w))}).objs.size,l]:=by
     rw[rN];simp only[cH,OJ,mZ,lR,not_or];exact⟨cR (Nat.lt_succ_self _),vp hlS⟩
    have Dp:∀(i:Nat) (v:Value),items.toArray[i]?=some v->items.getD i .none=v:=λi v hv=>by
     rw[Gf] at hv;rw[kY,hv];rfl
    have jh:items.toArray.size=ts.length:=by rw[dh,hT.len]
    have Nh:∀i a,i<ts.length->items.getD i .none=.ref a->a∉[(s.heap.push {cls:=.type "set",dict:=none,data:=.set #[] 0 (.fresh 0 0 (bT w))}).objs.size]:=λi a hi e hm=>by
     obtain⟨a',e1,_,o,its,m,ho,_⟩:=hT.at' i hi;rw[e] at e1;cases e1;have hm:=OJ.mp hm;rw[rN] at hm;have hlt:=bM ho;rw[hm] at hlt;exact Nat.not_succ_lt_self hlt
    refine zjv (led:=bT w) (items:=items) (ts:=ts) ((Walks.tuple hh3 _ l Ur items.toArray).toS) Ng jh Dp (by show A.units+1+1+1<cLine;lia) Nh (items.toArray.size-0) 0 _ [] gV (oJ _)
     ⟨⟨_,gF _ rfl,rfl,rfl⟩,(Fy.push _)⟩ (hT.mono λb o hb e=>bU _ (bU _ e)) ?Sx ⟨(λe he=>by cases he),λk hk=>by lia⟩ ?hR
    case Sx=>
     have qR:((s.heap.push {cls:=.type "set",dict:=none,data:=.set #[] 0 (.fresh 0 0 (bT w))}).push {cls:=.type "tuple_iterator",data:=.fields #[.ref l,.int 0 0]}).get? s.heap.objs.size
      =some {cls:=.type "set",dict:=none,data:=.set #[] 0 (.fresh 0 0 (bT w))}:=bU _ hS
     exact⟨⟨0,_,qR,tab0,.inl ⟨rfl,oJ _⟩,rfl,rfl⟩,λe he=>by cases he⟩
    case hR=>
     intro s' L' hm Dq Dr Us;obtain⟨h',g',d',tk',os'⟩:=s';have eg:g'=s.gens:=hm.gens;have ed:d'=s.drawn:=hm.drawn;have eo:os'=s.os:=hm.os;subst eg;subst ed;subst eo;show wpAny _ _ _ _ _ _;refine aJ ?_;show wpAny _ _ (ret Value.none) _ _ _;refine aJ ⟨rfl,h',tk',L',rfl,Dr,Dq,by rw[<-jh];exact Us,λb o hb e=>?_⟩;have FJ:b≠s.heap.objs.size:=cR hb;have zm:b≠(s.heap.push {cls:=.type "set",dict:=none,data:=.set #[] 0 (.fresh 0 0 (bT w))}).objs.size:=by
      rw[rN];exact cR (qJ hb)
     exact hm.heap b o (by simp only[cH,OJ,mZ,lR,not_or];exact⟨FJ,zm⟩) (bU _ (bU _ e))
   ·cases r₂ with
    |error e=>exact hr₂
    |ok fl₂=>
     cases fl₂ with
     |ret r=>
      obtain⟨rfl,h',tk,L,rfl,Dr,Dq,Us,zN⟩:=hr₂
      repeat (any_goals (first|assumption|wp_step))
      exact h _ _ L Dr Dq Us zN
     |_=>exact hr₂.elim
  |_=>exact hr.elim
end
theorem cQ:Slot "set_iterator" "__next__" "set_iterator.__next__":=
 .of (owner:="set_iterator") (n:="__next__") (by rw[typeLookup_type,builtinLookup_eq_fast];kernel_rfl) Bd Bd Bd
  (by first|exact .inl Bd|exact .inr Bd) (by rw[isSubtype_type];kernel_rfl)
theorem zbs:Slot "set_iterator" "__iter__" "set_iterator.__iter__":=
 .of (owner:="set_iterator") (n:="__iter__") (by rw[typeLookup_type,builtinLookup_eq_fast];kernel_rfl) Bd Bd Bd
  (by first|exact .inl Bd|exact .inr Bd) (by rw[isSubtype_type];kernel_rfl)
theorem zey:Manifest.owners.lookup (String.ofList ['r','o','t','a','r','e','t','i','_','t','e','s'].reverse)=some Manifest.sig_set_iterator:=by kernel_rfl
theorem zc4(a:Value):argsOk "set_iterator.__next__" ⟨[a],[]⟩:=by
 unfold argsOk;rw[signature?_of (id:="set_iterator.__next__") (n:=['_','_','t','x','e','n','_','_']) (o:=['r','o','t','a','r','e','t','i','_','t','e','s']) (by kernel_rfl) zey];kernel_rfl
theorem zdk(a:Value):argsOk "set_iterator.__iter__" ⟨[a],[]⟩:=by
 unfold argsOk;rw[signature?_of (id:="set_iterator.__iter__") (n:=['_','_','r','e','t','i','_','_']) (o:=['r','o','t','a','r','e','t','i','_','t','e','s']) (by kernel_rfl) zey];kernel_rfl
theorem zcx:entryFor table "set_iterator.__next__"=some Builtin.«set_iterator.__next__»:=entryFor_of_tree (by kernel_rfl)
theorem zcJ:entryFor table "set_iterator.__iter__"=some Builtin.«dict_keyiterator.__iter__»:=
 entryFor_alias (id':="dict_keyiterator.__iter__") (by kernel_rfl) (by first|rfl|decide +kernel|(unfold String.splitOn;simp +decide [String.splitOnAux])) Bd (by kernel_rfl)
theorem zb1:entryFor table "set.__iter__"=some Builtin.«frozenset.__iter__»:=
 entryFor_alias (id':="frozenset.__iter__") (by kernel_rfl) rfl Bd (by kernel_rfl)
noncomputable def cM(L:Ent):Nat->Nat
 |0=>0
 |k+1=>(L.getD k (0,0)).1+1
theorem zhA{L:Ent}(h:fB L){k:Nat}(hk:k<=L.length):below (L.map (·.1)).toArray (cM L k)=k:=by
 obtain⟨La,Lb,e,hb,h1,h2⟩:=T3 h (cM L k);rw[hb];have hp:=rF.mp h;have hll:La.length+Lb.length=L.length:=by rw[e,fK]
 have inA:∀i (hi:i<L.length),i<La.length->L[i].1<cM L k:=λi hi q=>h1 _ (by
  have:L[i]=La[i]:=by
   simp only[e];exact List.getElem_append_left q
  rw[this];exact qK _)
 have inB:∀i (hi:i<L.length),La.length<=i->cM L k<=L[i].1:=λi hi q=>h2 _ (by
  have:L[i]=Lb[i-La.length]' gV:=by
   simp only[e];exact List.getElem_append_right q
  rw[this];exact qK _)
 cases k with
 |zero=>
  cases La with
  |nil=>rfl
  |cons x r=>
   have:=h1 x dO;exact absurd this (Nat.not_lt_zero _)
 |succ k=>
  have hs:cM L (k+1)=L[k].1+1:=by
   show (L.getD k (0,0)).1+1=_;simp[show k<L.length by lia]
  rw[hs] at inA inB;rcases O4 La.length (k+1) with z|z|z
  ·have:=inB k gV gV
   lia
  ·exact z
  ·have h3:=inA (k+1) gV z;have h4:=hp k (k+1) (by rw[bZ];lia) (by rw[bZ];lia) gV;rw[List.getElem_map,List.getElem_map] at h4
   lia
theorem zf4{α:Type}(next:Nat->Nat):∀(fuel k:Nat) (left:List α) (out:Array α),left.length<=fuel->(pickOrder.go next fuel k left out).toList.Perm (out.toList++left)
 |0,k,left,out,h=>by
  have:left=[]:=List.length_eq_zero_iff.mp gV;subst this;unfold pickOrder.go;rw[Ag]
 |fuel+1,k,left,out,h=>by
  unfold pickOrder.go;cases left with
  |nil=>simp
  |cons y r=>
   have hlt:next k%(y::r).length<(y::r).length:=Nat.mod_lt _ Zaa;rw[fH hlt];dsimp only;generalize next k%(y::r).length=i at hlt;refine(zf4 next fuel (k+1) _ _ (by rw[List.length_eraseIdx_of_lt hlt];lia)).trans ?_;rw[Array.toList_push,DW];refine List.Perm.append_left _ ?_;rw[List.eraseIdx_eq_take_drop_succ];have:(y::r)=(y::r).take i++(y::r)[i]::(y::r).drop (i+1):=by
    rw[<-List.drop_eq_getElem_cons hlt,Oo]
   refine List.Perm.trans ?_ (List.Perm.of_eq this.symm);exact(List.perm_middle (l₁:=(y::r).take i)).symm
theorem zfi{α:Type}(next:Nat->Nat)(xs:List α):(pickOrder next xs.toArray).toList.Perm xs:=by
 unfold pickOrder;have:=zf4 next xs.toArray.size 0 xs #[] Zaa;simpa using this
section
variable {prog:Program}{w:World}{A:Around}{E:Value->Shared->Prop}{s:Shared}{S:Addr}{items:List Value}{ts:List (Int×Int)}{L:Ent}
noncomputable def bO(w:World)(S:Addr)(ep:Nat)(es:List (Int×Value)):List (Int×Value):=if w.params.followText "set-order"=true then (pickOrder (w.params.setOrder S ep) es.toArray).toList else es
theorem lM{ep:Nat}{es:List (Int×Value)}:(bO w S ep es).Perm es:=by
 unfold bO
 split
 ·exact zfi _ _
 ·exact List.Perm.refl _
noncomputable def pO(items:List Value)(ts:List (Int×Int))(L:Ent)(ep:Nat)(t:SetTable):Obj:={cls:=.type "set",dict:=none,data:=.set (aK items ts L).toArray ep t}
noncomputable def zY(S:Addr)(slot i n ep:Nat):Obj:={cls:=.type "set_iterator",data:=.fields #[.int slot 0,.int i 0,.ref S,.int n 0,.int ep 0]}
theorem Ut{Q:Bool->Shared->Prop}(h:Q (w.params.followText "set-order") s):wpAny (model prog w) A setsByText Q E s:=by
 unfold setsByText;exact au (wpAny_askSetting (aJ h))
theorem zeM{ep:Nat}{t:SetTable}{Q:Value->Shared->Prop}(ho:s.heap.get? S=some (pO items ts L ep t))(tb:Tab (bL ts) t L)(cap:uZ t.mask L.length)(bG:t.plain=true)
  (h:Q (.ref s.heap.objs.size) {s with heap:=s.heap.push (zY S 0 0 L.length ep)}):wpAny (model prog w) A (pyIter (.ref S)) Q E s:=by
 have hT:s.TypeIs (.ref S) "set":=⟨_,ho,rfl⟩;have hf':=Ka (items:=items) tb cap;refine wpAny_pyIter_slot hT F.slot_set_iter (rJ F.slot_set_iter hT zb1 ?_ (F.args_set_iter_1 _));unfold Builtin.«frozenset.__iter__» Builtin.Frozenset.slot0 slotArgs;simp only[List.isEmpty_nil,wA,jd,↓reduceIte,bind_assoc,rK,DR];unfold Builtin.Frozenset.addrOf Builtin.Frozenset.sizeOf;refine au (aJ ?_)
 try dsimp only
 refine au (aJ ?_);refine au (au (wpAny_setEntries_of ho rfl hf' (aJ ?_)));unfold setDrawn;refine au (au (wu ho rfl hf' (au (Ut (aJ ?_)))));have hdr:(!w.params.followText "set-order"&&(!t.plain&&decide ((aK items ts L).toArray.size>1)))=false:=by rw[bG];simp
 show wpAny _ _ (if (!w.params.followText "set-order"&&(!t.plain&&decide ((aK items ts L).toArray.size>1)))=true then _ else _) _ _ _;rw[hdr];simp only[jd,iQ];refine au (aJ ?_);refine au (wpAny_setEpoch_of ho rfl hf' ?_);have vZ:(aK items ts L).toArray.size=L.length:=by unfold aK;rw[dh,bZ]
 rw[vZ];refine au (nZ (aJ ⟨_,rfl,"set_iterator",_,⟨_,gF _ rfl,rfl⟩,cQ.lookup,?_⟩));exact h
theorem Ko{I slot i n ep:Nat}(hit:s.heap.get? I=some (zY S slot i n ep)):s.TypeIs (.ref I) "set_iterator":=⟨_,hit,rfl⟩
theorem zkn:(aK items ts L).toArray.size=L.length:=by unfold aK;rw[dh,bZ]
theorem zcq{ep i:Nat}{t:SetTable}{slot:Nat}{Q:Option (Value×Nat)->Shared->Prop}(ho:s.heap.get? S=some (pO items ts L ep t))(tb:Tab (bL ts) t L)(cap:uZ t.mask L.length)(bG:t.plain=true)(iJ:t.led=bT w)(hi:i<=L.length)(mC:w.params.followText "set-order"=false->slot=cM L i)
  (h:∀dB,(w.params.followText "set-order"=false->dB=cM L (i+1))->Q ((bO w S ep (aK items ts L))[i]?.map λe=>(e.2,dB)) s) :
  wpAny (model prog w) A (setNext S slot i ep) Q E s:=by
 have hf':=Ka (items:=items) tb cap;unfold setNext;refine au (wu ho rfl hf' ?_);dsimp only;refine au (Ut ?_);by_cases hb:w.params.followText "set-order"=true
 ·rw[if_pos hb];simp only[DR,jd,iQ];unfold setWalk;refine au (au (wu ho rfl hf' (au (Ut ?_))));rw[if_pos hb];refine au (wpAny_askSetting (aJ ?_));refine aJ ?_;have:=h slot (λq=>by rw[hb] at q;cases q);unfold bO at this;rw[if_pos hb,Oq] at this;exact this
 ·have hb':w.params.followText "set-order"=false:=by simpa using hb
  rw[if_neg hb];have hl:t.led=true:=by rw[iJ];unfold bT;rw[hb'];rfl
  show wpAny _ _ (if (!t.plain&&decide ((aK items ts L).toArray.size>1))=true then _ else _) _ _ _;rw[bG];simp only[wA,Ah,jd,iQ];refine au ?_;show wpAny _ _ (if (!t.led && !(aK items ts L).toArray.isEmpty)=true then _ else _) _ _ _;rw[hl];simp only[wA,Ah,jd,iQ];refine aJ ?_;have hbl:below t.place slot=i:=by rw[tb.place,mC hb'];exact zhA tb.asc hi
  rw[hbl];refine aJ ?_;have hw:bO w S ep (aK items ts L)=aK items ts L:=by unfold bO;rw[if_neg hb]
  have:=h (cM L (i+1)) (λ_=>rfl);rw[hw] at this;rw[Gf,tb.place,Gf];cases e:L[i]? with
  |none=>
   have e1:(aK items ts L)[i]?=none:=by unfold aK;rw[ju,e];rfl
   rw[e1] at this ⊢;exact this
  |some x=>
   have e1:(aK items ts L)[i]?=some (bL ts x.2,items.getD x.2 .none):=by unfold aK;rw[ju,e];rfl
   have e2:(L.map (·.1))[i]?=some x.1:=by rw[ju,e];rfl
   have e3:cM L (i+1)=x.1+1:=by show (L.getD i (0,0)).1+1=_;rw[kY,e];rfl
   rw[e1,e3] at this;rw[e1,e2];exact this
theorem zcf{I ep i:Nat}{t:SetTable}{slot:Nat}{Q:Option Value->Shared->Prop}(hh:A.handled=none)(hit:s.heap.get? I=some (zY S slot i L.length ep))(ho:s.heap.get? S=some (pO items ts L ep t))(tb:Tab (bL ts) t L)(cap:uZ t.mask L.length)(bG:t.plain=true)(iJ:t.led=bT w)(hi:i<=L.length)(mC:w.params.followText "set-order"=false->slot=cM L i)
  (h1:∀e h' dB,(bO w S ep (aK items ts L))[i]?=some e->h'.get? I=some (zY S dB (i+1) L.length ep)->(w.params.followText "set-order"=false->dB=cM L (i+1))->Heap.SameBut I s.heap h'->Q (some e.2) {s with heap:=h'})
  (h2:∀h',(bO w S ep (aK items ts L))[i]?=none->Heap.ExtBut I s.heap h'->Q none {s with heap:=h'}):wpAny (model prog w) A (pyNext (.ref I)) Q E s:=by
 have hf':=Ka (items:=items) tb cap;unfold pyNext;refine au (Ed (yx (name:=Str.ofString "__next__") (Ko hit) cQ
  (rJ cQ (Ko hit) zcx ?_ (zc4 _))))
 unfold Builtin.«set_iterator.__next__» slotArgs;simp only[List.isEmpty_nil,wA,jd,↓reduceIte,bind_assoc,rK,DR];refine au (aJ ?_);dsimp only;refine au (wpAny_fieldsOf hit rfl ?_);dsimp only;refine au (wpAny_setEntries_of ho rfl hf' ?_);rw[zkn];simp only[DR,jd,iQ];rw[yF,yF,yF];refine au (zcq ho tb cap bG iJ hi mC λdB hs'=>?_);cases e:(bO w S ep (aK items ts L))[i]? with
 |some x=>
  dsimp only[Option.map_some];refine au (yI hit rfl Zaa ?_);have g1:(s.heap.update I (Obj.mapFields (·.setIfInBounds 0 (rawInt dB)))).get? I=some (zY S dB i L.length ep):=by
   have:=sJ (Obj.mapFields (·.setIfInBounds 0 (rawInt dB))) hit rfl;exact this
  refine au (yI (s:={s with heap:=s.heap.update I (Obj.mapFields (·.setIfInBounds 0 (rawInt dB)))}) g1 rfl Zaa ?_);refine aJ ⟨_,rfl,aJ (h1 x _ dB e ?_ hs' ((Ad ..).trans (Ad ..)))⟩;have:=sJ (Obj.mapFields (·.setIfInBounds 1 (rawInt ((i:Int)+1)))) g1 rfl;exact this
 |none=>
  dsimp only[Option.map_none];refine au (yI hit rfl Zaa ?_);show wpAny _ _ (newExc (.type "StopIteration") [] >>= _) _ _ _;refine au ?_;simp only[newExc,newTuple];refine au (nZ ?_ (by size_fits));refine au (m:=firstArgMember _ _) (Aj (a:=Value.none) (by first|rfl|(simp only[firstArgMember];rfl)) ?_);refine nZ ?_ (by size_fits);simp only[raiseNew];refine au (wpAny_handled ?_)
  first|rw[show A.in1.handled=none from hh]|rw[hh]
  refine au (aJ (wpAny_throw ?_));refine au (wpAny_isInstance (T:="StopIteration") (b:=true) ⟨_,gF _ rfl,rfl⟩ isSubtype_stop ?_);exact aJ (h2 _ e (((Ad ..).extBut.push _).push _))
end
end Ts
namespace Ts
open PySem PySem.SetTable PySem.Spec PyProof.Rows PySem.W L2
section
variable {prog:Program}{w:World}{A:Around}{E:Value->Shared->Prop}{s:Shared}{S:Addr}{items:List Value}{ts:List (Int×Int)}{L:Ent}
theorem Uu{ep:Nat}:(bO w S ep (aK items ts L)).length=L.length:=by
 rw[lM.length_eq];unfold aK;rw[bZ]
theorem zfa{ep:Nat}{t:SetTable}(hh:A.handled=none)(I:Addr)(hne:S≠I)(tb:Tab (bL ts) t L)(cap:uZ t.mask L.length)(bG:t.plain=true)(iJ:t.led=bT w) :
  Walks prog w A I [I,S] [I] L.length (λi v=>∃e,(bO w S ep (aK items ts L))[i]?=some e/\e.2=v) (λi h=>i<=L.length/\h.get? S=some (pO items ts L ep t)/\∃slot,h.get? I=some (zY S slot i L.length ep)/\(w.params.followText "set-order"=false->slot=cM L i)) where
 «sub»:=λb hb=>by simp at hb;simp[hb]
 frame:=λ_ _ _ st hk=>let ⟨a,b,slot,c,d⟩:=st;⟨a,hk S Zaa _ b,slot,hk I Zaa _ c,d⟩
 item:=λi s Q E hi st hQ=>by
  obtain⟨a,b,slot,c,d⟩:=st;refine zcf hh c b tb cap bG iJ a d (λe h' dB e1 e2 e3 e4=>?_) (λh' e1 _=>?_)
  ·exact hQ e.2 h' s.toks ⟨e,e1,rfl⟩ ⟨hi,e4.extBut S _ hne b,dB,e2,e3⟩ λb o hb e=>e4.extBut b o (λh=>hb (by simp[h])) e
  ·have:=pR.mp e1;rw[Uu] at this
   lia
 done:=λs Q E st hQ=>by
  obtain⟨a,b,slot,c,d⟩:=st;refine zcf hh c b tb cap bG iJ a d (λe h' dB e1 _ _ _=>?_) (λh' _ e2=>?_)
  ·have:=(jt.mp e1).1;rw[Uu] at this
   lia
  ·exact hQ h' s.toks λb o hb e=>e2 b o (λh=>hb (by simp[h])) e
 self:=λ_ s _ _ st hQ=>by
  obtain⟨a,b,slot,c,d⟩:=st;refine wpAny_pyIter_slot (Ko c) zbs (rJ zbs (Ko c) zcJ ?_ (zdk _));show wpAny _ _ (ret (.ref _)) _ _ s;exact aJ ⟨_,rfl,"set_iterator",_,Ko c,cQ.lookup,hQ⟩
theorem zhH{ep:Nat}{t:SetTable}{Q:Bool->Shared->Prop}(ho:s.heap.get? S=some (pO items ts L ep t))(h:Q false s):wpAny (model prog w) A (Builtin.List.listLengthHint (.ref S)) Q E s:=by
 unfold Builtin.List.listLengthHint;refine au (wpAny_specialOf ⟨_,ho,rfl⟩ F.slot_set_len.lookup ?_);generalize hid:("set.__len__" : String)=id0
 wp_delta
 rw[show splitId id0=some ("set","__len__") from by subst hid;decide +kernel];subst hid;refine au (wpAny_isInstance (T:="set") (b:=true) ⟨_,ho,rfl⟩ (by rw[isSubtype_type];kernel_rfl) ?_);refine wpAny_ite_split (λqD=>absurd qD UJ) (λ_=>?_);refine wpAny_ite_split (λ_=>?_) (λqD=>absurd Bd qD);refine au (yK (T:="set") ⟨_,ho,rfl⟩ ?_);exact aJ h
theorem ze7{ep:Nat}{acc:Array Value}(h:ItemsOf (λi v=>∃e,(bO w S ep (aK items ts L))[i]?=some e/\e.2=v) acc L.length):acc=((bO w S ep (aK items ts L)).map (·.2)).toArray:=by
 obtain⟨h1,h2⟩:=h;apply Array.toList_inj.mp;apply List.ext_getElem?;intro i;cases e:acc[i]? with
 |none=>
  have:=Array.getElem?_eq_none_iff.mp e;rw[Oq,e]
  symm
  rw[pR,bZ,Uu]
  lia
 |some v=>
  obtain⟨x,e1,e2⟩:=h2 i v e;rw[Oq,e];show some v=((bO w S ep (aK items ts L)).map (·.2))[i]?;rw[ju,e1,<-e2];rfl
theorem zdz{ep:Nat}{t:SetTable}{Q:List Value->Shared->Prop}(hh:A.handled=none)(ho:s.heap.get? S=some (pO items ts L ep t))(tb:Tab (bL ts) t L)(cap:uZ t.mask L.length)(bG:t.plain=true)(iJ:t.led=bT w)
  (h:∀h' tk,(∀b o,s.heap.get? b=some o->h'.get? b=some o)->Q ((bO w S ep (aK items ts L)).map (·.2)) {s with heap:=h',toks:=tk}):wpAny (model prog w) A (collect (.ref S)) Q E s:=by
 have hlt:S<s.heap.objs.size:=bM ho;have aae:(100:Nat)<=sizeLine:=by decide
 have hn:L.length<=sizeLine:=by rcases cap with c|c|c<;>lia
 unfold collect;refine au (wpAny_runValue (DY entry_proto_collect' ?_));show wpAny _ _ (do again (.builtin "list.__iadd__" ⟨[<-newList [],.ref S],[]⟩)) _ _ s;refine au (wpAny_newList (aJ ⟨KZ _ Bd,DY entry_list_iadd' ?_⟩));show wpAny _ _ (Builtin.List.listExtendWith (.ref s.heap.objs.size) (.ref S) (.ref s.heap.objs.size)) _ _ {s with heap:=s.heap.push (seqObj "list" #[] 0)};have jM:(s.heap.push (seqObj "list" #[] 0)).get? S=some (pO items ts L ep t):=bU _ ho;unfold Builtin.List.listExtendWith;refine au (yK (T:="set") ⟨_,jM,rfl⟩ ?_);have h1:Builtin.List.listSameRef (.ref s.heap.objs.size) (.ref S)=false:=by simp[Builtin.List.listSameRef,vp hlt]
 have h2:(Value.type "set"==Value.type "list")=false:=by decide
 have h3:(Value.type "set"==Value.type "tuple")=false:=by decide
 simp only[h1,h2,h3,Bool.or_false,jd,iQ];refine au (zeM jM tb cap bG ?_);refine au (jw (zhH (bU _ jM) ?_));refine wpAny_ite_split (λ_=>?_) (λqD=>absurd Bd qD);refine au (Ek ?_);refine au ?_;have hS₁:((s.heap.push (seqObj "list" #[] 0)).push (zY S 0 0 L.length ep)).get? s.heap.objs.size=some (seqObj "list" #[] 0):=bU _ (gF _ rfl);show wpAny _ _ (updateSeq s.heap.objs.size (·.push .none) >>= λ_=>updateSeq s.heap.objs.size (·.pop)) _ _ _;refine au (wpAny_updateSeq hS₁ rfl ?_);have hS₂:=sJ (Obj.mapSeq (·.push Value.none)) hS₁ rfl;refine wpAny_updateSeq (hz:=by seq_fits) hS₂ rfl ?_;have hS₃:=sJ (Obj.mapSeq (·.pop)) hS₂ rfl;have hI:(s.heap.push (seqObj "list" #[] 0)).objs.size=s.heap.objs.size+1:=by rw[size_push']
 refine aJ ⟨plainId_quiet F.plain_extend_loop _,?_⟩;have oth:∀b o,b≠s.heap.objs.size->(s.heap.push (seqObj "list" #[] 0)).get? b=some o->((((s.heap.push (seqObj "list" #[] 0)).push (zY S 0 0 L.length ep)).update s.heap.objs.size (Obj.mapSeq (·.push Value.none))).update s.heap.objs.size (Obj.mapSeq (·.pop))).get? b=some o:=λb o hb e=>
  (vg _ _ (Ne.symm hb)).trans ((vg _ _ (Ne.symm hb)).trans (bU _ e))
 have hne:S≠(s.heap.push (seqObj "list" #[] 0)).objs.size:=by rw[hI];exact cR (qJ hlt)
 have Bm:s.heap.objs.size≠(s.heap.push (seqObj "list" #[] 0)).objs.size:=by rw[hI];lia
 refine codeAny_extend_loopS ((zfa (items:=items) (ep:=ep) (by simp[hh]) (s.heap.push (seqObj "list" #[] 0)).objs.size hne tb cap bG iJ).toS) hn s.heap.objs.size (by simp only[cH,mZ,lR,not_or];exact⟨Bm,vp hlt⟩) _ L.length 0 _ #[] _ rfl (oJ _)
  ⟨oJ _,oth S _ (cR hlt) jM,0,(vg _ _ Bm).trans ((vg _ _ Bm).trans (gF _ rfl)),λ_=>rfl⟩ hS₃ (ItemsOf.nil _) λs' acc' c' hm Dr Uv=>?_
 have ea:=ze7 Uv;rw[Moved.eq_with hm];show wpAny _ _ _ _ _ _;dsimp only;refine au (wpAny_load Dr ?_);dsimp only;refine aJ ?_;rw[ea];refine h s'.heap s'.toks λb o e=>?_;have hb:b<s.heap.objs.size:=bM e;refine hm.heap b o ?_ (oth b o (cR hb) (bU _ e));simp only[cH,mZ,lR,not_or];exact⟨cR hb,by rw[hI];exact cR (qJ hb)⟩
theorem zfv{u:Value}{vs:List Value}{κ:SortKind}{lt:Nat->Nat->Option Bool}{p:Array Nat}{Q:Value->Shared->Prop}(Uw:∀(Q':List Value->Shared->Prop) (E':Value->Shared->Prop),(∀h' tk,(∀b o,s.heap.get? b=some o->h'.get? b=some o)->Q' vs {s with heap:=h',toks:=tk})->wpAny (model prog w) A.in1 (collect u) Q' E' s)(xr:vs.length<64)
  (hk:2<=vs.length->∀(s':Shared) (Q:SortKind->Shared->Prop) E,(∀b o,s.heap.get? b=some o->s'.heap.get? b=some o)->Q κ s'->wpAny (model prog w) A.in1.in1 (keyKind' vs.toArray) Q E s')
  (hlt:2<=vs.length->∀(s':Shared) i j b C,(∀b o,s.heap.get? b=some o->s'.heap.get? b=some o)->lt i j=some b->C b s'->kas_ask prog w A.in1.in1 κ vs i j C s') (hr:2<=vs.length->bD lt (kas_sort vs.length)=some p) (Ih:2<=vs.length->p.size=vs.length)
  (h:∀h' tk r e,(∀b o,s.heap.get? b=some o->h'.get? b=some o)->(∀b o,s.heap.get? b=some o->b<r)->h'.get? r=some (seqObj "list" (fP vs p) e)->Q (.ref r) {s with heap:=h',toks:=tk}) :
  wpAny (model prog w) A (call (.builtin "sorted") [u]) Q E s:=by
 refine Calls.call_function_entry kind_sorted plain_sorted entry_sorted (args_sorted1 _) ?_;unfold Builtin.«sorted»;refine au (m:=checkCount "sorted" 1 1 _) (aJ ?_);refine au (Uw _ _ λh1 tk lN=>?_);refine au (wpAny_newList ?_ (by rw[oK];lia));have yU:(h1.push (seqObj "list" vs.toArray 0)).get? h1.objs.size=some (seqObj "list" vs.toArray 0):=gF _ rfl;have keep:∀b o,s.heap.get? b=some o->(h1.push (seqObj "list" vs.toArray 0)).get? b=some o:=λb o q=>bU _ (lN b o q);have nn:∀b o,s.heap.get? b=some o->b≠h1.objs.size:=λb o e=>cR (bM (lN b o e));refine au (jw (rJ slot_list_sort ⟨_,yU,rfl⟩ entry_list_sort (X8 (κ:=κ) (lt:=lt) (p:=p) yU xr (λh2 s' Q' k q=>hk h2 s' Q' _ (λb o e=>k b o (nn b o e) (keep b o e)) q) (λh2 s' i j b C k e q=>hlt h2 s' i j b C (λb o e=>k b o (nn b o e) (keep b o e)) e q) hr Ih ⟨_,rfl,?_⟩) (args_list_sort _)));obtain⟨e,he⟩:=sortedHeap_at (out:=fP vs p) yU;refine aJ ⟨_,rfl,h _ tk _ e (λb o q=>?_) (λb o q=>bM (lN b o q)) he⟩;have hb:=lN b o q;rw[sortedHeap_old (nn b o q) (by rw[size_push'];exact qJ (bM hb))];exact keep b o q
end
end Ts
namespace Mi
open PySem PySem.Spec PyProof.Rows L2 PySem.W Ts
theorem zgl{α β:Type}{f:α->β}{l m:List β}(h:l.Perm m):∀{L:List α},m=L.map f->∃L':List α,L'.Perm L/\l=L'.map f:=by
 induction h with
 |nil=>intro L e;exact⟨L,.refl _,e⟩
 |cons x _ ih=>
  intro L e;cases L with
  |nil=>cases e
  |cons a L=>
   injection e with e1 e2;obtain⟨L',p,q⟩:=ih e2;exact⟨a::L',p.cons a,by rw[q,e1];rfl⟩
 |swap x y l=>
  intro L e
  match L,e with
  |a::b::L,e=>
   injection e with e1 e2;injection e2 with e2 e3;exact⟨b::a::L,.swap ..,by rw[e1,e2,e3];rfl⟩
 |trans _ _ ih1 ih2=>
  intro L e;obtain⟨L2,p2,q2⟩:=ih2 e;obtain⟨L1,p1,q1⟩:=ih1 q2;exact⟨L1,p1.trans p2,q1⟩
noncomputable def g_(a b:Int×Int):Bool:=decide (a.1<b.1\/a.1=b.1/\a.2<b.2)
noncomputable def zZ(us:List (Int×Int))(i j:Nat):Option Bool:=match us[i]?,us[j]? with
 |some a,some b=>some (g_ a b)
 |_,_=>none
def Ni(us:List (Int×Int))(i j:Nat):Prop:=g_ (us.getD j (0,1)) (us.getD i (0,1))=false
theorem j_{a b:Int×Int}:g_ a b=true↔(a.1<b.1\/a.1=b.1/\a.2<b.2):=decide_eq_true_iff
theorem Ux{a b:Int×Int}:g_ a b=false↔¬(a.1<b.1\/a.1=b.1/\a.2<b.2):=KJ
theorem Uy(us:List (Int×Int)):Ord us.length (zZ us) (Ni us):=by
 refine⟨λi j hi hj=>?_,λi j k _ _ _ h1 h2=>?_⟩
 ·unfold zZ Ni;rw[fH hi,fH hj,kY,kY,fH hi,fH hj];show (some (g_ us[i] us[j])=some true/\g_ us[j] us[i]=false)\/(some (g_ us[i] us[j])=some false/\g_ us[i] us[j]=false);cases e:g_ us[i] us[j]
  ·exact .inr ⟨rfl,rfl⟩
  ·refine .inl ⟨rfl,?_⟩;rw[j_] at e;rw[Ux]
   lia
 ·unfold Ni at *;rw[Ux] at *
  lia
theorem Kp:gW.Pairwise λa b=>g_ a b=true:=by decide +kernel
theorem Nj:∀{l m:List (Int×Int)},(l.Pairwise λa b=>g_ a b=true)->(m.Pairwise λa b=>g_ a b=true)->(∀x,x∈l↔x∈m)->l=m
 |[],[],_,_,_=>rfl
 |[],b::m,_,_,h=>by have:=(h b).mpr dO;cases this
 |a::l,[],_,_,h=>by have:=(h a).mp dO;cases this
 |a::l,b::m,p,q,h=>by
  obtain⟨p1,p2⟩:=Ae.mp p;obtain⟨q1,q2⟩:=Ae.mp q;have irr:∀x,g_ x x=true->False:=λx hx=>by rw[j_] at hx;lia
  have e:a=b:=by
   rcases cH.mp ((h a).mp dO) with z|z
   ·exact z
   ·rcases cH.mp ((h b).mpr dO) with y|y
    ·exact y.symm
    ·have h1:=p1 b y;have h2:=q1 a z;rw[j_] at h1 h2
     lia
  subst e;rw[Nj p2 q2 λx=>⟨λhx=>?_,λhx=>?_⟩]
  ·rcases cH.mp ((h x).mp (dN _ hx)) with z|z
   ·subst z;exact(irr _ (p1 _ hx)).elim
   ·exact z
  ·rcases cH.mp ((h x).mpr (dN _ hx)) with z|z
   ·subst z;exact(irr _ (q1 _ hx)).elim
   ·exact z
theorem zhY{ts:List (Int×Int)}(ht:∀t∈ts,gC t){x:Int×Int}:x∈ss ts↔x∈ts:=by
 unfold ss;rw[List.mem_filter];exact⟨λh=>by simpa using h.2,λh=>⟨J_ (ht x h),by simpa using h⟩⟩
theorem Nk{ts:List (Int×Int)}:(ss ts).Pairwise λa b=>g_ a b=true:=Kp.filter _
theorem zcY{us:List (Int×Int)}(hn:2<=us.length)(hd:us.Nodup):∃p,bD (zZ us) (kas_sort us.length)=some p/\p.size=us.length/\(∀i∈p.toList,i<us.length)/\(∀x,x∈p.toList.map (λi=>us.getD i (0,1))↔x∈us)/\(p.toList.map λi=>us.getD i (0,1)).Pairwise λa b=>g_ a b=true:=by
 obtain⟨p,e,hp,ha⟩:=zkg (Uy us) gV;have hs:p.size=us.length:=hp.size;have hm:(p.toList.map λi=>us.getD i (0,1)).Perm us:=by
  have h1:(p.toList.map λi=>us.getD i (0,1)).Perm ((List.range us.length).map λi=>us.getD i (0,1)):=(Array.Perm.toList hp).map _;have h2:((List.range us.length).map λi=>us.getD i (0,1))=us:=by
   apply List.ext_getElem
   ·simp
   ·intro i a b;simp[kY,b]
  rw[h2] at h1;exact h1
 refine⟨p,e,hs,λi hi=>?_,λx=>hm.mem_iff,?_⟩
 ·have:=(Array.Perm.toList hp).mem_iff.mp hi;simpa using this
 ·have nd:(p.toList.map λi=>us.getD i (0,1)).Nodup:=hm.nodup_iff.mpr hd;rw[rF];intro i j hi hj lD;have hne:=rF.mp nd i j hi hj lD;have vX:i<p.size:=by simpa using hi
  have J5:j<p.size:=by simpa using hj
  have hl:=ha i j lD gV;unfold Ni at hl;have e1:p.getD i 0=p[i]:=by simp[Array.getD,vX]
  have e2:p.getD j 0=p[j]:=by simp[Array.getD,J5]
  rw[e1,e2] at hl;simp only[List.getElem_map,Array.getElem_toList] at hne ⊢;generalize us.getD p[i] (0,1)=x at *;generalize us.getD p[j] (0,1)=y at *;rw[Ux] at hl;rw[j_];obtain⟨x1,x2⟩:=x;obtain⟨y1,y2⟩:=y;simp only[Prod.mk.injEq,ne_eq,not_and] at *
  lia
section
variable {prog:Program}{w:World}{A:Around}{E:Value->Shared->Prop}{s:Shared}{S:Addr}{items:List Value}{ts:List (Int×Int)}{L:Ent}
theorem zf3{h:Heap}(T:fD prog w h S items ts):∀{js:List Nat},(∀j∈js,j<ts.length)->∃fs:List Value,fs.length=(js.map (items.getD · Value.none)).length/\(∀f∈fs,∃i t,f=Value.int i t)/\KatTups h (js.map (items.getD · Value.none)) fs
 |[],_=>⟨[],rfl,(λf hf=>by cases hf),trivial⟩
 |j::js,hj=>by
  obtain⟨fs,l,hf,kt⟩:=zf3 T (js:=js) λj' h'=>hj j' (dN _ h');obtain⟨a,e,_,o,its,n,ho,hc,hd,hi⟩:=T.at' j (hj j dO);obtain⟨its⟩:=its;cases hi with
  |cons hv hr=>
   obtain⟨t,rfl⟩:=DQ hv;refine⟨Value.int (aQ ts j).1 t::fs,by simp[l],λf hf'=>?_,?_⟩
   ·rcases cH.mp hf' with rfl|z
    ·exact⟨_,t,rfl⟩
    ·exact hf f z
   ·rw[kh,e];exact KatTups.cons ho hc hd Zaa kt
theorem Uz{a b:Int×Int}:ji [.int a.1,.int a.2] [.int b.1,.int b.2]=some (g_ a b):=by
 unfold g_;simp only[ji];by_cases h1:a.1=b.1
 ·rw[if_pos h1];by_cases h2:a.2=b.2
  ·rw[if_pos h2]
   congr 1
   simp only[rK,m5,decide_false]
   symm
   rw[KJ]
   lia
  ·rw[if_neg h2]
   congr 1
   rw[wz]
   lia
 ·rw[if_neg h1]
  congr 1
  rw[wz]
  lia
theorem zdY{x y:Int}{its:List Value}(hi:ItemsAre (intKind prog w) [x,y] its):Vals [.int x,.int y] its:=by
 cases hi with
 |cons hv hr=>
  cases hr with
  |cons hv2 Nm=>
   cases Nm;obtain⟨t,rfl⟩:=DQ hv;obtain⟨t',rfl⟩:=DQ hv2;exact .cons ⟨t,rfl⟩ (.cons ⟨t',rfl⟩ .nil)
theorem zhF{l:Addr}{Q:Value->Shared->Prop}(hh:A.handled=none)(hu:A.units+8<cLine)(hl:s.heap.IsTuple l items.toArray)(hT:fD prog w s.heap s.heap.objs.size items ts)
  (h:∀h' tk r e (js:List Nat),(∀b o,s.heap.get? b=some o->h'.get? b=some o)->s.heap.objs.size<=r->js.map (aQ ts)=ss ts->(∀j∈js,j<ts.length)->h'.get? r=some (seqObj "list" (js.map (items.getD · Value.none)).toArray e)->Q (.ref r) {s with heap:=h',toks:=tk}) :
  wpAny (model prog w) A (PySem.call (.type "set") [.ref l]) (λv s'=>wpAny (model prog w) A (PySem.call (.builtin "sorted") [v]) Q E s') E s:=by
 refine zcy hh hu hl hT λh1 tk1 L hS T1 hD lN=>?_;obtain⟨⟨ep,t,ho,tb,cap,bG,iJ⟩,idx⟩:=hS;have k1:∀b o,s.heap.get? b=some o->h1.get? b=some o:=λb o e=>lN b o (bM e) e;obtain⟨L',pL,eL⟩:=zgl (f:=λe:Nat×Nat=>(bL ts e.2,items.getD e.2 Value.none)) (lM (w:=w) (S:=s.heap.objs.size) (ep:=ep) (es:=aK items ts L)) (L:=L) rfl;have ev:(bO w s.heap.objs.size ep (aK items ts L)).map (·.2)=(L'.map (·.2)).map (items.getD · Value.none):=by
  rw[eL,lQ,lQ];rfl
 have zV:∀j∈L'.map (·.2),j<ts.length:=λj hj=>by
  obtain⟨e,he,rfl⟩:=gG.mp hj;exact idx e (pL.mem_iff.mp he)
 have nd:((L'.map (·.2)).map (aQ ts)).Nodup:=by
  rw[lQ];have:L'.Nodup:=pL.nodup_iff.mpr (by
   have:=tb.asc;unfold Ts.fB at this;rw[sS] at this;exact this.imp λ{a b} z=>λe=>by subst e;lia)
  unfold List.Nodup;rw[sS];refine(List.Pairwise.and_mem.mp this).imp λ{a b} z e=>z.2.2 (tb.inj a (pL.mem_iff.mp z.1) b (pL.mem_iff.mp z.2.1) ?_);show hf (aQ ts a.2)=hf (aQ ts b.2);rw[show aQ ts a.2=aQ ts b.2 from e]
 have aaf:L.length<=28:=by rcases cap with c|c|c<;>lia
 have hlen:((L'.map (·.2)).map (items.getD · Value.none)).length=L.length:=by rw[bZ,bZ];exact pL.length_eq
 have u9:((L'.map (·.2)).map (aQ ts)).length=L.length:=by rw[bZ,bZ];exact pL.length_eq
 have t8:∀x∈ts,gC x:=λx hx=>by
  obtain⟨i,hi,rfl⟩:=DK hx;have:=T1.tie i hi;unfold aQ at this;rw[kY,fH hi] at this;exact this
 have UG:∀i,i<ts.length->aQ ts i∈ts:=λi hi=>by
  unfold aQ;rw[kY,fH hi];exact qK hi
 have hm:∀x,x∈(L'.map (·.2)).map (aQ ts)↔x∈ss ts:=λx=>by
  rw[zhY t8];refine⟨λhx=>?_,λhx=>?_⟩
  ·obtain⟨j,hj,rfl⟩:=gG.mp hx;exact UG j (zV j hj)
  ·obtain⟨i,hi,rfl⟩:=DK hx;obtain⟨e,he,e2⟩:=hD.2 i hi;refine gG.mpr ⟨e.2,gG.mpr ⟨e,pL.mem_iff.mpr he,rfl⟩,?_⟩;rw[e2];unfold aQ;rw[kY,fH hi];rfl
 have fin:∀(p:Array Nat),(2<=L.length->p.size=L.length/\(∀i∈p.toList,i<L.length)/\(∀x,x∈p.toList.map (λi=>((L'.map (·.2)).map (aQ ts)).getD i (0,1))↔x∈(L'.map (·.2)).map (aQ ts))/\(p.toList.map λi=>((L'.map (·.2)).map (aQ ts)).getD i (0,1)).Pairwise λa b=>g_ a b=true)->∃js:List Nat,js.map (aQ ts)=ss ts/\(∀j∈js,j<ts.length)/\fP ((L'.map (·.2)).map (items.getD · Value.none)) p=(js.map (items.getD · Value.none)).toArray:=λp hp=>by
  unfold fP;by_cases h2:L.length<2
  ·rw[hlen,if_pos h2];refine⟨L'.map (·.2),Nj ?_ Nk hm,zV,rfl⟩;rw[<-u9] at h2;generalize (L'.map (·.2)).map (aQ ts)=us at h2
   match us,h2 with
   |[],_=>exact .nil
   |[x],_=>exact List.pairwise_singleton ..
  ·rw[hlen,if_neg h2];obtain⟨p1,p2,p3,p4⟩:=hp gV;have B_:∀i∈p.toList,(L'.map (·.2)).getD i 0∈L'.map (·.2)/\((L'.map (·.2)).map (items.getD · Value.none)).getD i Value.none=items.getD ((L'.map (·.2)).getD i 0) Value.none/\((L'.map (·.2)).map (aQ ts)).getD i (0,1)=aQ ts ((L'.map (·.2)).getD i 0):=λi hi=>by
    have vX:i<(L'.map (·.2)).length:=by rw[bZ,pL.length_eq];exact p2 i hi
    generalize L'.map (·.2)=ks at vX;simp only[kY,ju,fH vX,Option.map_some,Option.getD_some];exact⟨qK vX,trivial,trivial⟩
   refine⟨p.toList.map λi=>(L'.map (·.2)).getD i 0,?_,λj hj=>?_,?_⟩
   ·rw[lQ];have:p.toList.map (aQ ts∘λi=>(L'.map (·.2)).getD i 0)=p.toList.map λi=>((L'.map (·.2)).map (aQ ts)).getD i (0,1):=Gj λi hi=>((B_ i hi).2.2).symm;rw[this];exact Nj p4 Nk λx=>(p3 x).trans (hm x)
   ·obtain⟨i,hi,rfl⟩:=gG.mp hj;exact zV _ (B_ i hi).1
   ·exact qL List.toArray ((Gj λi hi=>(B_ i hi).2.1).trans (by rw[lQ];rfl))
 obtain⟨p,hr,hp⟩ : ∃p,(2<=L.length->bD (zZ ((L'.map (·.2)).map (aQ ts))) (kas_sort L.length)=some p)/\(2<=L.length->p.size=L.length/\(∀i∈p.toList,i<L.length)/\(∀x,x∈p.toList.map (λi=>((L'.map (·.2)).map (aQ ts)).getD i (0,1))↔x∈(L'.map (·.2)).map (aQ ts))/\(p.toList.map λi=>((L'.map (·.2)).map (aQ ts)).getD i (0,1)).Pairwise λa b=>g_ a b=true):=by
  by_cases h2:2<=L.length
  ·obtain⟨p,a,b,c,d,e⟩:=zcY (by rw[u9];exact h2) nd;rw[u9] at a b c;exact⟨p,λ_=>a,λ_=>⟨b,c,d,e⟩⟩
  ·exact⟨#[],λz=>absurd z h2,λz=>absurd z h2⟩
 obtain⟨js,j1,j2,j3⟩:=fin p hp;refine zfv (vs:=(L'.map (·.2)).map (items.getD · Value.none)) (κ:=tuples' true) (lt:=zZ ((L'.map (·.2)).map (aQ ts))) (p:=p) (λQ' E' q=>?_) gV (λh2 s' Q' E' k q=>?_) (λh2 s' i j b C k e hC=>?_) (λh2=>by rw[hlen] at h2 ⊢;exact hr h2) (λh2=>by rw[hlen] at h2 ⊢;exact(hp h2).1) (λh' tk r e k hn hg=>?_)
 ·refine zdz (by simp[hh]) ho tb cap bG iJ λh' tk k=>?_;rw[ev];exact q h' tk k
 ·obtain⟨fs,l1,hf,kt⟩:=zf3 (T1.keep λi a o hi e g=>k a o g) zV;exact Yb h2 l1 hf kt q
 ·unfold zZ at e;split at e
  ·rename_i a c e1 e2;cases e;rw[ju,m9] at e1 e2;obtain⟨j1,g1,rfl⟩:=e1;obtain⟨j2,g2,rfl⟩:=e2;obtain⟨a1,b1,_,o1,i1,n1,Ey,_,Q7,hi1⟩:=T1.at' j1 (zV j1 (gD g1));obtain⟨a2,b2,_,o2,i2,n2,nu,_,hd2,hi2⟩:=T1.at' j2 (zV j2 (gD g2));obtain⟨i1⟩:=i1;obtain⟨i2⟩:=i2;show wpAny _ _ (keyLt' (tuples' true) (((L'.map (·.2)).map (items.getD · Value.none)).getD i Value.none) (((L'.map (·.2)).map (items.getD · Value.none)).getD j Value.none)) C _ s';have f1:((L'.map (·.2)).map (items.getD · Value.none))[i]?=some (.ref a1):=by rw[ju,g1,<-b1];rfl
   have f2:((L'.map (·.2)).map (items.getD · Value.none))[j]?=some (.ref a2):=by rw[ju,g2,<-b2];rfl
   rw[Bq f1,Bq f2];have r1:=zdY hi1;have r2:=zdY hi2;refine kat_lt (k _ _ Ey) Q7 (k _ _ nu) hd2 (X_ r1 r2 Uz ?_ hC);have q1:=r1.length;have q2:=r2.length;simp at q1 q2;simp[<-q1,<-q2]
  ·cases e
 ·refine h h' tk r e js (λb o g=>k b o (k1 b o g)) ?_ j1 j2 (by rw[<-j3];exact hg);exact yJ (hn _ _ ho)
end
def TV(K:W.Frag)(H:Hp)(ys:List V)(ts:List (Int×Int)):Prop:=ts.length=ys.length/\∀i,i<ts.length->gC (aQ ts i)/\∃a,ys[i]?=some (.ref a)/\fL K H a [.int (aQ ts i).1,.int (aQ ts i).2]
def rSs(K:W.Frag)(vs:List V)(H:Hp)(Q:VK):Prop:=∃l ys ts,vs=[.ref l]/\fL K H l ys/\TV K H ys ts/\∀js:List Nat,js.map (aQ ts)=ss ts->(∀j∈js,j<ts.length)->∀r,H r=none->Q (.ref r) (upd H r (.lst (js.map (ys.getD · .non))))
theorem zhB:bootBuiltins "set"=some (.type "set"):=by decide +kernel
section
variable {X:Cx}
theorem zeW{w:World}{prog:Program}{x y:Int}{its:List Value}(r:Vals [.int x,.int y] its):ItemsAre (intKind prog w) [x,y] its:=by
 cases r with
 |cons a r=>
  cases r with
  |cons b r=>
   cases r;obtain⟨t,rfl⟩:=a;obtain⟨t',rfl⟩:=b;exact .cons (by show Value.isInt x (Value.int x t)=true;simp[Value.isInt]) (.cons (by show Value.isInt y (Value.int y t')=true;simp[Value.isInt]) .nil)
theorem zms{k:Nat}{e:Expr}{t:TA}{p p' pos pos':Pos}(hr:bW k X.A)(hc:X.aj=true)(hg:Gl X "sorted")(hm:X.mg "sorted"=none)(Kq:Gl X "set")(Br:X.mg "set"=none)(ha:PA X [e] t)
  (he:starEach [e] X.env=(false,eval e X.env)::starEach [] X.env:=by rfl) (bG:(backTo pos' (starEach [] X.env)).any (·.1)=false:=by rfl) :
  PE X (.Call (.Name "sorted" p) [.Call (.Name "set" p') [e] [] pos'] [] pos) (Qf (rSs X.K) t):=by
 intro ak s Z H Q I h;refine Gk (yW I hg hm ZF ?_);refine PyProof.Rows.callWith_builtin1 ?_ rfl rfl;show wpAny _ _ (spliced ((false,eval (.Call (.Name "set" p') [e] [] pos') X.env)::backTo pos (starEach [] X.env))) _ _ s;refine Calls.spliced_cons ?_;refine Gk (yW I Kq Br zhB ?_);refine Ga (aX (ha pos' ak s Z H _ I h) λus s1 ⟨vs,H1,I1,r1,q1⟩=>?_) he bG;obtain⟨l,ys,ts,rfl,hq,⟨hl,ht⟩,q⟩:=q1;obtain⟨u,rfl,ru⟩:=vals1 r1;cases ru;obtain⟨its,rv,pl,hz⟩:=I1.tuple hq;have hu:=hr.un;have hT:fD X.prog X.w s1.heap s1.heap.objs.size its ts:=⟨by rw[hl,rv.length],λi hi=>(ht i hi).1,λi hi=>by
  obtain⟨a,e1,e2⟩:=(ht i hi).2;obtain⟨u,e3,e4⟩:=rv.get e1;cases (show u=Value.ref a from e4);obtain⟨its',rv',⟨o,ho,jT,n,hd⟩,_⟩:=I1.tuple e2;refine⟨a,Bq e3,cR (bM ho),o,its'.toArray,n,ho,jT,hd,?_⟩;simpa using zeW rv'⟩
 refine aX (zhF (E:=X.xe) (I1.ok.hd hc) gV pl hT λh' tk r e js k m6 j1 j2 hg=>?_) λv s' hw=>Calls.spliced_nil hw;have hn:H1 r=none:=I1.hok.fresh m6;have hv:Vals (js.map (ys.getD · .non)) (js.map (its.getD · Value.none)):=Q6 rv js;refine⟨.ref r,_,I1.laid (a:=r) (o:=.lst (js.map (ys.getD · .non))) (h':=h') (t':=tk) k m6 (show aO X.prog X.w _ h' _ (.lst _) from ⟨?_,_,e,hv,hg⟩),rfl,q js j1 j2 r hn⟩;have:(js.map (aQ ts)).length<=28:=by rw[j1];exact n8 (List.length_filter_le ..) UJ
 rw[bZ] at this ⊢;exact n8 this UJ
end
section
variable {K:W.Frag}{cA:Cl}{U:Ph}{H:Hp}
theorem ziQ{d:D}{v:V}{p:Int×Int}(h:xK d=some p)(r:Rep K cA U H d v):d=.tup [.int p.1,.int p.2]/\gC p/\∃a,v=.ref a/\fL K H a [.int p.1,.int p.2]:=by
 unfold xK at h;split at h
 ·rename_i a b;by_cases hk:0<=a/\a<b/\b<8
  ·rw[if_pos hk] at h;cases h;refine⟨rfl,hk,?_⟩;cases r with
   |tup t r=>
    cases r with
    |cons r1 r=>
     cases r with
     |cons r2 r=>
      cases r;cases r1;cases r2;exact⟨_,rfl,t.jm⟩
  ·rw[if_neg hk] at h;cases h
 ·cases h
theorem zdd:∀{xs:List D} {ys:List V} {ts:List (Int×Int)},jX xs=some ts->aB K cA U H xs ys->xs=ts.map (λp=>.tup [.int p.1,.int p.2])/\TV K H ys ts
 |[],_,_,h,r=>by cases h;cases r;exact⟨rfl,rfl,λi hi=>by cases hi⟩
 |x::xs,_,ts,h,r=>by
  unfold jX at h;split at h
  ·rename_i a b e1 e2;cases h;cases r with
   |cons r1 r2=>
    obtain⟨e3,l,q⟩:=zdd e2 r2;obtain⟨e4,t8,a1,rfl,s1⟩:=ziQ e1 r1;refine⟨by rw[e3,e4];rfl,by simp[l],λi hi=>?_⟩;cases i with
    |zero=>exact⟨t8,a1,rfl,s1⟩
    |succ i=>exact q i (by simpa using hi)
  ·cases h
theorem zm2:aR K cA .dU (rSs K):=by
 intro U H ds vs Q zt rs o;have o:aZ K cA U H (RG ds) Q:=o;unfold RG at o;split at o
 ·rename_i xs _;obtain⟨v,rfl,r1⟩:=rs.one;obtain⟨z,e⟩:=o.some';obtain⟨ts,e1,e2⟩:=m9.mp e;subst e2;have r1:Rep K cA U H (.tup xs) v:=r1;cases r1 with
  |tup t q=>
   obtain⟨e3,tv⟩:=zdd e1 q;refine⟨_,_,ts,rfl,t.jm,tv,λjs j1 j2 r hr=>(o.of e) r _ hr ?_⟩;rw[<-j1,lQ];have:js.map ((λp:Int×Int=>D.tup [.int p.1,.int p.2])∘aQ ts)=js.map λj=>xs.getD j .non:=Gj λj hj=>by
    have:=j2 j hj;rw[e3];simp[aQ,kY,this]
   rw[this];exact q.CP js
 ·exact o.elim
end
section
variable {X:Cx}{cA:Cl}{ao:Nat->Nat->Bool}{aj:Bool}{F:Fn}{EX:XS}{e:Expr}{pos pos' p p':Pos}{Xs:Es}{fz:Bool}
theorem zmT{k:Nat}(hr:bW k X.A)(hc:X.aj=true)(hg:Gl X "sorted")(hm:X.mg "sorted"=none)(Kq:Gl X "set")(Br:X.mg "set"=none)(ha:SA X cA ao aj F EX [e] Xs)
  (he:starEach [e] X.env=(false,eval e X.env)::starEach [] X.env) (bG:(backTo pos' (starEach [] X.env)).any (·.1)=false):SE X cA ao aj F EX (.Call (.Name "sorted" p) [.Call (.Name "set" p') [e] [] pos'] [] pos) (.pr fz .dU Xs):=PE.weak (zms hr hc hg hm Kq Br ha he bG) λZ H Q hh=>un hh λU J s hL hS h=>
 qY hL hS h λvs H1 U1 ds s1 x1 hL1 aL r1 h1=>by
  obtain⟨ds,rs,h3⟩:=m7 aL r1 h1;exact zm2 U1 H1 ds _ _ aL.zs rs (mL aL h3)
theorem znX{k:Nat}(hr:bW k X.A)(hc:X.aj=true)(hm:X.mg "sorted"=none)(hg:JK X "sorted" .globalImplicit)(Br:X.mg "set"=none)(Kq:JK X "set" .globalImplicit)(ha:JA X cA ao aj F EX [e] Xs)(he:aD e=true:=by rfl):JE X cA ao aj F EX (.Call (.Name "sorted" p) [.Call (.Name "set" p') [e] [] pos'] [] pos) (.pr fz .dU Xs):=⟨zmT hr hc hg.o hm Kq.o Br ha.o (bw he) (aW rfl)⟩
end
end Mi
namespace Mi
open PySem PySem.Spec PyProof.Rows L2 PySem.W
section
variable {X:Cx}{cA:Cl}{ao:Nat->Nat->Bool}{aj:Bool}{F:Fn}{EX:XS}{a b:Expr}{A B:E}{pos p:Pos}{x:Str}{e:Expr}{es:List Expr}{Xs:Es}
noncomputable def yu(sc:Scope)(x:Str):Bool:=match sc.names.lookup x with
 |some k=>Cr k
 |none=>false
noncomputable def Np(sc:Scope)(x:Str):Bool:=match sc.names.lookup x with
 |some .globalImplicit=>true
 |_=>false
theorem zfH{sc:Scope}{x:Str}(h:yu sc x=true):∃k,sc.names.lookup x=some k/\Cr k=true:=by
 unfold yu at h;split at h
 ·rename_i k e;exact⟨k,e,h⟩
 ·cases h
theorem zij{sc:Scope}{x:Str}(h:Np sc x=true):sc.names.lookup x=some .globalImplicit:=by
 unfold Np at h;split at h
 ·assumption
 ·cases h
theorem gk(h:Np X.env.scope x=true:=by kernel_rfl):JK X x .globalImplicit:=⟨zij h⟩
theorem jl(h:(match X.env.scope.names.lookup x with|some .local=>true|_=>false)=true:=by kernel_rfl):JK X x .local:=by
 split at h
 ·exact⟨by assumption⟩
 ·cases h
theorem jc(h:(match X.env.scope.names.lookup x with|some .cell=>true|_=>false)=true:=by kernel_rfl):JK X x .cell:=by
 split at h
 ·exact⟨by assumption⟩
 ·cases h
theorem yw{scope:Scope}{cl:List (Str×Addr)}{N:List Str}{Cc:Addr}{s3:Shared}{H3:Hp}{fp:List Addr}{ak:List (Addr×Obj)}(h:Np scope x=true:=by kernel_rfl):JK (X.blk scope cl N Cc s3 H3 fp ak) x .globalImplicit:=Zh (zij h) rfl
theorem gv(i:Nat)(h:(decide (X.N[i]?=some x)&&yu X.env.scope x&&okN x)=true:=by kernel_rfl):JE X cA ao aj F EX (.Name x pos) (.v i):=by
 rw[cG,cG] at h;obtain⟨k,e,hv⟩:=zfH h.1.2;exact Zi i (lO h.1.1) ⟨e⟩ hv h.2
theorem iu(i:Nat){scope:Scope}{cl:List (Str×Addr)}{N:List Str}{Cc:Addr}{s3:Shared}{H3:Hp}{fp:List Addr}{ak:List (Addr×Obj)}(h:(decide (N[i]?=some x)&&yu scope x&&okN x)=true:=by kernel_rfl):JE (X.blk scope cl N Cc s3 H3 fp ak) cA ao aj F EX (.Name x pos) (.v i):=by
 rw[cG,cG] at h;obtain⟨k,e,hv⟩:=zfH h.1.2;by_cases hk:k=.free
 ·subst hk;exact zn5 i (lO h.1.1) e h.2
 ·exact Zi i (lO h.1.1) (Zh e (by cases k<;>first|rfl|exact absurd rfl hk)) hv h.2
theorem gc{f k:Nat}{cm:Bool}{st:Stmt}{ps:List Str}(Fo:eE X.prog X.w X.K X.mg X.base (lq X.prog X.w) cm k (jq X.K x) (fdOf X.K x st) ps (uF X.K cA (F f)))(D:D3 X.K X.mg x st ps)(hr:bW k X.A)(R:JR X EX)(g:JK X x .globalImplicit)(ha:JA X cA ao aj F EX (e::es) Xs)(h:okN x=true:=by kernel_rfl)
  (qP:cm=true->X.aj=true:=by first|exact λ_=>rfl|exact λz=>nomatch z) (he:aD e=true:=by rfl) (bG:es.all aD=true:=by rfl):JE X cA ao aj F EX (.Call (.Name x p) (e::es) [] pos) (.call f Xs):=
 zkW f Fo qP hr D.m D.f.kp D.b R g ha h he bG
theorem nd(h:decide X.N.Nodup=true:=by kernel_rfl):X.N.Nodup:=lO h
end
theorem fJ{P:Program}{w:World}{K:W.Frag}{mg:Str->Option Value}{base:Heap}{cA:Cl}{ao:Nat->Nat->Bool}{T:Nat->Option Df}{x:Str}{st:Stmt}{ps:List Str}{k n:Nat}{cm:Bool}{df:Df}(D:D3 K mg x st ps)(N:List Str)(hT:T n=some df)
  (hb:∀(cdv:Value) (A:Around) (outer:List Env) (s:Shared) (H:Hp) (E:XK),bW k (A.deeper (envOfC x (aA st) s.heap.objs.size (jq K x) cdv))->
   JB (iy (lq P w) P w K mg base N x (aA st) (jq K x) cdv A outer s H E cm) cA ao cm (λc=>call ao T k c) (λ_ C dx H'=>E C dx H') (aM st) df.body) (S:fM N ps (aA st):=by exact⟨rfl,rfl,rfl,dk,rfl,dk,dk⟩) (hp:df.gY=ps.length:=by rfl) (hm:df.many=N.length:=by rfl) :
  eE P w K mg base (lq P w) cm (k+1) (jq K x) (fdOf K x st) ps (uF K cA (call ao T (k+1) cm n)):=zmf D.f S hT hp hm hb
theorem fO(its:List Value):∀(n:Nat) (acc:Array Value),(List.replicate n its.toArray).foldl (λx y=>x++y) acc=acc++(rep its n).toArray
 |0,acc=>by simp[rep]
 |n+1,acc=>by
  rw[yE,List.foldl_cons,fO its n];simp[rep,yE]
theorem zj1{α:Type}(n:Nat):rep ([]:List α) n=[]:=by
 unfold rep
 induction n with
 |zero=>rfl
 |succ n ih=>rw[yE,K6,ih];rfl
theorem mU{α:Type}(xs:List α)(n:Nat):(rep xs n).length=n*xs.length:=by
 unfold rep
 induction n with
 |zero=>simp
 |succ n ih=>rw[yE,K6,fK,ih,Nat.succ_mul];lia
theorem Kr{α:Type}(xs:List α)(n:Nat):rep xs (n+1)=xs++rep xs n:=by
 unfold rep;rw[yE,K6]
theorem UL{ys:List V}{its:List Value}(r:Vals ys its):∀n,Vals (rep ys n) (rep its n)
 |0=>.nil
 |n+1=>by
  rw[Kr,Kr];have key:∀{as:List V} {bs:List Value},Vals as bs->∀{cs:List V} {ds:List Value},Vals cs ds->Vals (as++cs) (bs++ds):=by
   intro as bs h
   induction h with
   |nil=>intro cs ds h2;exact h2
   |cons a _ ih=>intro cs ds h2;exact .cons a (ih h2)
  exact key r (UL r n)
section
variable {X:Cx}
theorem ziV:cI X (binaryOp .Mult) (λx y H Q=>∃l ys n,x=.ref l/\dw X.K H l ys/\y=.int n/\(0<=n/\n<=1000/\ys.length<=1000)/\∀p,H p=none->Q (.ref p) (upd H p (.lst (rep ys n.toNat)))):=by
 intro ak s Z H x y v u Q I rx ry h;obtain⟨l,ys,n,rfl,hq,rfl,⟨h0,h1,hl⟩,q⟩:=h;cases (show v=Value.ref l from rx);obtain⟨t,rfl⟩:=ry;obtain⟨its,rv,⟨o,c,e,hc,hdi,lE⟩,hz⟩:=I.list hq;obtain⟨ocls,odict,odata,oslots⟩:=o;simp only at hc hdi lE;subst hc hdi lE;have hlen:=rv.length;have hmul:its.length*n.toNat<=1000000:=n8 (Li (show its.length<=1000 by lia) (show n.toNat<=1000 by lia)) UJ;refine wpAny_binaryOp_repeat_ref (T:="list") («U»:="int") UJ ⟨_,e,rfl⟩ (λ_=>rfl) noFill_list_mul F.fills_int_mul Lg repeat_list int_index ?_;refine yM Lg rfl F.entry_int_rmul (F.args_int_rmul_2 _ _) (lm_int_rmul_list_any n t l its.toArray c none oslots) ⟨e,rfl,⟨_,e,rfl⟩,?_⟩;refine yM F.slot_list_mul ⟨_,e,rfl⟩ F.entry_list_mul (F.args_list_mul_2 _ _) (lm_list_mul_any l its.toArray c none oslots n t ?_ ?_ ?_) ⟨e,?_⟩
 ·unfold Builtin.List.listFitsIndex;simp
  lia
 ·rw[dh];have:(1000000:Nat)<=(2^63-1)/8:=by decide
  lia
 ·rw[dh];unfold Builtin.List.listTooLong;simp;rw[oK]
  lia
 ·have hn:H s.heap.objs.size=none:=I.hok.fresh (bV _);have ea:(List.replicate (if its.toArray.isEmpty=true then 0 else n.toNat) its.toArray).foldl (λx y=>x++y) #[]=(rep its n.toNat).toArray:=by
   by_cases he:its=[]
   ·subst he;rw[zj1];rfl
   ·rw[if_neg (by simpa using he),fO];simp
  refine⟨.ref s.heap.objs.size,_,I.laid (a:=s.heap.objs.size) (o:=.lst (rep ys n.toNat)) (t':=s.toks) (λb w q=>bU _ q) (bV _) (show aO X.prog X.w _ _ _ (.lst _) from ⟨?_,_,0,UL rv n.toNat,?_⟩),rfl,q _ hn⟩
  ·rw[mU,oK];have:=Li (show n.toNat<=1000 by lia) hl
   lia
  ·rw[<-ea];exact gF _ rfl
end
section
variable {K:W.Frag}{cA:Cl}{U:Ph}{H:Hp}
theorem zea{as:List D}{bs:List V}(h:aB K cA U H as bs){cs:List D}{ds:List V}(h2:aB K cA U H cs ds):aB K cA U H (as++cs) (bs++ds):=by
 match as,bs,h with
 |_,_,.nil=>exact h2
 |_,_,.cons a r=>exact .cons a (zea r h2)
theorem UW{xs:List D}{ys:List V}(r:aB K cA U H xs ys):∀n,aB K cA U H (rep xs n) (rep ys n)
 |0=>.nil
 |n+1=>by
  rw[Kr,Kr];exact zea r (UW r n)
theorem zjp:aR K cA .mH (r2 λx y H Q=>∃l ys n,x=.ref l/\dw K H l ys/\y=.int n/\(0<=n/\n<=1000/\ys.length<=1000)/\∀p,H p=none->Q (.ref p) (upd H p (.lst (rep ys n.toNat)))):=by
 intro U H ds vs Q zt rs o;have o:aZ K cA U H (uf ds) Q:=o;unfold uf at o;split at o
 ·rename_i xs n _;obtain⟨v,v',rfl,r1,r2⟩:=rs.two (ds:=[]);cases r2;obtain⟨a,us,rfl,sq,q⟩ : ∃a us,v=.ref a/\dw K H a us/\aB K cA U H xs us:=r1;have hl:=q.len;by_cases hk:0<=n/\n<=1000/\xs.length<=1000
  ·rw[if_pos hk] at o;exact⟨_,_,rfl,a,us,n,rfl,sq,rfl,⟨hk.1,hk.2.1,by lia⟩,λp hp=>(o.of rfl) p _ hp (UW q _)⟩
  ·rw[if_neg hk] at o;exact o.elim
 ·exact o.elim
end
theorem Nq{X:Cx}{cA:Cl}:JQ X cA .Mult .mH:=⟨_,ziV,zjp⟩
end Mi
namespace PySem
open Builtin
theorem zbx:fillsNumberSlot (.type "tuple") "mul"=pure false:=
 fillsNumberSlot_seq (id:="tuple.__mul__") (r:=some (.builtin "tuple.__rmul__")) K_.lookup Bd F.slot_tuple_rmul.lookup Bd
theorem zdg:seqRepeat? (.type "tuple")=pure (some (.builtin "tuple.__mul__")):=by
 unfold seqRepeat?;rw[seqSlot_of (T:="tuple") (name:="__mul__") (id:="tuple.__mul__") K_.lookup Bd,seqSlot_of (T:="tuple") (name:="__rmul__") (id:="tuple.__rmul__") F.slot_tuple_rmul.lookup Bd];rfl
theorem zbE(a:Int)(t:Tok)(l:Addr)(items:Array Value)(n:Nat)(d:Option Addr)(sl:Array (Option Value)) :
  Meets (Builtin.«int.__rmul__» ⟨[.int a t,.ref l],[]⟩) (λ_ R s=>s.heap.get? l=some {cls:=.type "tuple",dict:=d,data:=.seq items n,slots:=sl}/\R (.ok (.ret Value.notImplemented)) s):=
 .of_wp λprog w A R s h=>by obtain⟨hp,g,d,tk,os⟩:=s;obtain⟨hl,h⟩:=h;wp_walk;exact⟨_,rfl,h⟩
theorem zcB(l:Addr)(items:Array Value)(n:Nat)(d:Option Addr)(sl:Array (Option Value))(u:Tok) :
  Meets (Builtin.«tuple.__mul__» ⟨[.ref l,.int 1 u],[]⟩) (λ_ R s=>s.heap.get? l=some {cls:=.type "tuple",dict:=d,data:=.seq items n,slots:=sl}/\R (.ok (.ret (Value.ref l))) s):=
 .of_wp λprog w A R s h=>by
  obtain⟨hp,g,d,tk,os⟩:=s;obtain⟨hl,h⟩:=h
  wp_walk
  exact⟨_,rfl,h⟩
theorem zcs(l:Addr)(items:Array Value)(n:Nat)(d:Option Addr)(sl:Array (Option Value))(x:Int)(u:Tok)(h2:2<=x)(h3:x<=1000)(he:items.isEmpty=false)(hs:items.size<=1000) :
  Meets (Builtin.«tuple.__mul__» ⟨[.ref l,.int x u],[]⟩) (λ_ R s=>s.heap.get? l=some {cls:=.type "tuple",dict:=d,data:=.seq items n,slots:=sl}/\R (.ok (.ret (Value.ref s.heap.objs.size))) {s with heap:=s.heap.push {cls:=Value.type "tuple",data:=Data.seq (List.foldl (λx1 x2=>x1++x2) #[] (List.replicate x.toNat items))},toks:=s.toks}):=
 .of_wp λprog w A R s h=>by
  obtain⟨hp,g,d,tk,os⟩:=s;obtain⟨hl,h⟩:=h;have h1:(x==1)=false:=by simpa using show ¬x=1 by lia
  have hb:(decide (x < -(2^63))||decide (x>=2^63))=false:=by rw[cU gV,cU gV];rfl
  have hm:(items.size:Int)*x<=1000000:=Int.le_trans (Int.mul_le_mul (show (items.size:Int)<=1000 by lia) h3 gV gV) UJ;have Ep:(1000000:Int)<=(sizeLine:Int):=by decide
  have hz:(List.foldl (λx1 x2=>x1++x2) #[] (List.replicate x.toNat items)).size<=1000000:=by
   have:=Mi.fO items.toList x.toNat #[];simp only[Array.toArray_toList] at this;rw[this];simp only[Array.size_append,dh,Mi.mU,Ac];have:=Li (show x.toNat<=1000 by lia) hs;simp
   lia
  have QV:(1000000:Nat)<=sizeLine:=by decide
  have nt:∀{b:Bool},b=false->decide (b=true)=false:=λ{b} e=>by rw[e];rfl
  wp_walk
  refine Gs (nt hb) ?_
  wp_walk
  refine Gs (nt (b:=decide (x<=0)||items.isEmpty) (by rw[he,cU gV];rfl)) ?_
  wp_walk
  refine Gs (cU gV) ?_
  wp_walk
  refine Gs (nt (b:=Builtin.Tuple.tupleTooMany (items.size*x)) (cU gV)) ?_
  wp_walk
  refine Gs (cU gV) ?_
  wp_walk
  exact⟨_,rfl,h⟩
end PySem
namespace Mi
open PySem PySem.Spec PyProof.Rows L2 PySem.W
noncomputable def z_(K:W.Frag):R2:=λx y H Q=>∃l ys n,x=.ref l/\fL K H l ys/\y=.int n/\(1<=n/\n<=1000/\1<=ys.length/\ys.length<=1000)/\(n=1->Q (.ref l) H)/\∀p,H p=none->Q (.ref p) (upd H p (.tup (rep ys n.toNat)))
theorem zir{X:Cx}:cI X (binaryOp .Mult) (z_ X.K):=by
 intro ak s Z H x y v u Q I rx ry h;obtain⟨l,ys,n,rfl,hq,rfl,⟨h0,h1,Fy,hl⟩,q1,q⟩:=h;cases (show v=Value.ref l from rx);obtain⟨t,rfl⟩:=ry;obtain⟨its,rv,⟨o,e,hc,c,lE⟩,hz⟩:=I.tuple hq;obtain⟨ocls,odict,odata,oslots⟩:=o;simp only at hc lE;subst hc lE;have hlen:=rv.length;refine wpAny_binaryOp_repeat_ref (T:="tuple") («U»:="int") UJ ⟨_,e,rfl⟩ (λ_=>rfl) zbx F.fills_int_mul Lg zdg int_index ?_;refine yM Lg rfl F.entry_int_rmul (F.args_int_rmul_2 _ _) (zbE n t l its.toArray c odict oslots) ⟨e,rfl,⟨_,e,rfl⟩,?_⟩;by_cases hn:n=1
 ·subst hn;exact yM K_ ⟨_,e,rfl⟩ F.entry_tuple_mul (F.args_tuple_mul_2 _ _) (zcB l its.toArray c odict oslots t) ⟨e,⟨.ref l,H,I,rfl,q1 rfl⟩⟩
 ·have hne:its≠[]:=λz=>by rw[z] at hlen;have:ys.length=0:=hlen;lia
  refine yM K_ ⟨_,e,rfl⟩ F.entry_tuple_mul (F.args_tuple_mul_2 _ _) (zcs l its.toArray c odict oslots n t gV h1 (by simpa using hne) (by rw[dh,<-hlen];exact hl)) ⟨e,?_⟩;have hn:H s.heap.objs.size=none:=I.hok.fresh (bV _);have ea:(List.replicate n.toNat its.toArray).foldl (λx y=>x++y) #[]=(rep its n.toNat).toArray:=by
   rw[fO];simp
  refine⟨.ref s.heap.objs.size,_,I.laid (a:=s.heap.objs.size) (o:=.tup (rep ys n.toNat)) (t':=s.toks) (λb w q=>bU _ q) (bV _) ?_,rfl,q _ hn⟩;refine⟨?_,_,UL rv n.toNat,?_⟩
  ·rw[mU];have:=Li (show n.toNat<=1000 by lia) hl;have QV:(1000000:Nat)<=sizeLine:=by decide
   lia
  ·rw[ea];exact IsTup.new _ _
section
variable {K:W.Frag}{cA:Cl}{U:Ph}{H:Hp}
theorem zji:aR K cA .mult (r2 (z_ K)):=by
 intro U H ds vs Q zt rs o;have o:aZ K cA U H (zF ds) Q:=o;cases ds with
 |nil=>exact False.elim o
 |cons a t=>cases a with
  |tup xs=>cases t with
   |nil=>exact False.elim o
   |cons b t=>cases b with
    |int n=>cases t with
     |cons _ _=>exact False.elim o
     |nil=>
      obtain⟨v,v',rfl,r1,r2⟩:=rs.two (ds:=[]);rw[r2.int];obtain⟨a,us,rfl,ta,q⟩:=r1.tup;have hl:=q.len;have o:aZ K cA U H (if 1<=n/\n<=1000/\1<=xs.length/\xs.length<=1000 then some (.dat (.tup (rep xs n.toNat))) else none) Q:=o;by_cases hk:1<=n/\n<=1000/\1<=xs.length/\xs.length<=1000
      ·rw[if_pos hk] at o;refine⟨_,_,rfl,a,us,n,rfl,ta.jm,rfl,⟨hk.1,hk.2.1,by lia,by lia⟩,λe=>?_,λp hp=>o.tup zt (UW q _) hp⟩;subst e;have e1:rep xs (1:Int).toNat=xs:=by show rep xs (0+1)=xs;rw[Kr];simp[rep]
       rw[e1] at o;exact o.here (.tup ta q)
      ·rw[if_neg hk] at o;exact o.elim
    |_=>exact False.elim o
  |_=>exact False.elim o
end
theorem U8{X:Cx}{cA:Cl}:JQ X cA .Mult .mult:=⟨_,zir,zji⟩
end Mi
namespace Mi
open PySem Ts
theorem W.t_{ao:Nat->Nat->Bool}{aj:Bool}{F:Fn}{J:Vs}{s:S}{P:Xv->S->Prop}{p q r:Pr}{a b c d:E}(h:W (ev ao aj F a J) s λx s1=>W (ev ao aj F b J) s1 λy s2=>W (dW [x,y]) s2 λds s3=>W (bJ true (prim p ds)) s3 λt s4=>W (Mi.bool t) s4 λk s5=>
  W (if k=true then M.bd (ev ao aj F c J) λz=>M.bd (dW [y,z]) λds=>M.bd (bJ true (prim q ds)) λt=>M.bd (Mi.bool t) λk2=>if k2=true then M.bd (ev ao aj F d J) λw=>M.bd (dW [z,w]) λds=>bJ true (prim r ds) else M.ret (.d (.bl false)) else M.ret (.d (.bl false))) s5 P):W (ev ao aj F (.t_ p q r a b c d) J) s P:=
 W.bd (h.imp λ_ _ h=>W.bd (h.imp λ_ _ h=>W.bd (h.imp λ_ _ h=>W.bd (h.imp λ_ _ h=>W.bd h))))
noncomputable def mV(n:Int):D->Bool
 |.tup xs=>decide ((xs.length:Int)=n)
 |_=>false
noncomputable def kW(a b:Int):D->Bool
 |.int i=>decide (a<=i/\i<=b)
 |_=>false
noncomputable def cX(n:Int):D->Bool
 |.tup [.int a,.int b]=>decide (0<=a/\a<b/\b<n)
 |_=>false
theorem U9{xs:List D}(h:xs.length≠2):mV 2 (.tup xs)=false:=cU (p:=((xs.length:Int)=2)) gV
theorem FN{xs:List D}(h:xs.length=2):∃x y,xs=[x,y]:=by
 match xs,h with
 |[x,y],_=>exact⟨x,y,rfl⟩
theorem zd6{n:Int}{xs:List D}(h:xs.length≠2):cX n (.tup xs)=false:=by
 unfold cX
 split
 ·rename_i e;cases e;exact absurd rfl h
 ·rfl
noncomputable def fW:List D->List (Int×Int)
 |.tup [.int a,.int b]::r=>(a,b)::fW r
 |_::r=>fW r
 |[]=>[]
theorem U_{n:Int}:∀{ys:List D},ys.all (cX n)=true->ys=(fW ys).map cZ/\∀p∈fW ys,0<=p.1/\p.1<p.2/\p.2<n
 |[],_=>⟨rfl,λp hp=>by cases hp⟩
 |y::ys,h=>by
  rw[jG,cG] at h;obtain⟨e,q⟩:=U_ h.2;have h1:=h.1;unfold cX at h1;split at h1
  ·rename_i a b;have:=lO h1;refine⟨?_,λp hp=>?_⟩
   ·show _::ys=cZ (a,b)::(fW ys).map cZ;rw[<-e];rfl
   ·rcases cH.mp (show p∈(a,b)::fW ys from hp) with rfl|hp
    ·exact this
    ·exact q p hp
  ·cases h1
theorem zel:∀ps:List (Int×Int),fW (ps.map cZ)=ps
 |[]=>rfl
 |p::ps=>by
  show (p.1,p.2)::fW (ps.map cZ)=_;rw[zel ps]
theorem zhs{n:Int}{ps:List (Int×Int)}(h:∀p∈ps,0<=p.1/\p.1<p.2/\p.2<n):(ps.map cZ).all (cX n)=true:=by
 rw[Eh,fX];intro p hp;exact dR (h p hp)
noncomputable def iK(ps:List (Int×Int)):Bool:=(ps.zip (ps.drop 1)).all λe=>g_ e.1 e.2
theorem mW:∀{ps:List (Int×Int)},iK ps=true↔ps.Pairwise λa b=>g_ a b=true
 |[]=>by simp[iK]
 |[p]=>by simp[iK]
 |p::q::r=>by
  have ih:=mW (ps:=q::r);have e:iK (p::q::r)=(g_ p q&&iK (q::r)):=rfl;rw[e,cG,ih,Ae (a:=p)]
  constructor
  ·rintro⟨h1,h2⟩;refine⟨λx hx=>?_,h2⟩;rcases cH.mp hx with rfl|hx
   ·exact h1
   ·have:=(Ae.mp h2).1 x hx;rw[j_] at *
    lia
  ·rintro⟨h1,h2⟩;exact⟨h1 q dO,h2⟩
theorem zkr{ps:List (Int×Int)}(h:∀p∈ps,gC p):iK ps=decide (ps=ss ps):=by
 by_cases e:ps=ss ps
 ·rw[dR e,mW,e];exact Nk
 ·rw[cU e];cases ha:iK ps
  ·rfl
  ·exact absurd (Nj (mW.mp ha) Nk λx=>(zhY h).symm) e
theorem zmS{ps:List (Int×Int)}(h:ps.Pairwise λa b=>g_ a b=true):ps.Pairwise lx:=h.imp λ{a b} e=>j_.mp e
theorem zmn{ps:List (Int×Int)}(h:ps.Pairwise lx):ps.Pairwise λa b=>g_ a b=true:=h.imp λ{a b} e=>j_.mpr e
noncomputable def nU:D->Bool
 |.tup [.int n,.tup ys]=>decide (1<=n/\n<=8)&&ys.all (cX n)&&iK (fW ys)
 |_=>false
theorem zfP{xs:List D}(h:xs.length≠2):nU (.tup xs)=false:=by
 unfold nU
 split
 ·rename_i e;cases e;exact absurd rfl h
 ·rfl
theorem Va{n:Int}{ps:List (Int×Int)}(h:Web n ps):nU (dM n ps)=true:=by
 show (decide (1<=n/\n<=8)&&(ps.map cZ).all (cX n)&&iK (fW (ps.map cZ)))=true;rw[zel,dR (And.intro h.h1 h.h8),zhs h.tie,mW.mpr (zmn h.inc)];rfl
noncomputable def Ds:D->Bool
 |.tup ys=>ys.all eG
 |d=>jr d
noncomputable def Dt:D->Bool
 |.tup xs=>xs.all Ds
 |d=>jr d
def Vb(d:D):Prop:=∀x ys,d=.tup [x,.tup ys]->ys.length<=200
theorem zlb{ps qs:List (Int×Int)}:List.zipWith (λ(p q:D)=>D.tup [p,q]) (ps.map cZ) (qs.map cZ)=(ps.zip qs).map λe=>.tup [cZ e.1,cZ e.2]:=by
 induction ps generalizing qs with
 |nil=>rfl
 |cons p ps ih=>
  cases qs with
  |nil=>rfl
  |cons q qs=>
   show _::List.zipWith (λ(p q:D)=>D.tup [p,q]) (ps.map cZ) (qs.map cZ)=_::_;rw[ih];rfl
theorem Ks{d:D}(h:eG d=true):jr d=true:=by cases d<;>first|rfl|cases h
theorem zj8{d:D}(h:Ds d=true):jr d=true:=by cases d<;>first|rfl|cases h
theorem ziv{p q:Int×Int}:ltI [p.1,p.2] [q.1,q.2]=g_ p q:=by
 simp only[ltI];unfold g_;by_cases h:p.1=q.1
 ·rw[if_pos h];by_cases h2:p.2=q.2
  ·rw[if_pos h2]
   symm
   apply cU
   lia
  ·rw[if_neg h2,wz]
   lia
 ·rw[if_neg h,wz]
  lia
theorem zdm:∀{ps:List (Int×Int)},(∀p∈ps,gC p)->jX (ps.map cZ)=some ps
 |[],_=>rfl
 |p::ps,h=>by
  have h1:xK (cZ p)=some p:=by
   show (if 0<=p.1/\p.1<p.2/\p.2<8 then some (p.1,p.2) else none)=_;rw[if_pos (show 0<=p.1/\p.1<p.2/\p.2<8 from h p dO)]
  simp only[kh,jX,h1,zdm λq hq=>h q (dN _ hq)]
theorem zn4{ps:List (Int×Int)}(h:∀p∈ps,gC p):prim .dU [.tup (ps.map cZ)]=some (.nw ((ss ps).map cZ)):=by
 show Option.map _ (jX (ps.map cZ))=_;rw[zdm h];rfl
theorem zeu{k:Nat}:∀(ps qs:List (Int×Int)),gq (dD (k+1)) (ps.map cZ) (qs.map cZ)=some (decide (ps=qs))
 |[],[]=>rfl
 |[],q::qs=>rfl
 |p::ps,[]=>rfl
 |p::ps,q::qs=>by
  simp only[kh,gq,zeu ps qs,zkk];rw[<-Bool.decide_and]
  congr 1
  rw[wz,List.cons_eq_cons]
end Mi
namespace Mi
open PySem
theorem Nr{xs:List D}{r:Nat}(hr:r<xs.length):∃x,prim .ix [.fl xs,.int r]=some (.dat x)/\x∈xs:=⟨xs[r],CV (fH hr),qK _⟩
theorem zmq{i:Int}(h0 : -1000<=i)(h:i<=2000):prim .str1 [.int i]=some (.dat (.str (Str.ofString (toString i)))):=by
 show (if i.natAbs<2^62 then _ else none)=_;rw[if_pos (Nat.lt_of_le_of_lt (show i.natAbs<=2000 by lia) UJ)]
def nW(d:D):Prop:=Ds d=true/\∀ys,d=.tup ys->ys.length<=200
def qH(d:D):Prop:=Dt d=true/\Vb d
theorem sH{xs:List D}(h:∀x∈xs,eG x=true)(hl:xs.length<=200):nW (.tup xs):=⟨fX.mpr h,λys e=>by cases e;exact hl⟩
theorem v7{i:Int}:nW (.int i):=⟨rfl,λys e=>by cases e⟩
theorem zfo{ps:List (Int×Int)}:∀x∈ps.map cZ,eG x=true:=λx hx=>by obtain⟨p,_,rfl⟩:=gG.mp hx;rfl
theorem zkj{ps:List (Int×Int)}(hl:ps.length<=200):nW (.tup (ps.map cZ)):=sH zfo (by rw[bZ];exact hl)
theorem Nt{xs:List D}(h:∀x∈xs,nW x):qH (.tup xs):=⟨fX.mpr λx hx=>(h x hx).1,λx ys e=>by
 cases e;exact(h (.tup ys) Zaa).2 ys rfl⟩
theorem v8{x y:D}(hx:nW x)(hy:nW y):qH (.tup [x,y]):=Nt λz hz=>by
 simp only[cH,mZ,lR] at hz;rcases hz with rfl|rfl
 ·exact hx
 ·exact hy
theorem zlp{n:Int}{ps:List (Int×Int)}(hl:ps.length<=200):qH (dM n ps):=v8 v7 (zkj hl)
theorem Vc{P:D->Prop}{a b c:List D}(ha:∀x∈a,P x)(hb:∀x∈b,P x)(hc:∀x∈c,P x):∀x∈a++b++c,P x:=λx hx=>by
 rcases gK.mp hx with hx|hx
 ·rcases gK.mp hx with hx|hx
  ·exact ha x hx
  ·exact hb x hx
 ·exact hc x hx
theorem Vd{P:D->Prop}{a b:List D}(ha:∀x∈a,P x)(hb:∀x∈b,P x):∀x∈a++b,P x:=λx hx=>by
 rcases gK.mp hx with hx|hx
 ·exact ha x hx
 ·exact hb x hx
end Mi
namespace Mi
open PySem PySem.W L2
theorem Ku{a b:Int×Int}:nM [.int a.1,.int a.2] [.int b.1,.int b.2]=some (g_ a b):=by
 unfold g_;simp only[nM];by_cases h1:a.1=b.1
 ·rw[if_pos h1];by_cases h2:a.2=b.2
  ·rw[if_pos h2]
   congr 1
   simp only[rK,m5,decide_false]
   symm
   rw[KJ]
   lia
  ·rw[if_neg h2]
   congr 1
   rw[wz]
   lia
 ·rw[if_neg h1]
  congr 1
  rw[wz]
  lia
theorem zjh{us:List (Int×Int)}:zA (us.map cZ)=zZ us:=by
 funext i j
 unfold zA zZ;rw[ju,ju];cases us[i]? with
 |none=>rfl
 |some a=>
  cases us[j]? with
  |none=>rfl
  |some b=>exact Ku
theorem ziA{ps:List (Int×Int)}(hl:ps.length<64)(nd:ps.Nodup):∃qs:List (Int×Int),BJ (ps.map cZ)=some (qs.map cZ)/\qs.Pairwise lx/\(∀x,x∈qs↔x∈ps)/\qs.length=ps.length:=by
 have hk:((ps.map cZ).all jW||(ps.map cZ).all iD)=true:=by
  rw[Bool.or_eq_true]
  right
  rw[Eh,fX];intro p _;rfl
 unfold BJ;rw[if_pos hk];unfold ql;rw[bZ,zjh];by_cases h2:ps.length<2
 ·rw[if_pos h2];refine⟨ps,rfl,?_,λ_=>Iff.rfl,rfl⟩;cases ps with
  |nil=>exact .nil
  |cons x t=>
   cases t with
   |nil=>exact List.pairwise_singleton ..
   |cons y t=>exact absurd h2 Zaa
 ·rw[if_neg h2,if_pos hl];obtain⟨p,e,e1,e2,e3,e4⟩:=zcY (us:=ps) gV nd;rw[e];dsimp only;rw[if_pos e1];refine⟨p.toList.map λi=>ps.getD i (0,1),?_,zmS e4,e3,by rw[bZ,Ac,e1]⟩;rw[lQ]
  congr 1
  refine Gj λi hi=>?_;have:=e2 i hi;simp[kY,this]
noncomputable def rD:D->Bool
 |.tup [.int k,.int d]=>decide (1<=k/\k<=24)&&decide (1<=d/\d<=k)
 |_=>false
theorem zfX{xs:List D}(h:xs.length≠2):rD (.tup xs)=false:=by
 unfold rD
 split
 ·rename_i e;cases e;exact absurd rfl h
 ·rfl
theorem zdt{k d:Int}(h:1<=d/\d<=k/\k<=24):rD (bC k d)=true:=by
 show (decide (1<=k/\k<=24)&&decide (1<=d/\d<=k))=true;rw[dR gV,dR gV];rfl
noncomputable def rE(n k:Int):D->Bool
 |.tup xs=>decide ((xs.length:Int)=n)&&xs.all (kW 0 (k-1))
 |_=>false
theorem zfQ{a b:Int}:∀{xs:List D},xs.all (kW a b)=true->∃is:List Int,xs=is.map .int/\∀i∈is,a<=i/\i<=b
 |[],_=>⟨[],rfl,by simp⟩
 |d::r,h=>by
  rw[jG,cG] at h;obtain⟨is,rfl,hi⟩:=zfQ h.2;cases d with
  |int i=>exact⟨i::is,rfl,by
    intro j hj;rcases cH.mp hj with rfl|hj
    ·exact lO h.1
    ·exact hi j hj⟩
  |_=>exact absurd h.1 (by simp[kW])
theorem zhJ{n k:Int}{d:D}(h:rE n k d=true):∃hs:List Int,d=.tup (hs.map .int)/\(hs.length:Int)=n/\∀x∈hs,0<=x/\x<k:=by
 cases d with
 |tup xs=>
  rw[show rE n k (.tup xs)=(decide ((xs.length:Int)=n)&&xs.all (kW 0 (k-1))) from rfl,cG] at h;obtain⟨is,rfl,hi⟩:=zfQ h.2;have:=lO h.1;rw[bZ] at this;exact⟨is,rfl,this,λx hx=>by have:=hi x hx;lia⟩
 |_=>cases h
theorem zg7{n k:Int}{hs:List Int}(hl:(hs.length:Int)=n)(h:∀x∈hs,0<=x/\x<k):rE n k (.tup (hs.map .int))=true:=by
 rw[show rE n k (.tup (hs.map D.int))=(decide (((hs.map D.int).length:Int)=n)&&(hs.map D.int).all (kW 0 (k-1))) from rfl,bZ,dR hl,Bool.true_and,Eh,fX];intro x hx;have:=h x hx;exact dR gV
noncomputable def v9(k d:Int)(ps:List (Int×Int))(hs:List Int):List (Int×Int):=ps.filter λp=>decide (pN k (at' hs p.1) (at' hs p.2)<d)
noncomputable def Nu(k d:Int)(ps:List (Int×Int))(hs:List Int):D:=match v9 k d ps hs with
 |[]=>.non
 |p::_=>cZ p
theorem u_{k d:Int}{ps:List (Int×Int)}{hs:List Int}:v9 k d ps hs=[]↔nR k d ps hs=true:=by
 unfold v9;rw[List.filter_eq_nil_iff,zhz]
 constructor
 ·intro h p hp;have:=h p hp;simp at this
  lia
 ·intro h p hp;have:=h p hp;simp
  lia
end Mi
namespace Mi
open PySem
theorem W.c0{F:List Xv->M Xv}{xs:List Xv}{s:S}{e:D}{P:Xv->S->Prop}(h:W (F (dz 0 xs)) [] λv _=>v=.d e)(k:P (.d e) s)(hl:locs xs=[]:=by rfl):W (cC F xs) s P:=W.aY hl (h.imp λ_ _ q=>⟨_,q,k⟩)
theorem W.c1{F:List Xv->M Xv}{xs:List Xv}{s:S}{P:Xv->S->Prop}(h:W (F (dz 0 xs)) [] λv _=>∃d,v=.d d)(k:∀d,P (.d d) s)(hl:locs xs=[]:=by rfl):W (cC F xs) s P:=W.aY hl (h.imp λ_ _ ⟨d,q⟩=>⟨d,q,k d⟩)
noncomputable def FP(n k d:Int)(ps:List (Int×Int))(x:D):Bool:=rE n k x&&(match x with
 |.tup xs=>(match eZ xs with
  |some hs=>nR k d ps hs
  |none=>false)
 |_=>false)
theorem zlx{n k d:Int}{ps:List (Int×Int)}{x:D}(h:rE n k x=false):FP n k d ps x=false:=by
 unfold FP;rw[h];rfl
theorem zjX{n k d:Int}{ps:List (Int×Int)}{hs:List Int}(hl:(hs.length:Int)=n)(h:∀x∈hs,0<=x/\x<k):FP n k d ps (.tup (hs.map .int))=nR k d ps hs:=by
 unfold FP;rw[zg7 hl h,Bool.true_and];show (match eZ (hs.map D.int) with|some hs=>nR k d ps hs|none=>false)=_;rw[ze6]
noncomputable def FQ(k:Int)(t:D):Bool:=t.nJ||kW 0 (k-1) t
noncomputable def FT(n k:Int):D->Bool
 |.tup xs=>decide ((xs.length:Int)=n)&&xs.all (FQ k)
 |_=>false
abbrev WE(m:MS)(s:S)(c:Nat)(fs:List D):Prop:=WS m s λo _=>∃J,o=.er c fs J
section
variable {ao:Nat->Nat->Bool}{aj:Bool}{F:Bool->Fn}{J:Vs}{s:S}{c:Nat}{fs:List D}{e:E}{t u r:bH}
theorem WE.head{a:St}(h:WE (ex ao aj F a J) s c fs):WE (exs ao aj F (.cons a r) J) s c fs:=sE (h.imp λ_ _ ⟨J,e⟩=>⟨⟨_,_,_,e⟩,_,e⟩)
theorem WE.ex(h:WR (ev ao aj (F aj) e J) s c fs):WE (exs ao aj F (.cons (.ex e) r) J) s c fs:=WE.head (M5 h λ_=>⟨_,rfl⟩)
theorem Ka0(h:WR (ev ao aj (F aj) e J) s c fs):WE (exs ao aj F (.cons (.iff e t u) r) J) s c fs:=WE.head (Ka8 (Tw h) λ_=>⟨_,rfl⟩)
end
abbrev WF(m:MS)(s:S)(c:Nat)(fs:List D)(J:Vs):Prop:=WS m s λo _=>o=.er c fs J
section
variable {ao:Nat->Nat->Bool}{aj:Bool}{F:Bool->Fn}{J J0:Vs}{s:S}{c:Nat}{fs:List D}{e:E}{t u r:bH}
theorem WF.head{a:St}(h:WF (Mi.ex ao aj F a J) s c fs J0):WF (exs ao aj F (.cons a r) J) s c fs J0:=sE (h.imp λ_ _ e=>⟨⟨_,_,_,e⟩,e⟩)
theorem WF.yes(h:fu ao e J=some (.d (.bl true)))(k:WF (exs ao aj F t J) s c fs J0):WF (exs ao aj F (.cons (.iff e t u) r) J) s c fs J0:=WF.head (M4 (W.pv h (W.bool (WS.rA k))))
theorem WF.no(h:fu ao e J=some (.d (.bl false)))(k:WF (exs ao aj F u J) s c fs J0):WF (exs ao aj F (.cons (.iff e t u) r) J) s c fs J0:=WF.head (M4 (W.pv h (W.bool (WS.MP k))))
theorem WF.ex(h:WR (ev ao aj (F aj) e J) s c fs):WF (exs ao aj F (.cons (.ex e) r) J) s c fs J:=WF.head (M5 h λ_=>rfl)
end
end Mi
namespace eO
open PySem Mi
noncomputable def b0:bH:=(.cons (.ret (.and (.fZ (.v 0) .int) (.not (.fZ (.v 0) .bool)))) .nil)
noncomputable def b1:bH:=(.cons (.ret (.and (.call 0 (Ea (.v 0))) (.rT .le .le (.v 1) (.v 0) (.v 2)))) .nil)
noncomputable def b2:bH:=(.cons (.ret (.and (.fZ (.v 0) .tuple) (.pr true .eq (Eb (.pr true .len (Ea (.v 0))) (.v 1))))) .nil)
noncomputable def b3:bH:=(.cons (.iff (.not (.call 2 (Eb (.v 0) (Ci 2)))) (.cons (.ret (.c (.bl false))) .nil) .nil) (.cons (.asg (.tp [1,2]) (.v 0)) (.cons (.iff (.or (.not (.call 4 (Ea (.v 1)))) (.not (.fZ (.v 2) .tuple))) (.cons (.ret (.c (.bl false))) .nil) .nil) (.cons (.iff (.not (.pr true .all (Ea (.comp true (.call 6 (Eb (.v 1) (.v 0))) [0] (.seq (.v 2)) [1] 1 .no)))) (.cons (.ret (.c (.bl false))) .nil) .nil) (.cons (.ret (.pr true .all (Ea (.comp true (.pr true .lt (Eb (.v 0) (.v 1))) [0,1] (.zip (.v 2) (.sl true (.v 2) (.yes (Ci 1)) .no)) [] 2 .no)))) .nil)))))
noncomputable def b4:bH:=(.cons (.ret (.call 1 (Ec (.v 0) (Ci 1) (Ci 8)))) .nil)
noncomputable def b5:bH:=(.cons (.ret (.call 1 (Ec (.v 1) (Ci 0) (.pr true .ao (Eb (.v 0) (Ci 1)))))) .nil)
noncomputable def b6:bH:=(.cons (.iff (.not (.call 2 (Eb (.v 1) (Ci 2)))) (.cons (.ret (.c (.bl false))) .nil) .nil) (.cons (.asg (.tp [2,3]) (.v 1)) (.cons (.ret (.and (.call 5 (Eb (.v 0) (.v 2))) (.and (.call 5 (Eb (.v 0) (.v 3))) (.pr true .lt (Eb (.v 2) (.v 3)))))) .nil)))
noncomputable def b7:bH:=(.cons (.iff (.not (.call 3 (Ea (.v 0)))) (.cons (.rise 9 true (Ea (.pr true .neg (Ea (Ci 1))))) .nil) .nil) .nil)
noncomputable def b8:bH:=.nil
noncomputable def b9:bH:=.nil
noncomputable def b10:bH:=.nil
noncomputable def b11:bH:=.nil
noncomputable def b12:bH:=.nil
noncomputable def b13:bH:=.nil
noncomputable def b14:bH:=.nil
noncomputable def b15:bH:=.nil
noncomputable def b16:bH:=.nil
noncomputable def b17:bH:=.nil
noncomputable def Ve:bH:=(.cons (.iff (.not (.call 2 (Eb (.v 0) (Ci 2)))) (.cons (.ret (.c (.bl false))) .nil) .nil) (.cons (.asg (.tp [1,2]) (.v 0)) (.cons (.ret (.and (.call 1 (Ec (.v 1) (Ci 1) (Ci 24))) (.call 1 (Ec (.v 2) (Ci 1) (.v 1))))) .nil)))
noncomputable def Nv:bH:=(.cons (.ret (.call 1 (Ec (.v 1) (Ci 0) (.pr true .ao (Eb (Ei (.v 0) (Ci 0)) (Ci 1)))))) .nil)
noncomputable def Ny:bH:=(.cons (.iff (.not (.call 18 (Ea (.v 0)))) (.cons (.rise 1 false (Ea (.c (.str "no ring")))) .nil) .nil) .nil)
noncomputable def b21:bH:=(.cons (.asg (.nm 3) (.pr true .abs (Ea (.pr true .ao (Eb (.v 1) (.v 2)))))) (.cons (.ret (.pr true .min2 (Eb (.v 3) (.pr true .ao (Eb (Ei (.v 0) (Ci 0)) (.v 3)))))) .nil))
noncomputable def Vf:bH:=(.cons (.ret (.and (.call 2 (Eb (.v 2) (Ei (.v 0) (Ci 0)))) (.pr true .all (Ea (.comp true (.call 19 (Eb (.v 1) (.v 0))) [0] (.seq (.v 2)) [1] 1 .no))))) .nil)
noncomputable def Vg:bH:=(.cons (.ret (.and (.call 22 (Ec (.v 0) (.v 1) (.v 2))) (.pr true .EY (Ea (.call 25 (Ec (.v 0) (.v 1) (.v 2))))))) .nil)
noncomputable def Kv:bH:=(.cons (.ex (.call 7 (Ea (.v 0)))) (.cons (.ex (.call 20 (Ea (.v 1)))) (.cons (.iff (.not (.call 23 (Ec (.v 0) (.v 1) (.v 2)))) (.cons (.rise 2 false (Ea (.c (.str "no hues of the web on the ring")))) .nil) .nil) .nil)))
noncomputable def Vh:bH:=(.cons (.fr (.tp [3,4]) (.seq (Ei (.v 0) (Ci 1))) (.cons (.iff (.pr true .lt (Eb (.call 21 (Ec (.v 1) (Ei (.v 2) (.v 3)) (Ei (.v 2) (.v 4)))) (Ei (.v 1) (Ci 1)))) (.cons (.ret (.tup (Eb (.v 3) (.v 4)))) .nil) .nil) .nil)) (.cons (.ret (.c .non)) .nil))
noncomputable def Vi:bH:=(.cons (.ex (.call 7 (Ea (.v 0)))) (.cons (.ex (.call 20 (Ea (.v 1)))) (.cons .no (.cons .no .nil))))
noncomputable def Vj:bH:=(.cons (.ex (.call 24 (Ec (.v 0) (.v 1) (.v 2)))) (.cons .no (.cons .no (.cons .no .nil))))
noncomputable def Vk:bH:=(.cons (.ex (.call 30 (Ec (.v 0) (.v 1) (.v 2)))) (.cons .no (.cons .no .nil)))
noncomputable def Vl:bH:=(.cons (.ret (.and (.call 2 (Eb (.v 2) (Ei (.v 0) (Ci 0)))) (.pr true .all (Ea (.comp true (.or (.pr true .EY (Ea (.v 0))) (.call 19 (Eb (.v 1) (.v 0)))) [0] (.seq (.v 2)) [1] 1 .no))))) .nil)
noncomputable def Vm:bH:=(.cons (.ex (.call 7 (Ea (.v 0)))) (.cons (.ex (.call 20 (Ea (.v 1)))) (.cons (.iff (.not (.call 29 (Ec (.v 0) (.v 1) (.v 2)))) (.cons (.rise 2 false (Ea (.c (.str "no known spots of the web on the ring")))) .nil) .nil) .nil)))
noncomputable def b31:bH:=.nil
noncomputable def b32:bH:=.nil
noncomputable def b33:bH:=.nil
noncomputable def b34:bH:=.nil
noncomputable def Vn:bH:=(.cons (.ex (.call 30 (Ec (.v 0) (.v 1) (.v 2)))) (.cons .no .nil))
noncomputable def Vo:bH:=(.cons (.iff (.pr true .Ir (Ea (.call 28 (Ec (.v 0) (.v 1) (.v 2))))) (.cons (.ret (.c .non)) .nil) .nil) (.cons .no (.cons .no (.cons .no (.cons .no .nil)))))
noncomputable def b37:bH:=.nil
noncomputable def b38:bH:=.nil
noncomputable def b39:bH:=.nil
noncomputable def b40:bH:=.nil
noncomputable def b41:bH:=.nil
noncomputable def Vp:bH:=(.cons (.iff (.pr true .lt (Eb (.v 1) (.pr true .len (Ea (.v 0))))) (.cons (.ret (Ei (.v 0) (.v 1))) .nil) .nil) (.cons (.ret (Ci 0)) .nil))
noncomputable def Vq:bH:=(.cons (.asg (.nm 1) (.pr true .max2 (Eb (.v 0) (.pr true .ao (Eb (Ci 0) (.v 0)))))) (.cons (.ret (.lst false (Eb (.v 1) (.pr true .xJ (Ea (.pr true .ge (Eb (.v 1) (.pr true .pow (Eb (Ci 10) (Ci 18)))))))))) .nil))
noncomputable def Vr:bH:=(.cons (.iff (.pr true .eq (Eb (Ei (.v 0) (Ci 1)) (Ci 1))) (.cons (.asg (.tp [2,3]) (.pr true .divmod (Eb (Ei (.v 0) (Ci 0)) (.v 1)))) (.cons (.asg (.ao (.v 0) (Ci 0)) (.v 2)) (.cons (.ret (.v 3)) .nil))) .nil) (.cons (.asg (.nm 4) (.pr true .mod (Eb (.pr true .mul (Eb (.pr true .add (Eb (.pr true .mod (Eb (Ei (.v 0) (Ci 0)) (Ci 2147483647))) (Ci 40503))) (Ci 69621))) (Ci 2147483629)))) (.cons (.asg (.nm 4) (.pr true .mod (Eb (.pr true .add (Eb (.pr true .mul (Eb (.v 4) (.v 4))) (Ci 7817))) (Ci 2147483587)))) (.cons (.asg (.ao (.v 0) (Ci 0)) (.pr true .mod (Eb (.pr true .add (Eb (.pr true .mul (Eb (.v 4) (Ci 48271))) (Ci 11))) (Ci 2147483629)))) (.cons (.ret (.pr true .mod (Eb (.pr true .fdiv (Eb (Ei (.v 0) (Ci 0)) (Ci 32))) (.v 1)))) .nil)))))
noncomputable def b45:bH:=(.cons (.ret (.and (.fZ (.v 0) .int) (.not (.fZ (.v 0) .bool)))) .nil)
noncomputable def Vt:bH:=(.cons (.asg (.nm 1) (.lst true (.cons (.c .non) (.cons (.c (.bl true)) (.cons (.c (.bl false)) (.cons (.pr true .neg (Ea (Ci 1))) (.cons (.c (.str "1")) (.cons (.c (.str "")) (.cons (.tup .nil) (.cons (.lst true .nil) (.cons (.tup (Ea (Ci 0))) (.cons (.lst true (Ea (Ci 0))) (.cons (.uc "a" 1) (.cons (.tup (Eb (Ci 0) (Ci 1))) (Ec (.pr true .pow (Eb (Ci 10) (Ci 30))) (.tup (Eb (Ci 0) (.tup .nil))) (.tup (Ea (.c (.str "ab"))))))))))))))))))) (.cons (.ret (Ei (.pr true .add (Eb (.v 1) (.lst true (Ea (.tup (Eb (Ci 1) (.tup (Ea (.tup (Eb (Ci 0) (Ci 0))))))))))) (.call 44 (Eb (.v 0) (Ci 16))))) .nil))
noncomputable def b47:bH:=(.cons (.asg (.nm 1) (.lst true (.cons (.fZ (.v 0) (.cls 1)) (Ec (.fZ (.v 0) (.cls 2)) (.fZ (.v 0) (.cls 3)) (.fZ (.v 0) (.cls 4)))))) (.cons (.asg (.nm 1) (.pr true .add (Eb (.v 1) (.lst true (.cons (.fZ (.v 0) (.cls 5)) (Ec (.fZ (.v 0) (.cls 6)) (.fZ (.v 0) (.cls 7)) (.fZ (.v 0) (.cls 8)))))))) (.cons (.asg (.nm 1) (.pr true .add (Eb (.v 1) (.lst true (Ec (.fZ (.v 0) (.cls 9)) (.fZ (.v 0) (.cls 10)) (.fZ (.v 0) (.cls 11))))))) (.cons (.iff (.or (.not (.fZ (.v 0) .oZ)) (.pr true .ne (Eb (.meth true .count .list (.v 1) (Ea (.c (.bl true)))) (Ci 1)))) (.cons (.ret (.c (.str "other"))) .nil) .nil) (.cons (.asg (.nm 2) (.lst true (.cons (.c (.str "ring")) (.cons (.c (.str "hues")) (.cons (.c (.str "place")) (.cons (.c (.str "arrows")) (.cons (.c (.str "map")) (.cons (.c (.str "paper")) (.cons (.c (.str "apart")) (.cons (.c (.str "row")) (Ec (.c (.str "web")) (.c (.str "text")) (.c (.str "great"))))))))))))) (.cons (.ret (Ei (.v 2) (.meth true .index .list (.v 1) (Ea (.c (.bl true)))))) .nil))))))
noncomputable def Vu:bH:=(.cons (.ret (Ei (.lst true (.cons (Ci 1) (.cons (Ci 2) (.cons (Ci 3) (.cons (Ci 4) (.cons (Ci 5) (.cons (Ci 6) (.cons (Ci 4) (.cons (Ci 5) (.cons (Ci 3) (Ec (Ci 6) (Ci 7) (Ci 8)))))))))))) (.call 44 (Eb (.v 0) (Ci 12))))) .nil)
noncomputable def Vv:bH:=(.cons (.asg (.nm 2) (Ei (.lst true (Ec (Ci 2) (Ci 4) (Ci 6))) (.call 44 (Eb (.v 0) (Ci 3))))) (.cons (.asg (.nm 3) (.lst true .nil)) (.cons (.fr (.nm 4) (.rg (Ci 0) (.v 1)) (.cons (.asg (.nm 3) (.pr true .add (Eb (.v 3) (.comp true (.tup (Eb (.v 1) (.v 0))) [0] (.rg (.pr true .add (Eb (.v 4) (Ci 1))) (.v 1)) [4,0,2] 1 (.yes (.pr true .lt (Eb (.call 44 (Eb (.v 2) (Ci 8))) (.v 3)))))))) .nil)) (.cons (.ret (.tup (Eb (.v 1) (.pr true .tuple (Ea (.pr true .sorted (Ea (.comp true (.tup (Eb (.pr true .ao (Eb (.pr true .ao (Eb (.v 2) (Ci 1))) (.v 1))) (.pr true .ao (Eb (.pr true .ao (Eb (.v 2) (Ci 1))) (.v 0))))) [0,1] (.seq (.v 3)) [1] 2 .no)))))))) .nil))))
noncomputable def Vw:bH:=(.cons (.iff (.or (.not (.fZ (.v 0) .tuple)) (.or (.pr true .ne (Eb (.pr true .len (Ea (.v 0))) (Ci 2))) (.or (.not (.call 45 (Ea (Ei (.v 0) (Ci 0))))) (.not (.rT .le .le (Ci 1) (Ei (.v 0) (Ci 0)) (Ci 8)))))) (.cons (.ret (.c (.bl false))) .nil) .nil) (.cons (.iff (.not (.fZ (Ei (.v 0) (Ci 1)) .tuple)) (.cons (.ret (.c (.bl false))) .nil) .nil) (.cons (.fr (.nm 1) (.seq (Ei (.v 0) (Ci 1))) (.cons (.iff (.or (.not (.fZ (.v 1) .tuple)) (.or (.pr true .ne (Eb (.pr true .len (Ea (.v 1))) (Ci 2))) (.not (.pr true .all (Ea (.comp true (.call 45 (Ea (.v 0))) [0] (.seq (.v 1)) [] 1 .no)))))) (.cons (.ret (.c (.bl false))) .nil) .nil) (.cons (.iff (.not (.t_ .le .lt .lt (Ci 0) (Ei (.v 1) (Ci 0)) (Ei (.v 1) (Ci 1)) (Ei (.v 0) (Ci 0)))) (.cons (.ret (.c (.bl false))) .nil) .nil) .nil))) (.cons (.ret (.pr true .eq (Eb (.pr true .list (Ea (Ei (.v 0) (Ci 1)))) (.pr true .dU (Ea (Ei (.v 0) (Ci 1))))))) .nil))))
noncomputable def Vx:bH:=(.cons (.asg (.nm 1) (.lst true (.cons (.tup (Eb (Ci 2) (Ci 1))) (.cons (.tup (Eb (Ci 3) (Ci 1))) (.cons (.tup (Eb (Ci 5) (Ci 2))) (.cons (.tup (Eb (Ci 4) (Ci 1))) (.cons (.tup (Eb (Ci 7) (Ci 3))) (.cons (.tup (Eb (Ci 7) (Ci 2))) (.cons (.tup (Eb (Ci 4) (Ci 2))) (.cons (.tup (Eb (Ci 6) (Ci 2))) (.cons (.tup (Eb (Ci 10) (Ci 4))) (Ec (.tup (Eb (Ci 5) (Ci 1))) (.tup (Eb (Ci 8) (Ci 3))) (.tup (Eb (Ci 3) (Ci 2))))))))))))))) (.cons (.iff (.pr true .eq (Eb (.call 44 (Eb (.v 0) (Ci 6))) (Ci 0))) (.cons (.asg (.nm 2) (.pr true .add (Eb (Ci 1) (.pr true .mod (Eb (.call 44 (Eb (.v 0) (Ci 24))) (Ci 10)))))) (.cons (.ret (.tup (Eb (.v 2) (.pr true .max2 (Eb (Ci 1) (.pr true .fdiv (Eb (.call 44 (Eb (.v 0) (.v 2))) (Ci 2)))))))) .nil)) .nil) (.cons (.ret (Ei (.v 1) (.call 44 (Eb (.v 0) (Ci 12))))) .nil)))
noncomputable def Vy:bH:=(.cons (.iff (.or (.not (.fZ (.v 0) .tuple)) (.or (.pr true .ne (Eb (.pr true .len (Ea (.v 0))) (Ci 2))) (.not (.pr true .all (Ea (.comp true (.call 45 (Ea (.v 0))) [0] (.seq (.v 0)) [] 1 .no)))))) (.cons (.ret (.c (.bl false))) .nil) .nil) (.cons (.ret (.t_ .le .le .le (Ci 1) (Ei (.v 0) (Ci 1)) (Ei (.v 0) (Ci 0)) (Ci 24))) .nil))
noncomputable def Vz:bH:=(.cons (.asg (.tp [2,3]) (.v 1)) (.cons (.asg (.nm 4) (.call 44 (Eb (.v 0) (.pr true .add (Eb (.pr true .len (Ea (.v 3))) (Ci 1)))))) (.cons (.asg (.nm 5) (.lst true (.cons (.tup (Eb (Ci 0) (Ci 0))) (.cons (.tup (Eb (Ci 1) (Ci 0))) (.cons (.tup (Eb (Ci 0) (.v 2))) (.cons (.tup (Eb (.pr true .neg (Ea (Ci 1))) (Ci 0))) (.cons (.tup (Eb (.c (.bl false)) (.c (.bl true)))) (.cons (.tup (Eb (Ci 0) (.c (.bl true)))) (.cons (.tup (Ea (Ci 0))) (Ec (.tup (Ec (Ci 0) (Ci 1) (Ci 2))) (.lst true (Eb (Ci 0) (Ci 1))) (.c .non))))))))))) (.cons (.asg (.nm 6) (Ei (.v 5) (.call 44 (Eb (.v 0) (Ci 10))))) (.cons (.par 7 8 (.sl true (.v 3) .no (.yes (.v 4))) (.sl true (.v 3) (.yes (.pr true .add (Eb (.v 4) (Ci 1)))) .no)) (.cons (.iff (.pr true .eq (Eb (.call 44 (Eb (.v 0) (Ci 2))) (Ci 0))) (.cons (.asg (.nm 9) (.lst true (.cons (.pr true .add (Eb (.pr true .add (Eb (.v 7) (.tup (Ea (.v 6))))) (.v 8))) (.cons (.pr true .add (Eb (.pr true .add (Eb (.v 7) (.tup (Ea (.v 6))))) (.sl true (.v 3) (.yes (.v 4)) .no))) (Ec (.pr true .rev (Ea (.v 3))) (.pr true .list (Ea (.v 3))) (.pr true .add (Eb (.v 3) (.sl true (.v 3) .no (.yes (Ci 1)))))))))) (.cons (.asg (.nm 9) (.pr true .add (Eb (.v 9) (.lst true (.cons (.pr true .add (Eb (.v 7) (.v 8))) (Ec (.tup (Ea (.v 3))) (.pr true .add (Eb (.sl true (.v 3) (.yes (.v 4)) .no) (.v 7))) (.pr true .add (Eb (.pr true .add (Eb (.v 7) (.tup (Ea (.tup (Eb (Ci 0) (Ci 1))))))) (.sl true (.v 3) (.yes (.v 4)) .no))))))))) (.cons (.ret (.tup (Eb (.v 2) (Ei (.v 9) (.call 44 (Eb (.v 0) (Ci 9))))))) .nil))) .nil) (.cons (.asg (.nm 5) (.lst true (.cons (.tup (Eb (.pr true .add (Eb (.v 2) (Ci 1))) (.v 3))) (.cons (.tup (Eb (.pr true .ao (Eb (.v 2) (Ci 1))) (.v 3))) (.cons (.tup (Eb (.c (.bl true)) (.v 3))) (Ec (.tup (Eb (Ci 9) (.v 3))) (.tup (Eb (Ci 0) (.tup .nil))) (.tup (Eb (.c .non) (.v 3))))))))) (.cons (.asg (.nm 5) (.pr true .add (Eb (.v 5) (.lst true (.cons (.lst true (Eb (.v 2) (.v 3))) (.cons (.tup (Ec (.v 2) (.v 3) (Ci 0))) (.cons (.tup (Ea (.v 2))) (Ec (.tup (Eb (.pr true .str1 (Ea (.v 2))) (.v 3))) (.tup (Eb (.v 3) (.v 2))) (.v 3))))))))) (.cons (.ret (Ei (.v 5) (.call 44 (Eb (.v 0) (Ci 12))))) .nil)))))))))
noncomputable def VB:bH:=(.cons (.asg (.tp [2,3]) (.v 1)) (.cons (.asg (.nm 4) (.lst true (.cons (.tup (Eb (.v 2) (.pr true .add (Eb (.v 2) (Ci 1))))) (.cons (.tup (Eb (Ci 0) (Ci 0))) (.cons (.tup (Eb (Ci 25) (Ci 1))) (.cons (.tup (Eb (.v 2) (Ci 0))) (.cons (.tup (Eb (.c (.bl true)) (Ci 1))) (.cons (.tup (Ec (.v 2) (.v 3) (Ci 1))) (Ec (.lst true (Eb (.v 2) (.v 3))) (.tup (Ea (.v 2))) (.c .non)))))))))) (.cons (.ret (Ei (.pr true .add (Eb (.v 4) (.lst true (Ec (.tup (Eb (.v 3) (.v 2))) (.c (.str "5/2")) (.tup (Eb (.pr true .ao (Eb (Ci 0) (.v 2))) (.v 3))))))) (.call 44 (Eb (.v 0) (Ci 12))))) .nil)))
noncomputable def VD:bH:=(.cons (.ud (.cons (.iff (.pr true .eq (Eb (.v 0) (Ci 0))) (.cons (.ex (.call 26 (Eb (.v 1) (.v 2)))) .nil) (.cons (.iff (.pr true .eq (Eb (.v 0) (Ci 1))) (.cons (.ex (.call 27 (Ec (.v 1) (.v 2) (.v 3)))) .nil) (.cons (.iff (.pr true .eq (Eb (.v 0) (Ci 2))) (.cons (.ex (.call 28 (Ec (.v 1) (.v 2) (.v 3)))) .nil) (.cons (.iff (.pr true .eq (Eb (.v 0) (Ci 3))) (.cons (.ex (.call 35 (.cons (.v 1) (Ec (.v 2) (.v 3) (.c .non))))) .nil) (.cons (.ex (.call 36 (Ec (.v 1) (.v 2) (.v 3)))) .nil)) .nil)) .nil)) .nil)) .nil) 0 4 (.cons (.ret (.tup (Eb (.call 47 (Ea (.v 4))) (.ite (.and (.pr true .eq (Eb (.call 47 (Ea (.v 4))) (.c (.str "web")))) (.call 45 (Ea (.fld (.v 4) [9,10] 0)))) (.fld (.v 4) [9,10] 0) (.c .non))))) .nil)) (.cons (.ret (.tup (Eb (.c (.str "told")) (.c .non)))) .nil))
noncomputable def VF:bH:=(.cons (.fr (.nm 1) (.seq (.pr true .add (Eb (.lst true (Ea (.call 42 (Eb (.v 0) (Ci 0))))) (.sl true (.v 0) (.yes (Ci 1)) (.yes (Ci 5)))))) (.cons (.asg (.nm 2) (.call 43 (Ea (.v 1)))) (.cons (.asg (.tp [3,4]) (.tup (Eb (.call 49 (Eb (.v 2) (.call 48 (Ea (.v 2))))) (.call 51 (Ea (.v 2)))))) (.cons (.iff (.and (.pr true .eq (Eb (Ei (.v 3) (Ci 0)) (Ci 8))) (.pr true .gt (Eb (Ei (.v 4) (Ci 0)) (Ci 7)))) (.cons (.asg (.nm 4) (.tup (Eb (Ci 7) (Ci 3)))) .nil) .nil) (.cons (.fr (.nm 5) (.seq (.lst true (.cons (.call 53 (Eb (.v 2) (.v 3))) (Ec (.call 53 (Eb (.v 2) (.v 3))) (.call 46 (Ea (.v 2))) (.c .non))))) (.cons (.iff (.not (.call 50 (Ea (.v 5)))) (.cons (.iff (.pr true .ne (Eb (.comp true (.call 55 (.cons (.v 0) (Ec (.v 1) (.c .non) (.c .non)))) [0] (.rg (Ci 0) (Ci 5)) [5] 1 .no) (.pr true .mH (Eb (.lst true (Ea (.tup (Eb (.c (.str "web")) (.pr true .neg (Ea (Ci 1))))))) (Ci 5))))) (.cons (.ret (.c (.bl false))) .nil) .nil) .nil) .nil) .nil)) (.cons (.fr (.nm 5) (.seq (.lst true (.cons (.call 54 (Eb (.v 2) (.v 4))) (Ec (.call 54 (Eb (.v 2) (.v 4))) (.call 46 (Ea (.v 2))) (.c .non))))) (.cons (.iff (.not (.call 52 (Ea (.v 5)))) (.cons (.iff (.pr true .ne (Eb (.comp true (.call 55 (.cons (.v 0) (Ec (.v 1) (.v 2) (.c .non)))) [0] (.rg (Ci 0) (Ci 5)) [3,5] 1 .no) (.pr true .mH (Eb (.lst true (Ea (.tup (Eb (.c (.str "ring")) (.c .non))))) (Ci 5))))) (.cons (.ret (.c (.bl false))) .nil) .nil) .nil) .nil) .nil)) (.cons (.fr (.nm 5) (.seq (.lst true (.cons (.c .non) (.cons (.tup .nil) (.cons (.pr true .mult (Eb (.tup (Ea (Ci 0))) (Ci 9))) (.cons (.pr true .mH (Eb (.lst true (Ea (.c .non))) (Ei (.v 3) (Ci 0)))) (Ec (.pr true .mult (Eb (.tup (Ea (.c (.bl true)))) (Ei (.v 3) (Ci 0)))) (.pr true .mult (Eb (.tup (Ea (Ei (.v 4) (Ci 0)))) (Ei (.v 3) (Ci 0)))) (.c (.str "0"))))))))) (.cons (.iff (.pr true .ne (Eb (.comp true (.call 55 (.cons (.v 0) (Ec (.v 1) (.v 2) (.v 3)))) [0] (.rg (Ci 1) (Ci 5)) [3,4,5] 1 .no) (.pr true .mH (Eb (.lst true (Ea (.tup (Eb (.c (.str "hues")) (.c .non))))) (Ci 4))))) (.cons (.ret (.c (.bl false))) .nil) .nil) .nil)) .nil))))))) (.cons (.ret (.c (.bl true))) .nil))
noncomputable def T(n:Nat):Option Df:=([⟨1,1,b0⟩,⟨3,3,b1⟩,⟨2,2,b2⟩,⟨3,1,b3⟩,⟨1,1,b4⟩,⟨2,2,b5⟩,⟨4,2,b6⟩,⟨1,1,b7⟩,⟨3,2,b8⟩,⟨1,1,b9⟩,⟨4,4,b10⟩,⟨3,3,b11⟩,⟨6,4,b12⟩,⟨3,3,b13⟩,⟨2,2,b14⟩,⟨5,2,b15⟩,⟨2,2,b16⟩,⟨5,2,b17⟩,⟨3,1,Ve⟩,⟨2,2,Nv⟩,⟨1,1,Ny⟩,⟨4,3,b21⟩,⟨3,3,Vf⟩,⟨3,3,Vg⟩,⟨3,3,Kv⟩,⟨5,3,Vh⟩,⟨3,2,Vi⟩,⟨9,3,Vj⟩,⟨4,3,Vk⟩,⟨3,3,Vl⟩,⟨3,3,Vm⟩,⟨7,2,b31⟩,⟨5,4,b32⟩,⟨4,3,b33⟩,⟨4,3,b34⟩,⟨4,4,Vn⟩,⟨7,3,Vo⟩,⟨3,3,b37⟩,⟨5,4,b38⟩,⟨6,3,b39⟩,⟨4,3,b40⟩,⟨6,3,b41⟩,⟨2,2,Vp⟩,⟨2,1,Vq⟩,⟨5,2,Vr⟩,⟨1,1,b45⟩,⟨2,1,Vt⟩,⟨3,1,b47⟩,⟨1,1,Vu⟩,⟨5,2,Vv⟩,⟨2,1,Vw⟩,⟨3,1,Vx⟩,⟨1,1,Vy⟩,⟨10,2,Vz⟩,⟨5,2,VB⟩,⟨5,4,VD⟩,⟨6,1,VF⟩]:List Df)[n]?
theorem T_0:T 0=some ⟨1,1,b0⟩:=rfl
theorem T_1:T 1=some ⟨3,3,b1⟩:=rfl
theorem T_2:T 2=some ⟨2,2,b2⟩:=rfl
theorem T_3:T 3=some ⟨3,1,b3⟩:=rfl
theorem T_4:T 4=some ⟨1,1,b4⟩:=rfl
theorem T_5:T 5=some ⟨2,2,b5⟩:=rfl
theorem T_6:T 6=some ⟨4,2,b6⟩:=rfl
theorem VG:T 7=some ⟨1,1,b7⟩:=rfl
theorem T_8:T 8=some ⟨3,2,b8⟩:=rfl
theorem T_9:T 9=some ⟨1,1,b9⟩:=rfl
theorem zn9:T 10=some ⟨4,4,b10⟩:=rfl
theorem zoh:T 11=some ⟨3,3,b11⟩:=rfl
theorem zoe:T 12=some ⟨6,4,b12⟩:=rfl
theorem zob:T 13=some ⟨3,3,b13⟩:=rfl
theorem zod:T 14=some ⟨2,2,b14⟩:=rfl
theorem zok:T 15=some ⟨5,2,b15⟩:=rfl
theorem zn6:T 16=some ⟨2,2,b16⟩:=rfl
theorem zoa:T 17=some ⟨5,2,b17⟩:=rfl
theorem znw:T 18=some ⟨3,1,Ve⟩:=rfl
theorem VH:T 19=some ⟨2,2,Nv⟩:=rfl
theorem VJ:T 20=some ⟨1,1,Ny⟩:=rfl
theorem zn2:T 21=some ⟨4,3,b21⟩:=rfl
theorem znt:T 22=some ⟨3,3,Vf⟩:=rfl
theorem znG:T 23=some ⟨3,3,Vg⟩:=rfl
theorem Nz:T 24=some ⟨3,3,Kv⟩:=rfl
theorem znN:T 25=some ⟨5,3,Vh⟩:=rfl
theorem znL:T 26=some ⟨3,2,Vi⟩:=rfl
theorem znq:T 27=some ⟨9,3,Vj⟩:=rfl
theorem zny:T 28=some ⟨4,3,Vk⟩:=rfl
theorem znK:T 29=some ⟨3,3,Vl⟩:=rfl
theorem znz:T 30=some ⟨3,3,Vm⟩:=rfl
theorem zn8:T 31=some ⟨7,2,b31⟩:=rfl
theorem zof:T 32=some ⟨5,4,b32⟩:=rfl
theorem zoi:T 33=some ⟨4,3,b33⟩:=rfl
theorem zn7:T 34=some ⟨4,3,b34⟩:=rfl
theorem znA:T 35=some ⟨4,4,Vn⟩:=rfl
theorem znU:T 36=some ⟨7,3,Vo⟩:=rfl
theorem zog:T 37=some ⟨3,3,b37⟩:=rfl
theorem zoj:T 38=some ⟨5,4,b38⟩:=rfl
theorem zom:T 39=some ⟨6,3,b39⟩:=rfl
theorem zoc:T 40=some ⟨4,3,b40⟩:=rfl
theorem zol:T 41=some ⟨6,3,b41⟩:=rfl
theorem znI:T 42=some ⟨2,2,Vp⟩:=rfl
theorem znO:T 43=some ⟨2,1,Vq⟩:=rfl
theorem znS:T 44=some ⟨5,2,Vr⟩:=rfl
theorem znC:T 45=some ⟨1,1,b45⟩:=rfl
theorem znM:T 46=some ⟨2,1,Vt⟩:=rfl
theorem zn0:T 47=some ⟨3,1,b47⟩:=rfl
theorem znD:T 48=some ⟨1,1,Vu⟩:=rfl
theorem znv:T 49=some ⟨5,2,Vv⟩:=rfl
theorem znJ:T 50=some ⟨2,1,Vw⟩:=rfl
theorem znH:T 51=some ⟨3,1,Vx⟩:=rfl
theorem znx:T 52=some ⟨1,1,Vy⟩:=rfl
theorem znV:T 53=some ⟨10,2,Vz⟩:=rfl
theorem znF:T 54=some ⟨5,2,VB⟩:=rfl
theorem znB:T 55=some ⟨5,4,VD⟩:=rfl
theorem znP:T 56=some ⟨6,1,VF⟩:=rfl
noncomputable def ao:Nat->Nat->Bool:=λc e=>(let n:=λc=>if c<12 then c else 0;n e==0||n c==n e)
end eO
namespace eO
open PySem PySem.Spec PyProof.Rows L2 Mi
abbrev LK(i:Nat)(x:Str)(k:NameKind):Prop:=(aA (top i)).names.lookup x=some k
noncomputable abbrev gI:NameKind:=.globalImplicit
theorem znR:ao=jJ 12:=rfl
abbrev N3:List Str:=["thing","many","ties"]
abbrev N22:List Str:=["web","ring","thing"]
abbrev N26:List Str:=["web","ring","board"]
abbrev N27:List Str:=["web","ring","hues","board","place","same","higher","rest","found"]
abbrev N28:List Str:=["web","ring","known","board"]
abbrev N29:List Str:=["web","ring","thing"]
abbrev N36:List Str:=["web","ring","known","board","free","place","spot"]
abbrev VL:List Str:=["_law_pen_here","_law_many","_law_often","_law_ties","_law_one"]
abbrev N50:List Str:=["_law_thing","_law_tie"]
abbrev N52:List Str:=["_law_thing"]
abbrev NK:List Str:=["_law_script","_law_cell_here","_law_pen_here","_law_web_here","_law_ring_here","_law_thing"]
noncomputable def cl(K:W.Frag):Cl:=⟨dI (lk.L K),λc=>(([[],[],[],[],[],[],[],[],[],["at"],["at"],["many","most"]]:List (List Str)).getD c []),λ_=>0,λ_=>[]⟩
theorem tx9:uQ "NoWeb.__init__" oN ["at"]:=uQ.of (λ_ _ _ _ _ _ us hl=>bind1 (f:=λus=>bindArgs _ ⟨us,[]⟩) (λ_ _=>rfl) us hl) Bd (by intro z;cases z) UJ Bd Bd rfl rfl rfl
structure Top(K:W.Frag)(mg:Str->Option Value):Prop where
 cs:uz K (cl K) ao
 d0:D3 K mg "is_whole" (top 14) ["thing"]
 d1:D3 K mg "is_within" (top 15) ["thing","least","most"]
 d2:D3 K mg "is_row" (top 16) ["thing","many"]
 d3:D3 K mg "is_web" (top 19) ["thing"]
 d4:D3 K mg "is_many" (top 20) ["thing"]
 d5:D3 K mg "is_place" (top 21) ["many","thing"]
 d6:D3 K mg "is_tie" (top 22) ["many","thing"]
 d7:D3 K mg "check_web" (top 23) ["thing"]
 VN:D3 K mg "is_ring" (top 31) ["thing"]
 NP:D3 K mg "is_spot" (top 32) ["ring","thing"]
 Kw:D3 K mg "check_ring" (top 33) ["thing"]
 VP:D3 K mg "gap_of" (top 34) ["ring","one","other"]
 VR:D3 K mg "are_spots" (top 36) ["web","ring","thing"]
 V0:D3 K mg "are_hues" (top 37) ["web","ring","thing"]
 V1:D3 K mg "check_hues" (top 38) ["web","ring","thing"]
 V2:D3 K mg "clash_of" (top 39) ["web","ring","spots"]
 V3:D3 K mg "first_hues" (top 41) ["web","ring"]
 V4:D3 K mg "next_hues" (top 42) ["web","ring","hues"]
 NQ:D3 K mg "first_known" (top 43) ["web","ring","known"]
 V5:D3 K mg "are_known" (top 44) ["web","ring","thing"]
 NT:D3 K mg "check_known" (top 45) ["web","ring","thing"]
 V6:D3 K mg "none_holds" (top 53) ["web","ring","known","thing"]
 V7:D3 K mg "none_for" (top 54) ["web","ring","known"]
 V8:D3 K mg "_law_cell" (top 61) ["_law_script","_law_k"]
 V9:D3 K mg "_law_pen" (top 62) ["_law_cell_here"]
 oA:D3 K mg "_law_draw" (top 63) ["_law_pen_here","_law_many"]
 Du:D3 K mg "_law_whole" (top 64) ["_law_thing"]
 NZ:D3 K mg "_law_odd" (top 65) ["_law_pen_here"]
 N5:D3 K mg "_law_kind" (top 66) ["_law_e"]
 V_:D3 K mg "_law_size" (top 67) ["_law_pen_here"]
 Wa:D3 K mg "_law_web" (top 68) ["_law_pen_here","_law_many"]
 Wb:D3 K mg "_law_is_web" (top 69) ["_law_thing"]
 Wc:D3 K mg "_law_ring" (top 70) ["_law_pen_here"]
 Wd:D3 K mg "_law_is_ring" (top 71) ["_law_thing"]
 N6:D3 K mg "_law_bent_web" (top 72) ["_law_pen_here","_law_web_here"]
 N7:D3 K mg "_law_bent_ring" (top 73) ["_law_pen_here","_law_ring_here"]
 Ky:D3 K mg "_law_said" (top 74) ["_law_way","_law_web_here","_law_ring_here","_law_thing"]
 N8:D3 K mg "law" (top 75) ["_law_script"]
 c0:mg "HueError"=some (.ref ((cl K).a 0))
 c1:mg "NoRing"=some (.ref ((cl K).a 1))
 c2:mg "NoHues"=some (.ref ((cl K).a 2))
 c3:mg "NoPlace"=some (.ref ((cl K).a 3))
 c4:mg "NoArrows"=some (.ref ((cl K).a 4))
 c5:mg "NoMap"=some (.ref ((cl K).a 5))
 c6:mg "NoPaper"=some (.ref ((cl K).a 6))
 c7:mg "Apart"=some (.ref ((cl K).a 7))
 c8:mg "NoRow"=some (.ref ((cl K).a 8))
 c9:mg "NoWeb"=some (.ref ((cl K).a 9))
 c10:mg "NoText"=some (.ref ((cl K).a 10))
 c11:mg "TooGreat"=some (.ref ((cl K).a 11))
 x1:PySem.W.excIn K ((cl K).a 1) [.type "ValueError",.type "Exception",.type "BaseException",.type "object"] "ValueError.__new__"=true
 x2:PySem.W.excIn K ((cl K).a 2) [.type "ValueError",.type "Exception",.type "BaseException",.type "object"] "ValueError.__new__"=true
 i9:jV K ((cl K).a 9) (aV oN) (aM oN) (aA oN) ((cl K).f 9)
 vd:∀c∈([9,10]:List Nat),XF K ((cl K).a c) "at"/\((cl K).f c).Nodup
 s0:∀c,ao c 0=true->subIn K ((cl K).a c) ((cl K).a 0)=true
 gb:∃t,mg "MOST_PLACES"=some (.int 8 t)
 h_:∃t,mg "MOST_SPOTS"=some (.int 24 t)
 z11:mg "ValueError"=none
 z8:mg "abs"=none
 z6:mg "all"=none
 z2:mg "bool"=none
 z10:mg "divmod"=none
 z1:mg "int"=none
 z0:mg "isinstance"=none
 z4:mg "len"=none
 Wf:mg "list"=none
 z9:mg "max"=none
 z7:mg "min"=none
 FW:mg "range"=none
 z15:mg "set"=none
 Wg:mg "sorted"=none
 z16:mg "str"=none
 z3:mg "tuple"=none
 z5:mg "zip"=none
theorem zkU{K:W.Frag}{h:Heap}{mg:Str->Option Value}(S:iY fs ms xs lk K)(X:K.In h)(G:h.Ns mainGlobals mg):Top K mg where
 cs:=by
  rcases S.gd.cs with z|z
  ·cases z
  ·exact zjt (K7 _) z
 d0:=pJ S X G 0
 d1:=uR S X G 1
 d2:=vQ S X G 2
 d3:=pJ S X G 3
 d4:=pJ S X G 4
 d5:=vQ S X G 5
 d6:=vQ S X G 6
 d7:=pJ S X G 7
 VN:=pJ S X G 8
 NP:=vQ S X G 9
 Kw:=pJ S X G 10
 VP:=uR S X G 11
 VR:=uR S X G 12
 V0:=uR S X G 13
 V1:=uR S X G 14
 V2:=uR S X G 15
 V3:=vQ S X G 16
 V4:=uR S X G 17
 NQ:=uR S X G 18
 V5:=uR S X G 19
 NT:=uR S X G 20
 V6:=ZQ S X G 21
 V7:=uR S X G 22
 V8:=vQ S X G 23
 V9:=pJ S X G 24
 oA:=vQ S X G 25
 Du:=pJ S X G 26
 NZ:=pJ S X G 27
 N5:=pJ S X G 28
 V_:=pJ S X G 29
 Wa:=vQ S X G 30
 Wb:=pJ S X G 31
 Wc:=pJ S X G 32
 Wd:=pJ S X G 33
 N6:=vQ S X G 34
 N7:=vQ S X G 35
 Ky:=ZQ S X G 36
 N8:=pJ S X G 37
 c0:=sy (S.gd.cl "HueError" (mG 0)) X G
 c1:=sy (S.gd.cl "NoRing" (mG 1)) X G
 c2:=sy (S.gd.cl "NoHues" (mG 2)) X G
 c3:=sy (S.gd.cl "NoPlace" (mG 3)) X G
 c4:=sy (S.gd.cl "NoArrows" (mG 4)) X G
 c5:=sy (S.gd.cl "NoMap" (mG 5)) X G
 c6:=sy (S.gd.cl "NoPaper" (mG 6)) X G
 c7:=sy (S.gd.cl "Apart" (mG 7)) X G
 c8:=sy (S.gd.cl "NoRow" (mG 8)) X G
 c9:=sy (S.gd.cl "NoWeb" (mG 9)) X G
 c10:=sy (S.gd.cl "NoText" (mG 10)) X G
 c11:=sy (S.gd.cl "TooGreat" (mG 11)) X G
 x1:=S.gd.ra 1 (mG 0)
 x2:=S.gd.ra 2 (mG 1)
 i9:=ziw (S.mi ⟨9,"NoWeb.__init__",oN,["at"]⟩ (mG 0)) tx9 (S.se ⟨9,"NoWeb.__init__",oN,["at"]⟩ (mG 0))
 vd:=(List.forall_mem_cons.mpr ⟨⟨S.xf (9,"at") (mG 0),(by show (["at"]:List Str).Nodup;decide +kernel)⟩,(List.forall_mem_cons.mpr ⟨⟨S.xf (10,"at") (mG 1),(by show (["at"]:List Str).Nodup;decide +kernel)⟩,(λc hc=>nomatch hc)⟩)⟩)
 s0:=zi8 (L:=lk.L K) (K7 _) (S.gd.ca 0 (mG 0))
 gb:=ZC (S.gd.it ("MOST_PLACES",8) (mG 0)) X G
 h_:=ZC (S.gd.it ("MOST_SPOTS",24) (mG 1)) X G
 z11:=nQ (S.gd.no "ValueError" (mG 0)) X G
 z8:=nQ (S.gd.no "abs" (mG 1)) X G
 z6:=nQ (S.gd.no "all" (mG 2)) X G
 z2:=nQ (S.gd.no "bool" (mG 3)) X G
 z10:=nQ (S.gd.no "divmod" (mG 4)) X G
 z1:=nQ (S.gd.no "int" (mG 5)) X G
 z0:=nQ (S.gd.no "isinstance" (mG 6)) X G
 z4:=nQ (S.gd.no "len" (mG 7)) X G
 Wf:=nQ (S.gd.no "list" (mG 8)) X G
 z9:=nQ (S.gd.no "max" (mG 9)) X G
 z7:=nQ (S.gd.no "min" (mG 10)) X G
 FW:=nQ (S.gd.no "range" (mG 11)) X G
 z15:=nQ (S.gd.no "set" (mG 12)) X G
 Wg:=nQ (S.gd.no "sorted" (mG 13)) X G
 z16:=nQ (S.gd.no "str" (mG 14)) X G
 z3:=nQ (S.gd.no "tuple" (mG 15)) X G
 z5:=nQ (S.gd.no "zip" (mG 16)) X G
abbrev FO(P:Program)(w:World)(K:W.Frag)(mg:Str->Option Value)(base:Heap)(k:Nat)(c:Bool)(x:Str)(i:Nat)(ps:List Str)(n:Nat):Prop:=eE P w K mg base (lq P w) c k (jq K x) (fdOf K x (top i)) ps (uF K (cl K) (call ao T k c n))
structure Fs(P:Program)(w:World)(K:W.Frag)(mg:Str->Option Value)(base:Heap)(k:Nat):Prop where
 t0:FO P w K mg base k true "is_whole" 14 ["thing"] 0
 t1:FO P w K mg base k true "is_within" 15 ["thing","least","most"] 1
 t2:FO P w K mg base k true "is_row" 16 ["thing","many"] 2
 t3:FO P w K mg base k true "is_web" 19 ["thing"] 3
 t4:FO P w K mg base k true "is_many" 20 ["thing"] 4
 t5:FO P w K mg base k true "is_place" 21 ["many","thing"] 5
 t6:FO P w K mg base k true "is_tie" 22 ["many","thing"] 6
 t7:FO P w K mg base k true "check_web" 23 ["thing"] 7
 t18:FO P w K mg base k true "is_ring" 31 ["thing"] 18
 Wh:FO P w K mg base k true "is_spot" 32 ["ring","thing"] 19
 N_:FO P w K mg base k true "check_ring" 33 ["thing"] 20
 t21:FO P w K mg base k true "gap_of" 34 ["ring","one","other"] 21
 t22:FO P w K mg base k true "are_spots" 36 ["web","ring","thing"] 22
 t23:FO P w K mg base k true "are_hues" 37 ["web","ring","thing"] 23
 t24:FO P w K mg base k true "check_hues" 38 ["web","ring","thing"] 24
 t25:FO P w K mg base k true "clash_of" 39 ["web","ring","spots"] 25
 t26:FO P w K mg base k true "first_hues" 41 ["web","ring"] 26
 t27:FO P w K mg base k true "next_hues" 42 ["web","ring","hues"] 27
 Wi:FO P w K mg base k true "first_known" 43 ["web","ring","known"] 28
 t29:FO P w K mg base k true "are_known" 44 ["web","ring","thing"] 29
 Wj:FO P w K mg base k true "check_known" 45 ["web","ring","thing"] 30
 t35:FO P w K mg base k true "none_holds" 53 ["web","ring","known","thing"] 35
 t36:FO P w K mg base k true "none_for" 54 ["web","ring","known"] 36
 t42:FO P w K mg base k true "_law_cell" 61 ["_law_script","_law_k"] 42
 t43:FO P w K mg base k true "_law_pen" 62 ["_law_cell_here"] 43
 pP:FO P w K mg base k true "_law_draw" 63 ["_law_pen_here","_law_many"] 44
 Oa:FO P w K mg base k true "_law_whole" 64 ["_law_thing"] 45
 q45:FO P w K mg base k false "_law_whole" 64 ["_law_thing"] 45
 Wm:FO P w K mg base k true "_law_odd" 65 ["_law_pen_here"] 46
 Wn:FO P w K mg base k false "_law_kind" 66 ["_law_e"] 47
 t48:FO P w K mg base k true "_law_size" 67 ["_law_pen_here"] 48
 t49:FO P w K mg base k true "_law_web" 68 ["_law_pen_here","_law_many"] 49
 t50:FO P w K mg base k true "_law_is_web" 69 ["_law_thing"] 50
 t51:FO P w K mg base k true "_law_ring" 70 ["_law_pen_here"] 51
 t52:FO P w K mg base k true "_law_is_ring" 71 ["_law_thing"] 52
 Wo:FO P w K mg base k true "_law_bent_web" 72 ["_law_pen_here","_law_web_here"] 53
 Wq:FO P w K mg base k true "_law_bent_ring" 73 ["_law_pen_here","_law_ring_here"] 54
 Ob:FO P w K mg base k true "_law_said" 74 ["_law_way","_law_web_here","_law_ring_here","_law_thing"] 55
 t56:FO P w K mg base k true "law" 75 ["_law_script"] 56
section
variable {P:Program}{w:World}{K:W.Frag}{mg:Str->Option Value}{base:Heap}{k:Nat}
theorem ziL(Tp:Top K mg)(Fk:Fs P w K mg base k):Fs P w K mg base (k+1) where
 t0:=fJ Tp.d0 ["thing"] T_0 λ_ _ _ _ _ _ hr=>(aH (cJ (uL (jC Tp.cs Tp.z0 gk (gv 0) (rz rfl Tp.z1 SX gk dk)) (uK (S7 (jC Tp.cs Tp.z0 gk (gv 0) (rz rfl Tp.z2 S5 gk dk))))))
 aP)
 t1:=fJ Tp.d1 ["thing","least","most"] T_1 λ_ _ _ _ _ _ hr=>(aH (cJ (uL (gc Fk.t0 Tp.d0 hr bY gk (aq (gv 0) aC)) (uK (zm8 zQ zQ (gv 1) (gv 0) (gv 2)))))
 aP)
 t2:=fJ Tp.d2 ["thing","many"] T_2 λ_ _ _ _ _ _ hr=>(aH (cJ (uL (jC Tp.cs Tp.z0 gk (gv 0) (rz rfl Tp.z3 Cq gk dk)) (uK (Jv (uM hr) (Fp Tp.z4 gk (aq (gv 0) aC)) (gv 1)))))
 aP)
 t3:=fJ Tp.d3 N3 T_3 λ_ _ _ _ _ _ hr=>(aH (gB (kO (lA (gc Fk.t2 Tp.d2 hr bY gk (aq (gv 0) (aq aF aC))))) (aH (cJ jB)
 aP) aP)
 (aH (CG 1 2 rfl rfl nd rfl rfl jc jl rfl rfl (gv 0))
 (aH (gB (Cw (yc (kO (lA (gc Fk.t4 Tp.d4 hr bY gk (aq (gv 1) aC)))) (Jx (kO (lA (jC Tp.cs Tp.z0 gk (gv 2) (rz rfl Tp.z3 Cq gk dk))))))) (aH (cJ jB)
 aP) aP)
 (aH (gB (kO (lA (Fq rfl Tp.z6 gk (aq (uP (aA (top 19)) N3 ["tie"] ["many"] [1] rfl rfl rfl Bd Bd (xW 0) Bd (rY (gv 2)) (λ_ _ _ _ _ _=>(yg 0 Bd rfl Bd)) (λ_ _ _ _ _ _=>vP) (λ_ _ _ _ _ _=>(gc Fk.t6 Tp.d6 hr rZ yw (aq (iu 1) (aq (iu 0) aC))))) aC)))) (aH (cJ jB)
 aP) aP)
 (aH (cJ (Fq rfl Tp.z6 gk (aq (uP (aA (top 19)) N3 ["tie","later"] [] [] rfl rfl rfl Bd Bd (Sw 0 1) Bd (zmR Tp.z5 gk (gv 2) (zR (gv 2) (yd aF) Cy)) (λ_ _ _ _ _ _=>(Zw 0 1 rfl Bd rfl rfl Bd Bd)) (λ_ _ _ _ _ _=>vP) (λ_ _ _ _ _ _=>(Jv (Cv hr) (iu 0) (iu 1)))) aC)))
 aP)))))
 t4:=fJ Tp.d4 ["thing"] T_4 λ_ _ _ _ _ _ hr=>(aH (cJ (gc Fk.t1 Tp.d1 hr bY gk (aq (gv 0) (aq aF (aq (Zj Tp.gb gk dk) aC)))))
 aP)
 t5:=fJ Tp.d5 ["many","thing"] T_5 λ_ _ _ _ _ _ hr=>(aH (cJ (gc Fk.t1 Tp.d1 hr bY gk (aq (gv 1) (aq aF (aq (cj uJ (gv 0) aF) aC)))))
 aP)
 t6:=fJ Tp.d6 ["many","thing","one","other"] T_6 λ_ _ _ _ _ _ hr=>(aH (gB (kO (lA (gc Fk.t2 Tp.d2 hr bY gk (aq (gv 1) (aq aF aC))))) (aH (cJ jB)
 aP) aP)
 (aH (CG 2 3 rfl rfl nd rfl rfl jl jl rfl rfl (gv 1))
 (aH (cJ (uL (gc Fk.t5 Tp.d5 hr bY gk (aq (gv 0) (aq (gv 2) aC))) (uL (gc Fk.t5 Tp.d5 hr bY gk (aq (gv 0) (aq (gv 3) aC))) (uK (Jv (Cv hr) (gv 2) (gv 3))))))
 aP)))
 t7:=fJ Tp.d7 ["thing"] VG λ_ _ _ _ _ _ hr=>(aH (gB (kO (lA (gc Fk.t3 Tp.d3 hr bY gk (aq (gv 0) aC)))) (aH (zhR (kk:=.globalImplicit) hr rfl rfl Tp.i9 Tp.c9 gk bY (aq (MN aF) aC) dk)
 aP) aP)
 aP)
 t18:=fJ Tp.VN ["thing","k","d"] znw λ_ _ _ _ _ _ hr=>(aH (gB (kO (lA (gc Fk.t2 Tp.d2 hr bY gk (aq (gv 0) (aq aF aC))))) (aH (cJ jB)
 aP) aP)
 (aH (CG 1 2 rfl rfl nd rfl rfl jl jl rfl rfl (gv 0))
 (aH (cJ (uL (gc Fk.t1 Tp.d1 hr bY gk (aq (gv 1) (aq aF (aq (Zj Tp.h_ gk dk) aC)))) (uK (gc Fk.t1 Tp.d1 hr bY gk (aq (gv 2) (aq aF (aq (gv 1) aC)))))))
 aP)))
 Wh:=fJ Tp.NP ["ring","thing"] VH λ_ _ _ _ _ _ hr=>(aH (cJ (gc Fk.t1 Tp.d1 hr bY gk (aq (gv 1) (aq aF (aq (cj uJ (dY (gv 0) aF) aF) aC)))))
 aP)
 N_:=fJ Tp.Kw ["thing"] VJ λ_ _ _ _ _ _ hr=>(aH (gB (kO (lA (gc Fk.t18 Tp.VN hr bY gk (aq (gv 0) aC)))) (aH (Tc rfl rfl rfl Tp.x1 Tp.c1 gk bY (aq jo aC) dk)
 aP) aP)
 aP)
 t21:=fJ Tp.VP ["ring","one","other","gap"] zn2 λ_ _ _ _ _ _ hr=>(aH (jD 3 nd rfl jl rfl (zm3 Tp.z8 gk (aq (cj uJ (gv 1) (gv 2)) aC)))
 (aH (cJ (zl1 rfl Tp.z7 gk (aq (gv 3) (aq (cj uJ (dY (gv 0) aF) (gv 3)) aC))))
 aP))
 t22:=fJ Tp.VR N22 znt λ_ _ _ _ _ _ hr=>(aH (cJ (uL (gc Fk.t2 Tp.d2 hr bY gk (aq (gv 2) (aq (dY (gv 0) aF) aC))) (uK (Fq rfl Tp.z6 gk (aq (uP (aA (top 36)) N22 ["spot"] ["ring"] [1] rfl rfl rfl Bd Bd (xW 0) Bd (rY (gv 2)) (λ_ _ _ _ _ _=>(yg 0 Bd rfl Bd)) (λ_ _ _ _ _ _=>vP) (λ_ _ _ _ _ _=>(gc Fk.Wh Tp.NP hr rZ yw (aq (iu 1) (aq (iu 0) aC))))) aC)))))
 aP)
 t23:=fJ Tp.V0 ["web","ring","thing"] znG λ_ _ _ _ _ _ hr=>(aH (cJ (uL (gc Fk.t22 Tp.VR hr bY gk (aq (gv 0) (aq (gv 1) (aq (gv 2) aC)))) (uK (Zn (gc Fk.t25 Tp.V2 hr bY gk (aq (gv 0) (aq (gv 1) (aq (gv 2) aC))))))))
 aP)
 t24:=fJ Tp.V1 ["web","ring","thing"] Nz λ_ _ _ _ _ _ hr=>(aH (qy (gc Fk.t7 Tp.d7 hr bY gk (aq (gv 0) aC)))
 (aH (qy (gc Fk.N_ Tp.Kw hr bY gk (aq (gv 1) aC)))
 (aH (gB (kO (lA (gc Fk.t23 Tp.V0 hr bY gk (aq (gv 0) (aq (gv 1) (aq (gv 2) aC)))))) (aH (Tc rfl rfl rfl Tp.x2 Tp.c2 gk bY (aq jo aC) dk)
 aP) aP)
 aP)))
 t25:=fJ Tp.V2 ["web","ring","spots","one","other"] znN λ_ _ _ _ _ _ hr=>(aH (CJ Cz rfl rfl (rY (dY (gv 0) aF)) (zj6 3 4 rfl rfl nd rfl rfl jl jl rfl rfl) (aH (gB (lJ (Cv hr) (gc Fk.t21 Tp.VP hr bY gk (aq (gv 1) (aq (dY (gv 2) (gv 3)) (aq (dY (gv 2) (gv 4)) aC)))) (dY (gv 1) aF)) (aH (cJ (bK (aq (gv 3) (aq (gv 4) aC))))
 aP) aP)
 aP))
 (aH (cJ m8)
 aP))
 t26:=fJ Tp.V3 N26 znL λ_ _ _ _ _ _ hr=>(aH (qy (gc Fk.t7 Tp.d7 hr bY gk (aq (gv 0) aC)))
 (aH (qy (gc Fk.N_ Tp.Kw hr bY gk (aq (gv 1) aC)))
 (aH su
 (aH su
 aP))))
 t27:=fJ Tp.V4 N27 znq λ_ _ _ _ _ _ hr=>(aH (qy (gc Fk.t24 Tp.V1 hr bY gk (aq (gv 0) (aq (gv 1) (aq (gv 2) aC)))))
 (aH su
 (aH su
 (aH su
 aP))))
 Wi:=fJ Tp.NQ N28 zny λ_ _ _ _ _ _ hr=>(aH (qy (gc Fk.Wj Tp.NT hr bY gk (aq (gv 0) (aq (gv 1) (aq (gv 2) aC)))))
 (aH su
 (aH su
 aP)))
 t29:=fJ Tp.V5 N29 znK λ_ _ _ _ _ _ hr=>(aH (cJ (uL (gc Fk.t2 Tp.d2 hr bY gk (aq (gv 2) (aq (dY (gv 0) aF) aC))) (uK (Fq rfl Tp.z6 gk (aq (uP (aA (top 44)) N29 ["spot"] ["ring"] [1] rfl rfl rfl Bd Bd (xW 0) Bd (rY (gv 2)) (λ_ _ _ _ _ _=>(yg 0 Bd rfl Bd)) (λ_ _ _ _ _ _=>vP) (λ_ _ _ _ _ _=>(znZ (Zn (iu 0)) (uK (gc Fk.Wh Tp.NP hr rZ yw (aq (iu 1) (aq (iu 0) aC))))))) aC)))))
 aP)
 Wj:=fJ Tp.NT ["web","ring","thing"] znz λ_ _ _ _ _ _ hr=>(aH (qy (gc Fk.t7 Tp.d7 hr bY gk (aq (gv 0) aC)))
 (aH (qy (gc Fk.N_ Tp.Kw hr bY gk (aq (gv 1) aC)))
 (aH (gB (kO (lA (gc Fk.t29 Tp.V5 hr bY gk (aq (gv 0) (aq (gv 1) (aq (gv 2) aC)))))) (aH (Tc rfl rfl rfl Tp.x2 Tp.c2 gk bY (aq jo aC) dk)
 aP) aP)
 aP)))
 t35:=fJ Tp.V6 ["web","ring","known","thing"] znA λ_ _ _ _ _ _ hr=>(aH (qy (gc Fk.Wj Tp.NT hr bY gk (aq (gv 0) (aq (gv 1) (aq (gv 2) aC)))))
 (aH su
 aP))
 t36:=fJ Tp.V7 N36 znU λ_ _ _ _ _ _ hr=>(aH (gB (zk9 (gc Fk.Wi Tp.NQ hr bY gk (aq (gv 0) (aq (gv 1) (aq (gv 2) aC))))) (aH (cJ m8)
 aP) aP)
 (aH su
 (aH su
 (aH su
 (aH su
 aP)))))
 t42:=fJ Tp.V8 ["_law_script","_law_k"] znI λ_ _ _ _ _ _ hr=>(aH (gB (lJ (Cv hr) (gv 1) (Fp Tp.z4 gk (aq (gv 0) aC))) (aH (cJ (dY (gv 0) (gv 1)))
 aP) aP)
 (aH (cJ aF)
 aP))
 t43:=fJ Tp.V9 ["_law_cell_here","_law_left"] znO λ_ _ _ _ _ _ hr=>(aH (jD 1 nd rfl jl rfl (Zr rfl Tp.z9 gk (aq (gv 0) (aq (cj uJ aF (gv 0)) aC))))
 (aH (cJ (gA (aq (gv 1) (aq (zkl Tp.z1 gk (aq (Jv znY (gv 1) (cj Zm aF aF)) aC)) aC))))
 aP))
 pP:=fJ Tp.oA ["_law_pen_here","_law_many","_law_left","_law_found","_law_stir"] znS λ_ _ _ _ _ _ hr=>(aH (gB (lJ (uM hr) (dY (gv 0) aF) aF) (aH (CG 2 3 rfl rfl nd rfl rfl jl jl rfl rfl (zhi Tp.z10 gk (aq (dY (gv 0) aF) (aq (gv 1) aC))))
 (aH (Zz (gv 0) aF (gv 2))
 (aH (cJ (gv 3))
 aP))) aP)
 (aH (jD 4 nd rfl jl rfl (cj Fl (cj S6 (cj iW (cj Fl (dY (gv 0) aF) aF) aF) aF) aF))
 (aH (jD 4 nd rfl jl rfl (cj Fl (cj iW (cj S6 (gv 4) (gv 4)) aF) aF))
 (aH (Zz (gv 0) aF (cj Fl (cj iW (cj S6 (gv 4) aF) aF) aF))
 (aH (cJ (cj Fl (cj Zk (dY (gv 0) aF) aF) (gv 1)))
 aP)))))
 Oa:=fJ Tp.Du ["_law_thing"] znC λ_ _ _ _ _ _ hr=>(aH (cJ (uL (jC Tp.cs Tp.z0 gk (gv 0) (rz rfl Tp.z1 SX gk dk)) (uK (S7 (jC Tp.cs Tp.z0 gk (gv 0) (rz rfl Tp.z2 S5 gk dk))))))
 aP)
 q45:=fJ Tp.Du ["_law_thing"] znC λ_ _ _ _ _ _ hr=>(aH (cJ (uL (jC Tp.cs Tp.z0 gk (gv 0) (rz rfl Tp.z1 SX gk dk)) (uK (S7 (jC Tp.cs Tp.z0 gk (gv 0) (rz rfl Tp.z2 S5 gk dk))))))
 aP)
 Wm:=fJ Tp.NZ ["_law_pen_here","_law_some"] znM λ_ _ _ _ _ _ hr=>(aH (jD 1 nd rfl jl rfl (gA (aq m8 (aq jB (aq jB (aq (MN aF) (aq jo (aq jo (aq (bK aC) (aq (gA aC) (aq (bK (aq aF aC)) (aq (gA (aq aF aC)) (aq zlI (aq (bK (aq aF (aq aF aC))) (aq (cj Zm aF aF) (aq (bK (aq aF (aq (bK aC) aC))) (aq (bK (aq jo aC)) aC)))))))))))))))))
 (aH (cJ (dY (cj iW (gv 1) (gA (aq (bK (aq aF (aq (bK (aq (bK (aq aF (aq aF aC))) aC)) aC))) aC))) (gc Fk.pP Tp.oA hr bY gk (aq (gv 0) (aq aF aC)))))
 aP))
 Wn:=fJ Tp.N5 ["_law_e","_law_marks","_law_words"] zn0 λ_ _ _ _ _ _ hr=>(aH (jD 1 nd rfl jl rfl (gA (aq (jC Tp.cs Tp.z0 gk (gv 0) (uO Tp.c1 gk dk)) (aq (jC Tp.cs Tp.z0 gk (gv 0) (uO Tp.c2 gk dk)) (aq (jC Tp.cs Tp.z0 gk (gv 0) (uO Tp.c3 gk dk)) (aq (jC Tp.cs Tp.z0 gk (gv 0) (uO Tp.c4 gk dk)) aC))))))
 (aH (jD 1 nd rfl jl rfl (cj iW (gv 1) (gA (aq (jC Tp.cs Tp.z0 gk (gv 0) (uO Tp.c5 gk dk)) (aq (jC Tp.cs Tp.z0 gk (gv 0) (uO Tp.c6 gk dk)) (aq (jC Tp.cs Tp.z0 gk (gv 0) (uO Tp.c7 gk dk)) (aq (jC Tp.cs Tp.z0 gk (gv 0) (uO Tp.c8 gk dk)) aC)))))))
 (aH (jD 1 nd rfl jl rfl (cj iW (gv 1) (gA (aq (jC Tp.cs Tp.z0 gk (gv 0) (uO Tp.c9 gk dk)) (aq (jC Tp.cs Tp.z0 gk (gv 0) (uO Tp.c10 gk dk)) (aq (jC Tp.cs Tp.z0 gk (gv 0) (uO Tp.c11 gk dk)) aC))))))
 (aH (gB (Cw (yc (kO (lA (jC Tp.cs Tp.z0 gk (gv 0) (rz rfl Tp.z11 zcD gk dk)))) (Jx (lJ (Cu hr) (ziR hr (gv 1) (aq jB aC)) aF)))) (aH (cJ jo)
 aP) aP)
 (aH (jD 2 nd rfl jl rfl (gA (aq jo (aq jo (aq jo (aq jo (aq jo (aq jo (aq jo (aq jo (aq jo (aq jo (aq jo aC)))))))))))))
 (aH (cJ (dY (gv 2) (zjA (gv 1) (aq jB aC))))
 aP))))))
 t48:=fJ Tp.V_ ["_law_pen_here"] znD λ_ _ _ _ _ _ hr=>(aH (cJ (dY (gA (aq aF (aq aF (aq aF (aq aF (aq aF (aq aF (aq aF (aq aF (aq aF (aq aF (aq aF (aq aF aC))))))))))))) (gc Fk.pP Tp.oA hr bY gk (aq (gv 0) (aq aF aC)))))
 aP)
 t49:=fJ Tp.Wa VL znv λ_ _ _ _ _ _ hr=>(aH (jD 2 nd rfl jc rfl (dY (gA (aq aF (aq aF (aq aF aC)))) (gc Fk.pP Tp.oA hr bY gk (aq (gv 0) (aq aF aC)))))
 (aH (jD 3 nd rfl jl rfl (gA aC))
 (aH (CJ Cz rfl rfl (S8 Tp.FW gk (gv 1)) (Fx 4 nd rfl jc rfl) (aH (jD 3 nd rfl jl rfl (cj iW (gv 3) (uP (aA (top 68)) VL ["_law_other"] ["_law_one","_law_pen_here","_law_often"] [4,0,2] rfl rfl rfl Bd Bd (xW 0) Bd (Zv Tp.FW gk (cj iW (gv 4) aF) (gv 1)) (λ_ _ _ _ _ _=>(yg 0 Bd rfl Bd)) (λ_ _ _ _ _ _=>(zmN (lJ (Cv hr) (gc Fk.pP Tp.oA hr rZ yw (aq (iu 2) (aq aF aC))) (iu 3)))) (λ_ _ _ _ _ _=>(bK (aq (iu 1) (aq (iu 0) aC)))))))
 aP))
 (aH (cJ (bK (aq (gv 1) (aq (zjJ Tp.z3 gk (aq (zhu Tp.Wg gk (aq (uP (aA (top 68)) VL ["_law_one","_law_other"] ["_law_many"] [1] rfl rfl rfl Bd Bd (Sw 0 1) Bd (rY (gv 3)) (λ_ _ _ _ _ _=>(Zw 0 1 rfl Bd rfl rfl Bd Bd)) (λ_ _ _ _ _ _=>vP) (λ_ _ _ _ _ _=>(bK (aq (cj uJ (cj uJ (iu 2) aF) (iu 1)) (aq (cj uJ (cj uJ (iu 2) aF) (iu 0)) aC))))) aC)) aC)) aC))))
 aP))))
 t50:=fJ Tp.Wb N50 znJ λ_ _ _ _ _ _ hr=>(aH (gB (Cw (yc (kO (lA (jC Tp.cs Tp.z0 gk (gv 0) (rz rfl Tp.z3 Cq gk dk)))) (yc (lJ (Cu hr) (Fp Tp.z4 gk (aq (gv 0) aC)) aF) (yc (kO (lA (gc Fk.Oa Tp.Du hr bY gk (aq (dY (gv 0) aF) aC)))) (Jx (kO (zm6 zQ zQ aF (dY (gv 0) aF) aF))))))) (aH (cJ jB)
 aP) aP)
 (aH (gB (kO (lA (jC Tp.cs Tp.z0 gk (dY (gv 0) aF) (rz rfl Tp.z3 Cq gk dk)))) (aH (cJ jB)
 aP) aP)
 (aH (CJ Cz rfl rfl (rY (dY (gv 0) aF)) (Fx 1 nd rfl jl rfl) (aH (gB (Cw (yc (kO (lA (jC Tp.cs Tp.z0 gk (gv 1) (rz rfl Tp.z3 Cq gk dk)))) (yc (lJ (Cu hr) (Fp Tp.z4 gk (aq (gv 1) aC)) aF) (Jx (kO (lA (Fq rfl Tp.z6 gk (aq (uP (aA (top 69)) N50 ["_law_place"] [] [] rfl rfl rfl Bd Bd (xW 0) Bd (rY (gv 1)) (λ_ _ _ _ _ _=>(yg 0 Bd rfl Bd)) (λ_ _ _ _ _ _=>vP) (λ_ _ _ _ _ _=>(gc Fk.Oa Tp.Du hr rZ yw (aq (iu 0) aC)))) aC)))))))) (aH (cJ jB)
 aP) aP)
 (aH (gB (kO (zmA zQ (Cv hr) (Cv hr) aF (dY (gv 1) aF) (dY (gv 1) aF) (dY (gv 0) aF))) (aH (cJ jB)
 aP) aP)
 aP)))
 (aH (cJ (Jv (uM hr) (Zu Tp.Wf gk (aq (dY (gv 0) aF) aC)) (znX hr rfl Tp.Wg gk Tp.z15 gk (aq (dY (gv 0) aF) aC))))
 aP))))
 t51:=fJ Tp.Wc ["_law_pen_here","_law_some","_law_k"] znH λ_ _ _ _ _ _ hr=>(aH (jD 1 nd rfl jl rfl (gA (aq (bK (aq aF (aq aF aC))) (aq (bK (aq aF (aq aF aC))) (aq (bK (aq aF (aq aF aC))) (aq (bK (aq aF (aq aF aC))) (aq (bK (aq aF (aq aF aC))) (aq (bK (aq aF (aq aF aC))) (aq (bK (aq aF (aq aF aC))) (aq (bK (aq aF (aq aF aC))) (aq (bK (aq aF (aq aF aC))) (aq (bK (aq aF (aq aF aC))) (aq (bK (aq aF (aq aF aC))) (aq (bK (aq aF (aq aF aC))) aC))))))))))))))
 (aH (gB (lJ (uM hr) (gc Fk.pP Tp.oA hr bY gk (aq (gv 0) (aq aF aC))) aF) (aH (jD 2 nd rfl jl rfl (cj iW aF (cj Fl (gc Fk.pP Tp.oA hr bY gk (aq (gv 0) (aq aF aC))) aF)))
 (aH (cJ (bK (aq (gv 2) (aq (Zr rfl Tp.z9 gk (aq aF (aq (cj Zk (gc Fk.pP Tp.oA hr bY gk (aq (gv 0) (aq (gv 2) aC))) aF) aC))) aC))))
 aP)) aP)
 (aH (cJ (dY (gv 1) (gc Fk.pP Tp.oA hr bY gk (aq (gv 0) (aq aF aC)))))
 aP)))
 t52:=fJ Tp.Wd N52 znx λ_ _ _ _ _ _ hr=>(aH (gB (Cw (yc (kO (lA (jC Tp.cs Tp.z0 gk (gv 0) (rz rfl Tp.z3 Cq gk dk)))) (yc (lJ (Cu hr) (Fp Tp.z4 gk (aq (gv 0) aC)) aF) (Jx (kO (lA (Fq rfl Tp.z6 gk (aq (uP (aA (top 71)) N52 ["_law_one"] [] [] rfl rfl rfl Bd Bd (xW 0) Bd (rY (gv 0)) (λ_ _ _ _ _ _=>(yg 0 Bd rfl Bd)) (λ_ _ _ _ _ _=>vP) (λ_ _ _ _ _ _=>(gc Fk.Oa Tp.Du hr rZ yw (aq (iu 0) aC)))) aC)))))))) (aH (cJ jB)
 aP) aP)
 (aH (cJ (zni zQ zQ zQ aF (dY (gv 0) aF) (dY (gv 0) aF) aF))
 aP))
 Wo:=fJ Tp.N6 ["_law_pen_here","_law_web_here","_law_many","_law_ties","_law_at","_law_some","_law_odd_here","_law_ahead","_law_behind","_law_rows"] znV λ_ _ _ _ _ _ hr=>(aH (CG 2 3 rfl rfl nd rfl rfl jl jl rfl rfl (gv 1))
 (aH (jD 4 nd rfl jl rfl (gc Fk.pP Tp.oA hr bY gk (aq (gv 0) (aq (cj iW (Fp Tp.z4 gk (aq (gv 3) aC)) aF) aC))))
 (aH (jD 5 nd rfl jl rfl (gA (aq (bK (aq aF (aq aF aC))) (aq (bK (aq aF (aq aF aC))) (aq (bK (aq aF (aq (gv 2) aC))) (aq (bK (aq (MN aF) (aq aF aC))) (aq (bK (aq jB (aq jB aC))) (aq (bK (aq aF (aq jB aC))) (aq (bK (aq aF aC)) (aq (bK (aq aF (aq aF (aq aF aC)))) (aq (gA (aq aF (aq aF aC))) (aq m8 aC))))))))))))
 (aH (jD 6 nd rfl jl rfl (dY (gv 5) (gc Fk.pP Tp.oA hr bY gk (aq (gv 0) (aq aF aC)))))
 (aH (zmJ 7 8 rfl rfl nd rfl rfl UJ jl jl (zR (gv 3) Cy (yd (gv 4))) (zR (gv 3) (yd (cj iW (gv 4) aF)) Cy) rfl)
 (aH (gB (lJ (uM hr) (gc Fk.pP Tp.oA hr bY gk (aq (gv 0) (aq aF aC))) aF) (aH (jD 9 nd rfl jl rfl (gA (aq (cj iW (cj iW (gv 7) (bK (aq (gv 6) aC))) (gv 8)) (aq (cj iW (cj iW (gv 7) (bK (aq (gv 6) aC))) (zR (gv 3) (yd (gv 4)) Cy)) (aq (zmK (gv 3)) (aq (Zu Tp.Wf gk (aq (gv 3) aC)) (aq (cj iW (gv 3) (zR (gv 3) Cy (yd aF))) aC)))))))
 (aH (jD 9 nd rfl jl rfl (cj iW (gv 9) (gA (aq (cj iW (gv 7) (gv 8)) (aq (bK (aq (gv 3) aC)) (aq (cj iW (zR (gv 3) (yd (gv 4)) Cy) (gv 7)) (aq (cj iW (cj iW (gv 7) (bK (aq (bK (aq aF (aq aF aC))) aC))) (zR (gv 3) (yd (gv 4)) Cy)) aC)))))))
 (aH (cJ (bK (aq (gv 2) (aq (dY (gv 9) (gc Fk.pP Tp.oA hr bY gk (aq (gv 0) (aq aF aC)))) aC))))
 aP))) aP)
 (aH (jD 5 nd rfl jl rfl (gA (aq (bK (aq (cj iW (gv 2) aF) (aq (gv 3) aC))) (aq (bK (aq (cj uJ (gv 2) aF) (aq (gv 3) aC))) (aq (bK (aq jB (aq (gv 3) aC))) (aq (bK (aq aF (aq (gv 3) aC))) (aq (bK (aq aF (aq (bK aC) aC))) (aq (bK (aq m8 (aq (gv 3) aC))) aC))))))))
 (aH (jD 5 nd rfl jl rfl (cj iW (gv 5) (gA (aq (gA (aq (gv 2) (aq (gv 3) aC))) (aq (bK (aq (gv 2) (aq (gv 3) (aq aF aC)))) (aq (bK (aq (gv 2) aC)) (aq (bK (aq (zlC Tp.z16 gk (aq (gv 2) aC)) (aq (gv 3) aC))) (aq (bK (aq (gv 3) (aq (gv 2) aC))) (aq (gv 3) aC)))))))))
 (aH (cJ (dY (gv 5) (gc Fk.pP Tp.oA hr bY gk (aq (gv 0) (aq aF aC)))))
 aP)))))))))
 Wq:=fJ Tp.N7 ["_law_pen_here","_law_ring_here","_law_k","_law_d","_law_some"] znF λ_ _ _ _ _ _ hr=>(aH (CG 2 3 rfl rfl nd rfl rfl jl jl rfl rfl (gv 1))
 (aH (jD 4 nd rfl jl rfl (gA (aq (bK (aq (gv 2) (aq (cj iW (gv 2) aF) aC))) (aq (bK (aq aF (aq aF aC))) (aq (bK (aq aF (aq aF aC))) (aq (bK (aq (gv 2) (aq aF aC))) (aq (bK (aq jB (aq aF aC))) (aq (bK (aq (gv 2) (aq (gv 3) (aq aF aC)))) (aq (gA (aq (gv 2) (aq (gv 3) aC))) (aq (bK (aq (gv 2) aC)) (aq m8 aC)))))))))))
 (aH (cJ (dY (cj iW (gv 4) (gA (aq (bK (aq (gv 3) (aq (gv 2) aC))) (aq jo (aq (bK (aq (cj uJ aF (gv 2)) (aq (gv 3) aC))) aC))))) (gc Fk.pP Tp.oA hr bY gk (aq (gv 0) (aq aF aC)))))
 aP)))
 Ob:=fJ Tp.Ky ["_law_way","_law_web_here","_law_ring_here","_law_thing","_law_e"] znB λ_ _ _ _ _ _ hr=>(aH (znp 4 (dc:=0) rfl rfl ⟨rfl,rfl⟩ gk Tp.c0 nd rfl jl Tp.s0 (λ_ _ _ R' hp'=>(aH (gB (lJ (uM hr) (gv 0) aF) (aH (qy (gc Fk.t26 Tp.V3 hr R' gk (aq (gv 1) (aq (gv 2) aC))))
 aP) (aH (gB (lJ (uM hr) (gv 0) aF) (aH (qy (gc Fk.t27 Tp.V4 hr R' gk (aq (gv 1) (aq (gv 2) (aq (gv 3) aC)))))
 aP) (aH (gB (lJ (uM hr) (gv 0) aF) (aH (qy (gc Fk.Wi Tp.NQ hr R' gk (aq (gv 1) (aq (gv 2) (aq (gv 3) aC)))))
 aP) (aH (gB (lJ (uM hr) (gv 0) aF) (aH (qy (gc Fk.t35 Tp.V6 hr R' gk (aq (gv 1) (aq (gv 2) (aq (gv 3) (aq m8 aC))))))
 aP) (aH (qy (gc Fk.t36 Tp.V7 hr R' gk (aq (gv 1) (aq (gv 2) (aq (gv 3) aC)))))
 aP))
 aP))
 aP))
 aP))
 aP)) (λ_=>(aH (cJ (bK (aq (gc Fk.Wn Tp.N5 (MK hr) rZ gk (aq (gv 4) aC)) (aq (zmZ (Cw (Zq (lJ (uM (MK hr)) (gc Fk.Wn Tp.N5 (MK hr) rZ gk (aq (gv 4) aC)) jo) (Zo (lA (gc Fk.q45 Tp.Du (MK hr) rZ gk (aq (ZK Tp.vd (gv 4) (by kernel_rfl)) aC)))))) (ZK Tp.vd (gv 4) (by kernel_rfl)) m8) aC))))
 aP)) dk)
 (aH (cJ (bK (aq jo (aq m8 aC))))
 aP))
 t56:=fJ Tp.N8 NK znP λ_ _ _ _ _ _ hr=>(aH (CJ Cz rfl rfl (rY (cj iW (gA (aq (gc Fk.t42 Tp.V8 hr bY gk (aq (gv 0) (aq aF aC))) aC)) (zR (gv 0) (yd aF) (yd aF)))) (Fx 1 nd rfl jl rfl) (aH (jD 2 nd rfl jl rfl (gc Fk.t43 Tp.V9 hr bY gk (aq (gv 1) aC)))
 (aH (CG 3 4 rfl rfl nd rfl rfl jc jc rfl rfl (bK (aq (gc Fk.t49 Tp.Wa hr bY gk (aq (gv 2) (aq (gc Fk.t48 Tp.V_ hr bY gk (aq (gv 2) aC)) aC))) (aq (gc Fk.t51 Tp.Wc hr bY gk (aq (gv 2) aC)) aC))))
 (aH (gB (Cw (Zq (lJ (uM hr) (dY (gv 3) aF) aF) (Zo (lJ zn1 (dY (gv 4) aF) aF)))) (aH (jD 4 nd rfl jc rfl (bK (aq aF (aq aF aC))))
 aP) aP)
 (aH (CJ Cz rfl rfl (rY (gA (aq (gc Fk.Wo Tp.N6 hr bY gk (aq (gv 2) (aq (gv 3) aC))) (aq (gc Fk.Wo Tp.N6 hr bY gk (aq (gv 2) (aq (gv 3) aC))) (aq (gc Fk.Wm Tp.NZ hr bY gk (aq (gv 2) aC)) (aq m8 aC)))))) (Fx 5 nd rfl jc rfl) (aH (gB (kO (lA (gc Fk.t50 Tp.Wb hr bY gk (aq (gv 5) aC)))) (aH (gB (lJ (Cu hr) (uP (aA (top 75)) NK ["_law_way"] ["_law_thing"] [5] rfl rfl rfl Bd Bd (xW 0) Bd (S8 Tp.FW gk aF) (λ_ _ _ _ _ _=>(yg 0 Bd rfl Bd)) (λ_ _ _ _ _ _=>vP) (λ_ _ _ _ _ _=>(gc Fk.Ob Tp.Ky hr rZ yw (aq (iu 0) (aq (iu 1) (aq m8 (aq m8 aC))))))) (cj Nq (gA (aq (bK (aq jo (aq (MN aF) aC))) aC)) aF)) (aH (cJ jB)
 aP) aP)
 aP) aP)
 aP))
 (aH (CJ Cz rfl rfl (rY (gA (aq (gc Fk.Wq Tp.N7 hr bY gk (aq (gv 2) (aq (gv 4) aC))) (aq (gc Fk.Wq Tp.N7 hr bY gk (aq (gv 2) (aq (gv 4) aC))) (aq (gc Fk.Wm Tp.NZ hr bY gk (aq (gv 2) aC)) (aq m8 aC)))))) (Fx 5 nd rfl jc rfl) (aH (gB (kO (lA (gc Fk.t52 Tp.Wd hr bY gk (aq (gv 5) aC)))) (aH (gB (lJ (Cu hr) (uP (aA (top 75)) NK ["_law_way"] ["_law_web_here","_law_thing"] [3,5] rfl rfl rfl Bd Bd (xW 0) Bd (S8 Tp.FW gk aF) (λ_ _ _ _ _ _=>(yg 0 Bd rfl Bd)) (λ_ _ _ _ _ _=>vP) (λ_ _ _ _ _ _=>(gc Fk.Ob Tp.Ky hr rZ yw (aq (iu 0) (aq (iu 1) (aq (iu 2) (aq m8 aC))))))) (cj Nq (gA (aq (bK (aq jo (aq m8 aC))) aC)) aF)) (aH (cJ jB)
 aP) aP)
 aP) aP)
 aP))
 (aH (CJ Cz rfl rfl (rY (gA (aq m8 (aq (bK aC) (aq (cj U8 (bK (aq aF aC)) aF) (aq (cj Nq (gA (aq m8 aC)) (dY (gv 3) aF)) (aq (cj U8 (bK (aq jB aC)) (dY (gv 3) aF)) (aq (cj U8 (bK (aq (dY (gv 4) aF) aC)) (dY (gv 3) aF)) (aq jo aC))))))))) (Fx 5 nd rfl jc rfl) (aH (gB (lJ (Cu hr) (uP (aA (top 75)) NK ["_law_way"] ["_law_web_here","_law_ring_here","_law_thing"] [3,4,5] rfl rfl rfl Bd Bd (xW 0) Bd (Zv Tp.FW gk aF aF) (λ_ _ _ _ _ _=>(yg 0 Bd rfl Bd)) (λ_ _ _ _ _ _=>vP) (λ_ _ _ _ _ _=>(gc Fk.Ob Tp.Ky hr rZ yw (aq (iu 0) (aq (iu 1) (aq (iu 2) (aq (iu 3) aC))))))) (cj Nq (gA (aq (bK (aq jo (aq m8 aC))) aC)) aF)) (aH (cJ jB)
 aP) aP)
 aP))
 aP)))))))
 (aH (cJ jB)
 aP))
theorem zid(Tp:Top K mg):∀k,Fs P w K mg base k
 |0=>⟨dX,dX,dX,dX,dX,dX,dX,dX,dX,dX,dX,dX,dX,dX,dX,dX,dX,dX,dX,dX,dX,dX,dX,dX,dX,dX,dX,dX,dX,dX,dX,dX,dX,dX,dX,dX,dX,dX,dX⟩
 |k+1=>ziL Tp (zid Tp k)
end
theorem all_mk{l:PySem.W.OpenLaw}{w:World}{K:W.Frag}{h:Heap}{mg:Str->Option Value}{fa:Addr}(hm:∀ns:List Int,ns.length<=63->∃s',call ao T 60 true 56 [.d (.fl (ns.map D.int))] []=some (.ok (.d (.bl true)),s'))
  (S:iY fs ms xs lk K) (X:K.In h) (G:h.Ns mainGlobals mg) (Wr:mg "law"=some (.ref fa)) :
  ∃fd:FuncData,(∀(s:Shared) (u:Value),BindsTo s fd ⟨[u],[]⟩ [("_law_script",u)])/\∀base:Heap,K.In base->base.Ns mainGlobals mg->eE l.prog w K mg base (lq l.prog w) true 60 fa fd ["_law_script"] (uI K):=by
 have Tp:Top K mg:=zkU S X G;have e:=Wr.symm.trans Tp.N8.m;cases e;exact⟨_,CK Tp.N8.f (λ_ _ _ _ _ _ _=>rfl),λbase _ _=>(zid Tp 60).t56.imp (zjo hm)⟩
end eO
namespace eO
open PySem Mi
def mX(o:SO):Prop:=∃a b:Int,o=.lst [.int a,.int b]/\0<=a/\(b=0\/b=1)
theorem zkq{k:Nat}{o:SO}{m:Int}(ho:mX o)(hm:0<m)(Ml:m<1073741824):W (call ao T (k+1) true 44 [.l 0,.d (.int m)]) [o] λv s=>∃d o',v=.d d/\s=[o']/\(∃r:Int,d=.int r/\0<=r/\r<m)/\mX o':=by
 obtain⟨a,b,rfl,ha,hb⟩:=ho;refine W.call znS rfl ?_;unfold Vr;rcases hb with rfl|rfl
 ·refine Y ?_;exact⟨_,_,rfl,rfl,⟨_,rfl,Int.emod_nonneg _ gV,Int.emod_lt_of_pos _ hm⟩,⟨_,_,rfl,Int.emod_nonneg _ UJ,.inl rfl⟩⟩
 ·refine Y ?_;exact⟨_,_,rfl,rfl,⟨_,rfl,Int.emod_nonneg _ gV,Int.emod_lt_of_pos _ hm⟩,⟨_,_,rfl,Int.ediv_nonneg ha gV,.inr rfl⟩⟩
theorem znc{k:Nat}{n:Int}:W (call ao T (k+1) true 43 [.d (.int n)]) [] λv s=>∃i o,v=.l i/\s[i]?=some o/\mX o:=by
 refine W.call znO rfl ?_;unfold Vq;refine Y ?_;refine⟨0,_,rfl,rfl,⟨_,_,rfl,?_,?_⟩⟩
 ·split<;>lia
 ·have:∀c:Bool,(if c=true then (1:Int) else 0)=0\/(if c=true then (1:Int) else 0)=1:=by intro c;cases c<;>simp
  exact this _
theorem qI{k:Nat}{o:SO}{m:Int}{P:Xv->S->Prop}(ho:mX o)(hm:0<m)(Ml:m<1073741824)(h:∀(r:Nat) o',(r:Int)<m->mX o'->P (.d (.int r)) [o']):W (cC (call ao T (k+1) true 44) [.l 0,.d (.int m)]) [o] P:=by
 refine ZV (n:=0) (o:=o) rfl rfl ((zkq ho hm Ml).imp λv s=>?_);rintro⟨d,o',rfl,rfl,⟨r,rfl,h0,h1⟩,hp⟩;obtain⟨n,rfl⟩:=Oh h0;exact⟨_,_,rfl,rfl,h n o' h1 hp⟩
theorem zlz{k:Nat}{ns:List Int}:W (call ao T (k+1) true 42 [.d (.fl (ns.map D.int)),.d (.int 0)]) [] λv _=>∃n,v=.d (.int n):=by
 refine W.call znI rfl ?_;unfold Vp;cases ns with
 |nil=>
  refine Y ?_;exact⟨_,rfl⟩
 |cons n r=>
  refine Y ?_;refine WS.ite (λ_=>?_) (λ_=>?_)
  ·refine Y ?_;refine g8 (CV (i:=0) (x:=.int n) rfl) ?_;refine Y ?_;exact⟨_,rfl⟩
  ·refine Y ?_;exact⟨_,rfl⟩
theorem zlk{k:Nat}{o:SO}(ho:mX o):W (call ao T (k+2) true 48 [.l 0]) [o] λv s=>∃(n:Nat) (o':SO),v=.d (.int n)/\s=[o']/\(1<=n/\n<=8)/\mX o':=by
 refine W.call znD rfl ?_;unfold Vu;refine Y ?_;refine qI ho UJ UJ λr o' hr hp=>?_;refine Y ?_;have m6:r<12:=by lia
 refine g8 (CV (x:=.int (([1,2,3,4,5,6,4,5,3,6,7,8]:List Nat)[r]'m6:Nat)) ?_) ?_
 ·revert m6;revert r;intro r _ m6;exact match r,m6 with
  |0,_=>rfl|1,_=>rfl|2,_=>rfl|3,_=>rfl|4,_=>rfl|5,_=>rfl|6,_=>rfl|7,_=>rfl|8,_=>rfl|9,_=>rfl|10,_=>rfl|11,_=>rfl
  |n+12,h=>absurd h gV
 ·refine Y ?_;refine⟨_,_,rfl,rfl,?_,hp⟩;have key:∀n∈([1,2,3,4,5,6,4,5,3,6,7,8]:List Nat),1<=n/\n<=8:=by decide
  exact key _ (qK _)
theorem zjQ{k:Nat}{i:Int}:W (call ao T (k+1) true 0 [.d (.int i)]) [] λv s=>v=.d (.bl true):=W.eq (a:=.d (.bl true)) (s':=[]) rfl rfl
theorem zht{k:Nat}{i a b:Int}:W (call ao T (k+2) true 1 [.d (.int i),.d (.int a),.d (.int b)]) [] λv s=>v=.d (.bl (decide (a<=i/\i<=b))):=by
 refine W.call T_1 rfl ?_;unfold b1;refine Y ?_;refine W.c0 zjQ ?_;refine Y ?_;refine W.ite (λh1=>?_) (λh1=>?_)
 ·refine Y ?_;have:=lO h1;simp[this]
 ·refine Y ?_;simp at h1;have:¬(a<=i/\i<=b):=by lia
  simp[this]
theorem Ws{k:Nat}{d:D}(h:jr d=true):W (call ao T (k+1) true 45 [.d d]) [] λv s=>v=.d (.bl (TJ d)):=by
 cases d with
 |exc _ _=>cases h
 |ob _ _=>cases h
 |any=>cases h
 |_=>exact W.eq (a:=_) (s':=[]) rfl rfl
theorem Kz{k:Nat}{d:D}{n:Int}(h:jr d=true):W (call ao T (k+1) true 2 [.d d,.d (.int n)]) [] λv s=>v=.d (.bl (mV n d)):=by
 cases d with
 |exc _ _=>cases h
 |ob _ _=>cases h
 |any=>cases h
 |tup xs=>
  refine W.call T_2 rfl ?_;unfold b2;refine Y ?_;show Xv.d (D.bl (id (((xs.length:Nat):Int)==n)))=_
  congr 2
 |_=>exact W.eq (a:=_) (s':=[]) rfl rfl
theorem FZ{k:Nat}{d:D}{a b:Int}(h:jr d=true):W (call ao T (k+2) true 1 [.d d,.d (.int a),.d (.int b)]) [] λv s=>v=.d (.bl (kW a b d)):=by
 cases d with
 |exc _ _=>cases h
 |ob _ _=>cases h
 |any=>cases h
 |int i=>exact zht
 |_=>exact W.eq (a:=_) (s':=[]) rfl rfl
theorem zf9{k:Nat}{d:D}{n:Int}(h:jr d=true):W (call ao T (k+3) true 5 [.d (.int n),.d d]) [] λv s=>v=.d (.bl (kW 0 (n-1) d)):=by
 refine W.call T_5 rfl ?_;unfold b5;refine Y ?_;exact W.aY rfl ((FZ h).imp λv s e=>⟨_,e,rfl⟩)
theorem zlw{k:Nat}{d:D}(h:jr d=true):W (call ao T (k+3) true 4 [.d d]) [] λv s=>v=.d (.bl (kW 1 8 d)):=by
 refine W.call T_4 rfl ?_;unfold b4;refine Y ?_;exact W.aY rfl ((FZ h).imp λv s e=>⟨_,e,rfl⟩)
theorem zmu{k:Nat}{d:D}{n:Int}(h:eG d=true):W (call ao T (k+4) true 6 [.d (.int n),.d d]) [] λv s=>v=.d (.bl (cX n d)):=by
 refine W.call T_6 rfl ?_;unfold b6;refine Y ?_;refine W.c0 (Kz (Ks h)) ?_;cases d with
 |tup xs=>
  by_cases h2:xs.length=2
  ·obtain⟨x,y,rfl⟩:=FN h2;have hx:jr x=true:=by simp only[eG,jG,cG] at h;exact h.1
   have hy:jr y=true:=by simp only[eG,jG,cG] at h;exact h.2.1
   rw[show mV 2 (.tup [x,y])=true from rfl];refine Y ?_;refine W.c0 (zf9 hx) ?_;cases x with
   |int a=>
    by_cases ha:0<=a/\a<=n-1
    ·rw[show kW 0 (n-1) (.int a)=true from dR ha];refine Y ?_;refine W.c0 (zf9 hy) ?_;cases y with
     |int b=>
      by_cases hb:0<=b/\b<=n-1
      ·rw[show kW 0 (n-1) (.int b)=true from dR hb];refine Y ?_;show Xv.d (.bl (decide (a<b)))=.d (.bl (decide (0<=a/\a<b/\b<n)));rw[wz.mpr (show a<b↔0<=a/\a<b/\b<n by lia)]
      ·rw[show kW 0 (n-1) (.int b)=false from cU hb];refine Y ?_;show Xv.d (.bl false)=.d (.bl (decide (0<=a/\a<b/\b<n)));rw[cU gV]
     |exc _ _=>cases hy
     |ob _ _=>cases hy
     |any=>cases hy
     |_=>exact Y rfl
    ·rw[show kW 0 (n-1) (.int a)=false from cU ha];refine Y ?_;show Xv.d (.bl false)=.d (.bl (cX n (.tup [.int a,y])));cases y with
     |int b=>
      show Xv.d (.bl false)=.d (.bl (decide (0<=a/\a<b/\b<n)));rw[cU gV]
     |_=>rfl
   |_=>exact Y rfl
  ·rw[U9 h2,zd6 h2];exact Y trivial
 |_=>exact Y rfl
theorem zgG{k:Nat}{d:D}(h:Dt d=true)(hl:Vb d):W (call ao T (k+5) true 3 [.d d]) [] λv s=>v=.d (.bl (nU d)):=by
 have hs:(200:Nat)<=sizeLine:=by decide
 refine W.call T_3 rfl ?_;unfold b3;refine Y ?_;refine W.c0 (Kz (show jr d=true by cases d<;>first|rfl|cases h)) ?_;cases d with
 |tup xs=>
  by_cases h2:xs.length=2
  ·obtain⟨x,y,rfl⟩:=FN h2;have hx:Ds x=true:=by simp only[Dt,jG,cG] at h;exact h.1
   have hy:Ds y=true:=by simp only[Dt,jG,cG] at h;exact h.2.1
   rw[show mV 2 (.tup [x,y])=true from rfl];refine Y ?_;refine W.c0 (zlw (zj8 hx)) ?_;cases x with
   |int n=>
    by_cases hn:1<=n/\n<=8
    ·rw[show kW 1 8 (.int n)=true from dR hn];cases y with
     |tup ys=>
      have hyl:=hl _ _ rfl;have hy:∀t∈ys,eG t=true:=fX.mp hy;refine Y ?_;refine vU (l:=ys) (f:=λx=>x) (λt=>some (.bl (cX n t))) gV ?_ (λt ht=>?_) ?_
      ·refine Y ?_;rw[List.map_id'];exact⟨rfl,rfl⟩
      ·refine Y ?_;refine⟨rfl,λ_=>?_,λhb=>by cases hb⟩;refine Y ?_;exact W.aY rfl ((zmu (hy t ht)).imp λv s e=>⟨_,e,rfl,_,rfl,rfl⟩)
      rw[C_];refine Y ?_;refine g8 M7 ?_;show _;have ew:nU (.tup [.int n,.tup ys])=(decide (1<=n/\n<=8)&&ys.all (cX n)&&iK (fW ys)):=rfl;rw[ew,dR hn];cases ha:ys.all (cX n)
      ·exact Y rfl
      ·obtain⟨e,ht⟩:=U_ ha;generalize fW ys=ps at e ht;subst e;rw[bZ] at hyl;refine Y ?_;refine vU (l:=ps.zip (ps.drop 1)) (f:=λe=>.tup [cZ e.1,cZ e.2]) (λe=>some (.bl (g_ e.1 e.2))) (by rw[List.length_zip];lia) ?_ (λt ht=>?_) ?_
       ·refine Y ?_;rw[Tz,<-List.map_drop,zlb];exact⟨rfl,rfl⟩
       ·refine Y ?_;refine⟨rfl,λ_=>?_,λhb=>by cases hb⟩;refine Y ?_;rw[<-ziv];exact⟨rfl,_,rfl,rfl⟩
       rw[C_];refine Y ?_;refine g8 M7 ?_;rfl
     |exc _ _=>cases hy
     |ob _ _=>cases hy
     |any=>cases hy
     |_=>exact Y rfl
    ·rw[show kW 1 8 (.int n)=false from cU hn];refine Y ?_;show Xv.d (.bl false)=.d (.bl (nU (.tup [.int n,y])));cases y with
     |tup ys=>
      show Xv.d (.bl false)=.d (.bl (decide (1<=n/\n<=8)&&ys.all (cX n)&&iK (fW ys)));rw[cU hn];rfl
     |_=>rfl
   |_=>exact Y rfl
  ·rw[U9 h2,zfP h2];exact Y trivial
 |_=>exact Y rfl
theorem zdW{k':Nat}{d:D}(h:eG d=true):W (call ao T (k'+3) true 18 [.d d]) [] λv s=>v=.d (.bl (rD d)):=by
 refine W.call znw rfl ?_;unfold Ve;refine Y ?_;refine W.c0 (Kz (Ks h)) ?_;cases d with
 |tup xs=>
  by_cases h2:xs.length=2
  ·obtain⟨x,y,rfl⟩:=FN h2;have hx:jr x=true:=by simp only[eG,jG,cG] at h;exact h.1
   have hy:jr y=true:=by simp only[eG,jG,cG] at h;exact h.2.1
   rw[show mV 2 (.tup [x,y])=true from rfl];refine Y ?_;refine W.c0 (FZ hx) ?_;cases x with
   |int a=>
    by_cases ha:1<=a/\a<=24
    ·rw[show kW 1 24 (.int a)=true from dR ha];refine Y ?_;refine W.c0 (FZ hy) ?_;cases y with
     |int b=>
      show Xv.d (.bl (decide (1<=b/\b<=a)))=.d (.bl (decide (1<=a/\a<=24)&&decide (1<=b/\b<=a)));rw[dR ha];rfl
     |exc _ _=>cases hy
     |ob _ _=>cases hy
     |any=>cases hy
     |_=>rfl
    ·rw[show kW 1 24 (.int a)=false from cU ha];refine Y ?_;show Xv.d (.bl false)=.d (.bl (rD (.tup [.int a,y])));cases y with
     |int b=>
      show Xv.d (.bl false)=.d (.bl (decide (1<=a/\a<=24)&&decide (1<=b/\b<=a)));rw[cU ha];rfl
     |_=>rfl
   |_=>exact Y rfl
  ·rw[U9 h2,zfX h2];exact Y trivial
 |_=>exact Y rfl
theorem zft{k':Nat}{d:D}(h:eG d=true):W (call ao T (k'+2) true 52 [.d d]) [] λv s=>v=.d (.bl (rD d)):=by
 have hs:(200:Nat)<=sizeLine:=by decide
 refine W.call znx rfl ?_;unfold Vy;cases d with
 |tup us=>
  by_cases h2:us.length=2
  ·obtain⟨p,q,rfl⟩:=FN h2;have hp:jr p=true:=by simp only[eG,jG,cG] at h;exact h.1
   have hq:jr q=true:=by simp only[eG,jG,cG] at h;exact h.2.1
   refine Y ?_;refine vU (l:=[p,q]) (f:=λx=>x) (λt=>some (.bl (TJ t))) (by show 2<=_;lia) ?_ (λt ht=>?_) ?_
   ·refine Y ?_;exact⟨rfl,rfl⟩
   ·refine Y ?_;refine⟨rfl,λ_=>?_,λhb=>by cases hb⟩;refine Y ?_;refine W.aY rfl ((Ws (d:=t) ?_).imp λv s e=>⟨_,e,rfl,_,rfl,rfl⟩);simp only[cH,mZ,lR] at ht;rcases ht with rfl|rfl
    ·exact hp
    ·exact hq
   rw[C_];refine Y ?_;cases p with
   |int a=>
    cases q with
    |int b=>
     refine Y ?_;refine W.t_ ?_;refine Y ?_;rw[show rD (.tup [.int a,.int b])=(decide (1<=a/\a<=24)&&decide (1<=b/\b<=a)) from rfl];by_cases h1:1<=b
     ·rw[dR h1];refine Y ?_;by_cases h3:b<=a
      ·rw[dR h3];refine Y ?_;rw[dR (show 1<=b/\b<=a by lia),Bool.and_true,wz.mpr (show a<=24↔1<=a/\a<=24 by lia)]
      ·rw[cU h3,cU (show ¬(1<=b/\b<=a) by lia),Ai];exact Y trivial
     ·rw[cU h1,cU (show ¬(1<=b/\b<=a) by lia),Ai];exact Y trivial
    |_=>exact Y rfl
   |_=>exact Y rfl
  ·rw[zfX h2];refine Y ?_;refine W.ite (λ_=>?_) (λhb=>?_)
   ·exact Y trivial
   ·exact absurd hb (by simp;lia)
 |exc _ _=>cases h
 |ob _ _=>cases h
 |any=>cases h
 |_=>exact Y rfl
section
variable {n k d:Int}{ps:List (Int×Int)}
theorem zhc{k':Nat}{x:D}(h:jr x=true):W (call ao T (k'+3) true 19 [.d (bC k d),.d x]) [] λv s=>v=.d (.bl (kW 0 (k-1) x)):=by
 refine W.call VH rfl ?_;unfold Nv bC;refine Y ?_;exact W.aY rfl ((FZ h).imp λv s e=>⟨_,e,rfl⟩)
theorem ze3{k':Nat}{x:D}(h:eG x=true)(hl:∀xs,x=.tup xs->xs.length<=200):W (call ao T (k'+4) true 22 [.d (dM n ps),.d (bC k d),.d x]) [] λv s=>v=.d (.bl (rE n k x)):=by
 have hs:(200:Nat)<=sizeLine:=by decide
 refine W.call znt rfl ?_;unfold Vf dM;refine Y ?_;refine W.c0 (Kz (Ks h)) ?_;cases x with
 |tup xs=>
  have hx:∀y∈xs,jr y=true:=fX.mp h;have hxl:=hl xs rfl;rw[show rE n k (.tup xs)=(decide ((xs.length:Int)=n)&&xs.all (kW 0 (k-1))) from rfl];by_cases hn:(xs.length:Int)=n
  ·rw[show mV n (.tup xs)=true from dR hn,dR hn];refine Y ?_;refine vU (l:=xs) (f:=λx=>x) (λt=>some (.bl (kW 0 (k-1) t))) gV ?_ (λt ht=>?_) ?_
   ·refine Y ?_;rw[List.map_id'];exact⟨rfl,rfl⟩
   ·refine Y ?_;refine⟨rfl,λ_=>?_,λhb=>by cases hb⟩;refine Y ?_;exact W.aY rfl ((zhc (hx t ht)).imp λv s e=>⟨_,e,rfl,_,rfl,rfl⟩)
   rw[C_];refine Y ?_;refine g8 M7 ?_;rfl
  ·rw[show mV n (.tup xs)=false from cU hn,cU hn,Ah];exact Y trivial
 |_=>exact Y rfl
end
theorem Wt{k:Nat}{d:D}(h:qH d)(hb:nU d=false):WR (call ao T (k+6) true 7 [.d d]) [] 9 [.int (-1)]:=by
 refine WR.call VG rfl ?_;unfold b7;refine sE ?_;refine Y ?_;refine W.c0 (zgG h.1 h.2) ?_;rw[hb];refine W.bool (W.bool (WS.rA (sE ?_)));refine Y ?_;exact⟨⟨_,_,_,rfl⟩,⟨_,_,_,rfl⟩,_,rfl⟩
theorem KC{k:Nat}{d:D}(h:qH d)(hb:nU d=true):W (call ao T (k+6) true 7 [.d d]) [] λv s=>∃d,v=.d d:=by
 refine W.call VG rfl ?_;unfold b7;refine Y ?_;refine W.c0 (zgG h.1 h.2) ?_;rw[hb];refine Y ?_;exact⟨_,rfl⟩
theorem Wu{k:Nat}{d:D}(h:eG d=true)(hb:rD d=false):WR (call ao T (k+4) true 20 [.d d]) [] 1 []:=by
 refine WR.call VJ rfl ?_;unfold Ny;refine sE ?_;refine Y ?_;refine W.c0 (zdW h) ?_;rw[hb];refine W.bool (W.bool (WS.rA (sE ?_)));refine Y ?_;exact⟨⟨_,_,_,rfl⟩,⟨_,_,_,rfl⟩,_,rfl⟩
theorem zcg{k:Nat}{d:D}(h:eG d=true)(hb:rD d=true):W (call ao T (k+4) true 20 [.d d]) [] λv s=>∃d,v=.d d:=by
 refine W.call VJ rfl ?_;unfold Ny;refine Y ?_;refine W.c0 (zdW h) ?_;rw[hb];refine Y ?_;exact⟨_,rfl⟩
theorem znb{k':Nat}{k d a b:Int}:W (call ao T (k'+1) true 21 [.d (bC k d),.d (.int a),.d (.int b)]) [] λv s=>v=.d (.int (pN k a b)):=W.eq (a:=.d (.int (pN k a b))) (s':=[]) rfl rfl
section
variable {n k d:Int}{ps:List (Int×Int)}{hs:List Int}
theorem zi4{k':Nat}(h:Web n ps)(hl:(hs.length:Int)=n):W (call ao T (k'+2) true 25 [.d (dM n ps),.d (bC k d),.d (.tup (hs.map .int))]) [] λv s=>v=.d (Nu k d ps hs):=by
 refine W.call znN rfl ?_;unfold Vh;refine Y ?_;refine Ka7 (λi J s=>s=[]/\(∃(a b:Option Xv),J=[some (.d (dM n ps)),some (.d (bC k d)),some (.d (.tup (hs.map .int))),a,b])/\v9 k d (ps.take i) hs=[]) ⟨rfl,⟨_,_,rfl⟩,rfl⟩ (λi x J s e hI=>?_) (λJ s hI=>?_)
 ·obtain⟨rfl,⟨a,b,rfl⟩,hI⟩:=hI;rw[ju,m9] at e;obtain⟨p,ep,rfl⟩:=e;have ht:=h.tie p (gD ep);obtain⟨p1,p2⟩:=p;dsimp only at ht;refine Y ?_;refine g8 (zh1 gV gV) ?_;refine Y ?_;refine g8 (zh1 gV gV) ?_;refine Y ?_;refine W.c0 znb ?_;unfold bC;refine Y ?_;have et:ps.take (i+1)=ps.take i++[(p1,p2)]:=by rw[List.take_succ,ep];rfl
  have ec:v9 k d (ps.take (i+1)) hs=if pN k (at' hs p1) (at' hs p2)<d then [(p1,p2)] else []:=by
   unfold v9 at hI ⊢;rw[et,List.filter_append,hI,List.nil_append,List.filter_cons];simp only[List.filter_nil,DX]
  refine WS.ite (λhb=>?_) (λhb=>?_)
  ·have hb:=lO hb;rw[if_pos hb] at ec;refine Y ?_;refine .inr ⟨_,rfl,?_⟩;have:v9 k d ps hs=(p1,p2)::v9 k d (ps.drop (i+1)) hs:=by
    have e1:ps=ps.take (i+1)++ps.drop (i+1):=(Oo ..).symm;unfold v9 at ec ⊢
    conv=>lhs;rw[e1,List.filter_append,ec]
    rfl
   unfold Nu;rw[this];rfl
  ·have hb:¬pN k (at' hs p1) (at' hs p2)<d:=λz=>hb (dR z);rw[if_neg hb] at ec;refine Y ?_;exact .inl ⟨_,rfl,rfl,⟨_,_,rfl⟩,ec⟩
 ·obtain⟨rfl,⟨a,b,rfl⟩,hI⟩:=hI;rw[bZ,K9] at hI;refine Y ?_;unfold Nu;rw[hI]
end
theorem zgr{k:Nat}{o:SO}{n:Int}(ho:mX o)(h1:1<=n)(h8:n<=8):W (call ao T (k+2) true 49 [.l 0,.d (.int n)]) [o] λv s=>∃ps o',v=.d (dM n ps)/\s=[o']/\Web n ps/\mX o':=by
 refine W.call znv rfl ?_;unfold Vv;have hs:(100:Nat)<=sizeLine:=by decide
 refine Y ?_;refine qI ho UJ UJ λr o' hr hp=>?_;refine Y ?_;have m6:r<3:=by lia
 refine g8 (CV (x:=.int (([2,4,6]:List Int)[r]'m6)) ?_) ?_
 ·revert m6;revert r;intro r _ m6;exact match r,m6 with
  |0,_=>rfl|1,_=>rfl|2,_=>rfl
  |n+3,h=>absurd h gV
 generalize ([2,4,6]:List Int)[r]=often;refine Y ?_;refine⟨by rw[M6 gV gV,M6 gV gV];rfl,?_⟩;refine JD (λ(i:Nat) J s=>∃(ps:List (Int×Int)) (a:Option Xv) (o':SO),J=[some (.l 0),some (.d (.int n)),some (.d (.int often)),some (.d (.fl (ps.map cZ))),a]/\s=[o']/\mX o'/\(∀p∈ps,0<=p.1/\p.1<(i:Int)/\p.1<p.2/\p.2<n)/\ps.Pairwise lx/\ps.length<=7*i)
  ⟨[],_,_,rfl,rfl,hp,by simp,by simp,by simp⟩ (λi x J s e hI=>?_) (λJ s hI=>?_)
 ·obtain⟨ps,a,o',rfl,rfl,hp,ht,Dv,hlen⟩:=hI;obtain⟨rfl,hi⟩:=zl9 e;have hi8:i<8:=by lia
  refine Y ?_;refine Kao (c:=jk (0+(i:Int)+1) n) (λ(j:Nat) acc s=>∃(es:List Int) (o':SO),acc=es.map (λe=>cZ (0+(i:Int),e))/\es.Pairwise (·<·)/\(∀e∈es,(i:Int)<e/\e<(i:Int)+1+j)/\s=[o']/\mX o') ?_ (λj x acc s e hJ=>?_) (λacc s hJ=>?_)
  ·refine Y ?_;refine⟨by rw[M6 gV gV,M6 gV gV];rfl,?_⟩;exact⟨rfl,[],_,rfl,by simp,by simp,rfl,hp⟩
  ·obtain⟨es,o',rfl,vZ,Aa,rfl,hp⟩:=hJ;obtain⟨rfl,hj⟩:=zl9 e;have hel:(es.length:Int)<=(i:Int)+1+j-((i:Int)+1):=TF vZ (λe he=>by have:=Aa e he;lia) gV;refine Y ?_;refine qI hp UJ UJ λr o' hr hp=>?_;refine Y ?_;refine⟨λhb=>?_,λhb=>?_⟩
   ·refine Y ?_;refine⟨_,rfl,by rw[bZ];lia,es++[0+(i:Int)+1+j],o',?_,?_,?_,rfl,hp⟩
    ·rw[m_];rfl
    ·rw[Gh];refine⟨vZ,by simp,λa ha b hb=>?_⟩;simp at hb;have:=Aa a ha
     lia
    ·intro e he;rcases gK.mp he with he|he
     ·have:=Aa e he;lia
     ·simp at he;lia
   ·exact⟨es,o',rfl,vZ,λe he=>by have:=Aa e he;lia,rfl,hp⟩
  ·obtain⟨es,o',rfl,vZ,Aa,rfl,hp⟩:=hJ;rw[zh2] at Aa;have hel:(es.length:Int)<=n-((i:Int)+1):=TF vZ (λe he=>by have:=Aa e he;lia) gV;refine Y ?_;refine Fz (ZW ?_) ?_
   ·rw[bZ,bZ];lia
   refine Y ?_;refine⟨_,rfl,ps++es.map (λe=>(0+(i:Int),e)),some (.d (.int (0+(i:Int)))),o',?_,rfl,hp,?_,?_,?_⟩
   ·rw[m_,lQ];rfl
   ·intro p hp;rcases gK.mp hp with hp|hp
    ·have:=ht p hp;lia
    ·obtain⟨e,he,rfl⟩:=gG.mp hp;have:=Aa e he;dsimp only
     lia
   ·rw[Gh,sS];refine⟨Dv,vZ.imp λh=>.inr ⟨rfl,h⟩,λp hp q hq=>?_⟩;obtain⟨e,he,rfl⟩:=gG.mp hq;have:=ht p hp;exact .inl (by dsimp only;lia)
   ·rw[fK,bZ];lia
 ·obtain⟨ps,a,o',rfl,rfl,hp,ht,Dv,hlen⟩:=hI;rw[zh2] at ht hlen;refine Y ?_;refine vU (l:=ps) (f:=cZ) (λp=>some (cZ (n-1-p.2,n-1-p.1))) gV ?_ (λp hpm=>?_) ?_
  ·refine Y ?_;exact⟨rfl,rfl⟩
  ·obtain⟨p1,p2⟩:=p;refine Y ?_;refine⟨rfl,λ_=>?_,λhb=>by cases hb⟩;refine Y ?_;exact⟨rfl,_,rfl,rfl⟩
  have nd:(ps.map λp=>(n-1-p.2,n-1-p.1)).Nodup:=by
   have:=zgS Dv;unfold List.Nodup at this ⊢;rw[sS];refine this.imp λ{p q} h e=>h ?_;obtain⟨p1,p2⟩:=p;obtain⟨q1,q2⟩:=q;simp only[Prod.mk.injEq] at e ⊢
   lia
  obtain⟨qs,es,zp,zu,hq3⟩:=ziA (by rw[bZ];lia) nd;have e2:ps.filterMap (λp=>some (cZ (n-1-p.2,n-1-p.1)))=(ps.map λp=>(n-1-p.2,n-1-p.1)).map cZ:=by
   rw[C_,lQ];rfl
  rw[e2];refine Y ?_;refine Fz (zgy es) ?_;refine Y ?_;rw[bZ] at hq3;refine⟨qs,o',rfl,rfl,⟨h1,h8,λp hp=>?_,zp,by lia⟩,hp⟩;obtain⟨q,hq,rfl⟩:=gG.mp ((zu p).mp hp);have:=ht q hq;dsimp only
  lia
theorem zb8{k':Nat}{o:SO}{k d:Int}(ho:mX o):W (call ao T (k'+2) true 54 [.l 0,.d (bC k d)]) [o] λv s=>∃(x:D) (o':SO),v=.d x/\s=[o']/\eG x=true/\mX o':=by
 refine W.call znF rfl ?_;unfold VB bC;refine Y ?_;refine qI ho UJ UJ λr o1 hr hp=>?_;refine Y ?_;obtain⟨x,ex,hx⟩:=Nr (xs:=[.tup [.int k,.int (k+1)],.tup [.int 0,.int 0],.tup [.int 25,.int 1],.tup [.int k,.int 0],.tup [.bl true,.int 1],.tup [.int k,.int d,.int 1],.fl [.int k,.int d],.tup [.int k],.non,.tup [.int d,.int k],.str "5/2",.tup [.int (0-k),.int d]]) (r:=r) (by show r<12;lia);refine g8 ex ?_;refine Y ?_;refine⟨_,_,rfl,rfl,?_,hp⟩;clear ex;simp only[cH,mZ,lR] at hx;rcases hx with rfl|rfl|rfl|rfl|rfl|rfl|rfl|rfl|rfl|rfl|rfl|rfl
 all_goals rfl
theorem Wv{n:Int}{ps:List (Int×Int)}(h:Web n ps):qH (dM n ps):=zlp (by have:=h.len;have:=h.h8;lia)
theorem zhx{k:Nat}{d:D}(h:Dt d=true)(hl:Vb d):W (call ao T (k+2) true 50 [.d d]) [] λv s=>v=.d (.bl (nU d)):=by
 have hs:(200:Nat)<=sizeLine:=by decide
 refine W.call znJ rfl ?_;unfold Vw;cases d with
 |tup xs=>
  by_cases h2:xs.length=2
  ·obtain⟨x,y,rfl⟩:=FN h2;have hx:Ds x=true:=by simp only[Dt,jG,cG] at h;exact h.1
   have hy:Ds y=true:=by simp only[Dt,jG,cG] at h;exact h.2.1
   refine Y ?_;refine W.c0 (Ws (zj8 hx)) ?_;cases x with
   |int n=>
    refine Y ?_;by_cases hn:1<=n/\n<=8
    ·rw[dR hn.1];refine Y ?_;rw[dR hn.2];cases y with
     |tup ys=>
      have hyl:=hl _ _ rfl;have hy:∀t∈ys,eG t=true:=fX.mp hy;have ew:nU (.tup [.int n,.tup ys])=(decide (1<=n/\n<=8)&&ys.all (cX n)&&iK (fW ys)):=rfl;rw[dR hn] at ew;have fl:∀t∈ys,cX n t=false->nU (.tup [.int n,.tup ys])=false:=λt ht e=>by
       rw[ew];have:ys.all (cX n)=false:=by
        cases ha:ys.all (cX n)
        ·rfl
        ·have:=fX.mp ha t ht;rw[e] at this;cases this
       rw[this];rfl
      refine Y ?_;refine Ka7 (λi J s=>s=[]/\(∃a,J=[some (.d (.tup [.int n,.tup ys])),a])/\∀t∈ys.take i,cX n t=true) ⟨rfl,⟨_,rfl⟩,by simp⟩ (λi t J s ht hI=>?_) (λJ s hI=>?_)
      ·obtain⟨rfl,⟨a,rfl⟩,hI⟩:=hI;have htm:=gD ht;have hti:=hy t htm;have hfl:=fl t htm;have nxt:cX n t=true->∀u∈ys.take (i+1),cX n u=true:=λe u hu=>by
        rw[List.take_succ,ht] at hu;rcases gK.mp hu with hu|hu
        ·exact hI u hu
        ·rw[show u=t by simpa using hu];exact e
       cases t with
       |tup us=>
        by_cases h2:us.length=2
        ·obtain⟨p,q,rfl⟩:=FN h2;have hp:jr p=true:=by simp only[eG,jG,cG] at hti;exact hti.1
         have hq:jr q=true:=by simp only[eG,jG,cG] at hti;exact hti.2.1
         refine Y ?_;refine vU (l:=[p,q]) (f:=λx=>x) (λt=>some (.bl (TJ t))) (by show 2<=_;lia) ?_ (λt ht=>?_) ?_
         ·refine Y ?_;exact⟨rfl,rfl⟩
         ·refine Y ?_;refine⟨rfl,λ_=>?_,λhb=>by cases hb⟩;refine Y ?_;refine W.aY rfl ((Ws (d:=t) ?_).imp λv s e=>⟨_,e,rfl,_,rfl,rfl⟩);simp only[cH,mZ,lR] at ht;rcases ht with rfl|rfl
          ·exact hp
          ·exact hq
         rw[C_];refine Y ?_;cases p with
         |int a=>
          cases q with
          |int b=>
           refine Y ?_;refine W.t_ ?_;refine Y ?_;have tb:cX n (.tup [.int a,.int b])=decide (0<=a/\a<b/\b<n):=rfl;by_cases h1:0<=a
           ·rw[dR h1];refine Y ?_;by_cases h3:a<b
            ·rw[dR h3];refine Y ?_;by_cases h4:b<n
             ·rw[dR h4];refine Y ?_;exact .inl ⟨_,rfl,rfl,⟨_,rfl⟩,nxt (by rw[tb];exact dR ⟨h1,h3,h4⟩)⟩
             ·rw[cU h4];refine Y ?_;exact .inr ⟨_,rfl,by rw[hfl (by rw[tb];exact cU gV)]⟩
            ·rw[cU h3];refine Y ?_;exact .inr ⟨_,rfl,by rw[hfl (by rw[tb];exact cU gV)]⟩
           ·rw[cU h1];refine Y ?_;exact .inr ⟨_,rfl,by rw[hfl (by rw[tb];exact cU gV)]⟩
          |_=>
           refine Y ?_;exact .inr ⟨_,rfl,by rw[hfl rfl]⟩
         |_=>
          refine Y ?_;exact .inr ⟨_,rfl,by rw[hfl rfl]⟩
        ·refine Y ?_;refine W.ite (λ_=>?_) (λhb=>?_)
         ·refine Y ?_;exact .inr ⟨_,rfl,by rw[hfl (zd6 h2)]⟩
         ·exact absurd hb (by simp;lia)
       |exc _ _=>cases hti
       |ob _ _=>cases hti
       |any=>cases hti
       |_=>
        refine Y ?_;exact .inr ⟨_,rfl,by rw[hfl rfl]⟩
      ·obtain⟨rfl,⟨a,rfl⟩,hI⟩:=hI;rw[K9] at hI;have ha:ys.all (cX n)=true:=fX.mpr hI;rw[ha] at ew;obtain⟨e,ht⟩:=U_ ha;generalize fW ys=ps at e ht ew;subst e;have t8:∀p∈ps,Ts.gC p:=λp hp=>by have:=ht p hp;exact⟨this.1,this.2.1,by lia⟩
       refine Y ?_;refine Fz (zn4 t8) ?_;refine Y ?_;refine g8 (d:=.bl (decide (ps=ss ps))) ?_ ?_
       ·show Option.map _ (gq (dD 49) (ps.map cZ) ((ss ps).map cZ))=_;rw[zeu];rfl
       refine Y ?_;rw[ew,<-zkr t8];rfl
     |exc _ _=>cases hy
     |ob _ _=>cases hy
     |any=>cases hy
     |_=>exact Y rfl
    ·have ew:nU (.tup [.int n,y])=false:=by
      cases y with
      |tup ys=>
       show (decide (1<=n/\n<=8)&&ys.all (cX n)&&iK (fW ys))=false;rw[cU hn];rfl
      |_=>rfl
     rw[ew];by_cases h1:1<=n
     ·rw[dR h1];refine Y ?_;rw[cU (show ¬n<=8 by lia)];exact Y trivial
     ·rw[cU h1];exact Y trivial
   |_=>exact Y rfl
  ·rw[zfP h2];refine Y ?_;refine W.ite (λ_=>?_) (λhb=>?_)
   ·exact Y trivial
   ·exact absurd hb (by simp;lia)
 |exc _ _=>cases h
 |ob _ _=>cases h
 |any=>cases h
 |_=>exact Y rfl
theorem zda{k':Nat}{o:SO}{n:Int}{ps:List (Int×Int)}(ho:mX o)(h:Web n ps):W (call ao T (k'+2) true 53 [.l 0,.d (dM n ps)]) [o] λv s=>∃(d:D) (o':SO),v=.d d/\s=[o']/\qH d/\mX o':=by
 refine W.call znV rfl ?_;unfold Vz dM;have hs1:(1000:Nat)<=sizeLine:=by decide
 have h1:=h.h1;have h8:=h.h8;have hlen:=h.len;have hml:(ps.map cZ).length=ps.length:=bZ ..;have hok:=zfo (ps:=ps);have hrw:∀z∈ps.map cZ,nW z:=λz hz=>by
  obtain⟨p,_,rfl⟩:=gG.mp hz;exact sH (λx hx=>by
   simp only[cH,mZ,lR] at hx;rcases hx with rfl|rfl<;>rfl) Zaa
 generalize ps.map cZ=R at hml hok hrw;refine Y ?_;refine qI ho gV gV λr o1 hr hp=>?_;refine Y ?_;refine qI hp UJ UJ λr2 o2 Nm hp=>?_;refine Y ?_;obtain⟨x,ex,hx⟩:=Nr (xs:=[.tup [.int 0,.int 0],.tup [.int 1,.int 0],.tup [.int 0,.int n],.tup [.int (-1),.int 0],.tup [.bl false,.bl true],.tup [.int 0,.bl true],.tup [.int 0],.tup [.int 0,.int 1,.int 2],.fl [.int 0,.int 1],.non]) (r:=r2) (by show r2<10;lia);have hxo:eG x=true:=by
  simp only[cH,mZ,lR] at hx;rcases hx with rfl|rfl|rfl|rfl|rfl|rfl|rfl|rfl|rfl|rfl
  all_goals rfl
 refine g8 ex ?_;clear ex hx;have l1:=M9 (xs:=R) (lo:=none) (hi:=some (r:Int));have l2:=M9 (xs:=R) (lo:=some ((r:Int)+1)) (hi:=none);have l3:=M9 (xs:=R) (lo:=some (r:Int)) (hi:=none);have l4:=M9 (xs:=R) (lo:=none) (hi:=some 1);have m1:∀y∈cut R none (some (r:Int)),eG y=true:=λy hy=>hok y (M8 hy);have m2:∀y∈cut R (some ((r:Int)+1)) none,eG y=true:=λy hy=>hok y (M8 hy);have m3:∀y∈cut R (some (r:Int)) none,eG y=true:=λy hy=>hok y (M8 hy);have m4:∀y∈cut R none (some 1),eG y=true:=λy hy=>hok y (M8 hy);have mx:∀y∈[x],eG y=true:=λy hy=>by rw[show y=x by simpa using hy];exact hxo
 refine Y ?_;refine qI hp UJ UJ λr3 o3 hr3 hp=>?_;refine Y ?_;refine WS.ite (λ_=>?_) (λ_=>?_)
 ·refine Y ?_;refine g8 (yt (by show _+1<=_;lia)) ?_;refine Y ?_;refine g8 (yt (by rw[fK];show _+1+_<=_;lia)) ?_;refine Y ?_;refine g8 (yt (by show _+1<=_;lia)) ?_;refine Y ?_;refine g8 (yt (by rw[fK];show _+1+_<=_;lia)) ?_;refine Y ?_;refine g8 (yt gV) ?_;refine Y ?_;refine g8 (yt gV) ?_;refine Y ?_;refine g8 (yt gV) ?_;refine Y ?_;refine g8 (yt (by show _+1<=_;lia)) ?_;refine Y ?_;refine g8 (yt (by rw[fK];show _+1+_<=_;lia)) ?_;refine Y ?_;refine qI hp UJ UJ λr4 o4 hr4 hp=>?_;refine Y ?_;obtain⟨y,ey,hy⟩:=Nr (xs:=[.tup (cut R none (some (r:Int))++[x]++cut R (some ((r:Int)+1)) none),.tup (cut R none (some (r:Int))++[x]++cut R (some (r:Int)) none),.tup R.reverse,.fl R,.tup (R++cut R none (some 1)),.tup (cut R none (some (r:Int))++cut R (some ((r:Int)+1)) none),.tup [.tup R],.tup (cut R (some (r:Int)) none++cut R none (some (r:Int))),.tup (cut R none (some (r:Int))++[.tup [.int 0,.int 1]]++cut R (some (r:Int)) none)]) (r:=r4) (by show r4<9;lia);refine g8 ey ?_;refine Y ?_;refine⟨_,_,rfl,rfl,v8 v7 ?_,hp⟩;clear ey;simp only[cH,mZ,lR] at hy;rcases hy with rfl|rfl|rfl|rfl|rfl|rfl|rfl|rfl|rfl
  ·exact sH (Vc m1 mx m2) (by rw[fK,fK];show _+1+_<=_;lia)
  ·exact sH (Vc m1 mx m3) (by rw[fK,fK];show _+1+_<=_;lia)
  ·exact sH (λy hy=>hok y (List.mem_reverse.mp hy)) (by rw[List.length_reverse];lia)
  ·exact⟨rfl,λys e=>by cases e⟩
  ·exact sH (Vd hok m4) (by rw[fK];lia)
  ·exact sH (Vd m1 m2) (by rw[fK];lia)
  ·exact sH (λy hy=>by rw[show y=.tup R by simpa using hy];exact fX.mpr λz hz=>Ks (hok z hz)) Zaa
  ·exact sH (Vd m3 m1) (by rw[fK];lia)
  ·exact sH (Vc m1 (λy hy=>by rw[show y=.tup [.int 0,.int 1] by simpa using hy];rfl) m3) (by rw[fK,fK];show _+1+_<=_;lia)
 ·have rR:nW (.tup R):=sH hok gV;refine Y ?_;refine g8 (zmq gV gV) ?_;refine Y ?_;refine qI hp UJ UJ λr4 o4 hr4 hp=>?_;refine Y ?_;obtain⟨y,ey,hy⟩:=Nr (xs:=[.tup [.int (n+1),.tup R],.tup [.int (n-1),.tup R],.tup [.bl true,.tup R],.tup [.int 9,.tup R],.tup [.int 0,.tup []],.tup [.non,.tup R],.fl [.int n,.tup R],.tup [.int n,.tup R,.int 0],.tup [.int n],.tup [.str (Str.ofString (toString n)),.tup R],.tup [.tup R,.int n],.tup R]) (r:=r4) (by show r4<12;lia);refine g8 ey ?_;refine Y ?_;refine⟨_,_,rfl,rfl,?_,hp⟩;clear ey;simp only[cH,mZ,lR] at hy;rcases hy with rfl|rfl|rfl|rfl|rfl|rfl|rfl|rfl|rfl|rfl|rfl|rfl
  ·exact v8 v7 rR
  ·exact v8 v7 rR
  ·exact v8 ⟨rfl,λys e=>by cases e⟩ rR
  ·exact v8 v7 rR
  ·exact v8 v7 (sH (λx hx=>by cases hx) Zaa)
  ·exact v8 ⟨rfl,λys e=>by cases e⟩ rR
  ·exact⟨rfl,λx ys e=>by cases e⟩
  ·exact Nt λz hz=>by
    simp only[cH,mZ,lR] at hz;rcases hz with rfl|rfl|rfl
    ·exact v7
    ·exact rR
    ·exact v7
  ·exact Nt λz hz=>by rw[show z=.int n by simpa using hz];exact v7
  ·exact v8 ⟨rfl,λys e=>by cases e⟩ rR
  ·exact v8 rR v7
  ·exact Nt hrw
noncomputable def nY:List D:=[.non,.bl true,.bl false,.int (-1),.str "1",.str "",.tup [],.fl [],.tup [.int 0],.fl [.int 0],.fd [.str "a"] [.int 1],.tup [.int 0,.int 1],.int 1000000000000000000000000000000,.tup [.int 0,.tup []],.tup [.str "ab"],.tup [.int 1,.tup [.tup [.int 0,.int 0]]]]
theorem zkH{k:Nat}{o:SO}(ho:mX o):W (call ao T (k+2) true 46 [.l 0]) [o] λv s=>∃d o',v=.d d/\s=[o']/\d∈nY/\mX o':=by
 refine W.call znM rfl ?_;unfold Vt;refine Y ?_;refine qI ho UJ UJ λr o' hr hp=>?_;refine Y ?_;have m6:r<nY.length:=by show r<16;lia
 refine g8 (CV (x:=nY[r]) (fH (l:=nY) m6)) ?_;refine Y ?_;exact⟨_,_,rfl,rfl,qK _,hp⟩
section
variable {n k d:Int}{ps:List (Int×Int)}{hs:List Int}{w r x:D}
theorem zfl{k':Nat}(h:Web n ps)(hx:eG x=true)(hl:∀xs,x=.tup xs->xs.length<=200):W (call ao T (k'+5) true 23 [.d (dM n ps),.d (bC k d),.d x]) [] λv s=>v=.d (.bl (FP n k d ps x)):=by
 refine W.call znG rfl ?_;unfold Vg;refine Y ?_;refine W.c0 (ze3 hx hl) ?_;cases Bc:rE n k x
 ·rw[zlx Bc];exact Y trivial
 ·obtain⟨hs,rfl,Mj,Xr⟩:=zhJ Bc;rw[zjX Mj Xr];refine Y ?_;refine W.c0 (zi4 h Mj) ?_;unfold Nu;cases hc:v9 k d ps hs with
  |nil=>
   rw[u_.mp hc];exact Y rfl
  |cons p q=>
   have:nR k d ps hs=false:=by
    cases hf:nR k d ps hs
    ·rfl
    ·rw[u_.mpr hf] at hc;cases hc
   rw[this];exact Y rfl
theorem zlo{k':Nat}(hw:qH w)(h:nU w=false):WR (call ao T (k'+8) true 24 [.d w,.d r,.d x]) [] 9 [.int (-1)]:=by
 refine WR.call Nz rfl ?_;unfold Kv;refine sE (M5 ?_ λs'=>⟨⟨_,_,_,rfl⟩,_,rfl⟩);refine uX ?_;refine Y ?_;exact WR.aY rfl (Wt hw h)
theorem ziX{k':Nat}(hw:qH w)(h:nU w=true)(hr:eG r=true)(hb:rD r=false):WR (call ao T (k'+8) true 24 [.d w,.d r,.d x]) [] 1 []:=by
 refine WR.call Nz rfl ?_;unfold Kv;refine Y ?_;refine W.c1 (KC hw h) λ_=>?_;refine sE (M5 ?_ λs'=>⟨⟨_,_,_,rfl⟩,_,rfl⟩);refine uX ?_;refine Y ?_;exact WR.aY rfl (Wu hr hb)
theorem ziT{k':Nat}(h:Web n ps)(hr:1<=d/\d<=k/\k<=24)(hx:eG x=true)(hl:∀xs,x=.tup xs->xs.length<=200)(hb:FP n k d ps x=false):WR (call ao T (k'+8) true 24 [.d (dM n ps),.d (bC k d),.d x]) [] 2 []:=by
 refine WR.call Nz rfl ?_;unfold Kv;refine Y ?_;refine W.c1 (KC (Wv h) (Va h)) λ_=>?_;refine Y ?_;refine W.c1 (zcg rfl (zdt hr)) λ_=>?_;refine sE ?_;refine Y ?_;refine W.c0 (zfl h hx hl) ?_;rw[hb];refine W.bool (W.bool (WS.rA (sE ?_)));refine Y ?_;exact⟨⟨_,_,_,rfl⟩,⟨_,_,_,rfl⟩,_,rfl⟩
end
noncomputable def dZ:List (Int×Int):=[(2,1),(3,1),(5,2),(4,1),(7,3),(7,2),(4,2),(6,2),(10,4),(5,1),(8,3),(3,2)]
theorem zjw{k':Nat}{o:SO}(ho:mX o):W (call ao T (k'+2) true 51 [.l 0]) [o] λv s=>∃(k d:Int) (o':SO),v=.d (bC k d)/\s=[o']/\(1<=d/\d<=k/\k<=10)/\mX o':=by
 refine W.call znH rfl ?_;unfold Vx;refine Y ?_;refine qI ho UJ UJ λr o' hr hp=>?_;refine Y ?_;refine WS.ite (λ_=>?_) (λ_=>?_)
 ·refine Y ?_;refine qI hp UJ UJ λr2 o2 Nm Ww=>?_;refine Y ?_;have hk:1<=1+(r2:Int)%10/\1+(r2:Int)%10<=10:=by lia
  generalize 1+(r2:Int)%10=k at hk;refine qI Ww gV gV λr3 o3 hr3 hp3=>?_;refine Y ?_;refine⟨_,_,_,rfl,rfl,?_,hp3⟩
  split<;>lia
 ·refine Y ?_;refine qI hp UJ UJ λr2 o2 Nm Ww=>?_;refine Y ?_;have m6:r2<dZ.length:=by show r2<12;lia
  refine g8 (CV (x:=bC dZ[r2].1 dZ[r2].2) ?_) ?_
  ·have:(dZ.map λp=>bC p.1 p.2)[r2]?=some (bC dZ[r2].1 dZ[r2].2):=by rw[ju,fH m6];rfl
   exact this
  refine Y ?_;have key:∀p∈dZ,1<=p.2/\p.2<=p.1/\p.1<=10:=by decide
  exact⟨_,_,_,rfl,rfl,key _ (qK _),Ww⟩
section
variable {n k d:Int}{ps:List (Int×Int)}{x:D}{ks:List (Option Int)}
theorem ziD{k':Nat}{x:D}(h:jr x=true):W (call ao T (k'+3) true 19 [.d (bC k d),.d x]) [] λv s=>v=.d (.bl (kW 0 (k-1) x)):=by
 refine W.call VH rfl ?_;unfold Nv bC;refine Y ?_;exact W.aY rfl ((FZ h).imp λv s e=>⟨_,e,rfl⟩)
theorem zeZ{k':Nat}(h:eG x=true)(hl:∀xs,x=.tup xs->xs.length<=200):W (call ao T (k'+4) true 29 [.d (dM n ps),.d (bC k d),.d x]) [] λv s=>v=.d (.bl (FT n k x)):=by
 have hs:(200:Nat)<=sizeLine:=by decide
 refine W.call znK rfl ?_;unfold Vl dM;refine Y ?_;refine W.c0 (Kz (Ks h)) ?_;cases x with
 |tup xs=>
  have hx:∀y∈xs,jr y=true:=fX.mp h;have hxl:=hl xs rfl;rw[show FT n k (.tup xs)=(decide ((xs.length:Int)=n)&&xs.all (FQ k)) from rfl];by_cases hn:(xs.length:Int)=n
  ·rw[show mV n (.tup xs)=true from dR hn,dR hn];refine Y ?_;refine vU (l:=xs) (f:=λx=>x) (λt=>some (.bl (FQ k t))) gV ?_ (λt ht=>?_) ?_
   ·refine Y ?_;rw[List.map_id'];exact⟨rfl,rfl⟩
   ·refine Y ?_;refine⟨rfl,λ_=>?_,λhb=>by cases hb⟩;refine Y ?_;refine W.ite (λc=>?_) (λc=>?_)
    ·refine Y ?_;exact⟨rfl,_,rfl,by unfold FQ;rw[show t.nJ=true from c];rfl⟩
    ·refine Y ?_;refine W.aY rfl ((ziD (hx t ht)).imp λv s e=>⟨_,e,rfl,_,rfl,?_⟩);unfold FQ;rw[show t.nJ=false from by simpa using c];rfl
   rw[C_];refine Y ?_;refine g8 M7 ?_;rfl
  ·rw[show mV n (.tup xs)=false from cU hn,cU hn,Ah];exact Y trivial
 |_=>exact Y rfl
end
def Rf(w r x:D)(c:Nat)(fs:List D)(t u:D):Prop:=
 (qH w/\nU w=false/\c=9/\fs=[.int (-1)]/\t=.str "web"/\u=.int (-1))\/(qH w/\nU w=true/\eG r=true/\rD r=false/\c=1/\fs=[]/\t=.str "ring"/\u=.non) \/
 (∃n ps k d,w=dM n ps/\r=bC k d/\Web n ps/\(1<=d/\d<=k/\k<=24)/\eG x=true/\(∀xs,x=.tup xs->xs.length<=200)/\(rE n k x=false/\FT n k x=false)/\c=2/\fs=[]/\t=.str "hues"/\u=.non)
section
variable {w r x y t u:D}{c:Nat}{fs:List D}{k':Nat}
theorem ziJ(h:Rf w r x c fs t u):WR (call ao T (k'+8) true 24 [.d w,.d r,.d x]) [] c fs:=by
 rcases h with ⟨a,b,rfl,rfl,_⟩|⟨a,b,e,f,rfl,rfl,_⟩|⟨n,ps,k,d,rfl,rfl,a,b,e,f,g,rfl,rfl,_⟩
 ·exact zlo a b
 ·exact ziX a b e f
 ·exact ziT a b e f (zlx g.1)
theorem zfT(h:Rf w r x c fs t u):WR (call ao T (k'+8) true 30 [.d w,.d r,.d x]) [] c fs:=by
 refine WR.call znz rfl ?_;unfold Vm;rcases h with ⟨a,b,rfl,rfl,_⟩|⟨a,b,e,f,rfl,rfl,_⟩|⟨n,ps,k,d,rfl,rfl,a,b,e,f,g,rfl,rfl,_⟩
 ·refine WE.ex (uX ?_);refine Y ?_;exact WR.aY rfl (Wt a b)
 ·refine Y ?_;refine W.c1 (KC a b) λ_=>?_;refine WE.ex (uX ?_);refine Y ?_;exact WR.aY rfl (Wu e f)
 ·refine Y ?_;refine W.c1 (KC (Wv a) (Va a)) λ_=>?_;refine Y ?_;refine W.c1 (zcg rfl (zdt b)) λ_=>?_;refine sE ?_;refine Y ?_;refine W.c0 (zeZ e f) ?_;rw[g.2];refine W.bool (W.bool (WS.rA (sE ?_)));refine Y ?_;exact⟨⟨_,_,_,rfl⟩,⟨_,_,_,rfl⟩,_,rfl⟩
theorem ziu(h:Rf w r x c fs t u)(hc:c≠2):WR (call ao T (k'+9) true 26 [.d w,.d r]) [] c fs:=by
 refine WR.call znL rfl ?_;unfold Vi;rcases h with ⟨a,b,rfl,rfl,_⟩|⟨a,b,e,f,rfl,rfl,_⟩|⟨n,ps,k,d,rfl,rfl,a,b,e,f,g,rfl,rfl,_⟩
 ·refine WE.ex (uX ?_);refine Y ?_;exact WR.aY rfl (Wt a b)
 ·refine Y ?_;refine W.c1 (KC a b) λ_=>?_;refine WE.ex (uX ?_);refine Y ?_;exact WR.aY rfl (Wu e f)
 ·exact absurd rfl hc
theorem zkM(h:Rf w r x c fs t u):WR (call ao T (k'+9) true 27 [.d w,.d r,.d x]) [] c fs:=by
 refine WR.call znq rfl ?_;unfold Vj;refine WE.ex (uX ?_);refine Y ?_;exact WR.aY rfl (ziJ h)
theorem zd7(h:Rf w r x c fs t u):WR (call ao T (k'+9) true 28 [.d w,.d r,.d x]) [] c fs:=by
 refine WR.call zny rfl ?_;unfold Vk;refine WE.ex (uX ?_);refine Y ?_;exact WR.aY rfl (zfT h)
theorem zjY(h:Rf w r x c fs t u):WR (call ao T (k'+9) true 35 [.d w,.d r,.d x,.d y]) [] c fs:=by
 refine WR.call znA rfl ?_;unfold Vn;refine WE.ex (uX ?_);refine Y ?_;exact WR.aY rfl (zfT h)
theorem zmB(h:Rf w r x c fs t u):WR (call ao T (k'+10) true 36 [.d w,.d r,.d x]) [] c fs:=by
 refine WR.call znU rfl ?_;unfold Vo;refine Ka0 (Tw (Tw (uX ?_)));refine Y ?_;exact WR.aY rfl (zd7 h)
theorem Wx{i:Int}(h:Rf w r x c fs t u)(hi:0<=i/\i<5/\(i=0->c≠2)):W (call ao T (k'+11) true 55 [.d (.int i),.d w,.d r,.d x]) [] λv s=>v=.d (.tup [t,u]):=by
 have hi5:i=0\/i=1\/i=2\/i=3\/i=4:=by lia
 refine W.call znB rfl ?_;unfold VD;refine WS.cons (Kbo ?_);refine WS.imp (Q:=λo _=>o=.er c fs [some (.d (.int i)),some (.d w),some (.d r),some (.d x),none]) ?_ λo s' e=>⟨_,_,_,e,?_,?_⟩
 ·rcases hi5 with rfl|rfl|rfl|rfl|rfl
  all_goals
   repeat (first|refine WF.yes (by with_unfolding_all rfl) ?_|refine WF.no (by with_unfolding_all rfl) ?_)
   refine WF.ex (uX ?_);refine Y ?_
  ·exact WR.aY rfl (ziu h (hi.2.2 rfl))
  ·exact WR.aY rfl (zkM h)
  ·exact WR.aY rfl (zd7 h)
  ·exact WR.aY rfl (zjY h)
  ·exact WR.aY rfl (zmB h)
 ·rcases h with ⟨a,b,rfl,rfl,_⟩|⟨a,b,e,f,rfl,rfl,_⟩|⟨n,ps,k,d,rfl,rfl,a,b,e,f,g,rfl,rfl,_⟩<;>rfl
 ·rcases h with ⟨a,b,rfl,rfl,rfl,rfl⟩|⟨a,b,e,f,rfl,rfl,rfl,rfl⟩|⟨n,ps,k,d,rfl,rfl,a,b,e,f,g,rfl,rfl,rfl,rfl⟩
  ·exact⟨.rt (.d (.tup [.str "web",.int (-1)])),s',rfl,⟨_,rfl⟩,rfl⟩
  ·exact⟨.rt (.d (.tup [.str "ring",.non])),s',rfl,⟨_,rfl⟩,rfl⟩
  ·exact⟨.rt (.d (.tup [.str "hues",.non])),s',rfl,⟨_,rfl⟩,rfl⟩
end
theorem rep1{a:D}:∀k:Nat,rep [a] k=List.replicate k a:=λk=>by
 unfold rep
 induction k with
 |zero=>rfl
 |succ k ih=>rw[yE,K6,ih,yE];rfl
theorem zgB{a:D}{n:Int}(h:1<=n/\n<=1000):prim .mult [.tup [a],.int n]=some (.dat (.tup (List.replicate n.toNat a))):=by
 show (if _ then _ else _)=_;rw[if_pos ⟨h.1,h.2,bV 1,by show (1:Nat)<=_;decide⟩,rep1]
theorem zit{a:D}{n:Int}(h:1<=n/\n<=1000):prim .mH [.fl [a],.int n]=some (.nw (List.replicate n.toNat a)):=by
 show (if _ then _ else _)=_;rw[if_pos ⟨by lia,h.2,by show (1:Nat)<=_;decide⟩,rep1]
theorem zlY{x:D}(hx:x∈nY):qH x:=by
 simp only[nY,cH,mZ,lR] at hx;rcases hx with rfl|rfl|rfl|rfl|rfl|rfl|rfl|rfl|rfl|rfl|rfl|rfl|rfl|rfl|rfl|rfl
 all_goals exact⟨rfl,λx ys e=>by cases e<;>decide⟩
theorem zmo{x:D}(hx:x∈nY):eG x=true/\∀xs,x=.tup xs->xs.length<=200:=by
 simp only[nY,cH,mZ,lR] at hx;rcases hx with rfl|rfl|rfl|rfl|rfl|rfl|rfl|rfl|rfl|rfl|rfl|rfl|rfl|rfl|rfl|rfl
 all_goals exact⟨rfl,λxs e=>by cases e<;>decide⟩
theorem zla{a:D}{n:Nat}(ha:jr a=true)(hn:n<=8):eG (.tup (List.replicate n a))=true/\∀xs,D.tup (List.replicate n a)=.tup xs->xs.length<=200:=
 ⟨fX.mpr λy hy=>by rw[List.eq_of_mem_replicate hy];exact ha,λxs e=>by cases e;rw[Ge];lia⟩
theorem zh5{n k:Int}{xs:List D}(h:(xs.length:Int)≠n):rE n k (.tup xs)=false/\FT n k (.tup xs)=false:=
 ⟨show (decide _&&_)=false by rw[cU h];rfl,show (decide _&&_)=false by rw[cU h];rfl⟩
theorem zif{n k:Int}{a:D}(hn:1<=n)(ha:kW 0 (k-1) a=false)(hk:FQ k a=false):rE n k (.tup (List.replicate n.toNat a))=false/\FT n k (.tup (List.replicate n.toNat a))=false:=by
 obtain⟨m,hm⟩ : ∃m,n.toNat=m+1:=⟨n.toNat-1,by lia⟩;rw[hm,yE];refine⟨show (_&&_)=false from ?_,show (_&&_)=false from ?_⟩
 ·rw[jG,ha,Ah,Ai]
 ·rw[jG,hk,Ah,Ai]
theorem vf(ns:List Int)(hn:ns.length<=63):∃s',call ao T 60 true 56 [.d (.fl (ns.map D.int))] []=some (.ok (.d (.bl true)),s'):=by
 suffices h:W (call ao T 60 true 56 [.d (.fl (ns.map D.int))]) [] λv _=>v=.d (.bl true) by
  obtain⟨v,s',e,rfl⟩:=h;exact⟨s',e⟩
 have hs:(1000:Nat)<=sizeLine:=by decide
 refine W.call (k:=59) znP rfl ?_;unfold VF;refine Y ?_;refine W.aY rfl ((zlz (k:=58)).imp λv _=>?_);rintro⟨n0,rfl⟩;refine⟨_,rfl,?_⟩;refine Y ?_;refine Fz (ZW ?_) ?_
 ·have:=zjU (ns:=ns) (lo:=some 1) (hi:=some 5);show 1+_<=_
  lia
 refine Y ?_;refine JD (λ_ J s=>∃(a b c d e:Option Xv),J=[some (.d (.fl (ns.map D.int))),a,b,c,d,e]) ⟨_,_,_,_,_,rfl⟩ (λi x J s hx Dw=>?_) (λJ s Dw=>?_)
 ·obtain⟨m,rfl⟩ : ∃m,x=.int m:=by
   rcases gK.mp (gD hx) with z|z
   ·rcases cH.mp z with rfl|z
    ·exact⟨_,rfl⟩
    ·cases z
   ·exact zjZ z
  obtain⟨a,b,c,d,e,rfl⟩:=Dw;refine Y ?_;refine Kal rfl ((znc (k:=58)).imp λv s1=>?_);rintro⟨j0,o,rfl,hj,hp⟩;refine⟨j0,o,rfl,hj,?_⟩;refine Y ?_;refine yr rfl ((zlk (k:=57) hp).imp λv s1=>?_);rintro⟨z,o1,rfl,rfl,⟨hz1,hz8⟩,hp⟩;refine⟨_,_,rfl,rfl,?_⟩;refine Y ?_;refine yr rfl ((zgr (k:=57) hp (n:=z) gV gV).imp λv s1=>?_);rintro⟨ps,o2,rfl,rfl,hw,hp⟩;refine⟨_,_,rfl,rfl,?_⟩;refine Y ?_;refine yr rfl ((zjw (k':=57) hp).imp λv s1=>?_);rintro⟨kk,dd,o3,rfl,rfl,hr,hp⟩;refine⟨_,_,rfl,rfl,?_⟩;have ew:dM z ps=.tup [.int z,.tup (ps.map cZ)]:=rfl;have er:bC kk dd=.tup [.int kk,.int dd]:=rfl;refine Z9 (Tf (Tf (ZS (W.dat (vR.mk rfl ?_)))));refine Ka4 (λJ s'=>∃kk dd:Int,(1<=dd/\dd<=kk/\kk<=10)/\((z:Int)=8->kk<=7)/\s'=s++[o3]/\J=[some (.d (.fl (ns.map D.int))),some (.d (.int m)),some (.l s.length),some (.d (dM z ps)),some (.d (bC kk dd)),e]) ?_ (λJ s' hR=>?_)
  ·refine Y ?_;refine W.ite (λh8=>?_) (λh8=>?_)
   ·refine Y ?_;refine WS.ite (λh7=>?_) (λh7=>?_)
    ·refine Y ?_;exact⟨_,rfl,7,3,by decide,λ_=>by decide,rfl,rfl⟩
    ·refine Y ?_;exact⟨_,rfl,kk,dd,hr,λ_=>by have:¬kk>7:=λz=>h7 (dR z);lia,rfl,rfl⟩
   ·refine Y ?_;exact⟨_,rfl,kk,dd,hr,λz8=>absurd (by simpa using z8) h8,rfl,rfl⟩
  ·clear hr er kk dd;obtain⟨kk,dd,hr,h7,rfl,rfl⟩:=hR;have er:bC kk dd=.tup [.int kk,.int dd]:=rfl;have hrg:rD (bC kk dd)=true:=zdt ⟨hr.1,hr.2.1,by lia⟩;have Ht:qH .non:=⟨rfl,λx ys e=>by cases e⟩;have hw':=Wv hw;have hwb:=Va hw;refine Y ?_;refine yr rfl ((zda (k':=57) hp hw).imp λv s1=>?_);rintro⟨b1,o4,rfl,rfl,FJ,hp⟩;refine⟨_,_,rfl,rfl,?_⟩;refine Y ?_;refine yr rfl ((zda (k':=57) hp hw).imp λv s1=>?_);rintro⟨b2,o5,rfl,rfl,zm,hp⟩;refine⟨_,_,rfl,rfl,?_⟩;refine Y ?_;refine yr rfl ((zkH (k:=57) hp).imp λv s1=>?_);rintro⟨b3,o6,rfl,rfl,Nf,hp⟩;refine⟨_,_,rfl,rfl,?_⟩;refine Y ?_;refine JD (λi J s'=>∃(t:Option Xv),s'=s++[o6]/\J=[some (.d (.fl (ns.map D.int))),some (.d (.int m)),some (.l s.length),some (.d (dM z ps)),some (.d (bC kk dd)),t]) ⟨_,rfl,rfl⟩ (λi x J s' e hI=>?_) (λJ s' hI=>?_)
   ·obtain⟨t,rfl,rfl⟩:=hI;have hx:qH x:=by
     have:=gD e;simp only[cH,mZ,lR] at this;rcases this with rfl|rfl|rfl|rfl
     ·exact FJ
     ·exact zm
     ·exact zlY Nf
     ·exact Ht
    refine Y ?_;refine W.c0 (zhx hx.1 hx.2) ?_;cases hb:nU x
    ·refine Y ?_;refine vU (l:=([0,1,2,3,4]:List Int)) (f:=D.int) (λ_=>some (.tup [.str "web",.int (-1)])) UJ ?_ (λj hj=>?_) ?_
     ·refine Y ?_;exact⟨rfl,rfl,rfl⟩
     ·refine Y ?_;refine⟨rfl,λ_=>?_,λhb=>by cases hb⟩;refine Y ?_;refine W.aY rfl ((Wx (k':=48) (.inl ⟨hx,hb,rfl,rfl,rfl,rfl⟩) ⟨by simp at hj;lia,by simp at hj;lia,λ_=>by decide⟩).imp λv s e=>⟨_,e,rfl,_,rfl,rfl⟩)
     refine Y ?_;exact⟨_,rfl,_,rfl,rfl⟩
    ·refine Y ?_;exact⟨_,rfl,_,rfl,rfl⟩
   obtain⟨t,rfl,rfl⟩:=hI;refine Y ?_;refine yr rfl ((zb8 (k':=57) hp).imp λv s1=>?_);rintro⟨c1,o7,rfl,rfl,Yc,hp⟩;refine⟨_,_,rfl,rfl,?_⟩;refine Y ?_;refine yr rfl ((zb8 (k':=57) hp).imp λv s1=>?_);rintro⟨c2,o8,rfl,rfl,p8,hp⟩;refine⟨_,_,rfl,rfl,?_⟩;refine Y ?_;refine yr rfl ((zkH (k:=57) hp).imp λv s1=>?_);rintro⟨c3,o9,rfl,rfl,hc3,hp⟩;refine⟨_,_,rfl,rfl,?_⟩;refine Y ?_;refine JD (λi J s'=>∃(t:Option Xv),s'=s++[o9]/\J=[some (.d (.fl (ns.map D.int))),some (.d (.int m)),some (.l s.length),some (.d (dM z ps)),some (.d (bC kk dd)),t]) ⟨_,rfl,rfl⟩ (λi x J s' e hI=>?_) (λJ s' hI=>?_)
   ·obtain⟨t,rfl,rfl⟩:=hI;have hx:eG x=true:=by
     have:=gD e;simp only[cH,mZ,lR] at this;rcases this with rfl|rfl|rfl|rfl
     ·exact Yc
     ·exact p8
     ·exact(zmo hc3).1
     ·rfl
    refine Y ?_;refine W.c0 (zft hx) ?_;cases hb:rD x
    ·refine Y ?_;refine vU (l:=([0,1,2,3,4]:List Int)) (f:=D.int) (λ_=>some (.tup [.str "ring",.non])) UJ ?_ (λj hj=>?_) ?_
     ·refine Y ?_;exact⟨rfl,rfl,rfl⟩
     ·refine Y ?_;refine⟨rfl,λ_=>?_,λhb=>by cases hb⟩;refine Y ?_;refine W.aY rfl ((Wx (k':=48) (.inr (.inl ⟨hw',hwb,hx,hb,rfl,rfl,rfl,rfl⟩)) ⟨by simp at hj;lia,by simp at hj;lia,λ_=>by decide⟩).imp λv s e=>⟨_,e,rfl,_,rfl,rfl⟩)
     refine Y ?_;exact⟨_,rfl,_,rfl,rfl⟩
    ·refine Y ?_;exact⟨_,rfl,_,rfl,rfl⟩
   obtain⟨t,rfl,rfl⟩:=hI;refine Y ?_;refine Fz (zit gV) ?_;refine Y ?_;refine g8 (zgB gV) ?_;refine Y ?_;refine g8 (zgB gV) ?_;refine Y ?_;refine JD (λi J s'=>∃(t:Option Xv),s'=s++[o9]/\J=[some (.d (.fl (ns.map D.int))),some (.d (.int m)),some (.l s.length),some (.d (dM z ps)),some (.d (bC kk dd)),t]) ⟨_,rfl,rfl⟩ (λi x J s' e hI=>?_) (λJ s' hI=>?_)
   ·obtain⟨t,rfl,rfl⟩:=hI;have hx:(eG x=true/\∀xs,x=.tup xs->xs.length<=200)/\rE z kk x=false/\FT z kk x=false:=by
     have:=gD e;simp only[cH,mZ,lR] at this;rcases this with rfl|rfl|rfl|rfl|rfl|rfl|rfl
     ·exact⟨⟨rfl,λxs e=>by cases e⟩,rfl,rfl⟩
     ·exact⟨⟨rfl,λxs e=>by cases e;decide⟩,zh5 (by show ((0:Nat):Int)≠_;lia)⟩
     ·exact⟨⟨rfl,λxs e=>by cases e;decide⟩,zh5 (by show ((9:Nat):Int)≠_;lia)⟩
     ·exact⟨⟨rfl,λxs e=>by cases e⟩,rfl,rfl⟩
     ·exact⟨zla rfl gV,zif gV rfl rfl⟩
     ·exact⟨zla rfl gV,zif gV (cU gV) (by show (false||decide _)=false;rw[Bool.false_or];exact cU gV)⟩
     ·exact⟨⟨rfl,λxs e=>by cases e⟩,rfl,rfl⟩
    refine Y ?_;refine vU (l:=([1,2,3,4]:List Int)) (f:=D.int) (λ_=>some (.tup [.str "hues",.non])) UJ ?_ (λj hj=>?_) ?_
    ·refine Y ?_;exact⟨rfl,rfl,rfl⟩
    ·refine Y ?_;refine⟨rfl,λ_=>?_,λhb=>by cases hb⟩;refine Y ?_;refine W.aY rfl ((Wx (k':=48) (.inr (.inr ⟨z,ps,kk,dd,rfl,rfl,hw,⟨hr.1,hr.2.1,by lia⟩,hx.1.1,hx.1.2,hx.2,rfl,rfl,rfl,rfl⟩)) ⟨by simp at hj;lia,by simp at hj;lia,λh0=>by simp at hj;lia⟩).imp λv s e=>⟨_,e,rfl,_,rfl,rfl⟩)
    refine Y ?_;exact⟨_,rfl,_,rfl,rfl⟩
   obtain⟨t,rfl,rfl⟩:=hI;refine Y ?_;exact⟨_,rfl,_,_,_,_,_,rfl⟩
 ·obtain⟨a,b,c,d,e,rfl⟩:=Dw;exact Y trivial
end eO
open PySem PySem.W PyProof.Rows
set_option maxRecDepth 100000 in
set_option maxHeartbeats 0 in
theorem PySem.Challenge.cw_ringhues_k14_found_refused_holds : PySem.Challenge.rw_ringhues_k14_found_refused.Holds := by
 refine PySem.W.holds_law eO.ws λsaid=>?_;refine holds_open (q:=eO.qv) (loose:=eO.loose) (Xt:=λs=>xlAt eO.qv [] s&&recOk [] s) (XP:=XL eO.qv []) (Yf:=(Mi.lK eO.fs eO.ms eO.xs eO.lk).obs) (Ya:=(Mi.lK eO.fs eO.ms eO.xs eO.lk).val) (YP:=(Mi.lK eO.fs eO.ms eO.xs eO.lk).says) (N:=20000) eO.left (Mi.lK eO.fs eO.ms eO.xs eO.lk).of (Mi.lK eO.fs eO.ms eO.xs eO.lk).keeps (λs e=>xl_of s (Ot.mp e).1) XL.keeps (by rfl) (by rfl) (by rfl) (λs e=>recFacts_of (Ot.mp e).2) (by rfl) (by first|assumption|decide +kernel) Bd ⟨rfl,rfl,rfl,rfl,rfl,by decide +kernel⟩ ?hw ?hc
 case hw=>w_witness2
 case hc=>exact Mi.Jz (l:=PySem.Challenge.rw_ringhues_k14_found_refused) (x:="_law_script") (k:=60) rfl rfl ⟨by decide,by decide,rfl⟩ (λw K mg fa h S X G Wr=>eO.all_mk eO.vf S X G Wr)
