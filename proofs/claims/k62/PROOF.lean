import PyProof.Rows.All
import Wide.All
import KE.KIsAll
import KE.KSortTup
import KE.KTryDeep
import KE.KDictOf
import KE.KFromBytes
import Wide.FinOn
import PySem.Challenge.RW_ringhues_k62_changes_refused
set_option compiler.extract_closed false
theorem gV{p:Prop}(h:p:=by lia):p:=h
theorem Bd{p:Prop}(h:p:=by decide +kernel):p:=h
theorem R4{p:Prop}(h:p:=by decide):p:=h
theorem Zaa{p:Prop}(h:p:=by simp):p:=h
abbrev aq:=@PySem.wpAny_bind
abbrev bR:=@PySem.Heap.get?_push_of_some
abbrev aG:=@PySem.wpAny_pure
abbrev dF:=@List.mem_cons_of_mem
abbrev fQ:=@List.getElem?_eq_getElem
abbrev cg:=@List.length_map
abbrev cU:=@List.size_toArray
abbrev bK:=@PySem.Heap.lt_size
abbrev cO:=@Bool.and_eq_true
abbrev cI:=@Option.some.inj
abbrev dM:=@List.mem_cons_self
abbrev iK:=@List.getElem?_eq_some_iff
abbrev eZ:=@List.length_append
abbrev bT:=@Nat.le_refl
abbrev fK:=@Nat.lt_of_lt_of_le
abbrev fW:=@PySem.Heap.get?_push_size
abbrev kW:=@List.getD_eq_getElem?_getD
abbrev cV:=@List.mem_cons
abbrev cP:=@Nat.ne_of_lt
abbrev iz:=@Bool.false_eq_true
abbrev jD:=@List.mem_of_getElem?
abbrev fX:=@List.mem_append
abbrev m8:=@List.getElem?_append_right
abbrev iB:=@List.length_cons
abbrev gH:=@decide_eq_false
abbrev iM:=@List.all_eq_true
abbrev oU:=@List.getElem?_append_left
abbrev oV:=@List.getElem?_eq_none_iff
abbrev m9:=@Option.map_eq_some_iff
abbrev m_:=@List.mem_append_right
abbrev kY:=@List.getElem?_map
abbrev qD:=@List.pairwise_iff_getElem
abbrev fZ:=@List.mem_map
abbrev i_:=@decide_eq_true
abbrev u5:=@PyProof.Rows.slot_tuple_getitem
abbrev lW:=@List.lookup_cons
abbrev jd:=@PySem.wpAny_holding
abbrev mR:=@PySem.wpAny_newObj_type
abbrev jE:=@List.map_cons
abbrev lY:=@List.map_append
abbrev qF:=@List.mem_append_left
abbrev qG:=@List.getElem?_set_ne
abbrev qU:=@PySem.Heap.get?_update_self
abbrev oW:=@of_decide_eq_true
abbrev uo:=@PySem.Heap.get?_update_other
abbrev u6:=@Option.bind_eq_some_iff
abbrev ni:=@List.length_set
abbrev jF:=@PySem.wpAny_field
abbrev qW:=@List.mem_map_of_mem
abbrev iC:=@PySem.wpAny_mono
abbrev iD:=@beq_iff_eq
abbrev lZ:=@Nat.lt_irrefl
abbrev pQ:=@List.not_mem_nil
abbrev yx:=@List.nodup_iff_pairwise_ne
abbrev wL:=@PySem.wpAny_callSpecial?_slot
abbrev mU:=@List.all_cons
abbrev qH:=@List.getElem_mem
abbrev qX:=@PySem.wpAny_truthy_bool
abbrev qY:=@Nat.lt_succ_of_lt
abbrev mj:=@List.map_map
abbrev wM:=@List.getElem?_set_self
abbrev mV:=@Nat.le_trans
abbrev qI:=@List.nodup_cons
abbrev qZ:=@PySem.wpAny_call_entry
abbrev uq:=@List.pairwise_map
abbrev Bh:=@Array.getElem?_eq_some_iff
abbrev wN:=@List.mem_iff_getElem
abbrev u9:=@PySem.Obj.data_mapFields
abbrev q_:=@List.length_nil
abbrev qJ:=@PySem.Heap.size_push
abbrev gW:=@if_false
abbrev u_:=@PySem.wpAny_setState_of
abbrev nj:=@Nat.zero_le
abbrev Dj:=@PyProof.Rows.callWith_type1
abbrev yC:=@PySem.Heap.SameBut.update
abbrev uw:=@List.mem_range
abbrev ux:=@PySem.wpAny_seqItems
abbrev Dk:=@Array.getElem?_eq_getElem
abbrev yD:=@List.pairwise_cons
abbrev pR:=@PySem.sizeLine_eq
abbrev wO:=@List.length_take
abbrev wQ:=@beq_self_eq_true
abbrev Bj:=@PySem.Heap.get?_none_of_le
abbrev uy:=@PySem.wpAny_standAt
abbrev Li:=@PyProof.Rows.F.plain_set_update_loop
abbrev yE:=@PySem.wpAny_loadPart_at
abbrev Bk:=@PySem.mem_of_lookup
abbrev Iw:=@PySem.F.slot_tuple_iterator_next
abbrev uz:=@Nat.ne_of_gt
abbrev Bl:=@List.zip_cons_cons
abbrev Bm:=@PySem.wpAny_setField_rec
abbrev Dl:=@List.getElem?_toArray
abbrev vd:=@Bool.not_true
abbrev wR:=@PySem.wpAny_setField
abbrev Dm:=@PySem.wpAny_loadName_local
abbrev Dp:=@List.pairwise_append
abbrev yF:=@List.append_nil
abbrev Bo:=@PySem.Value.isInt_shape
abbrev Bp:=@Int.toNat_natCast
abbrev Bq:=@bne_self_eq_false
abbrev Br:=@List.append_assoc
abbrev Dq:=@List.filterMap_cons
abbrev Iz:=@List.getElem?_replicate
abbrev Dr:=@List.getElem_of_mem
abbrev Ds:=@List.replicate_succ
abbrev Bs:=@decide_eq_decide
abbrev Dt:=@PySem.wpAny_Call_Name_kw
abbrev wU:=@Nat.le_of_lt
abbrev IK:=@List.length_replicate
abbrev wV:=@PySem.wpAny_typeOf
abbrev IV:=@PySem.Obj.isFreed_of_fields
abbrev IW:=@List.getElem?_eq_none
abbrev Bt:=@PySem.codeAny_builtin
abbrev wW:=@PySem.F.called_set
abbrev oX:=@or_false
abbrev Du:=@decide_eq_true_eq
abbrev Lj:=@PySem.F.excBase_ValueError
abbrev Bu:=@List.nodup_nil
abbrev Ug:=@PyProof.Rows.F.entry_set_update_loop
abbrev pU:=@congrArg
abbrev Dv:=@List.length_drop
abbrev Dw:=@Nat.le_of_not_lt
abbrev I8:=@Array.length_toList
abbrev I9:=@PySem.wpAny_isSubtype_exc
abbrev I_:=@List.map_congr_left
abbrev Ln:=@Option.isSome_iff_exists
abbrev Lp:=@PySem.F.args_tuple_add_2
abbrev Dy:=@PySem.wpAny_passesOwn
abbrev Lq:=@PySem.F.entry_tuple_add
abbrev Bv:=@PySem.wpAny_attempt
abbrev Dz:=@List.forIn_cons
abbrev Ja:=@PySem.Code.quiet_builtin
abbrev Lr:=@decide_eq_false_iff_not
abbrev Ls:=@PySem.W.cellsFrom_some
abbrev Lw:=@PySem.F.slot_tuple_add
abbrev Lx:=@List.range_succ_eq_map
abbrev wX:=@PySem.wpAny_call
abbrev yG:=@PySem.wpAny_of_eq
abbrev Jc:=@List.reverse_cons
abbrev Jd:=@List.nodup_append
abbrev Bw:=@PySem.W.looks_findIn
abbrev Ly:=@Nat.le_of_ble_eq_true
abbrev BJ:=@Nat.lt_or_ge
abbrev Lz:=@Array.getElem?_toList
abbrev Je:=@Nat.zero_lt_succ
abbrev Jf:=@PySem.wpAny_forIn_list
abbrev LC:=@Bool.and_eq_true_iff
abbrev LQ:=@PySem.codeAny_call_builtin
abbrev LR:=@PySem.wpAny_updateSeq_pair
abbrev L_:=@PySem.Around.under_plainId
abbrev yH:=@PySem.wpAny_Name
abbrev Jg:=@PySem.wpAny_execs_nil
abbrev Jh:=@List.of_mem_zip
abbrev Ji:=@PySem.F.slot_zip_next
abbrev Ma:=@List.mem_filterMap
abbrev DG:=@PySem.codeAny_mono
abbrev Mf:=@List.contains_cons
abbrev Mg:=@List.mem_singleton
abbrev Jj:=@List.forIn_nil
abbrev Mh:=@Bool.eq_false_iff
abbrev BK:=@PySem.wpAny_rule
abbrev Mj:=@Bool.not_eq_true'
abbrev Ml:=@List.getElem?_inj
abbrev Mp:=@Nat.lt_trichotomy
abbrev Mq:=@List.flatten_cons
abbrev DK:=@Nat.not_lt
set_option Elab.async false
set_option linter.all false
set_option maxRecDepth 100000
set_option maxHeartbeats 4000000
namespace L2
open PySem PySem.Spec PyProof.Rows PySem.W
noncomputable def subIn(K:W.Frag)(C D:Addr):Bool:=PySem.W.ktsIn K C "BaseException"&&PySem.W.ktsIn K D "BaseException"&&match K.lookup C with
 |some ⟨_,_,.cls cd,_⟩=>cd.mro.contains (.ref D)
 |_=>false
noncomputable def pW:List Value:=[.type "ValueError",.type "Exception",.type "BaseException",.type "object"]
noncomputable def aY:List Value->Bool
 |.ref _::r=>aY r
 |l=>l==pW
noncomputable def je(K:Frag)(C fI:Addr):Bool:=match K.lookup C with
 |some ⟨.type "type",_,.cls cd,sl⟩=>(match cd.mro,sl.toList with
  |.ref C'::bm,[_,_,_,_,some (.builtin n),_]=>C'==C&&n=="ValueError.__new__" && !cd.hasDel&&tailIn K pW bm&&nsOkIn K cd.ns&&nsIn K cd.ns "__init__"==some (some (.ref fI))
  |_,_=>false)
 |_=>false
noncomputable def aQ(s:Stmt):Arguments:=match s with
 |.FunctionDef _ a _ _ _ _ _ _ _ _=>a
 |_=>{posonlyargs:=[],args:=[],vararg:=none,kwonlyargs:=[],kw_defaults:=[],kwarg:=none,defaults:=[]}
noncomputable def aK(s:Stmt):List Stmt:=match s with
 |.FunctionDef _ _ b _ _ _ _ _ _ _=>b
 |_=>[]
noncomputable def aA(s:Stmt):Scope:=match s with
 |.FunctionDef _ _ _ _ _ _ sc _ _ _=>sc
 |_=>{kind:=.function,names:=[],isGenerator:=false,isCoroutine:=false}
end L2
namespace Mi
open PySem PySem.Spec PyProof.Rows L2 PySem.W
noncomputable def mW(n c:Nat):Nat:=if c<n then c else 0
noncomputable def jf(n c e:Nat):Bool:=mW n e==0||mW n c==mW n e
noncomputable def dh(L:List Addr)(c:Nat):Addr:=L.getD (mW L.length c) 0
noncomputable def Jk(K:W.Frag)(C:Addr):Bool:=
 PySem.W.findIn K (.ref C) "__getattribute__"==some (some (.builtin "BaseException.__getattribute__"))&&PySem.W.findIn K (.ref C) "__getattr__"==some none&&PySem.W.findIn K (.ref C) "__class__"==some (some (.builtin "object.__class__")) &&
 PySem.W.mroIn K C (.type "BaseException")==some true&&PySem.W.mroIn K C (.type "object")==some true&&(PySem.W.clsIn K C).isSome &&
 PySem.W.specialIn K (.builtin "object.__class__") "__get__"==some (some (.builtin "getset_descriptor.__get__"))&&PySem.W.takesIn K (.builtin "object.__class__")==some true
noncomputable def oY(K:W.Frag)(L:List Addr):Bool:=(List.range L.length).all λc=>Jk K (L.getD c 0)&&PySem.W.kitOne K (.ref (L.getD c 0)) (.type "ValueError")==some true &&
 (List.range L.length).all λe=>PySem.W.kitOne K (.ref (L.getD c 0)) (.ref (L.getD e 0))==some (jf L.length c e)
noncomputable def subB(K:W.Frag)(L:List Addr)(d:Nat):Bool:=(List.range L.length).all λc=>!(jf L.length c d)||L2.subIn K (L.getD c 0) (dh L d)
noncomputable def qK(fd:FuncData):FuncData:={fd with kwdefaults:=.none,doc:=.none,pyModule:=.none,annotations:=none,code:=.none,closureTuple:=.none}
noncomputable def uD(x:Str)(st:Stmt):FuncData:=fnOf x x (aQ st) (aK st) (aA st) .none .none .none .none none .none .none
noncomputable def yI(K:Frag)(x:Str):Option (Addr×FuncData):=match nsIn K mainGlobals x with
 |some (some (.ref f))=>(match K.lookup f with
  |some ⟨_,_,.func fd,_⟩=>(match codeIn K fd.code x&&keepIn K (.ref f) with
   |true=>some (f,fd)
   |false=>none)
  |_=>none)
 |_=>none
noncomputable def yJ(K:Frag)(x:Str):Addr:=match nsIn K mainGlobals x with
 |some (some (.ref C))=>C
 |_=>0
noncomputable def vf(K:Frag)(x:Str):Bool:=match nsIn K mainGlobals x with
 |some (some (.ref _))=>true
 |_=>false
noncomputable def kZ(K:Frag)(p:Str×Int):Bool:=match nsIn K mainGlobals p.1 with
 |some (some (.int i _))=>decide (i=p.2)
 |_=>false
noncomputable def oZ(K:Frag)(x:Str):Bool:=match nsIn K mainGlobals x with
 |some none=>true
 |_=>false
noncomputable def DN(K:Frag)(C:Addr):Bool:=excIn K C [.type "ValueError",.type "Exception",.type "BaseException",.type "object"] "ValueError.__new__"
structure Lk where
 DP:List Str
 yK:List (Str×Int)
 Uh:List Str
 Ui:List Nat
 Uj:List Nat
noncomputable def Lk.L(l:Lk)(K:Frag):List Addr:=l.DP.map (yJ K)
noncomputable def Lk.good(l:Lk)(K:Frag):Bool:=
 l.DP.all (vf K)&&(l.DP.isEmpty||oY K (l.L K))&&l.Ui.all (λk=>DN K (dh (l.L K) k))&&l.Uj.all (λk=>subB K (l.L K) k)&&l.yK.all (kZ K)&&l.Uh.all (oZ K)
noncomputable def o7(h:Heap):List Addr->Frag
 |[]=>[]
 |a::r=>match h.get? a with
  |some o=>(a,o)::o7 h r
  |none=>o7 h r
noncomputable def vg(s:Stmt):List Stmt:=match s with
 |.ClassDef _ _ _ b _ _ _ _ _ _ _=>b
 |_=>[]
noncomputable def yL(q:Str)(st:Stmt):FuncData:=fnOf "__init__" q (aQ st) (aK st) (aA st) .none .none .none .none none .none .none
noncomputable def DQ(K:Frag)(C:Addr):Option FuncData:=match clsIn K C with
 |some cd=>(match nsIn K cd.ns "__init__" with
  |some (some (.ref f))=>(match K.lookup f with
   |some ⟨.type "function",_,.func fd,_⟩=>(match codeIn K fd.code fd.qualname&&je K C f&&aY cd.mro&&cd.hasDict with
    |true=>some fd
    |false=>none)
   |_=>none)
  |_=>none)
 |none=>none
noncomputable def setB(K:Frag)(C:Addr)(fs:List Str):Bool:=findIn K (.ref C) "__setattr__"==some (some (.builtin "object.__setattr__"))&&fs.all (λf=>findIn K (.ref C) f==some none)
noncomputable def Jl(K:Frag)(C:Addr)(f:Str):Bool:=findIn K (.ref C) "__getattribute__"==some (some (.builtin "BaseException.__getattribute__"))&&findIn K (.ref C) "__getattr__"==some none&&mroIn K C (.type "BaseException")==some true&&findIn K (.ref C) f==some none&&hasDictIn K C
structure vh where
 c:Nat
 q:Str
 st:Stmt
 fs:List Str
noncomputable def DR:Nat->List Obj->Frag
 |_,[]=>[]
 |i,o::r=>match o.isFreed with
  |true=>DR (i+1) r
  |false=>(i,o)::DR (i+1) r
noncomputable def bV(h:Heap):Frag:=o7 h [mainGlobals]++(DR 0 h.objs.toList).reverse
noncomputable def pX(fs:List (Str×Stmt))(ms:List vh)(xs:List (Nat×Str))(l:Lk)(s:Shared):List (Option FuncData)×List (Option FuncData)×Bool:=
 (fs.map (λp=>(yI (bV s.heap) p.1).map (λq=>qK q.2)),ms.map (λm=>(DQ (bV s.heap) (dh (l.L (bV s.heap)) m.c)).map qK),
  l.good (bV s.heap)&&ms.all (λm=>setB (bV s.heap) (dh (l.L (bV s.heap)) m.c) m.fs)&&xs.all (λx=>Jl (bV s.heap) (dh (l.L (bV s.heap)) x.1) x.2))
noncomputable def rm(fs:List (Str×Stmt))(ms:List vh)(w:World):List (Option FuncData)×List (Option FuncData)×Bool:=(fs.map (λp=>some (uD p.1 p.2)),ms.map (λm=>some (yL m.q m.st)),true)
noncomputable def Jm(fs:List (Str×Stmt))(s:Shared):List (Option FuncData):=fs.map (λp=>(yI (bV s.heap) p.1).map (λq=>qK q.2))
noncomputable def Uk(ms:List vh)(xs:List (Nat×Str))(l:Lk)(s:Shared):List (Option FuncData)×Bool:=(ms.map (λm=>(DQ (bV s.heap) (dh (l.L (bV s.heap)) m.c)).map qK),
  l.good (bV s.heap)&&ms.all (λm=>setB (bV s.heap) (dh (l.L (bV s.heap)) m.c) m.fs)&&xs.all (λx=>Jl (bV s.heap) (dh (l.L (bV s.heap)) x.1) x.2))
theorem zej{p q:Program}{loose:List Str}{Xt:Shared->Bool}{N:Nat}{fs1 pY:List (Str×Stmt)}{ms:List vh}{xs:List (Nat×Str)}{l:Lk}
  (a:∀w,(openEnds treeTable p w N).map (λs=>openSeen q loose (importedModules p.main.body) Xt true s)=some (openGood q loose))
  (b1:∀w,(openEnds treeTable p w N).map (Jm fs1)=some (fs1.map λp=>some (uD p.1 p.2)))
  (b2:∀w,(openEnds treeTable p w N).map (Jm pY)=some (pY.map λp=>some (uD p.1 p.2)))
  (c:∀w,(openEnds treeTable p w N).map (Uk ms xs l)=some (ms.map (λm=>some (yL m.q m.st)),true)):LeftO p q loose Xt (pX (fs1++pY) ms xs l) (rm (fs1++pY) ms) N:=by
 intro w;have a:=a w;have b1:=b1 w;have b2:=b2 w;have c:=c w;cases e:openEnds treeTable p w N with
 |none=>rw[e] at a;cases a
 |some s=>
  rw[e] at a b1 b2 c;have a:openSeen q loose (importedModules p.main.body) Xt true s=openGood q loose:=cI a;have b1:=cI b1;have b2:=cI b2;have c:=cI c;have c1:=pU Prod.fst c;have c2:=pU Prod.snd c;show some (_,pX (fs1++pY) ms xs l s)=_;rw[a];have:pX (fs1++pY) ms xs l s=rm (fs1++pY) ms w:=by
   unfold pX rm;rw[lY,lY];have b1:List.map _ fs1=List.map _ fs1:=b1;have b2:List.map _ pY=List.map _ pY:=b2;rw[b1,b2];exact Prod.ext rfl (Prod.ext c1 c2)
  rw[this]
inductive Tr where
 |em
 |lv (o:Obj)
 |nd (l r:Tr)
noncomputable def Tr.lf(t:Tr):Tr:=Tr.rec (motive:=λ_=>Tr) .em (λ_=>.em) (λl _ _ _=>l) t
noncomputable def Tr.rt(t:Tr):Tr:=Tr.rec (motive:=λ_=>Tr) .em (λ_=>.em) (λ_ r _ _=>r) t
noncomputable def Tr.get(d:Nat):Tr->Nat->Option Obj:=Nat.rec (motive:=λ_=>Tr->Nat->Option Obj) (λt _=>Tr.rec (motive:=λ_=>Option Obj) none (λo=>some o) (λ_ _ _ _=>none) t)
 (λ_ f t a=>cond (Nat.beq (Nat.mod a 2) 0) (f t.lf (Nat.div a 2)) (f t.rt (Nat.div a 2))) d
noncomputable def Tr.put(d:Nat):Tr->Nat->Obj->Tr:=Nat.rec (motive:=λ_=>Tr->Nat->Obj->Tr) (λ_ _ o=>.lv o)
 (λ_ f t a o=>cond (Nat.beq (Nat.mod a 2) 0) (.nd (f t.lf (Nat.div a 2) o) t.rt) (.nd t.lf (f t.rt (Nat.div a 2) o))) d
theorem Mr(a:Nat):(Nat.beq (a%2) 0=true/\a%2=0)\/(Nat.beq (a%2) 0=false/\a%2=1):=by
 rcases(show a%2=0\/a%2=1 by lia) with e|e<;>rw[e]
 ·exact .inl ⟨rfl,rfl⟩
 ·exact .inr ⟨rfl,rfl⟩
theorem Ms(o:Obj):∀(d:Nat) (t:Tr) (a:Nat),Tr.get d (Tr.put d t a o) a=some o
 |0,_,_=>rfl
 |d+1,t,a=>by
  have ih:=Ms o d;show cond (Nat.beq (a%2) 0) (Tr.get d (Tr.lf (cond (Nat.beq (a%2) 0) _ _)) (a/2)) (Tr.get d (Tr.rt (cond (Nat.beq (a%2) 0) _ _)) (a/2))=_;rcases Mr a with ⟨e,_⟩|⟨e,_⟩<;>rw[e]
  ·exact ih t.lf (a/2)
  ·exact ih t.rt (a/2)
theorem Mt(o:Obj):∀(d:Nat) (t:Tr) (a b:Nat),a<2^d->b<2^d->a≠b->Tr.get d (Tr.put d t a o) b=Tr.get d t b
 |0,_,a,b,h1,h2,h=>by lia
 |d+1,t,a,b,h1,h2,h=>by
  have ih:=Mt o d;show cond (Nat.beq (b%2) 0) (Tr.get d (Tr.lf (cond (Nat.beq (a%2) 0) _ _)) (b/2)) (Tr.get d (Tr.rt (cond (Nat.beq (a%2) 0) _ _)) (b/2))=cond (Nat.beq (b%2) 0) _ _;rw[Nat.pow_succ] at h1 h2;rcases Mr a with ⟨e,x⟩|⟨e,x⟩<;>rw[e]<;>rcases Mr b with ⟨f,y⟩|⟨f,y⟩<;>rw[f]
  ·exact ih t.lf (a/2) (b/2) gV gV gV
  ·rfl
  ·rfl
  ·exact ih t.rt (a/2) (b/2) gV gV gV
noncomputable def ali(o:Option Obj):Option Obj:=match o with
 |some ⟨_,_,.freed,_⟩=>none
 |o=>o
noncomputable def nq(t:Tr)(z a:Nat):Option Obj:=cond (Nat.ble (Nat.succ a) z) (ali (t.get 12 a)) none
structure Rl(t:Tr)(z:Nat)(h:Heap):Prop where
 sz:h.objs.size=z
 le:z<=4096
 at_:∀a,a<z->t.get 12 a=h.objs[a]?
theorem Rl.get{t:Tr}{z:Nat}{h:Heap}(r:Rl t z h)(a:Nat):nq t z a=h.get? a:=by
 unfold nq Heap.get?;by_cases e:a<z
 ·rw[show Nat.ble (Nat.succ a) z=true from Nat.ble_eq.mpr e,r.at_ a e];rfl
 ·rw[show Nat.ble (Nat.succ a) z=false from Mh.mpr λx=>e (Nat.ble_eq.mp x)];have:h.objs[a]?=none:=by simp only[Array.getElem?_eq_none_iff,r.sz];lia
  rw[this];rfl
theorem Rl.push{t:Tr}{z:Nat}{h:Heap}(r:Rl t z h)(o:Obj)(hz:z<4096):Rl (t.put 12 z o) (z+1) (h.push o):=by
 obtain⟨objs,l⟩:=h;obtain⟨sz,le,at_⟩:=r;dsimp only at sz at_;refine⟨by show (objs.push o).size=_;rw[Array.size_push,sz],hz,λa ha=>?_⟩;show _=(objs.push o)[a]?;by_cases e:a=z
 ·subst e;rw[Ms,Array.getElem?_push,if_pos sz.symm]
 ·rw[Mt o 12 t z a hz (by show a<4096;lia) (Ne.symm e),at_ a gV,Array.getElem?_push,if_neg gV]
theorem Rl.upd{t:Tr}{z:Nat}{h:Heap}(r:Rl t z h){a:Nat}{o:Obj}{f:Obj->Obj}(ho:h.get? a=some o):Rl (t.put 12 a (f o)) z (h.update a f):=by
 have ha:h.objs[a]?=some o:=(Heap.get?_some_iff.mp ho).1;obtain⟨objs,l⟩:=h;obtain⟨sz,le,at_⟩:=r;dsimp only at sz at_ ha;have hl:a<objs.size:=(Bh.mp ha).1;refine⟨by show (objs.modify a f).size=_;rw[Array.size_modify,sz],le,λb hb=>?_⟩;show _=(objs.modify a f)[b]?;rw[Array.getElem?_modify];by_cases e:a=b
 ·subst e;rw[Ms,if_pos rfl,ha];rfl
 ·rw[Mt _ 12 t a b (by show a<4096;lia) (by show b<4096;lia) e,at_ b hb,if_neg e]
noncomputable def Ul:Sem Fin->Bool
 |.load ..=>true
 |.update ..=>true
 |.alloc ..=>true
 |.loadIfAlive ..=>true
 |_=>false
theorem zgV{den:Code->Sem Fin}{p:Program}{w:World}{h:Heap}{s s':Shared}{t t':Thread}(hn:Ul t.cur=false)(e:step den p w s t=.go s' t'):step den p w {s with heap:=h} t=.go {s' with heap:=h} t':=by
 obtain⟨heap,gens,drawn,toks,os⟩:=s;obtain⟨cur,code,pos,stack⟩:=t;cases cur<;>simp only[step,finish] at e ⊢<;>(repeat' split at e)<;>first|(cases hn;done)|(cases e;done)|(cases e;rfl)|(cases e;simp_all;done)
noncomputable def k_(tb:String->Option Builtin)(p:Program)(w:World)(n₀:Nat)(ann:Option Value):Nat->Tr->Nat->Shared->Thread->Option (Tr×Nat×Shared)
 |0,_,_,_,_=>none
 |m+1,t,z,s,th=>match through th with
  |true=>some (t,z,s)
  |false=>match stepOk n₀ ann th with
   |false=>none
   |true=>match th with
    |⟨cur,code,pos,stack⟩=>match cur with
     |.load a _ k=>(match nq t z a with
      |some o=>k_ tb p w n₀ ann m t z s ⟨k o,code,pos,stack⟩
      |none=>none)
     |.loadIfAlive a k=>k_ tb p w n₀ ann m t z s ⟨k (nq t z a),code,pos,stack⟩
     |.update a _ f k=>(match nq t z a with
      |some o=>k_ tb p w n₀ ann m (t.put 12 a (f o)) z s ⟨k (),code,pos,stack⟩
      |none=>none)
     |.alloc o k=>(match Nat.succ z with
      |0=>none
      |n+1=>match Nat.ble n 4095 with
       |true=>k_ tb p w n₀ ann m (t.put 12 n o) (n+1) s ⟨k n,code,pos,stack⟩
       |false=>none)
     |c=>match step (denote tb) p w s ⟨c,code,pos,stack⟩ with
      |.go s' t'=>k_ tb p w n₀ ann m t z s' t'
      |.halt _ _=>none
theorem Um{tb:String->Option Builtin}{p:Program}{w:World}{n₀:Nat}{ann:Option Value}:∀(m:Nat) {t t':Tr} {z z':Nat} {s s':Shared} {th:Thread} {h:Heap},Rl t z h->k_ tb p w n₀ ann m t z s th=some (t',z',s')->
  ∃h',Rl t' z' h'/\h'.life=h.life/\topRun tb p w n₀ ann m {s with heap:=h} th=some {s' with heap:=h'}
 |0,_,_,_,_,_,_,_,_,_,e=>by cases e
 |m+1,t,t',z,z',s,s',th,h,r,e=>by
  have ih:=@Um tb p w n₀ ann m;unfold k_ at e;unfold topRun;cases ht:through th with
  |true=>
   rw[ht] at e;cases e;exact⟨h,r,rfl,rfl⟩
  |false=>
   rw[ht] at e;cases hk:stepOk n₀ ann th with
   |false=>rw[hk] at e;cases e
   |true=>
    rw[hk] at e;dsimp only at e ⊢;obtain⟨cur,code,pos,stack⟩:=th;by_cases hn:Ul cur=false
    ·have key:(match step (denote tb) p w s ⟨cur,code,pos,stack⟩ with
       |.go s' t'=>k_ tb p w n₀ ann m t z s' t'
       |.halt _ _=>none)=some (t',z',s')->∃h',Rl t' z' h'/\h'.life=h.life/\(match step (denote tb) p w {s with heap:=h} ⟨cur,code,pos,stack⟩ with
        |.go s' t'=>topRun tb p w n₀ ann m s' t'
        |.halt _ _=>none)=some {s' with heap:=h'}:=λe2=>by
      cases hs:step (denote tb) p w s ⟨cur,code,pos,stack⟩ with
      |halt _ _=>rw[hs] at e2;cases e2
      |go s1 t1=>
       rw[hs] at e2;obtain⟨h',a,b,c⟩:=ih (h:=h) r e2;exact⟨h',a,b,by rw[zgV (h:=h) hn hs];exact c⟩
     cases cur<;>first|(cases hn;done)|exact key e
    ·cases cur<;>first|exact absurd rfl hn|skip
     case load a q k=>
      dsimp only at e;cases hg:nq t z a with
      |none=>rw[hg] at e;cases e
      |some o=>
       rw[hg] at e;obtain⟨h',a1,b,c⟩:=ih (h:=h) r e;refine⟨h',a1,b,?_⟩;rw[r.get] at hg;simp only[step,hg];exact c
     case loadIfAlive a k=>
      dsimp only at e;obtain⟨h',a1,b,c⟩:=ih (h:=h) r e;rw[r.get] at c;exact⟨h',a1,b,c⟩
     case update a q f k=>
      dsimp only at e;cases hg:nq t z a with
      |none=>rw[hg] at e;cases e
      |some o=>
       rw[hg] at e;rw[r.get] at hg;obtain⟨h',a1,b,c⟩:=ih (h:=h.update a f) (r.upd hg) e;refine⟨h',a1,b.trans (by cases h;rfl),?_⟩;simp only[step,hg];exact c
     case alloc o k=>
      dsimp only at e;cases hb:Nat.ble z 4095 with
      |false=>rw[hb] at e;cases e
      |true=>
       rw[hb] at e;obtain⟨h',a1,b,c⟩:=ih (h:=h.push o) (r.push o (by have:=Nat.ble_eq.mp hb;lia)) e;refine⟨h',a1,b.trans (by cases h;rfl),?_⟩;simp only[step,r.sz];exact c
noncomputable def lst(g:Nat->Option Obj):Nat->Nat->List Obj
 |0,_=>[]
 |n+1,i=>match g i with
  |some o=>o::lst g n (i+1)
  |none=>[]
theorem Uo{g:Nat->Option Obj}:∀{l:List Obj} {i:Nat},(∀j,j<l.length->g (i+j)=l[j]?)->lst g l.length i=l
 |[],_,_=>rfl
 |o::l,i,h=>by
  have h0:=h 0 (Je _);show (match g i with|some o=>o::lst g l.length (i+1)|none=>[])=_;rw[show g i=some o from h0,Uo (l:=l) λj hj=>by rw[show i+1+j=i+(j+1) by lia];exact h (j+1) (Nat.succ_lt_succ hj)]
noncomputable def wY(t:Tr)(z:Nat)(l:Life):Heap:=⟨⟨lst (t.get 12) z 0⟩,l⟩
theorem Rl.wY{t:Tr}{z:Nat}{h:Heap}(r:Rl t z h):wY t z h.life=h:=by
 obtain⟨⟨objs⟩,l⟩:=h;have sz:objs.length=z:=r.sz;subst sz;unfold Mi.wY;rw[Uo λj hj=>by rw[Nat.zero_add];exact(r.at_ j hj).trans Zaa]
noncomputable def Jo:List Obj->Nat->Tr->Tr
 |[],_,t=>t
 |o::r,i,t=>Jo r (i+1) (t.put 12 i o)
theorem Uq{l:Life}:∀{r a:List Obj} {t:Tr},(a++r).length<=4096->Rl t a.length ⟨⟨a⟩,l⟩->Rl (Jo r a.length t) (a++r).length ⟨⟨a++r⟩,l⟩
 |[],a,t,_,h=>by rw[yF];exact h
 |o::r,a,t,hl,h=>by
  have h2:=h.push o (by rw[eZ,iB] at hl;lia);have e:a++o::r=(a++[o])++r:=by simp
  rw[e] at hl ⊢;have h3:=Uq (l:=l) (r:=r) (a:=a++[o]) (t:=t.put 12 a.length o) hl (by
   rw[eZ];have e2:(⟨⟨a++[o]⟩,l⟩ : Heap)=Heap.push ⟨⟨a⟩,l⟩ o:=by unfold Heap.push;simp
   rw[e2];exact h2)
  rw[eZ] at h3;exact h3
noncomputable def rz(p:Program)(w:World)(N:Nat):Option Shared:=(fencedOpening treeTable p w N).bind λs₀=>match s₀.heap.isNs mainGlobals&&s₀.gens.size==0&&Nat.ble s₀.heap.objs.size 4096 with
 |true=>(k_ treeTable p w s₀.heap.objs.size (s₀.heap.nsMap mainGlobals "__annotations__") N (Jo s₀.heap.objs.toList 0 .em) s₀.heap.objs.size s₀ (topStub p)).bind λr=>
  match staticsOk (importedModules p.main.body) s₀.heap (wY r.1 r.2.1 s₀.heap.life)&&namesBound p (wY r.1 r.2.1 s₀.heap.life)&&gensDone r.2.2&&laidKept s₀.heap (wY r.1 r.2.1 s₀.heap.life) with
   |true=>some {r.2.2 with heap:=wY r.1 r.2.1 s₀.heap.life}
   |false=>none
 |false=>none
theorem zhb{p:Program}{w:World}{N:Nat}{s:Shared}(e:rz p w N=some s):openEnds treeTable p w N=some s:=by
 unfold rz at e;unfold openEnds;obtain⟨s₀,h0,e⟩:=u6.mp e;rw[h0];show topFrom treeTable p w N s₀=some s;unfold topFrom;cases hb:(s₀.heap.isNs mainGlobals&&s₀.gens.size==0&&Nat.ble s₀.heap.objs.size 4096) with
 |false=>rw[hb] at e;cases e
 |true=>
  rw[hb] at e;obtain⟨h1,h2⟩:=LC.mp hb;rw[h1];obtain⟨⟨t,z,s₁⟩,h3,e⟩:=u6.mp e;have r0:Rl (Jo s₀.heap.objs.toList 0 .em) s₀.heap.objs.size s₀.heap:=Uq (l:=s₀.heap.life) (r:=s₀.heap.objs.toList) (a:=[]) (t:=.em) (Nat.ble_eq.mp h2) ⟨rfl,nj _,λa ha=>absurd ha (Nat.not_lt_zero a)⟩;obtain⟨h',r,l,c⟩:=Um N r0 h3;dsimp only at e ⊢;rw[show ({s₀ with heap:=s₀.heap}:Shared)=s₀ from rfl] at c;rw[c];rw[<-l,r.wY] at e;exact e
theorem fe{p:Program}{w:World}{N:Nat}{α:Type}{f:Shared->α}{v:α}(e:(rz p w N).map f=some v):(openEnds treeTable p w N).map f=some v:=by
 obtain⟨s,h,e⟩:=m9.mp e;rw[zhb h,<-e];rfl
end Mi
namespace dY
open PySem PySem.Spec PyProof.Rows PySem.W L2 Mi
noncomputable def top(i:Nat):Stmt:=PySem.Challenge.pw_ringhues_k62_changes_refused.main.body.getD i (.Pass ⟨0,0,0,0⟩)
noncomputable def fs1:List (Str×Stmt):=("is_whole",top 14)::("is_within",top 15)::("is_row",top 16)::("is_web",top 20)::("is_many",top 22)::("is_place",top 23)::("is_tie",top 24)::("check_web",top 26)::("without",top 31)::("untied",top 32)::("topped",top 33)::("twinned",top 34)::("put_beside",top 35)::("all_tied",top 36)::("put_together",top 37)::("shortest",top 61)::[]
noncomputable def pY:List (Str×Stmt):=("needed_places",top 64)::("needed_part",top 65)::("_law_cell",top 68)::("_law_pen",top 69)::("_law_draw",top 70)::("_law_whole",top 71)::("_law_odd",top 72)::("_law_kind",top 73)::("_law_size",top 74)::("_law_web",top 75)::("_law_is_web",top 76)::("_law_bent_web",top 77)::("_law_called",top 78)::("_law_two",top 79)::("_law_said",top 80)::("_law_both",top 81)::("law",top 82)::[]
noncomputable abbrev fs:List (Str×Stmt):=fs1++pY
noncomputable def lk:Lk:=⟨["HueError","NoRing","NoHues","NoPlace","NoArrows","NoMap","NoPaper","Apart","NoRow","NoWeb","NoText","TooGreat"],[("MOST_PLACES",8),("MOST_SPOTS",24),("SO_OFTEN",27720)],["ValueError","all","bool","divmod","int","isinstance","len","list","max","range","set","sorted","str","tuple","zip"],[],[0]⟩
noncomputable def nu:Stmt:=(vg (top 10)).getD 0 (.Pass ⟨0,0,0,0⟩)
noncomputable def ms:List vh:=[⟨9,"NoWeb.__init__",nu,["at"]⟩]
noncomputable def xs:List (Nat×Str):=[(9,"at"),(10,"at")]
noncomputable abbrev pv:Program:=PySem.Challenge.pw_ringhues_k62_changes_refused
noncomputable def qv:Program:={pv with main:={pv.main with body:=[pv.main.body.getD 82 (.Pass ⟨0,0,0,0⟩)]}}
noncomputable def loose:List Str:=(["HueError","NoRing","NoHues","NoPlace","NoArrows","NoMap","NoPaper","Apart","NoRow","NoWeb","NoText","TooGreat","is_whole","is_within","is_row","check_most","MOST_PLACES","is_web","web_of","is_many","is_place","is_tie","tie_by","check_web","check_place","tied_to","all_ends","without","untied","topped","twinned","put_beside","all_tied","put_together","with_place","joined","names_behind","names_but","renamed","Board","ring_board","MOST_SPOTS","is_ring","check_ring","lowest_terms","first_hues","first_among","first_spot","can_settle","search","SO_OFTEN","plain_rings","has_room","shortest","is_plain","needed_places","needed_part","is_needed","_law_cell","_law_pen","_law_draw","_law_whole","_law_odd","_law_kind","_law_size","_law_web","_law_is_web","_law_bent_web","_law_called","_law_two","_law_said","_law_both"]:List String).map Str.ofString
theorem zk9(w:World):(openEnds treeTable pv w 20000).map (λs=>openSeen qv loose (importedModules pv.main.body) (λs=>xlAt qv [] s&&recOk [] s) true s)=some (openGood qv loose):=by
 refine fe ?_
 kernel_rfl
theorem zjo(w:World):(openEnds treeTable pv w 20000).map (Jm fs1)=some (fs1.map λp=>some (uD p.1 p.2)):=by
 refine fe ?_
 kernel_rfl
theorem zjq(w:World):(openEnds treeTable pv w 20000).map (Jm pY)=some (pY.map λp=>some (uD p.1 p.2)):=by
 refine fe ?_
 kernel_rfl
theorem zk1(w:World):(openEnds treeTable pv w 20000).map (Uk ms xs lk)=some (ms.map (λm=>some (yL m.q m.st)),true):=by
 refine fe ?_
 kernel_rfl
theorem ws:PySem.Challenge.rw_ringhues_k62_changes_refused.wellSaid=true:=by
 kernel_rfl
theorem left:LeftO pv qv loose (λs=>xlAt qv [] s&&recOk [] s) (pX fs ms xs lk) (rm fs ms) 20000:=zej zk9 zjo zjq zk1
end dY
namespace L2
open PySem PySem.Spec PyProof.Rows
theorem dG{α:Sort u}{β:Sort v}{A B C:α->β->Prop}{P:Prop}(h:∃x y,A x y/\B x y/\C x y)(k:∀x y,A x y->B x y->C x y->P):P:=by
 obtain⟨x,y,a,b,c⟩:=h;exact k x y a b c
theorem wZ{α:Sort u}{β:Sort v}{γ:Sort w}{A B:α->β->Prop}{C D:α->β->γ->Prop}{P:Prop}(h:∃x y,A x y/\B x y/\∃z,C x y z/\D x y z)(k:∀x y,A x y->B x y->∀z,C x y z->D x y z->P):P:=by
 obtain⟨x,y,a,b,z,c,d⟩:=h;exact k x y a b z c d
theorem vm{α:Sort u}{A B:α->Prop}{P:Prop}(h:∃x,A x/\B x)(k:∀x,A x->B x->P):P:=by
 obtain⟨x,a,b⟩:=h;exact k x a b
noncomputable abbrev Key:=Sum Int Str
noncomputable def jX:Key->Value->Bool
 |.inl k,v=>Value.isInt k v
 |.inr x,v=>Value.isStrOf x v
noncomputable def Mu(w:World):Key->Int
 |.inl k=>hashInt k
 |.inr x=>hashStr w x
theorem vo:∀{k:Key} {v:Value},jX k v=true->(∃i t,k=Sum.inl i/\v=Value.int i t)\/(∃x t,k=Sum.inr x/\v=Value.str x t)
 |.inl i,v,h=>by
  obtain⟨t,e⟩:=Bo (k:=i) (v:=v) h;exact .inl ⟨i,t,rfl,e⟩
 |.inr x,v,h=>by
  obtain⟨t,e⟩:=Value.isStrOf_shape (x:=x) (v:=v) h;exact .inr ⟨x,t,rfl,e⟩
theorem zfs(i:Int)(t:Tok):jX (.inl i) (.int i t)=true:=by simp[jX,Value.isInt]
theorem zfd(x:Str)(t:Tok):jX (.inr x) (.str x t)=true:=by simp[jX,Value.isStrOf]
theorem zja(a b:Int):decide ((Sum.inl a:Key)=Sum.inl b)=(a==b):=by
 by_cases e:a=b
 ·subst e;simp
 ·have h:¬(Sum.inl a:Key)=Sum.inl b:=λq=>e (Sum.inl.inj q);rw[gH h];exact(beq_eq_false_iff_ne.mpr e).symm
theorem zkp(a b:Str):decide ((Sum.inr a:Key)=Sum.inr b)=decide (a=b):=by
 by_cases e:a=b
 ·subst e;simp
 ·have h:¬(Sum.inr a:Key)=Sum.inr b:=λq=>e (Sum.inr.inj q);rw[gH h,gH e]
theorem zkm(a:Int)(b:Str):decide ((Sum.inl a:Key)=Sum.inr b)=false:=gH (λq=>nomatch q)
theorem zjr(a:Str)(b:Int):decide ((Sum.inr a:Key)=Sum.inl b)=false:=gH (λq=>nomatch q)
noncomputable def bZ(prog:Program)(w:World):PySem.KeyKind prog w Key where
 is:=jX
 hash:=Mu w
 inj:=λv a b ha hb=>by
  rcases vo ha with ⟨i,t,rfl,rfl⟩|⟨x,t,rfl,rfl⟩
  ·rcases vo hb with ⟨j,u,rfl,e⟩|⟨y,u,rfl,e⟩
   ·injection e with e1 _;rw[e1]
   ·exact nomatch e
  ·rcases vo hb with ⟨j,u,rfl,e⟩|⟨y,u,rfl,e⟩
   ·exact nomatch e
   ·injection e with e1 _;rw[e1]
 byValue:=λk v h=>by
  rcases vo h with ⟨i,t,rfl,rfl⟩|⟨x,t,rfl,rfl⟩<;>rfl
 pyHash:=λhv h=>by
  rcases vo hv with ⟨i,t,rfl,rfl⟩|⟨x,t,rfl,rfl⟩
  ·exact wpAny_pyHash_int h
  ·exact wpAny_pyHash_str h
 eqBool:=λhu hv h=>by
  rcases vo hu with ⟨i,t,rfl,rfl⟩|⟨x,t,rfl,rfl⟩
  ·rcases vo hv with ⟨j,u,rfl,rfl⟩|⟨y,u,rfl,rfl⟩
   ·rw[zja] at h;exact wpAny_eqBool_int h
   ·rw[zkm] at h;exact SeqAt.EqAt.int_str i t y u _ _ _ _ h
  ·rcases vo hv with ⟨j,u,rfl,rfl⟩|⟨y,u,rfl,rfl⟩
   ·rw[zjr] at h;exact SeqAt.EqAt.str_int x t j u _ _ _ _ h
   ·rw[zkp] at h;exact wpAny_eqBool_str h
 «strs»:=λk x t v h=>by
  rcases vo h with ⟨i,u,rfl,e⟩|⟨y,u,rfl,e⟩
  ·exact nomatch e
  ·injection e with e1 _;subst e1;cases v<;>rfl
theorem zc3(prog:Program)(w:World)(i:Int)(t:Tok):(bZ prog w).is (.inl i) (.int i t)=true:=zfs i t
theorem zde(prog:Program)(w:World)(x:Str)(t:Tok):(bZ prog w).is (.inr x) (.str x t)=true:=zfd x t
inductive V where
 |non|bl (b:Bool)|int (i:Int)|str (x:Str)|Jp (b:Array UInt8)|flt (b:UInt64)|ref (a:Addr)|ty (n:String)
 deriving DecidableEq
noncomputable def RelV:V->Value->Prop
 |.non,u=>u=Value.none
 |.bl b,u=>u=Value.bool b
 |.int i,u=>∃t,u=Value.int i t
 |.str x,u=>∃t,u=Value.str x t
 |.Jp b,u=>∃t,u=Value.bytes b t
 |.flt b,u=>∃t,u=Value.float b t
 |.ref a,u=>u=Value.ref a
 |.ty n,u=>u=Value.type n
noncomputable abbrev Vals:List V->List Value->Prop:=Paired RelV
theorem Vals.length{xs:List V}{us:List Value}(r:Vals xs us):xs.length=us.length:=Paired.length r
theorem Vals.get:∀{xs:List V} {us:List Value} {i:Nat} {x:V},Vals xs us->xs[i]?=some x->∃u,us[i]?=some u/\RelV x u
 |_,_,_,_,.nil,e=>by simp at e
 |_,_,0,_,.cons r _,e=>by simp at e;subst e;exact⟨_,rfl,r⟩
 |_,_,i+1,x,.cons _ t,e=>by
  obtain⟨u,h1,h2⟩:=Vals.get (i:=i) (x:=x) t (by simpa using e);exact⟨u,by simpa using h1,h2⟩
theorem Vals.set{x:V}{u:Value}(r:RelV x u):∀{xs:List V} {us:List Value} (i:Nat),Vals xs us->Vals (xs.set i x) (us.set i u)
 |_,_,_,.nil=>.nil
 |_,_,0,.cons _ t=>.cons r t
 |_,_,i+1,.cons q t=>.cons q (Vals.set r i t)
theorem Vals.append{xs ys:List V}{us ws:List Value}(h:Vals xs us)(s:Vals ys ws):Vals (xs++ys) (us++ws):=by
 induction h with
 |nil=>exact s
 |cons r _ ih=>exact .cons r ih
theorem Vals.take:∀{xs:List V} {us:List Value} (n:Nat),Vals xs us->Vals (xs.take n) (us.take n)
 |_,_,0,_=>.nil
 |_,_,_+1,.nil=>.nil
 |_,_,n+1,.cons r t=>.cons r (Vals.take n t)
theorem Vals.drop:∀{xs:List V} {us:List Value} (n:Nat),Vals xs us->Vals (xs.drop n) (us.drop n)
 |_,_,0,r=>r
 |_,_,_+1,.nil=>.nil
 |_,_,n+1,.cons _ t=>Vals.drop n t
noncomputable def yM:Option V->Option Value->Prop
 |some v,some u=>RelV v u
 |none,none=>True
 |_,_=>False
noncomputable def KV{κ:Type}:List (κ×V)->List (κ×Value)->Prop:=Paired λ(p:κ×V) (q:κ×Value)=>p.1=q.1/\RelV p.2 q.2
noncomputable def kV:Key->V
 |.inl i=>.int i
 |.inr x=>.str x
inductive HO where
 |lst (xs:List V)
 |tup (xs:List V)
 |dK (kvs:List (Key×V))|dT (kvs:List (List Key×V))
 |set (S:Int->Bool) (n:Nat)
 |ins (C dx:Addr) (fs:List (Str×V))
 |own (x:Addr)
 |xd (fs:List (Str×V))
 |met (f x:Addr)
 |rng (lo hi:Int)
 |uE (o:Obj) (u:HO)
 |yN (ps:Array Value)
 |ext (U:Heap->Prop)
noncomputable abbrev Hp:=Addr->Option HO
noncomputable def upd(H:Hp)(a:Addr)(o:HO):Hp:=λb=>if b=a then some o else H b
theorem jN{H:Hp}{a:Addr}{o:HO}:upd H a o a=some o:=by unfold upd;rw[if_pos rfl]
theorem cQ{H:Hp}{a b:Addr}{o:HO}(h:b≠a):upd H a o b=H b:=by unfold upd;rw[if_neg h]
theorem Ur{H:Hp}{a:Addr}{o u:HO}:upd (upd H a o) a u=upd H a u:=by
 funext b;unfold upd;split<;>rfl
theorem BL{H:Hp}{a b:Addr}{o:HO}(h:H a=some o)(h':H b=none):a≠b:=by
 intro e;subst e;rw[h] at h';cases h'
section
variable (P:Program)(w:World)
noncomputable def aR(H:Hp)(h:Heap)(a:Addr):HO->Prop
 |.lst xs=>xs.length<=sizeLine/\∃(its:List Value) (n:Nat),Vals xs its/\h.get? a=some {cls:=.type "list",data:=.seq its.toArray n}
 |.tup xs=>xs.length<=sizeLine/\∃its:List Value,Vals xs its/\IsTup h a its.toArray
 |.dK kvs=>kvs.length<=sizeLine/\(a==sysModules)=false/\∃vs,KV kvs vs/\h.DictOf (bZ P w) a vs
 |.dT kvs=>kvs.length<=sizeLine/\(a==sysModules)=false/\∃xs:List (List Key×Addr×Value),
   Paired (λ(p:List Key×V) (q:List Key×Addr×Value)=>p.1=q.1/\H q.2.1=some (.tup (p.1.map kV))/\RelV p.2 q.2.2) kvs xs /\
   ∃o es ep,h.get? a=some o/\o.ExactDict/\o.data=.dict es ep/\es.toList=xs.map (entryOfKey (tupleKind (bZ P w)))/\(xs.map (·.1)).Nodup
 |.set S n=>h.SetOf (intKind P w) a S n
 |.ins C dx fs=>H dx=some (.own a)/\fs.length<=1000/\dx≠a/\h.get? a=some (PySem.W.instObj C dx) /\
   ∃mA,h.Ns1 dx mA/\(∀f,yM (fs.lookup f) (mA f))/\PySem.Within mA (fs.map (·.1))
 |.own _=>∃o,h.get? a=some o
 |.xd fs=>∃mA,h.Ns1 a mA/\∀f,yM (fs.lookup f) (mA f)
 |.rng lo hi=>∃t u v,h.get? a=some {cls:=.type "range",data:=.fields #[.int lo t,.int hi u,.int 1 v]}
 |.uE o u=>h.get? a=some o/\aR H h a u
 |.yN ps=>h.get? a=some {cls:=.none,data:=.fields ps}
 |.met f x=>h.get? a=some (PySem.W.methodObj (.ref f) (.ref x))
 |.ext U=>U h/\(∃o,h.get? a=some o)/\∀h1 h2:Heap,U h1->(∀o,h1.get? a=some o->h2.get? a=some o)->U h2
def fU(H:Hp)(h:Heap):Prop:=∀a o,H a=some o->aR P w H h a o
end
section
variable {P:Program}{w:World}{H H':Hp}{h h':Heap}{a:Addr}{o:HO}
theorem aR.lt(x:aR P w H h a o):a<h.objs.size:=by
 cases o with
 |lst xs=>obtain⟨_,_,_,_,e⟩:=x;exact bK e
 |tup xs=>obtain⟨_,_,_,p⟩:=x;exact p.lt
 |dK kvs=>obtain⟨_,_,_,_,o,_,_,e,_⟩:=x;exact bK e
 |dT kvs=>obtain⟨_,_,_,_,o,_,_,e,_⟩:=x;exact bK e
 |set S n=>obtain⟨o,_,_,_,e,_⟩:=x;exact bK e
 |ins C dx fs=>obtain⟨_,_,_,e,_⟩:=x;exact bK e
 |own y=>obtain⟨_,e⟩:=x;exact bK e
 |xd fs=>obtain⟨_,⟨_,_,_,e,_⟩,_⟩:=x;exact bK e
 |rng lo hi=>obtain⟨_,_,_,e⟩:=x;exact bK e
 |uE ob u=>obtain⟨e,_⟩:=x;exact bK e
 |yN ps=>exact bK (show h.get? a=some _ from x)
 |met f y=>exact bK (show h.get? a=some _ from x)
 |ext U=>obtain⟨_,⟨_,e⟩,_⟩:=x;exact bK e
theorem Us{α β:Type}{F G:α->β->Prop}:∀{l₁:List α} {l₂:List β},Paired F l₁ l₂->(∀a b,F a b->G a b)->Paired G l₁ l₂
 |_,_,.nil,_=>.nil
 |_,_,.cons r t,f=>.cons (f _ _ r) (Us t f)
theorem aR.stay(x:aR P w H h a o)(k:∀b u,(b=a\/H b=some (.own a))->h.get? b=some u->h'.get? b=some u)
  (ho:∀b,H b=some (.own a)->H' b=some (.own a)) (ht:∀b xs,H b=some (.tup xs)->H' b=some (.tup xs)):aR P w H' h' a o:=by
 induction o with
 |lst xs=>obtain⟨z,its,n,r,e⟩:=x;exact⟨z,its,n,r,k _ _ (.inl rfl) e⟩
 |tup xs=>obtain⟨z,its,r,ob,e,c⟩:=x;exact⟨z,its,r,ob,k _ _ (.inl rfl) e,c⟩
 |dK kvs=>obtain⟨z,y,vs,r,ob,es,ep,e,c⟩:=x;exact⟨z,y,vs,r,ob,es,ep,k _ _ (.inl rfl) e,c⟩
 |dT kvs=>
  obtain⟨z,y,xs,r,ob,es,ep,e,c⟩:=x;exact⟨z,y,xs,Us r λp q z=>⟨z.1,ht _ _ z.2.1,z.2.2⟩,ob,es,ep,k _ _ (.inl rfl) e,c⟩
 |set S n=>obtain⟨ob,es,ep,t,e,c⟩:=x;exact⟨ob,es,ep,t,k _ _ (.inl rfl) e,c⟩
 |ins C dx fs=>
  obtain⟨d,z,ne,e,mA,⟨od,es,ep,e2,c⟩,r⟩:=x;exact⟨ho _ d,z,ne,k _ _ (.inl rfl) e,mA,⟨od,es,ep,k _ _ (.inr d) e2,c⟩,r⟩
 |own y=>obtain⟨ob,e⟩:=x;exact⟨ob,k _ _ (.inl rfl) e⟩
 |xd fs=>obtain⟨mA,⟨od,es,ep,e,c⟩,r⟩:=x;exact⟨mA,⟨od,es,ep,k _ _ (.inl rfl) e,c⟩,r⟩
 |rng lo hi=>obtain⟨t,u,v,e⟩:=x;exact⟨t,u,v,k _ _ (.inl rfl) e⟩
 |uE ob u ih=>obtain⟨e,q⟩:=x;exact⟨k _ _ (.inl rfl) e,ih q⟩
 |yN ps=>
  have e:h.get? a=some {cls:=.none,data:=.fields ps}:=x;show h'.get? a=some {cls:=.none,data:=.fields ps};exact k a _ (.inl rfl) e
 |met f y=>
  have e:h.get? a=some (PySem.W.methodObj (.ref f) (.ref y)):=x;show h'.get? a=some (PySem.W.methodObj (.ref f) (.ref y));exact k a _ (.inl rfl) e
 |ext U=>obtain⟨p,⟨o,e⟩,st⟩:=x;exact⟨st _ _ p λo q=>k _ _ (.inl rfl) q,⟨o,k _ _ (.inl rfl) e⟩,st⟩
theorem fU.lt(x:fU P w H h)(e:H a=some o):a<h.objs.size:=(x a o e).lt
theorem fU.fresh(x:fU P w H h)(e:h.objs.size<=a):H a=none:=by
 cases q:H a with
 |none=>rfl
 |some u=>exact absurd (fK (x.lt q) e) (lZ _)
theorem fU.kept(x:fU P w H h)(k:∀b u,h.get? b=some u->h'.get? b=some u):fU P w H h':=λa o e=>
 (x a o e).stay (λb u _ q=>k b u q) (λ_ q=>q) λ_ _ q=>q
theorem fU.laid(x:fU P w H h)(k:∀b u,h.get? b=some u->h'.get? b=some u)(hp:h.objs.size<=a)(new:aR P w (upd H a o) h' a o):fU P w (upd H a o) h':=λb u e=>by
 have hn:=x.fresh hp;by_cases hb:b=a
 ·subst hb;rw[jN] at e;cases e;exact new
 ·rw[cQ hb] at e;exact(x b u e).stay (λc v _ q=>k c v q) (λc q=>by rw[cQ (BL q hn)];exact q) λc xs q=>by rw[cQ (BL q hn)];exact q
end
def Rd(H:Hp)(a:Addr)(u:HO):Prop:=H a=some u\/∃o,H a=some (.uE o u)
theorem Rd.ok{P:Program}{w:World}{H:Hp}{h:Heap}{a:Addr}{u:HO}(r:Rd H a u)(x:fU P w H h):aR P w H h a u:=by
 rcases r with r|⟨o,r⟩
 ·exact x a u r
 ·obtain⟨_,q⟩:=x a _ r;exact q
noncomputable def DW:Option HO->Prop
 |some (.lst _)=>True
 |some (.dK _)=>True
 |some (.dT _)=>True
 |some (.set _ _)=>True
 |some (.ins _ _ _)=>True
 |some (.ext _)=>True
 |_=>False
section
variable {P:Program}{w:World}{H:Hp}{h h':Heap}{x e:Addr}{o':HO}
theorem fU.write(ok:fU P w H h)(mu:DW (H x))(he:e=x\/H e=some (.own x))(k:∀b u,b≠e->h.get? b=some u->h'.get? b=some u)(BP:∃u,h'.get? e=some u)
  (new:aR P w (upd H x o') h' x o'):fU P w (upd H x o') h':=λb u q=>by
 have DX:∀c y,H c=some (.own y)->c≠x:=λc y r z=>by subst z;rw[r] at mu;exact mu
 have Mv:∀c xs,H c=some (.tup xs)->c≠x:=λc xs r z=>by subst z;rw[r] at mu;exact mu
 by_cases hb:b=x
 ·subst hb;rw[jN] at q;cases q;exact new
 ·rw[cQ hb] at q;by_cases yO:b=e
  ·have q':H b=some (.own x):=by
    rcases he with z|z
    ·exact absurd (yO.trans z) hb
    ·rw[yO];exact z
   rw[q] at q';cases q';obtain⟨v,hv⟩:=BP;exact⟨v,by rw[yO];exact hv⟩
  ·refine(ok b u q).stay (λc v hc r=>k c v ?_ r) (λc r=>by rw[cQ (DX c b r)];exact r) λc xs r=>by rw[cQ (Mv c xs r)];exact r
   rcases hc with rfl|hc
   ·exact yO
   ·rintro rfl;rcases he with z|z
    ·exact DX c b hc z
    ·rw[hc] at z;cases z;exact hb rfl
end
structure Un(fs ex:List Addr)(H H':Hp)(h h':Heap):Prop where
 keep:∀b o,h.get? b=some o->H b=none->b∉fs->b∉ex->h'.get? b=some o
 slot:∀b o,h.get? b=some o->H b=none->b∈fs->b∉ex->∃sl,h'.get? b=some {o with slots:=sl}
 free:∀b o,h.get? b=some o->H b=none->b∉ex->H' b=none
 there:∀b o,h.get? b=some o->b∉ex->∃o',h'.get? b=some o'
 tups:∀b xs,H b=some (.tup xs)->H' b=some (.tup xs)
 iG:∀b o u,H b=some (.uE o u)->H' b=some (.uE o u)
 jg:∀b ps,H b=some (.yN ps)->∃more,H' b=some (.yN (ps++more))
section
variable {fs fs' ex ex':List Addr}{H H1 H2:Hp}{h h1 h2 h':Heap}{a x e:Addr}{o:HO}
theorem Un.any(u:Un fs ex H H1 h h1){b:Addr}{ob:Obj}(q:h.get? b=some ob)(n:H b=none)(hx:b∉ex):∃sl,h1.get? b=some {ob with slots:=sl}:=by
 by_cases hb:b∈fs
 ·exact u.slot b ob q n hb hx
 ·exact⟨ob.slots,u.keep b ob q n hb hx⟩
theorem Un.kept(k:∀b u,h.get? b=some u->h'.get? b=some u):Un fs ex H H h h':=
 ⟨λb ob q _ _ _=>k b ob q,λb ob q _ _ _=>⟨ob.slots,k b ob q⟩,λ_ _ _ n _=>n,λb ob q _=>⟨ob,k b ob q⟩,λ_ _ q=>q,λ_ _ _ q=>q,λ_ ps q=>⟨#[],by rw[q];simp⟩⟩
theorem Un.refl:Un fs ex H H h h:=Un.kept λ_ _ q=>q
theorem Un.laid(k:∀b u,h.get? b=some u->h'.get? b=some u)(hp:h.objs.size<=a)(hn:H a=none):Un fs ex H (upd H a o) h h' where
 keep:=λb u q _ _ _=>k b u q
 slot:=λb u q _ _ _=>⟨u.slots,k b u q⟩
 free:=λb u q n _=>by rw[cQ (cP (fK (bK q) hp))];exact n
 there:=λb u q _=>⟨u,k b u q⟩
 tups:=λb xs q=>by rw[cQ (BL q hn)];exact q
 iG:=λb u xs q=>by rw[cQ (BL q hn)];exact q
 jg:=λb ps q=>⟨#[],by rw[cQ (BL q hn),q];simp⟩
theorem Un.write(mu:DW (H x))(he:e=x\/H e=some (.own x))(k:∀b u,b≠e->h.get? b=some u->h'.get? b=some u)(BP:∃u,h'.get? e=some u):Un fs ex H (upd H x o) h h':=by
 have hx:∀b,H b=none->b≠x:=λb n z=>by subst z;rw[n] at mu;exact mu
 have hb:∀b,H b=none->b≠e:=λb n z=>by
  subst z;rcases he with r|r
  ·exact hx b n r
  ·rw[n] at r;cases r
 have hm:∀b u,H b=some u->¬DW (some u)->b≠x:=λb u q nm z=>by subst z;rw[q] at mu;exact nm mu
 refine⟨λb u q n _ _=>k b u (hb b n) q,λb u q n _ _=>⟨u.slots,k b u (hb b n) q⟩,λb u q n _=>by rw[cQ (hx b n)];exact n,λb u q _=>?_,
  λb xs q=>by rw[cQ (hm b _ q λz=>z)];exact q,λb u xs q=>by rw[cQ (hm b _ q λz=>z)];exact q,λb ps q=>⟨#[],by rw[cQ (hm b _ q λz=>z),q];simp⟩⟩
 by_cases yO:b=e
 ·subst yO;exact BP
 ·exact⟨u,k b u yO q⟩
end
noncomputable def Jq(h:Heap)(H:Hp):List Addr:=(List.range h.objs.size).filter λa=>(H a).isSome
noncomputable def lg(h:Heap)(H:Hp):Heap:=PySem.W.hideAll h (Jq h H)
theorem zf3(h:Heap)(H:Hp):(lg h H).objs.size=h.objs.size:=PySem.W.hideAll_size _ _
theorem zg1{h:Heap}{H:Hp}{b:Addr}{o:Obj}(e:h.get? b=some o)(n:H b=none):(lg h H).get? b=some o:=
 PySem.W.hideAll_get _ e λhm=>by
  have q:(H b).isSome=true:=(List.mem_filter.mp hm).2;rw[n] at q;simp at q
theorem zhZ{h:Heap}{H:Hp}{b:Addr}{o:Obj}(e:(lg h H).get? b=some o):h.get? b=some o/\H b=none:=by
 have e':h.get? b=some o:=PySem.W.of_hideAll (Jq h H) e;refine⟨e',?_⟩;cases q:H b with
 |none=>rfl
 |some x=>
  have hm:b∈Jq h H:=List.mem_filter.mpr ⟨uw.mpr (bK e'),by simp[q]⟩;have z:(lg h H).get? b=none:=PySem.W.hideAll_none (Jq h H) hm;rw[z] at e;cases e
structure Mod(K:W.Frag)(mg:Str->Option Value)(base:Heap):Prop where
 yK:K.In base
 glob:base.Ns mainGlobals mg
 blt:∃mb,base.Ns builtinsNs mb/\∀x:Str,x≠"__name__"->mb x=bootBuiltins x
 nolimit:base.NoLimit
structure Cx where
 prog:Program
 w:World
 K:W.Frag
 mg:Str->Option Value
 base:Heap
 A:Around
 N:List Str
 s₀:Shared
 H₀:Hp
 env:Env
 outer:List Env
 stack:List Env
 ex:List Addr
 fn:Str->Bool
 aj:Bool
 pn:List (Addr×Obj)
 xe:Value->Shared->Prop
noncomputable def frs(l:List Env):List Addr:=l.filterMap (·.frame)
noncomputable abbrev Cx.fs(X:Cx):List Addr:=frs X.outer
def Mw(sc:Scope)(x:Str):Prop:=sc.names.lookup x=some .local\/sc.names.lookup x=some .cell\/sc.names.lookup x=some .free
def Loc(sc:Scope)(x:Str):Prop:=sc.names.lookup x=some .local\/sc.names.lookup x=some .cell
def Look(env:Env)(h:Heap)(m:Str->Option Value)(x:Str)(u:Value):Prop:=
 (env.kindOf x=some .local/\m x=some u)\/((env.kindOf x=some .cell\/env.kindOf x=some .free)/\∃c,env.cells.lookup x=some c/\h.IsCell c (some u))
structure Cx.Ok(X:Cx):Prop where
 mod:Mod X.K X.mg X.base
 kind:X.env.scope.kind=.function
 glob:X.env.globals=mainGlobals
 blt:X.env.builtins=builtinsNs
 above:X.s₀.heap.objs.size<=X.env.locals
 inj:∀x y c,X.env.cells.lookup x=some c->X.env.cells.lookup y=some c->x=y
 has:∀x,(X.env.kindOf x=some .cell\/X.env.kindOf x=some .free)->∃c,X.env.cells.lookup x=some c
 cab:∀x c,X.fn x=true->X.env.cells.lookup x=some c->X.s₀.heap.objs.size<=c
 hd:X.aj=true->X.A.handled=none
 frames:X.A.frames=some X.stack
 stk:X.stack=X.outer\/(X.stack=X.env::X.outer/\X.env.frame=some X.env.locals)
 Ut:∀b∈X.ex,b≠X.env.locals/\∀x c,X.env.cells.lookup x=some c->c≠b
 bs:∀b o,X.base.get? b=some o->X.s₀.heap.get? b=some o/\X.H₀ b=none
 xg:X.base.objs.size<=X.s₀.heap.objs.size
 rA:∀b o,X.base.get? b=some o->b∉X.ex
 vp:∀b∈X.ex,b∉X.fs
 jh:X.s₀.heap.FunFrames X.base X.outer
 BR:∀b∈X.fs,X.H₀ b=none
structure Inv(X:Cx)(ak:List (Addr×Obj))(Z:List (Option V))(H:Hp)(s:Shared):Prop where
 ok:X.Ok
 os:s.os=X.s₀.os
 bare:AllBare s.gens
 base:Un X.fs X.ex X.H₀ H X.s₀.heap s.heap
 loc:∃m,s.heap.Ns X.env.locals m/\∀(i:Nat) (x:Str) (v:V),X.N[i]?=some x->Z[i]?=some (some v)->Mw X.env.scope x->∃u,RelV v u/\Look X.env s.heap m x u
 cell:∀x c,X.env.cells.lookup x=some c->∃v,s.heap.IsCell c v
 free:H X.env.locals=none
 dH:∀x c,X.env.cells.lookup x=some c->H c=none
 pin:∀p∈X.pn++ak,s.heap.get? p.1=some p.2/\H p.1=none/\p.1≠X.env.locals/\p.1∉X.fs/\∀v,p.2.data≠.cell v
 hok:fU X.prog X.w H s.heap
 len:Z.length=X.N.length
section
variable {X:Cx}{ak:List (Addr×Obj)}{Z:List (Option V)}{H H':Hp}{s:Shared}{h':Heap}
theorem Cx.Ok.Mx(ok:X.Ok){b:Addr}{o:Obj}(e:X.base.get? b=some o):b∉X.fs:=λhb=>by
 have:=(ok.jh.mem hb).1;rw[e] at this;cases this
theorem Inv.bs(I:Inv X ak Z H s):∀b o,X.base.get? b=some o->s.heap.get? b=some o/\H b=none:=λb o e=>
 ⟨I.base.keep b o (I.ok.bs b o e).1 (I.ok.bs b o e).2 (I.ok.Mx e) (I.ok.rA b o e),I.base.free b o (I.ok.bs b o e).1 (I.ok.bs b o e).2 (I.ok.rA b o e)⟩
theorem Inv.bk(I:Inv X ak Z H s):∀b o,X.base.get? b=some o->s.heap.get? b=some o:=λb o e=>(I.bs b o e).1
theorem Inv.mod(I:Inv X ak Z H s):Mod X.K X.mg X.base:=I.ok.mod
theorem Inv.o8(I:Inv X ak Z H s):X.K.In s.heap:=I.ok.mod.yK.keeps I.bk
theorem Inv.nolimit(I:Inv X ak Z H s):s.heap.NoLimit:=I.ok.mod.nolimit.keeps I.bk
theorem Inv.lt(I:Inv X ak Z H s):X.env.locals<s.heap.objs.size:=let ⟨_,hn,_⟩:=I.loc;hn.lt
theorem Inv.sz(I:Inv X ak Z H s):X.s₀.heap.objs.size<=s.heap.objs.size:=mV I.ok.above (wU I.lt)
theorem Inv.Mz(I:Inv X ak Z H s){a:Addr}(h:s.heap.objs.size<=a):a∉X.fs:=λhb=>by
 obtain⟨_,o,ho,_⟩:=I.ok.jh.mem hb;exact absurd (fK (bK ho) (mV I.sz h)) (lZ _)
theorem Inv.vq(I:Inv X ak Z H s):∀x c,X.env.cells.lookup x=some c->c≠X.env.locals:=λx c e z=>by
 obtain⟨v,o,ho,hd⟩:=I.cell x c e;obtain⟨m,⟨o',es,ep,ji,yP,_⟩,_⟩:=I.loc;rw[z,ji] at ho;cases ho;rw[yP] at hd;cases hd
theorem Inv.jh(I:Inv X ak Z H s):s.heap.FunFrames X.base X.outer:=by
 have all:∀(l:List Env),(∀b∈frs l,b∈X.fs)->X.s₀.heap.FunFrames X.base l->s.heap.FunFrames X.base l:=by
  intro l
  induction l with
  |nil=>intro _ _;trivial
  |cons env r ih=>
   intro hs hl;obtain⟨hk,⟨L,o,hf,hn,ho,hd⟩,hr⟩:=hl;have hL:L∈X.fs:=hs L (by unfold frs;rw[Dq,hf];exact dM);obtain⟨sl,e⟩:=I.base.slot L o ho (I.ok.BR L hL) hL λz=>I.ok.vp L z hL;exact⟨hk,⟨L,_,hf,hn,e,hd⟩,ih (λb hb=>hs b (by unfold frs;rw[Dq,hf];exact dF _ hb)) hr⟩
 exact all X.outer (λ_ hb=>hb) I.ok.jh
theorem Inv.stack(I:Inv X ak Z H s):s.heap.FunFrames X.base X.stack:=by
 rcases I.ok.stk with e|⟨e,hf⟩
 ·rw[e];exact I.jh
 ·rw[e];obtain⟨m,hn,_⟩:=I.loc;refine .cons (by rw[I.ok.kind];decide) hf hn ?_ I.jh;exact Bj (mV I.ok.xg I.ok.above)
theorem Inv.lq(I:Inv X ak Z H s):∀b∈frs X.stack,b∈X.env.locals::X.fs:=λb hb=>by
 rcases I.ok.stk with e|⟨e,hf⟩
 ·rw[e] at hb;exact dF _ hb
 ·rw[e] at hb;unfold frs at hb;rw[Dq,hf] at hb;exact hb
theorem Inv.iQ(I:Inv X ak Z H s):∀b∈frs X.stack,H b=none:=λb hb=>by
 rcases cV.mp (I.lq b hb) with e|hb
 ·rw[e];exact I.free
 ·obtain⟨_,o,ho,_⟩:=I.ok.jh.mem hb;exact I.base.free b o ho (I.ok.BR b hb) λz=>I.ok.vp b z hb
theorem Inv.step{g':Array GenState}{t':Nat}{d':Drawn}{ch:List Addr}(I:Inv X ak Z H s)
  (uF:∀b∈ch,(b∈X.ex\/X.s₀.heap.get? b=none)/\b≠X.env.locals/\(∀x c,X.env.cells.lookup x=some c->c≠b)/\∀p∈X.pn++ak,p.1≠b)
  (keep:∀b o,b≠X.env.locals->b∉X.fs->b∉ch->s.heap.get? b=some o->H b=none->h'.get? b=some o)
  (slot:∀b o,b≠X.env.locals->b∈X.fs->b∉ch->s.heap.get? b=some o->H b=none->∃sl,h'.get? b=some {o with slots:=sl}) (free:∀b o,b∉ch->s.heap.get? b=some o->H b=none->H' b=none)
  (there:∀b o,b∉ch->s.heap.get? b=some o->∃o',h'.get? b=some o')
  (tups:∀b xs,H b=some (.tup xs)->H' b=some (.tup xs)) (iG:∀b o u,H b=some (.uE o u)->H' b=some (.uE o u)) (jg:∀b ps,H b=some (.yN ps)->∃more,H' b=some (.yN (ps++more)))
  (ns:∀m,s.heap.Ns X.env.locals m->h'.Ns X.env.locals m) (hok:fU X.prog X.w H' h') (hg:AllBare g') :
  Inv X ak Z H' {s with heap:=h',gens:=g',drawn:=d',toks:=t'}:=by
 have Uu:∀b o,X.s₀.heap.get? b=some o->b≠X.env.locals:=λb o e=>cP (fK (bK e) I.ok.above);have Jr:∀b o,X.s₀.heap.get? b=some o->b∉X.ex->b∉ch:=λb o e hx hb=>by
  rcases(uF b hb).1 with z|z
  ·exact hx z
  ·rw[e] at z;cases z
 have cellK:∀x c,X.env.cells.lookup x=some c->∀v,s.heap.IsCell c v->h'.IsCell c v:=λx c e v hx=>vm hx λo ho hd=>by
  have DY:c∉ch:=λz=>(uF c z).2.2.1 x c e rfl;by_cases hc:c∈X.fs
  ·obtain⟨sl,q⟩:=slot c o (I.vq x c e) hc DY ho (I.dH x c e);exact⟨_,q,hd⟩
  ·exact⟨o,keep c o (I.vq x c e) hc DY ho (I.dH x c e),hd⟩
 refine⟨I.ok,I.os,hg,⟨λb o e n hb hx=>?_,λb o e n hb hx=>?_,λb o e n hx=>?_,λb o e hx=>?_,λb xs e=>tups b xs (I.base.tups b xs e),λb o xs e=>iG b o xs (I.base.iG b o xs e),λb ps e=>?_⟩,?_,λx c e=>?_,?_,λx c e=>?_,λp hp=>?_,hok,I.len⟩
 ·exact keep b o (Uu b o e) hb (Jr b o e hx) (I.base.keep b o e n hb hx) (I.base.free b o e n hx)
 ·obtain⟨sl,e1⟩:=I.base.slot b o e n hb hx;obtain⟨sl',e2⟩:=slot b _ (Uu b o e) hb (Jr b o e hx) e1 (I.base.free b o e n hx);exact⟨sl',e2⟩
 ·obtain⟨o',e1⟩:=I.base.there b o e hx;exact free b o' (Jr b o e hx) e1 (I.base.free b o e n hx)
 ·obtain⟨o',e1⟩:=I.base.there b o e hx;exact there b o' (Jr b o e hx) e1
 ·obtain⟨m1,e1⟩:=I.base.jg b ps e;obtain⟨m2,e2⟩:=jg b _ e1;exact⟨m1++m2,by rw[e2,Array.append_assoc]⟩
 ·obtain⟨m,hn,hl⟩:=I.loc;refine⟨m,ns m hn,λi x v e1 e2 e3=>?_⟩;obtain⟨u,r,l⟩:=hl i x v e1 e2 e3;refine⟨u,r,?_⟩;rcases l with l|⟨k,c,e,z⟩
  ·exact .inl l
  ·exact .inr ⟨k,c,e,cellK x c e _ z⟩
 ·obtain⟨v,z⟩:=I.cell x c e;exact⟨v,cellK x c e v z⟩
 ·obtain⟨m,⟨o,_,_,ho,_⟩,_⟩:=I.loc;exact free _ o (λz=>(uF _ z).2.1 rfl) ho I.free
 ·obtain⟨v,o,ho,hd⟩:=I.cell x c e;exact free c o (λz=>(uF c z).2.2.1 x c e rfl) ho (I.dH x c e)
 ·obtain⟨e,n,ne,nf,d⟩:=I.pin p hp;have DY:p.1∉ch:=λz=>(uF p.1 z).2.2.2 p hp rfl;exact⟨keep p.1 p.2 ne nf DY e n,free p.1 p.2 DY e n,ne,nf,d⟩
theorem Inv.un{t':Nat}(I:Inv X ak Z H s)(u:Un X.fs [] H H' s.heap h')(hok:fU X.prog X.w H' h'):Inv X ak Z H' {s with heap:=h',toks:=t'}:=by
 obtain⟨m,⟨o,es,ep,ho,r⟩,_⟩:=id I.loc;obtain⟨sl,hL⟩:=u.any ho I.free Zaa;exact I.step (g':=s.gens) (d':=s.drawn) (ch:=[]) (λ_ z=>nomatch z) (λb o _ hb _ e n=>u.keep b o e n hb Zaa) (λb o _ hb _ e n=>u.slot b o e n hb Zaa) (λb o _ e n=>u.free b o e n Zaa) (λb o _ e=>u.there b o e Zaa) u.tups u.iG u.jg (λm' hm=>by
  obtain⟨o',es',ep',ji,r'⟩:=hm;rw[ho] at ji;cases ji;exact⟨_,es',ep',hL,r'⟩) hok I.bare
theorem Inv.call{g':Array GenState}{t':Nat}{d':Drawn}{ch:List Addr}(I:Inv X ak Z H s)(u:Un (frs X.stack) ch H H' s.heap h')(hok:fU X.prog X.w H' h')(hg:AllBare g')
  (uF:∀b∈ch,(b∈X.ex\/X.s₀.heap.get? b=none)/\b≠X.env.locals/\(∀x c,X.env.cells.lookup x=some c->c≠b)/\∀p∈X.pn++ak,p.1≠b) :
  Inv X ak Z H' {s with heap:=h',gens:=g',drawn:=d',toks:=t'}:=by
 obtain⟨m,⟨o,es,ep,ho,r⟩,_⟩:=id I.loc;obtain⟨sl,hL⟩:=u.any ho I.free λz=>(uF _ z).2.1 rfl;exact I.step (ch:=ch) uF (λb o hL hb hc e n=>u.keep b o e n (λz=>(cV.mp (I.lq b z)).elim hL hb) hc) (λb o _ _ hc e n=>u.any e n hc) (λb o hc e n=>u.free b o e n hc) (λb o hc e=>u.there b o e hc) u.tups u.iG u.jg (λm' hm=>by
  obtain⟨o',es',ep',ji,r'⟩:=hm;rw[ho] at ji;cases ji;exact⟨_,es',ep',hL,r'⟩) hok hg
theorem Inv.turned{t':Nat}{it:Addr}(I:Inv X ak Z H s)(k:∀b o,b≠it->s.heap.get? b=some o->h'.get? b=some o)(hn:H it=none)(hL:it≠X.env.locals)
  (h1:it∈X.ex\/X.s₀.heap.objs.size<=it) (h2:∀x c,X.env.cells.lookup x=some c->c≠it) (h3:∀p∈X.pn++ak,p.1≠it):Inv X ak Z H {s with heap:=h',toks:=t'}:=by
 have xq:∀b u,H b=some u->b≠it:=λb u e z=>by rw[z,hn] at e;cases e
 refine I.step (g':=s.gens) (d':=s.drawn) (ch:=[it]) (λb hb=>?_) (λb o _ _ hc e _=>k b o (λz=>hc (by simp[z])) e) (λb o _ _ hc e _=>⟨o.slots,k b o (λz=>hc (by simp[z])) e⟩) (λ_ _ _ _ n=>n)
  (λb o hc e=>⟨o,k b o (λz=>hc (by simp[z])) e⟩) (λ_ _ e=>e) (λ_ _ _ e=>e) (λb ps e=>⟨#[],by rw[e];simp⟩) (λm hm=>?_) (λb u e=>?_) I.bare
 ·have e:b=it:=by simpa using hb
  subst e;exact⟨h1.imp id λz=>Bj z,hL,h2,h3⟩
 ·obtain⟨o,es,ep,ho,r⟩:=hm;exact⟨o,es,ep,k _ o (Ne.symm hL) ho,r⟩
 ·refine(I.hok b u e).stay (λc v hc q=>k c v ?_ q) (λ_ q=>q) λ_ _ q=>q;rcases hc with z|z
  ·rw[z];exact xq b u e
  ·exact xq c _ z
theorem Inv.tok(I:Inv X ak Z H s)(t:Nat):Inv X ak Z H {s with toks:=t}:=I.un (h':=s.heap) (t':=t) Un.refl I.hok
theorem Inv.kept{t':Nat}(I:Inv X ak Z H s)(k:∀b u,s.heap.get? b=some u->h'.get? b=some u):Inv X ak Z H {s with heap:=h',toks:=t'}:=I.un (Un.kept k) (I.hok.kept k)
theorem Inv.laid{a:Addr}{o:HO}{t':Nat}(I:Inv X ak Z H s)(k:∀b u,s.heap.get? b=some u->h'.get? b=some u)(hp:s.heap.objs.size<=a)(new:aR X.prog X.w (upd H a o) h' a o) :
  Inv X ak Z (upd H a o) {s with heap:=h',toks:=t'}:=I.un (Un.laid k hp (I.hok.fresh hp)) (I.hok.laid k hp new)
theorem Inv.write{x e:Addr}{o:HO}{t':Nat}(I:Inv X ak Z H s)(mu:DW (H x))(he:e=x\/H e=some (.own x))(k:∀b u,b≠e->s.heap.get? b=some u->h'.get? b=some u)(BP:∃u,h'.get? e=some u)
  (new:aR X.prog X.w (upd H x o) h' x o):Inv X ak Z (upd H x o) {s with heap:=h',toks:=t'}:=I.un (Un.write mu he k BP) (I.hok.write mu he k BP new)
theorem Inv.lu{rB:List (Addr×Obj)}(I:Inv X ak Z H s)(h:∀p∈rB,s.heap.get? p.1=some p.2/\H p.1=none/\p.1≠X.env.locals/\p.1∉X.fs/\∀v,p.2.data≠.cell v):Inv X rB Z H s:=
 ⟨I.ok,I.os,I.bare,I.base,I.loc,I.cell,I.free,I.dH,λp hp=>(fX.mp hp).elim (λz=>I.pin p (qF _ z)) (h p),I.hok,I.len⟩
theorem MF{N:List Str}(hN:N.Nodup){i j:Nat}{x:Str}(a:N[i]?=some x)(b:N[j]?=some x):i=j:=by
 obtain⟨h1,e1⟩:=iK.mp a;obtain⟨h2,e2⟩:=iK.mp b;exact(List.getElem_inj hN).mp (e1.trans e2.symm)
theorem zf5{M:Model}{A:Around}{E:Value->Shared->Prop}{i:Nat}{x:Str}{v:V}{u:Value}{Q:Unit->Shared->Prop}(I:Inv X ak Z H s)(hN:X.N.Nodup)(hi:X.N[i]?=some x)(hx:Loc X.env.scope x)(r:RelV v u)
  (h:∀s',Inv X ak (Z.set i (some v)) H s'->(∃a,Heap.SameBut a s.heap s'.heap/\(a=X.env.locals\/X.env.cells.lookup x=some a))->Q () s') (hf:X.fn x=true\/X.env.scope.names.lookup x=some .local:=by first|exact .inl rfl|exact .inr rfl|assumption):wpAny M A (storeName X.env x u) Q E s:=by
 obtain⟨m,hn,hl⟩:=id I.loc;have yQ:(X.env.scope.kind==.class||(X.env.scope.kind==.module&&X.env.locals != X.env.globals))=false:=by rw[I.ok.kind];rfl
 have Uv:i<Z.length:=by rw[I.len];exact(iK.mp hi).1
 have vq:=I.vq;have tracked:∀{a:Addr} {h':Heap},(∃o,s.heap.get? a=some o/\H a=none)->Heap.SameBut a s.heap h'->fU X.prog X.w H h':=λ{a h'} ha hs b ob e=>by
  obtain⟨_,_,o9⟩:=ha;refine(I.hok b ob e).stay (λc w' hc q=>(hs.2 c ?_).trans q) (λ_ q=>q) λ_ _ q=>q;rintro rfl;rcases hc with rfl|hc
  ·rw[o9] at e;cases e
  ·rw[o9] at hc;cases hc
 rcases hx with hk|hk
 ·refine wpAny_storeName_local hk hn (λh' vA hs=>?_) yQ;obtain⟨oL,_,_,D_,_⟩:=id hn;refine h _ ⟨I.ok,I.os,I.bare,⟨λb o e n hb hx=>?_,λb o e n hb hx=>?_,I.base.free,λb o e hx=>?_,I.base.tups,I.base.iG,I.base.jg⟩,⟨_,vA,λj y v' e1 e2 e3=>?_⟩,λy c e=>?_,I.free,I.dH,λp hp=>?_,tracked ⟨oL,D_,I.free⟩ hs,by simpa using I.len⟩ ⟨_,hs,.inl rfl⟩
  ·exact(hs.2 b (cP (fK (bK e) I.ok.above))).trans (I.base.keep b o e n hb hx)
  ·obtain⟨sl,e1⟩:=I.base.slot b o e n hb hx;exact⟨sl,(hs.2 b (cP (fK (bK e) I.ok.above))).trans e1⟩
  ·obtain⟨o',e1⟩:=I.base.there b o e hx;exact⟨o',(hs.2 b (cP (fK (bK e) I.ok.above))).trans e1⟩
  ·by_cases hj:j=i
   ·subst hj;rw[hi] at e1;cases e1;rw[wM Uv] at e2;cases e2;exact⟨u,r,.inl ⟨hk,by simp⟩⟩
   ·rw[qG (Ne.symm hj)] at e2;obtain⟨u',r',q⟩:=hl j y v' e1 e2 e3;refine⟨u',r',?_⟩;rcases q with ⟨k,e⟩|⟨k,c,e,z⟩
    ·refine .inl ⟨k,?_⟩;have:y≠x:=λe=>hj (MF hN e1 (e▸hi));simp[this,e]
    ·exact .inr ⟨k,c,e,z.sameBut hs (vq y c e)⟩
  ·obtain⟨w',z⟩:=I.cell y c e;exact⟨w',z.sameBut hs (vq y c e)⟩
  ·obtain⟨e,n,ne,nf,d⟩:=I.pin p hp;exact⟨(hs.2 p.1 ne).trans e,n,ne,nf,d⟩
 ·have MJ:X.fn x=true:=by
   rcases hf with z|z
   ·exact z
   ·rw[z] at hk;cases hk
  obtain⟨c,hc⟩:=I.ok.has x (.inl hk);obtain⟨w',z⟩:=I.cell x c hc;refine wpAny_storeName_cell I.ok.kind hk hc z (λh' jO hs=>?_);obtain⟨oc,Uw,MK⟩:=id z;refine h {s with heap:=h'} ⟨I.ok,I.os,I.bare,⟨λb o e n hb hx=>?_,λb o e n hb hx=>?_,I.base.free,λb o e hx=>?_,I.base.tups,I.base.iG,I.base.jg⟩,⟨m,hn.sameBut hs (Ne.symm (vq x c hc)),λj y v' e1 e2 e3=>?_⟩,λy c' e=>?_,I.free,I.dH,λp hp=>?_,tracked ⟨oc,Uw,I.dH x c hc⟩ hs,by simpa using I.len⟩ ⟨c,hs,.inr hc⟩
  ·exact(hs.2 b (cP (fK (bK e) (I.ok.cab x c MJ hc)))).trans (I.base.keep b o e n hb hx)
  ·obtain⟨sl,e1⟩:=I.base.slot b o e n hb hx;exact⟨sl,(hs.2 b (cP (fK (bK e) (I.ok.cab x c MJ hc)))).trans e1⟩
  ·obtain⟨o',e1⟩:=I.base.there b o e hx;exact⟨o',(hs.2 b (cP (fK (bK e) (I.ok.cab x c MJ hc)))).trans e1⟩
  ·by_cases hj:j=i
   ·subst hj;rw[hi] at e1;cases e1;rw[wM Uv] at e2;cases e2;exact⟨u,r,.inr ⟨.inl hk,c,hc,jO⟩⟩
   ·rw[qG (Ne.symm hj)] at e2;obtain⟨u',r',q⟩:=hl j y v' e1 e2 e3;refine⟨u',r',?_⟩;rcases q with q|⟨k,c',e,z'⟩
    ·exact .inl q
    ·refine .inr ⟨k,c',e,z'.sameBut hs ?_⟩;rintro rfl;exact hj (MF hN e1 (I.ok.inj _ _ _ e hc▸hi))
  ·by_cases Ux:c'=c
   ·subst Ux;exact⟨_,jO⟩
   ·obtain⟨w2,z2⟩:=I.cell y c' e;exact⟨w2,z2.sameBut hs Ux⟩
  ·obtain⟨e,n,ne,nf,d⟩:=I.pin p hp;refine⟨(hs.2 p.1 ?_).trans e,n,ne,nf,d⟩;intro q;rw[q,Uw] at e;have q':oc=p.2:=cI e;exact d w' (by rw[<-q'];exact MK)
theorem Ed{M:Model}{A:Around}{E:Value->Shared->Prop}{i:Nat}{x:Str}{v:V}{u:Value}{Q:Unit->Shared->Prop}(I:Inv X ak Z H s)(hN:X.N.Nodup)(hi:X.N[i]?=some x)(hx:Loc X.env.scope x)(r:RelV v u)
  (h:∀s',Inv X ak (Z.set i (some v)) H s'->Q () s') (hf:X.fn x=true\/X.env.scope.names.lookup x=some .local:=by first|exact .inl rfl|exact .inr rfl|assumption):wpAny M A (storeName X.env x u) Q E s:=
 zf5 I hN hi hx r (λs' I' _=>h s' I') hf
theorem Inv.call'{s':Shared}{ch:List Addr}(I:Inv X ak Z H s)(ho:s'.os=s.os)(u:Un (frs X.stack) ch H H' s.heap s'.heap)(hok:fU X.prog X.w H' s'.heap)(hg:AllBare s'.gens)
  (uF:∀b∈ch,(b∈X.ex\/X.s₀.heap.get? b=none)/\b≠X.env.locals/\(∀x c,X.env.cells.lookup x=some c->c≠b)/\∀p∈X.pn++ak,p.1≠b):Inv X ak Z H' s':=by
 obtain⟨h',g',d',t',o'⟩:=s';have e:o'=s.os:=ho;subst e;exact I.call (g':=g') (t':=t') (d':=d') u hok hg uF
end
noncomputable abbrev XK:=Value->Option Addr->Hp->Prop
noncomputable abbrev St:=List (Option V)
noncomputable abbrev VK:=V->Hp->Prop
noncomputable abbrev TE:=St->Hp->VK->Prop
noncomputable abbrev TT:=St->Hp->(Bool->Hp->Prop)->Prop
noncomputable abbrev TA:=St->Hp->(List V->Hp->Prop)->Prop
structure Ends where
 nx:St->Hp->Prop
 rt:VK
 bk:St->Hp->Prop:=λ_ _=>False
 ct:St->Hp->Prop:=λ_ _=>False
noncomputable abbrev TS:=Ends->St->Hp->Prop
def EP(X:Cx)(ak:List (Addr×Obj))(Z:St)(Q:VK)(u:Value)(s':Shared):Prop:=∃v H',Inv X ak Z H' s'/\RelV v u/\Q v H'
def TP(X:Cx)(ak:List (Addr×Obj))(Z:St)(Q:Bool->Hp->Prop)(b:Bool)(s':Shared):Prop:=∃H',Inv X ak Z H' s'/\Q b H'
def AP(X:Cx)(ak:List (Addr×Obj))(Z:St)(Q:List V->Hp->Prop)(us:List Value)(s':Shared):Prop:=∃vs H',Inv X ak Z H' s'/\Vals vs us/\Q vs H'
def SP(X:Cx)(ak:List (Addr×Obj))(D:Ends)(f:Flow)(s':Shared):Prop:=
 match f with
 |.next=>∃Z' H',Inv X ak Z' H' s'/\D.nx Z' H'
 |.brk=>∃Z' H',Inv X ak Z' H' s'/\D.bk Z' H'
 |.cont=>∃Z' H',Inv X ak Z' H' s'/\D.ct Z' H'
 |.ret u=>∃v Z' H',Inv X ak Z' H' s'/\RelV v u/\D.rt v H'
def PE(X:Cx)(e:Expr)(t:TE):Prop:=
 ∀(ak:List (Addr×Obj)) (s:Shared) (Z:St) (H:Hp) (Q:VK),Inv X ak Z H s->t Z H Q->wpAny (model X.prog X.w) X.A (eval e X.env) (EP X ak Z Q) X.xe s
def PT(X:Cx)(e:Expr)(t:TT):Prop:=
 ∀(ak:List (Addr×Obj)) (s:Shared) (Z:St) (H:Hp) (Q:Bool->Hp->Prop),Inv X ak Z H s->t Z H Q->wpAny (model X.prog X.w) X.A (isTrue e X.env (eval e X.env)) (TP X ak Z Q) X.xe s
def PW(X:Cx)(e:Expr)(t:TT):Prop:=
 ∀(whole:Sem Value) (ak:List (Addr×Obj)) (s:Shared) (Z:St) (H:Hp) (Q:Bool->Hp->Prop),Inv X ak Z H s->t Z H Q->wpAny (model X.prog X.w) X.A (isTrue e X.env whole) (TP X ak Z Q) X.xe s
theorem Kab{X:Cx}{e:Expr}{t:TT}(h:PW X e t):PT X e t:=h _
def PA(X:Cx)(es:List Expr)(t:TA):Prop:=
 ∀(pos:Pos) (ak:List (Addr×Obj)) (s:Shared) (Z:St) (H:Hp) (Q:List V->Hp->Prop),Inv X ak Z H s->t Z H Q->wpAny (model X.prog X.w) X.A (spliced (backTo pos (starEach es X.env))) (AP X ak Z Q) X.xe s
def PS(X:Cx)(st:Stmt)(t:TS):Prop:=
 ∀(ak:List (Addr×Obj)) (s:Shared) (Z:St) (H:Hp) (D:Ends),Inv X ak Z H s->t D Z H->wpAny (model X.prog X.w) X.A (exec st X.env) (SP X ak D) X.xe s
def nA(X:Cx)(st:List Stmt)(t:TS):Prop:=
 ∀(ak:List (Addr×Obj)) (s:Shared) (Z:St) (H:Hp) (D:Ends),Inv X ak Z H s->t D Z H->wpAny (model X.prog X.w) X.A (execs st X.env) (SP X ak D) X.xe s
theorem aZ{α:Type}{t:Sem α}{Q Q':α->Shared->Prop}{M:Model}{A:Around}{E:Value->Shared->Prop}{s:Shared}(h:wpAny M A t Q E s)(hQ:∀a s,Q a s->Q' a s):wpAny M A t Q' E s:=iC h hQ λ_ _ x=>x
section
variable {X:Cx}
noncomputable def MN(i:Nat):TE:=λZ H Q=>∃v,Z[i]?=some (some v)/\Q v H
noncomputable def tC(v:V):TE:=λ_ H Q=>Q v H
theorem zi5{i:Nat}{x:Str}{pos:Pos}(hN:X.N[i]?=some x)(hv:Mw X.env.scope x)(hd:(x==("__debug__" : Str))=false:=by decide)(lA:(x==("__classdict__" : Str))=false:=by decide):PE X (.Name x pos) (MN i):=by
 intro ak s Z H Q I h;obtain⟨v,e,h⟩:=h;obtain⟨m,hn,hl⟩:=I.loc;obtain⟨u,r,l⟩:=hl i x v hN e hv;have fin:EP X ak Z Q u s:=⟨v,H,I,r,h⟩;rcases l with ⟨hk,hm⟩|⟨hk,c,hc,xr⟩
 ·exact yH (Dm I.ok.kind hk hn hm fin) hd
 ·rcases hk with hk|hk
  ·exact yH (wpAny_loadName_cell I.ok.kind hk hc xr fin) hd
  ·exact yH (wpAny_loadName_free I.ok.kind hk hc xr fin lA) hd
theorem MP{i j pos}:PE X (.Constant (.int i) j pos) (tC (.int i)):=λ_ _ _ H _ I h=>wpAny_Constant_int ⟨.int i,H,I.tok _,⟨_,rfl⟩,h⟩
theorem zln{b j pos}:PE X (.Constant (.bool b) j pos) (tC (.bl b)):=λ_ _ _ H _ I h=>Constant_bool ⟨.bl b,H,I,rfl,h⟩
theorem zj0{j pos}:PE X (.Constant .none j pos) (tC .non):=λ_ _ _ H _ I h=>Constant_none ⟨.non,H,I,rfl,h⟩
theorem Uy{x j pos}:PE X (.Constant (.str x) j pos) (tC (.str x)):=λ_ _ _ H _ I h=>Calls.Constant_str ⟨.str x,H,I.tok _,⟨_,rfl⟩,h⟩
def Gl(X:Cx)(x:Str):Prop:=X.env.kindOf x=some .globalImplicit
theorem Js{E:Value->Shared->Prop}{ak:List (Addr×Obj)}{s:Shared}{Z:St}{H:Hp}{x:Str}{u:Value}{pos:Pos}{Q:Value->Shared->Prop}(I:Inv X ak Z H s)(hg:Gl X x)(hm:X.mg x=some u)(h:Q u s)
  (hd:(x==("__debug__" : Str))=false:=by decide):wpAny (model X.prog X.w) X.A (eval (.Name x pos) X.env) Q E s:=
 Calls.Name_function_global I.ok.kind hg (Calls.loadGlobal_global (by rw[I.ok.glob];exact I.mod.glob.keeps I.bk) hm h) hd
theorem xu{E:Value->Shared->Prop}{ak:List (Addr×Obj)}{s:Shared}{Z:St}{H:Hp}{x:Str}{u:Value}{pos:Pos}{Q:Value->Shared->Prop}(I:Inv X ak Z H s)(hg:Gl X x)(hm:X.mg x=none)(hv:bootBuiltins x=some u)(h:Q u s)
  (hn:x≠"__name__":=by decide) (hd:(x==("__debug__" : Str))=false:=by decide):wpAny (model X.prog X.w) X.A (eval (.Name x pos) X.env) Q E s:=by
 obtain⟨mb,h1,h2⟩:=I.mod.blt;exact Calls.Name_function_global I.ok.kind hg (Calls.loadGlobal_builtin (by rw[I.ok.glob];exact I.mod.glob.keeps I.bk) hm (by rw[I.ok.blt];exact h1.keeps I.bk) ((h2 x hn).trans hv) h) hd
theorem Uz{x:Str}{v:V}{u:Value}{pos:Pos}(hg:Gl X x)(hm:X.mg x=some u)(r:RelV v u)(hd:(x==("__debug__" : Str))=false:=by decide):PE X (.Name x pos) (tC v):=
 λ_ _ _ H _ I h=>Js I hg hm ⟨v,H,I,r,h⟩ hd
variable {a b:Expr}{ta tb:TE}{pos:Pos}
noncomputable def tB(t:TE):TT:=λZ H Q=>t Z H λx H1=>∃c,x=.bl c/\Q c H1
theorem zkv{e:Expr}{t:TE}(h:PE X e t)(he:∀whole,isTrue e X.env whole=(do let v <-whole;standAt e.pos;holding [v] (truthy v)):=by intro _;rfl):PT X e (tB t):=by
 intro ak s Z H Q I hw;refine isTrue_plain (aZ (h ak s Z H _ I hw) λv s1 hx=>dG hx λx H1 I1 r1 q1=>?_) (he _);obtain⟨d,rfl,q⟩:=q1;cases r1;exact qX ⟨H1,I1,q⟩
variable {tA Jt:TT}{rest:List Expr}
noncomputable def M4(t u:TT):TT:=λZ H Q=>t Z H λc H1=>if c=true then u Z H1 Q else Q false H1
noncomputable def tOr(t u:TT):TT:=λZ H Q=>t Z H λc H1=>if c=true then Q true H1 else u Z H1 Q
noncomputable def M5(t:TT):TT:=λZ H Q=>t Z H λc H1=>Q (!c) H1
theorem ziS(ha:PT X a tA):PW X (.BoolOp .And [a] pos) tA:=by
 intro wh ak s Z H Q I h;refine isTrue_and (aZ (ha ak s Z H Q I h) λc s1 e=>?_);cases c with
 |true=>exact isTrue_and_nil e
 |false=>exact e
theorem zle(ha:PT X a tA):PW X (.BoolOp .Or [a] pos) tA:=by
 intro wh ak s Z H Q I h;refine isTrue_or (aZ (ha ak s Z H Q I h) λc s1 e=>?_);cases c with
 |false=>exact isTrue_or_nil e
 |true=>exact e
theorem zjL(ha:PT X a tA)(hb:PW X (.BoolOp .And (b::rest) pos) Jt):PW X (.BoolOp .And (a::b::rest) pos) (M4 tA Jt):=by
 intro wh ak s Z H Q I h;refine isTrue_and (aZ (ha ak s Z H _ I h) λc s1 hx=>vm hx λH1 I1 q1=>?_);cases c with
 |true=>exact hb wh ak s1 Z H1 Q I1 q1
 |false=>exact⟨H1,I1,q1⟩
theorem zlI(ha:PT X a tA)(hb:PW X (.BoolOp .Or (b::rest) pos) Jt):PW X (.BoolOp .Or (a::b::rest) pos) (tOr tA Jt):=by
 intro wh ak s Z H Q I h;refine isTrue_or (aZ (ha ak s Z H _ I h) λc s1 hx=>vm hx λH1 I1 q1=>?_);cases c with
 |true=>exact⟨H1,I1,q1⟩
 |false=>exact hb wh ak s1 Z H1 Q I1 q1
theorem zku(ha:PT X a tA):PT X (.UnaryOp .Not a pos) (M5 tA):=by
 intro ak s Z H Q I h;exact isTrue_not (ha ak s Z H (λc H1=>Q (!c) H1) I h)
noncomputable def Ef(ta tb:TE):TE:=λZ H Q=>ta Z H λx H1=>∃c,x=.bl c/\if c=true then tb Z H1 Q else Q (.bl false) H1
noncomputable def Eh(ta:TE):TE:=λZ H Q=>ta Z H λx H1=>∃c,x=.bl c/\Q (.bl (!c)) H1
theorem zkH{op}{t:TE}(h:PE X a t):PE X (.BoolOp op [a] pos) t:=λak s Z H Q I hw=>BoolOp_one (h ak s Z H Q I hw)
theorem zj9(ha:PE X a ta)(hb:PE X (.BoolOp .And (b::rest) pos) tb):PE X (.BoolOp .And (a::b::rest) pos) (Ef ta tb):=by
 intro ak s Z H Q I h;refine BoolOp_and (aZ (ha ak s Z H _ I h) λv s1 hx=>dG hx λx H1 I1 r1 q1=>?_);obtain⟨c,rfl,q1⟩:=q1;cases r1;refine qX ?_;cases c with
 |true=>exact hb ak s1 Z H1 Q I1 q1
 |false=>exact⟨.bl false,H1,I1,rfl,q1⟩
theorem zjO(ha:PE X a ta):PE X (.UnaryOp .Not a pos) (Eh ta):=by
 intro ak s Z H Q I h;refine UnaryOp_ (aZ (ha ak s Z H _ I h) λv s1 hx=>dG hx λx H1 I1 r1 q1=>?_);obtain⟨c,rfl,q1⟩:=q1;cases r1;exact not_of (qX ⟨.bl (!c),H1,I1,rfl,q1⟩)
noncomputable def tIf(t:TT)(ta tb:TE):TE:=λZ H Q=>t Z H λc H1=>if c=true then ta Z H1 Q else tb Z H1 Q
theorem zgx{c:Expr}(hc:PT X c tA)(ha:PE X a ta)(hb:PE X b tb):PE X (.IfExp c a b pos) (tIf tA ta tb):=by
 intro ak s Z H Q I h;refine wpAny_IfExp (aZ (hc ak s Z H _ I h) λd s1 hx=>vm hx λH1 I1 q1=>?_);cases d with
 |true=>exact ha ak s1 Z H1 Q I1 q1
 |false=>exact hb ak s1 Z H1 Q I1 q1
end
def dj(K:W.Frag)(H:Hp)(a:Addr)(xs:List V):Prop:=
 Rd H a (.lst xs) \/
  ∃(o:Obj) (its:Array Value) (n:Nat),K.lookup a=some o/\o.cls=.type "list"/\o.dict=none/\o.data=.seq its n/\its.size<=sizeLine/\Vals xs its.toList
def f9(K:W.Frag)(H:Hp)(a:Addr)(xs:List V):Prop:=
 Rd H a (.tup xs) \/
  ∃(o:Obj) (its:Array Value) (n:Nat),K.lookup a=some o/\o.cls=.type "tuple"/\o.data=.seq its n/\its.size<=sizeLine/\Vals xs its.toList
noncomputable def M6:Value->Option V
 |.none=>some .non
 |.bool b=>some (.bl b)
 |.int i _=>some (.int i)
 |.str x _=>some (.str x)
 |.bytes b _=>some (.Jp b)
 |.float b _=>some (.flt b)
 |.ref a=>some (.ref a)
 |.type n=>some (.ty n)
 |_=>none
theorem RelV.abs{x:V}{u:Value}(r:RelV x u):M6 u=some x:=by
 cases x with
 |non=>cases r;rfl
 |bl _=>cases r;rfl
 |int _=>obtain⟨t,rfl⟩:=r;rfl
 |str _=>obtain⟨t,rfl⟩:=r;rfl
 |Jp _=>obtain⟨t,rfl⟩:=r;rfl
 |flt _=>obtain⟨t,rfl⟩:=r;rfl
 |ref _=>cases r;rfl
 |ty _=>cases r;rfl
theorem RelV.inj{x y:V}{u:Value}(r:RelV x u)(q:RelV y u):x=y:=cI (r.abs.symm.trans q.abs)
theorem Vals.inj{xs ys:List V}{us:List Value}(h:Vals xs us)(h':Vals ys us):xs=ys:=by
 induction h generalizing ys with
 |nil=>cases h';rfl
 |cons r _ ih=>
  cases h' with
  |cons r' t'=>rw[r.inj r',ih t']
section
variable {X:Cx}{ak:List (Addr×Obj)}{Z:St}{H:Hp}{s:Shared}{a:Addr}{xs ys:List V}
theorem dj.of{K:W.Frag}(h:H a=some (.lst xs)):dj K H a xs:=.inl (.inl h)
theorem Inv.list(I:Inv X ak Z H s)(h:dj X.K H a xs):∃its:List Value,Vals xs its/\PlainL s.heap a its.toArray/\xs.length<=sizeLine:=by
 rcases h with h|⟨o,its,n,hk,hc,hd,hs,hz,r⟩
 ·obtain⟨z,its,n,r,e⟩:=h.ok I.hok;exact⟨its,r,⟨_,n,e,rfl,rfl,rfl⟩,z⟩
 ·refine⟨its.toList,r,⟨o,n,I.o8 a o hk,hc,hd,by simpa using hs⟩,?_⟩;have e:=r.length;simp only[I8] at e
  lia
theorem Inv.tuple(I:Inv X ak Z H s)(h:f9 X.K H a xs):∃its:List Value,Vals xs its/\IsTup s.heap a its.toArray/\xs.length<=sizeLine:=by
 rcases h with h|⟨o,its,n,hk,hc,hs,hz,r⟩
 ·obtain⟨z,its,r,p⟩:=h.ok I.hok;exact⟨its,r,p,z⟩
 ·refine⟨its.toList,r,⟨o,I.o8 a o hk,hc,n,by simpa using hs⟩,?_⟩;have e:=r.length;simp only[I8] at e
  lia
theorem Inv.mq(I:Inv X ak Z H s)(h:dj X.K H a xs)(h':dj X.K H a ys):xs=ys:=by
 obtain⟨its,r,⟨o,n,e,_,_,d⟩,_⟩:=I.list h;obtain⟨its',r',⟨o',n',e',_,_,d'⟩,_⟩:=I.list h';rw[e] at e';cases e';rw[d] at d';injection d' with d1 _;have:its=its':=by simpa using pU Array.toList d1
 subst this;exact r.inj r'
theorem Inv.jY(I:Inv X ak Z H s)(h:f9 X.K H a xs)(h':f9 X.K H a ys):xs=ys:=by
 obtain⟨its,r,⟨o,e,_,n,d⟩,_⟩:=I.tuple h;obtain⟨its',r',⟨o',e',_,n',d'⟩,_⟩:=I.tuple h';rw[e] at e';cases e';rw[d] at d';injection d' with d1 _;have:its=its':=by simpa using pU Array.toList d1
 subst this;exact r.inj r'
end
section
variable {X:Cx}{st:Stmt}{rest:List Stmt}{t u:TS}{e:Expr}{te:TE}{pos:Pos}
noncomputable def Ej:TS:=λD Z H=>D.nx Z H
noncomputable def M7(t u:TS):TS:=λD Z H=>t {D with nx:=u D} Z H
theorem ziQ:nA X [] Ej:=λ_ _ Z H _ I h=>Jg ⟨Z,H,I,h⟩
theorem zgS(h1:PS X st t)(h2:nA X rest u):nA X (st::rest) (M7 t u):=by
 intro ak s Z H D I h;refine wpAny_execs_cons (aZ (h1 ak s Z H {D with nx:=u D} I h) λf s1 q=>?_);cases f with
 |next=>
  obtain⟨Z',H',I',q⟩:=q;exact h2 ak s1 Z' H' D I' q
 |ret v=>exact q
 |brk=>exact q
 |cont=>exact q
theorem Inv.quiet{ak:List (Addr×Obj)}{Z:St}{H:Hp}{s:Shared}(I:Inv X ak Z H s):interactive X.env=false:=by simp[interactive,I.ok.kind]
noncomputable def Ek(te:TE):TS:=λD Z H=>te Z H λ_ H1=>D.nx Z H1
theorem zh6(he:PE X e te)(hs:swapsWith e none pos.line X.env=pure false:=by rfl):PS X (.Expr e pos) (Ek te):=by
 intro ak s Z H D I h;exact wpAny_Expr_any (aZ (he ak s Z H _ I h) λv s1 hx=>dG hx λx H1 I1 r1 q1=>⟨Z,H1,I1,q1⟩) I.quiet hs
noncomputable def M8(te:TE):TS:=λD Z H=>te Z H D.rt
theorem zi7(he:PE X e te):PS X (.Return (some e) pos) (M8 te):=by
 intro ak s Z H D I h;exact wpAny_Return_some (aZ (he ak s Z H _ I h) λv s1 hx=>dG hx λx H1 I1 r1 q1=>⟨x,Z,H1,I1,r1,q1⟩)
noncomputable def M9(c:TT)(t u:TS):TS:=λD Z H=>c Z H λb H1=>if b=true then t D Z H1 else u D Z H1
theorem zlO{c:Expr}{a b:List Stmt}{tc:TT}(hc:PT X c tc)(ha:nA X a t)(hb:nA X b u):PS X (.If c a b pos) (M9 tc t u):=by
 intro ak s Z H D I h;refine wpAny_If (aZ (hc ak s Z H _ I h) λd s1 hx=>vm hx λH1 I1 q1=>?_);cases d with
 |true=>exact ha ak s1 Z H1 D I1 q1
 |false=>exact hb ak s1 Z H1 D I1 q1
end
noncomputable abbrev TG:=V->St->Hp->(St->Hp->Prop)->Prop
noncomputable abbrev yR:=List V->St->Hp->(St->Hp->Prop)->Prop
def PG(X:Cx)(target:Expr)(t:TG):Prop:=
 ∀(ak:List (Addr×Obj)) (s:Shared) (Z:St) (H:Hp) (v:V) (u:Value) (Q:St->Hp->Prop),Inv X ak Z H s->RelV v u->t v Z H Q->
  wpAny (model X.prog X.w) X.A (assign target X.env u) (λ_ s'=>∃Z' H',Inv X ak Z' H' s'/\Q Z' H') X.xe s
def Ju(X:Cx)(ts:List Expr)(t:yR):Prop:=
 ∀(ak:List (Addr×Obj)) (s:Shared) (Z:St) (H:Hp) (vs:List V) (us:List Value) (Q:St->Hp->Prop),Inv X ak Z H s->Vals vs us->t vs Z H Q->
  wpAny (model X.prog X.w) X.A (assignInOrder ((assignEach ts X.env).map (·.2)) us) (λ_ s'=>∃Z' H',Inv X ak Z' H' s'/\Q Z' H') X.xe s
noncomputable abbrev yS:=V->V->V->Hp->(Hp->Prop)->Prop
def El(X:Cx)(t:yS):Prop:=
 ∀(ak:List (Addr×Obj)) (s:Shared) (Z:St) (H:Hp) (o i v:V) (ov iv u:Value) (Q:Hp->Prop),Inv X ak Z H s->RelV o ov->RelV i iv->RelV v u->t o i v H Q->
  wpAny (model X.prog X.w) X.A (setItem ov iv u) (λ_ s'=>∃H',Inv X ak Z H' s'/\Q H') X.xe s
section
variable {X:Cx}{pos:Pos}
noncomputable def dI(i:Nat):TG:=λv Z H Q=>Q (Z.set i (some v)) H
theorem Jv{i:Nat}{x:Str}(hN:X.N.Nodup)(hi:X.N[i]?=some x)(hx:Loc X.env.scope x)(hf:X.fn x=true\/X.env.scope.names.lookup x=some .local:=by first|exact .inl rfl|exact .inr rfl|assumption):PG X (.Name x pos) (dI i):=by
 intro ak s Z H v u Q I r h;exact wpAny_assign_Name (Ed I hN hi hx r (λs' I'=>⟨_,H,I',h⟩) hf)
noncomputable def rC:yR:=λvs Z H Q=>vs=[]/\Q Z H
noncomputable def gb(t:TG)(u:yR):yR:=λvs Z H Q=>∃v r,vs=v::r/\t v Z H λZ' H'=>u r Z' H' Q
theorem zio:Ju X [] rC:=by
 intro ak s Z H vs us Q I r h;obtain⟨e,h⟩:=h;subst e;cases r;exact assignInOrder_nil ⟨Z,H,I,h⟩
theorem UG{e:Expr}{es:List Expr}{t:TG}{u:yR}(h1:PG X e t)(h2:Ju X es u)
  (hs:(assignEach (e::es) X.env).map (·.2)=assign e X.env::(assignEach es X.env).map (·.2):=by rfl):Ju X (e::es) (gb t u):=by
 intro ak s Z H vs us Q I r h;obtain⟨v,vr,e1,h⟩:=h;subst e1;cases r with
 |cons r rr=>
  rw[hs];refine assignInOrder_cons (aZ (h1 ak s Z H _ _ _ I r h) λ_ s1 ⟨Z1,H1,I1,q1⟩=>?_);exact h2 ak s1 Z1 H1 _ _ Q I1 rr q1
noncomputable def rD(K:W.Frag)(n:Nat)(t:yR):TG:=λv Z H Q=>∃a xs,v=.ref a/\f9 K H a xs/\xs.length=n/\t xs Z H Q
theorem zjU{es:List Expr}{k:Nat}{t:yR}{n:Nat}(hc:X.aj=true)(h:Ju X es t)
  (hn:(assignEach es X.env).length=n:=by rfl) (o_:(assignEach es X.env).findIdx? (·.1)=none:=by rfl):PG X (.Tuple es k pos) (rD X.K n t):=by
 intro ak s Z H v u Q I r hw;obtain⟨a,xs,e1,hq,hl,hw⟩:=hw;subst e1;cases r;obtain⟨its,rv,ht,hz⟩:=I.tuple hq;refine assign_Tuple_tuple (I.ok.hd hc) ht (by simp[hn,<-hl,rv.length]) o_ λh' hx=>?_;have I1:Inv X ak Z H {s with heap:=h'}:=I.kept (t':=s.toks) λb o e=>hx b o (cP (bK e)) e;exact h ak _ Z H xs _ Q I1 (by simpa using rv) hw
noncomputable def M_(to ti:TE)(t:yS):TG:=λv Z H Q=>to Z H λo H1=>ti Z H1 λi H2=>t o i v H2 λH3=>Q Z H3
theorem zk3{o i:Expr}{to ti:TE}{t:yS}(ho:PE X o to)(hi:PE X i ti)(hs:El X t)
  (ha:∀v,assign (.Subscript o i pos) X.env v=(do
   let ov <-holding [v] (eval o X.env)
   let iv <-holding [v,ov] (eval i X.env)
   standAt pos
   holding [v,ov,iv] (setItem ov iv v)
   release [v,ov,iv] []):=by intro _;rfl):PG X (.Subscript o i pos) (M_ to ti t):=by
 intro ak s Z H v u Q I r h;rw[ha];refine aq (jd (aZ (ho ak s Z H _ I h) λov s1 hx=>dG hx λx H1 I1 r1 q1=>?_));refine aq (jd (aZ (hi ak s1 Z H1 _ I1 q1) λiv s2 hx=>dG hx λy H2 I2 r2 q2=>?_));refine aq (uy (aq (jd (aZ (hs ak s2 Z H2 x y v ov iv u _ I2 r1 r2 r q2) λ_ s3 hx=>vm hx λH3 I3 q3=>?_))));exact wpAny_release ⟨Z,H3,I3,q3⟩
noncomputable def Em(te:TE)(g:TG):TS:=λD Z H=>te Z H λx H1=>g x Z H1 D.nx
theorem UJ{tg e:Expr}{te:TE}{g:TG}(he:PE X e te)(hg:PG X tg g)(hs:swapsWithSole [tg] e pos.line X.env=pure false:=by rfl)(hw:swappedStores [tg] e X.env=pure none:=by rfl)
  (h1:(assignEach [tg] X.env).map (·.2)=[assign tg X.env]:=by rfl):PS X (.Assign [tg] e pos) (Em te g):=by
 intro ak s Z H D I h;refine wpAny_Assign_stores (aZ (he ak s Z H _ I h) λv s1 hx=>dG hx λx H1 I1 r1 q1=>?_) hs hw;rw[h1];exact aZ (hg ak s1 Z H1 x v _ I1 r1 q1) λ_ s2 q=>q
theorem zjw{i:Nat}{x:Str}{e:Expr}{te:TE}{pos':Pos}(hN:X.N.Nodup)(hi:X.N[i]?=some x)(hx:Loc X.env.scope x)(he:PE X e te)(hs:swapsWith e (some (.Name x pos')) pos.line X.env=pure false:=by rfl)(hf:X.fn x=true\/X.env.scope.names.lookup x=some .local:=by first|exact .inl rfl|exact .inr rfl|assumption) :
  PS X (.Assign [.Name x pos'] e pos) (Em te (dI i)):=by
 intro ak s Z H D I h;refine wpAny_Assign_Name (aZ (he ak s Z H _ I h) λv s1 ⟨y,H1,I1,r1,q1⟩=>?_) hs;exact Ed I1 hN hi hx r1 (λs2 I2=>⟨_,H1,I2,q1⟩) hf
noncomputable def Nb(i j:Nat)(ta:TA):TS:=λD Z H=>ta Z H λvs H1=>∃v w,vs=[v,w]/\D.nx ((Z.set i (some v)).set j (some w)) H1
theorem zi6{i j:Nat}{x y:Str}{a b:Expr}{ta:TA}{px py pt:Pos}{kt k2 rE}(hc:X.aj=true)(hN:X.N.Nodup)(hi:X.N[i]?=some x)(hj:X.N[j]?=some y)(jZ:i≠j)
  (hx:X.env.scope.names.lookup x=some .local) (hy:X.env.scope.names.lookup y=some .local) (ha:PA X [a,b] ta)
  (hw:swappedStores [.Tuple [.Name x px,.Name y py] kt pt] (.Tuple [a,b] k2 rE) X.env=pure (some [x,y]))
  (hs:swapsWithSole [.Tuple [.Name x px,.Name y py] kt pt] (.Tuple [a,b] k2 rE) pos.line X.env=pure false:=by rfl) :
  PS X (.Assign [.Tuple [.Name x px,.Name y py] kt pt] (.Tuple [a,b] k2 rE) pos) (Nb i j ta):=by
 intro ak s Z H D I h;rw[exec_Assign_arm];refine aq (uy ?_);rw[hs];refine aq (aG ?_);rw[if_neg R4];refine aq (Tuple_ (aZ (ha _ ak s Z H _ I h) λus s1 ⟨vs,H1,I1,r1,q1⟩=>?_));obtain⟨v,w,e1,q1⟩:=q1;subst e1;obtain⟨u1,u2,rfl,rv,nD⟩ : ∃u1 u2,us=[u1,u2]/\RelV v u1/\RelV w u2:=by
  cases r1 with
  |cons p q=>
   cases q with
   |cons p' q'=>
    cases q';exact⟨_,_,rfl,p,p'⟩
 refine mR ?_ (by show 2<=sizeLine;decide);have I2:Inv X ak Z H1 {s1 with heap:=s1.heap.push {cls:=.type "tuple",data:=.seq [u1,u2].toArray}}:=I1.kept (t':=s1.toks) λb o e=>bR _ e;rw[hw];refine aq (aG ?_);show wpAny (model X.prog X.w) X.A (do rule "assign.swapped-stores";let items <-unpackItems (.ref s1.heap.objs.size) 2 none;assignInOrder [λv=>bindName X.env y v,λv=>bindName X.env x v] items.reverse;pure Flow.next) _ _ _;refine aq (BK (aq (unpackItems_tuple (items:=#[u1,u2]) (I.ok.hd hc) (IsTup.new s1.heap _) λh' En=>?_)));have I3:=I2.kept (h':=h') (t':=s1.toks) λb o e=>En b o (cP (bK e)) e;show wpAny _ _ (assignInOrder [λv=>bindName X.env y v,λv=>bindName X.env x v] [u2,u1] >>= λ_=>pure Flow.next) _ _ _;refine aq (assignInOrder_cons (wpAny_bindName (Ed I3 hN hj (.inl hy) nD (λs2 I4=>?_) (.inr hy))));refine assignInOrder_cons (wpAny_bindName (Ed I4 hN hi (.inl hx) rv (λs3 I5=>assignInOrder_nil (aG ?_)) (.inr hx)));rw[List.set_comm _ _ (Ne.symm jZ)] at I5;exact⟨_,H1,I5,q1⟩
end
structure It where
 go:Nat->Hp->Prop
 yU:Nat->Hp->V->Hp->Prop
 stop:Nat->Hp->Prop
def gJ(X:Cx)(ak:List (Addr×Obj))(H:Hp)(b:Addr):Prop:=
 H b=none/\b≠X.env.locals/\b∉X.fs/\(b∈X.ex\/X.s₀.heap.objs.size<=b)/\(∀x c,X.env.cells.lookup x=some c->c≠b)/\∀p∈X.pn++ak,p.1≠b
theorem Inv.vB{X:Cx}{ak:List (Addr×Obj)}{Z:St}{H H':Hp}{s:Shared}{b:Addr}(I:Inv X ak Z H s)(hb:s.heap.objs.size<=b)(hn:H' b=none):gJ X ak H' b:=by
 refine⟨hn,uz (fK I.lt hb),I.Mz hb,.inr (mV I.sz hb),λx c e z=>?_,λp hp z=>?_⟩
 ·obtain⟨v,q⟩:=I.cell x c e;exact absurd (fK q.lt (by rw[z];exact hb)) (lZ _)
 ·exact absurd (fK (bK (I.pin p hp).1) (by rw[z];exact hb)) (lZ _)
structure Turn(P:Program)(w:World)(K:W.Frag)(tg:Expr)(bU:It)(fp:List Addr)(it:Addr)(tn:Nat->Heap->Prop):Prop where
 mem:it∈fp
 obj:∀i h,tn i h->∀b∈fp,∃o,h.get? b=some o/\∀v,o.data≠.cell v
 keep:∀i h h',tn i h->(∀b∈fp,∀o,h.get? b=some o->h'.get? b=some o)->tn i h'
 item:∀(X:Cx),X.prog=P->X.w=w->X.K=K->X.aj=true->∀(i:Nat) (ak:List (Addr×Obj)) (s:Shared) (Z:St) (H:Hp) (E:Value->Shared->Prop),Inv X ak Z H s->(∀b∈fp,gJ X ak H b)->tn i s.heap->bU.go i H->
  wpAny (model P w) X.A (pyNext (.ref it)) (λr s1=>∃u,r=some u /\
   wpAny (model P w) X.A (letOwnedTupleGo tg (.ref it) u) (λ_ s2=>∃x H',Inv X ak Z H' s2/\RelV x u/\bU.yU i H x H'/\tn (i+1) s2.heap/\∀b∈fp,H' b=none) E s1) E s
 done:∀(X:Cx),X.prog=P->X.w=w->X.K=K->X.aj=true->∀(i:Nat) (ak:List (Addr×Obj)) (s:Shared) (Z:St) (H:Hp) (E:Value->Shared->Prop),Inv X ak Z H s->(∀b∈fp,gJ X ak H b)->tn i s.heap->bU.stop i H->
  wpAny (model P w) X.A (pyNext (.ref it)) (λr s1=>r=none/\Inv X ak Z H s1) E s
 self:∀(A:Around) (i:Nat) (s:Shared) (Q:Value->Shared->Prop) (E:Value->Shared->Prop),tn i s.heap->Q (.ref it) s->wpAny (model P w) A (pyIter (.ref it)) Q E s
noncomputable abbrev TI:=St->Hp->(It->Hp->Prop)->Prop
def PIE(X:Cx)(ak:List (Addr×Obj))(Z:St)(tg:Expr)(R:It->Hp->Prop)(itv:Value)(s2:Shared):Prop:=
 ∃(it:Addr) (fp:List Addr) (tn:Nat->Heap->Prop) (bU:It) (H':Hp),itv=.ref it/\Inv X ak Z H' s2/\Turn X.prog X.w X.K tg bU fp it tn/\tn 0 s2.heap/\(∀b∈fp,gJ X ak H' b)/\R bU H'
def PI(X:Cx)(tg iter:Expr)(wi:TI):Prop:=
 ∀(ak:List (Addr×Obj)) (s:Shared) (Z:St) (H:Hp) (R:It->Hp->Prop),Inv X ak Z H s->wi Z H R->
  wpAny (model X.prog X.w) X.A (eval iter X.env) (λv s1=>wpAny (model X.prog X.w) X.A (pyIter v) (PIE X ak Z tg R) X.xe s1) X.xe s
theorem Nf{M:Model}{A:Around}{E:Value->Shared->Prop}{s:Shared}{tg:Expr}{it:Addr}{u:Value}{o:Obj}{n:String}{vs:Array Value}{Q:Unit->Shared->Prop}(ho:s.heap.get? it=some o)(hc:o.cls=.type n)(hd:o.data=.fields vs)
  (hn:["enumerate","zip","dict_itemiterator","dict_reverseitemiterator","odict_iterator","itertools.zip_longest","itertools.pairwise"].contains n=false) (hQ:Q () s):wpAny M A (letOwnedTupleGo tg (.ref it) u) Q E s:=by
 unfold letOwnedTupleGo;cases tg<;>first
  |exact aG hQ
  | (cases u<;>first
    |exact aG hQ
    | (refine aq (wpAny_load ho ?_)
       rw[hc,hd];show wpAny M A (if (["enumerate","zip","dict_itemiterator","dict_reverseitemiterator","odict_iterator","itertools.zip_longest","itertools.pairwise"].contains n&&vs[0]?==some (rawInt _))=true then _ else _) Q E s;rw[if_neg (by intro h;rw[hn,Bool.false_and] at h;cases h)];exact aG hQ))
noncomputable def Jw(K:W.Frag)(a:Addr):It:=
 ⟨λi H=>∃xs x,dj K H a xs/\xs[i]?=some x,λi H x H'=>H'=H/\∀xs,dj K H a xs->xs[i]?=some x,λi H=>∃xs,dj K H a xs/\xs.length<=i⟩
noncomputable def Ng(K:W.Frag)(a:Addr):It:=
 ⟨λi H=>∃xs x,f9 K H a xs/\xs[i]?=some x,λi H x H'=>H'=H/\∀xs,f9 K H a xs->xs[i]?=some x,λi H=>∃xs,f9 K H a xs/\xs.length<=i⟩
noncomputable def Ep(lo:Int)(n:Nat):It:=⟨λi _=>i<n,λi H x H'=>H'=H/\x=.int (lo+i),λi _=>n<=i⟩
theorem ze6{P:Program}{w:World}{K:W.Frag}{tg:Expr}(a it:Addr):Turn P w K tg (Jw K a) [it] it (λi h=>h.IsListIter it a i) where
 mem:=by simp
 obj:=λi h st b hb=>by
  have e:b=it:=by simpa using hb
  subst e;obtain⟨o,e,c,d⟩:=st;exact⟨o,e,λv z=>by rw[d] at z;cases z⟩
 keep:=λi h h' st k=>st.at λo e=>k it Zaa o e
 item:=by
  intro X hP hw hK hc i ak s Z H E I hf st hg;subst hP hw hK;obtain⟨xs,x,hq,hx⟩:=hg;obtain⟨its,rv,p,hz⟩:=I.list hq;obtain⟨u,hu,ru⟩:=rv.get hx;obtain⟨f0,f1,f2,f3,f4,f5⟩:=hf it Zaa;refine wpAny_pyNext_list_item st p.isList (x:=u) (by simpa using hu) λh' st' sb=>?_;have I1:Inv X ak Z H {s with heap:=h'}:=I.turned (t':=s.toks) (λb o hb e=>(sb.2 b hb).trans e) f0 f1 f3 f4 f5;obtain⟨o,e,c,d⟩:=id st';exact⟨u,rfl,Nf (s:={s with heap:=h'}) e c d R4 ⟨x,H,I1,ru,⟨rfl,λys hy=>by rw[I.mq hy hq];exact hx⟩,st',λb hb=>(hf b hb).1⟩⟩
 done:=by
  intro X hP hw hK hc i ak s Z H E I hf st hg;subst hP hw hK;obtain⟨xs,hq,hx⟩:=hg;obtain⟨its,rv,p,hz⟩:=I.list hq;obtain⟨f0,f1,f2,f3,f4,f5⟩:=hf it Zaa;have hl:=rv.length;exact wpAny_pyNext_list_end (I.ok.hd hc) st p.isList (by simp;lia) λh' eb=>⟨rfl,I.turned (t':=s.toks) (λb o hb e=>eb b o hb e) f0 f1 f3 f4 f5⟩
 self:=λ_ _ _ _ _ st h=>wpAny_pyIter_listiter st h
theorem zeD{P:Program}{w:World}{K:W.Frag}{tg:Expr}(a it:Addr):Turn P w K tg (Ng K a) [it] it (λi h=>h.IsTupleIter it a i) where
 mem:=by simp
 obj:=λi h st b hb=>by
  have e:b=it:=by simpa using hb
  subst e;obtain⟨o,e,c,d⟩:=st;exact⟨o,e,λv z=>by rw[d] at z;cases z⟩
 keep:=λi h h' st k=>st.at λo e=>k it Zaa o e
 item:=by
  intro X hP hw hK hc i ak s Z H E I hf st hg;subst hP hw hK;obtain⟨xs,x,hq,hx⟩:=hg;obtain⟨its,rv,p,hz⟩:=I.tuple hq;obtain⟨u,hu,ru⟩:=rv.get hx;obtain⟨f0,f1,f2,f3,f4,f5⟩:=hf it Zaa;refine wpAny_pyNext_tuple_item st (show s.heap.IsTuple a its.toArray from p) (x:=u) (by simpa using hu) λh' st' sb=>?_;have I1:Inv X ak Z H {s with heap:=h'}:=I.turned (t':=s.toks) (λb o hb e=>(sb.2 b hb).trans e) f0 f1 f3 f4 f5;obtain⟨o,e,c,d⟩:=id st';exact⟨u,rfl,Nf (s:={s with heap:=h'}) e c d R4 ⟨x,H,I1,ru,⟨rfl,λys hy=>by rw[I.jY hy hq];exact hx⟩,st',λb hb=>(hf b hb).1⟩⟩
 done:=by
  intro X hP hw hK hc i ak s Z H E I hf st hg;subst hP hw hK;obtain⟨xs,hq,hx⟩:=hg;obtain⟨its,rv,p,hz⟩:=I.tuple hq;obtain⟨f0,f1,f2,f3,f4,f5⟩:=hf it Zaa;have hl:=rv.length;exact wpAny_pyNext_tuple_end (I.ok.hd hc) st (show s.heap.IsTuple a its.toArray from p) (by simp;lia) λh' eb=>⟨rfl,I.turned (t':=s.toks) (λb o hb e=>eb b o hb e) f0 f1 f3 f4 f5⟩
 self:=λ_ _ _ _ _ st h=>wpAny_pyIter_tupleiter st h
theorem zek{P:Program}{w:World}{K:W.Frag}{tg:Expr}(it:Addr)(lo:Int)(n:Nat):Turn P w K tg (Ep lo n) [it] it (λi h=>IsRangeIter h it (lo+(i:Nat)*1) ((n:Int)-(i:Nat)) 1) where
 mem:=by simp
 obj:=λi h st b hb=>by
  have e:b=it:=by simpa using hb
  subst e;exact⟨_,st,λv z=>by
   have z':Data.fields _=Data.cell v:=z;cases z'⟩
 keep:=λi h h' st k=>k it Zaa _ st
 item:=by
  intro X hP hw hK hc i ak s Z H E I hf st hg;subst hP hw hK;obtain⟨f0,f1,f2,f3,f4,f5⟩:=hf it Zaa;have W:=Walks.range (prog:=X.prog) (w:=X.w) (I.ok.hd hc) it lo 1 n;refine W.item i s _ _ hg st λv h' tk hv st' kk=>?_;obtain⟨t,rfl⟩:=hv;have I1:Inv X ak Z H {s with heap:=h',toks:=tk}:=I.turned (λb o hb e=>kk b o (by simpa using hb) e) f0 f1 f3 f4 f5;refine⟨_,rfl,Nf (s:={s with heap:=h',toks:=tk}) (n:="range_iterator") st' rfl rfl R4 ⟨.int (lo+i),H,I1,⟨t,?_⟩,⟨rfl,rfl⟩,st',λb hb=>(hf b hb).1⟩⟩;rw[Int.mul_one]
 done:=by
  intro X hP hw hK hc i ak s Z H E I hf st hg;subst hP hw hK;obtain⟨f0,f1,f2,f3,f4,f5⟩:=hf it Zaa;exact wpAny_pyNext_range_end (I.ok.hd hc) st (by have:n<=i:=hg;lia) λh' eb=>⟨rfl,I.turned (t':=s.toks) (λb o hb e=>eb b o hb e) f0 f1 f3 f4 f5⟩
 self:=λ_ _ _ _ _ st h=>wpAny_pyIter_rangeiter st h
section
variable {X:Cx}{tg:Expr}
theorem UL{ak:List (Addr×Obj)}{Z:St}{H:Hp}{s:Shared}{R:It->Hp->Prop}{E:Value->Shared->Prop}{lo hi:Int}{t u v:Tok}{tk:Nat}(I:Inv X ak Z H s)(h1 : -(2^62)<=lo)(h2:lo<2^62)(h3 : -(2^62)<=hi)(h4:hi<2^62)
  (q:R (Ep lo (hi-lo).toNat) H):wpAny (model X.prog X.w) X.A (pyIter (.ref s.heap.objs.size)) (PIE X ak Z tg R) E {s with heap:=s.heap.push {cls:=.type "range",data:=.fields #[.int lo t,.int hi u,.int 1 v]},toks:=tk}:=by
 refine wpAny_pyIter_range (IsRange.new ..) (small_one h1 h2 h3 h4) ?_;have I1:Inv X ak Z H {s with heap:=s.heap.push {cls:=.type "range",data:=.fields #[.int lo t,.int hi u,.int 1 v]},toks:=tk}:=I.kept λb o e=>bR _ e;refine⟨(s.heap.push {cls:=.type "range",data:=.fields #[.int lo t,.int hi u,.int 1 v]}).objs.size,[(s.heap.push {cls:=.type "range",data:=.fields #[.int lo t,.int hi u,.int 1 v]}).objs.size],_,_,H,rfl,
  I1.kept (t':=tk) λb o e=>bR _ e,zek _ lo (hi-lo).toNat,?_,λb hb=>?_,q⟩
 ·have e1:lo+((0:Nat):Int)*1=lo:=by simp
  have e2:(((hi-lo).toNat:Nat):Int)-((0:Nat):Int)=Builtin.Range.rangeSize lo hi 1:=by rw[rangeSize_one];split<;>lia
  show IsRangeIter _ _ (lo+((0:Nat):Int)*1) ((((hi-lo).toNat:Nat):Int)-((0:Nat):Int)) 1;rw[e1,e2];exact fW _ rfl
 ·have e:b=(s.heap.push {cls:=.type "range",data:=.fields #[.int lo t,.int hi u,.int 1 v]}).objs.size:=by simpa using hb
  subst e;exact I1.vB (bT _) (I1.hok.fresh (bT _))
noncomputable def Er(ta:TA):TI:=λZ H R=>ta Z H λvs H1=>∃j:Int,vs=[.int j]/\-(2^62)<=j/\j<2^62/\R (Ep 0 j.toNat) H1
noncomputable def Et(ta:TA):TI:=λZ H R=>ta Z H λvs H1=>∃i j:Int,vs=[.int i,.int j]/\(-(2^62)<=i/\i<2^62/\-(2^62)<=j/\j<2^62)/\R (Ep i (j-i).toNat) H1
theorem zfv{a:Expr}{ta:TA}{p pos:Pos}(hg:Gl X "range")(hm:X.mg "range"=none)(ha:PA X [a] ta)(hs:starEach [a] X.env=[(false,eval a X.env)]:=by rfl):PI X tg (.Call (.Name "range" p) [a] [] pos) (Er ta):=by
 intro ak s Z H R I h;refine Call_ (xu I hg hm boot_range (Dj (aZ (ha pos ak s Z H _ I h) λus s1 hx=>dG hx λvs H1 I1 r1 q1=>?_) hs rfl));obtain⟨j,e,q1,q2,q⟩:=q1;subst e;cases r1 with
 |cons r rr=>
  cases rr;obtain⟨t,rfl⟩:=r;exact call_range_1 (UL I1 gV gV q1 q2 (by simpa using q))
theorem zfz{a b:Expr}{ta:TA}{p pos:Pos}(hg:Gl X "range")(hm:X.mg "range"=none)(ha:PA X [a,b] ta)(hs:starEach [a,b] X.env=[(false,eval a X.env),(false,eval b X.env)]:=by rfl)(Eu:starEach [b] X.env=[(false,eval b X.env)]:=by rfl) :
  PI X tg (.Call (.Name "range" p) [a,b] [] pos) (Et ta):=by
 intro ak s Z H R I h;refine Call_ (xu I hg hm boot_range (Dj (aZ (ha pos ak s Z H _ I h) λus s1 hx=>dG hx λvs H1 I1 r1 q1=>?_) (by rw[hs,Eu]) (by rw[Eu];rfl)));obtain⟨i,j,e,⟨q1,q2,q3,q4⟩,q⟩:=q1;subst e;cases r1 with
 |cons r rr=>
  cases rr with
  |cons r' rr=>
   cases rr;obtain⟨t,rfl⟩:=r;obtain⟨t',rfl⟩:=r';exact call_range_2 (UL I1 q1 q2 q3 q4 q)
noncomputable def Nh(wi:TI)(g:TG)(tb:TS):TS:=λD Z H=>wi Z H λbU H1=>∃W:Nat->Nat->St->Hp->Prop,(∃m,W 0 m Z H1)/\∀i m Z H,W i m Z H->
 (bU.stop i H/\D.nx Z H)\/(bU.go i H/\∃N:St->Hp->Prop,(∀Z' H',N Z' H'->∃m',m'<m/\W (i+1) m' Z' H')/\∀x H',bU.yU i H x H'->g x Z H' λZ2 H2=>tb {D with nx:=N,ct:=N,bk:=D.nx} Z2 H2)
noncomputable def jk(fp:List Addr)(h:Heap):List (Addr×Obj):=fp.filterMap λb=>(h.get? b).map λo=>(b,o)
theorem Jx{fp:List Addr}{h:Heap}{b:Addr}{o:Obj}(hb:b∈fp)(e:h.get? b=some o):(b,o)∈jk fp h:=Ma.mpr ⟨b,hb,by rw[e];rfl⟩
theorem zeT{fp:List Addr}{h:Heap}{p:Addr×Obj}(hp:p∈jk fp h):p.1∈fp/\h.get? p.1=some p.2:=by
 obtain⟨b,hb,e⟩:=Ma.mp hp;cases q:h.get? b with
 |none=>rw[q] at e;cases e
 |some o=>
  rw[q] at e;have e':(b,o)=p:=cI e;subst e';exact⟨hb,q⟩
theorem Inv.pinned{ak:List (Addr×Obj)}{Z:St}{H:Hp}{s:Shared}{fp:List Addr}(I:Inv X ak Z H s)(hf:∀b∈fp,gJ X ak H b)(ho:∀b∈fp,∃o,s.heap.get? b=some o/\∀v,o.data≠.cell v):Inv X (ak++jk fp s.heap) Z H s:=
 I.lu λp hp=>(fX.mp hp).elim (λz=>I.pin p (m_ _ z)) λz=>by
  obtain⟨hb,e⟩:=zeT z;obtain⟨f0,f1,f2,_⟩:=hf p.1 hb;obtain⟨o,e',d⟩:=ho p.1 hb;rw[e] at e';cases e';exact⟨e,f0,f1,f2,d⟩
theorem Inv.gj{ak pl:List (Addr×Obj)}{Z:St}{H:Hp}{s:Shared}(I:Inv X (ak++pl) Z H s):Inv X ak Z H s:=I.lu λp hp=>I.pin p (m_ _ (qF _ hp))
theorem zkD{iter:Expr}{body:List Stmt}{wi:TI}{g:TG}{tb:TS}{pos:Pos}(hp:PassesOwn (model X.prog X.w) X.A X.env X.xe)(hc:X.aj=true)(hi:PI X tg iter wi)(hg:PG X tg g)(hb:nA X body tb)
  (hs:∀x,foldedSetIterable iter X.env x=pure x:=by intro _;rfl):PS X (.For tg iter body [] pos) (Nh wi g tb):=by
 intro ak s Z H D I h;refine wpAny_For (aZ (hi ak s Z H _ I h) λv s1 h1=>aZ h1 λitv s2 h2=>?_) hs;obtain⟨it,fp,tn,bU,H2,e,I2,T,st2,f2,W,⟨m0,w0⟩,turn⟩:=h2;subst e;have stat:∀{H':Hp},(∀b∈fp,H' b=none)->∀b∈fp,gJ X ak H' b:=λhn b hb=>⟨hn b hb,(f2 b hb).2⟩;refine codeAny_forLoop_any (λn s'=>∃i Z' H',Inv X ak Z' H' s'/\tn i s'.heap/\(∀b∈fp,H' b=none)/\W i n Z' H') ?_ m0 ⟨0,Z,H2,I2,st2,λb hb=>(f2 b hb).1,w0⟩;rintro n s3 ⟨i,Z3,H3,I3,st3,UW,w3⟩;rcases turn i n Z3 H3 w3 with ⟨stop,qn⟩|⟨go,N,hN,step⟩
 ·refine Dy hp (aZ (T.done X rfl rfl rfl hc i ak s3 Z3 H3 X.xe I3 (stat UW) st3 stop) λr s4 ⟨hr,I4⟩=>?_);subst hr;exact Jg ⟨Z3,H3,I4,qn⟩
 ·refine Dy hp (aZ (T.item X rfl rfl rfl hc i ak s3 Z3 H3 X.xe I3 (stat UW) st3 go) λr s4 hx=>vm hx λu hr h4=>?_);subst hr;refine Dy hp (aZ h4 λ_ s5 ⟨x,H5,I5,r5,y5,BW,Jy⟩=>?_);have I5':=I5.pinned (stat Jy) (T.obj _ _ BW);refine Dy hp (aZ (hg _ s5 Z3 H5 x u _ I5' r5 (step x H5 y5)) λ_ s6 ⟨Z6,H6,I6,q6⟩=>?_);refine Dy hp (aZ (hb _ s6 Z6 H6 _ I6 q6) λf s7 q7=>?_);have again:∀{Z7:St} {H7:Hp},Inv X (ak++jk fp s5.heap) Z7 H7 s7->N Z7 H7->∃m,m<n/\∃i Z' H',Inv X ak Z' H' s7/\tn i s7.heap/\(∀b∈fp,H' b=none)/\W i m Z' H':=λ{Z7 H7} I7 n7=>by
   obtain⟨m',hm,w7⟩:=hN Z7 H7 n7;refine⟨m',hm,i+1,Z7,H7,I7.gj,T.keep _ _ _ BW λb hb o e=>(I7.pin (b,o) (m_ _ (m_ _ (Jx hb e)))).1,λb hb=>?_,w7⟩;obtain⟨o,e,d⟩:=T.obj _ _ BW b hb;exact(I7.pin (b,o) (m_ _ (m_ _ (Jx hb e)))).2.1
  cases f with
  |next=>obtain⟨Z7,H7,I7,n7⟩:=q7;exact again I7 n7
  |cont=>obtain⟨Z7,H7,I7,n7⟩:=q7;exact again I7 n7
  |brk=>obtain⟨Z7,H7,I7,q7⟩:=q7;exact⟨Z7,H7,I7.gj,q7⟩
  |ret v=>obtain⟨x7,Z7,H7,I7,r7,q7⟩:=q7;exact⟨x7,Z7,H7,I7.gj,r7,q7⟩
end
noncomputable abbrev R2:=V->V->Hp->VK->Prop
def cN(X:Cx)(f:Value->Value->Sem Value)(r:R2):Prop:=
 ∀(ak:List (Addr×Obj)) (s:Shared) (Z:St) (H:Hp) (x y:V) (v u:Value) (Q:VK),Inv X ak Z H s->RelV x v->RelV y u->r x y H Q->
  wpAny (model X.prog X.w) X.A (f v u) (EP X ak Z Q) X.xe s
def Jz(X:Cx)(f:Value->Sem Value)(r:V->Hp->VK->Prop):Prop:=
 ∀(ak:List (Addr×Obj)) (s:Shared) (Z:St) (H:Hp) (x:V) (v:Value) (Q:VK),Inv X ak Z H s->RelV x v->r x H Q->
  wpAny (model X.prog X.w) X.A (f v) (EP X ak Z Q) X.xe s
def dw(X:Cx)(f:Value)(r:List V->Hp->VK->Prop):Prop:=
 ∀(ak:List (Addr×Obj)) (s:Shared) (Z:St) (H:Hp) (xs:List V) (us:List Value) (Q:VK),Inv X ak Z H s->Vals xs us->r xs H Q->
  wpAny (model X.prog X.w) X.A (call f us) (EP X ak Z Q) X.xe s
noncomputable def JD(r:R2)(ta tb:TE):TE:=λZ H Q=>ta Z H λx H1=>tb Z H1 λy H2=>r x y H2 Q
noncomputable def tUn(r:V->Hp->VK->Prop)(ta:TE):TE:=λZ H Q=>ta Z H λx H1=>r x H1 Q
noncomputable def rI(C:Int->Int->Prop)(g:Int->Int->V):R2:=λx y H Q=>∃i j,x=.int i/\y=.int j/\C i j/\Q (g i j) H
noncomputable def pZ(g:Int->Int->V):R2:=λx y H Q=>∃i j,x=.int i/\y=.int j/\Q (g i j) H
noncomputable def rU(g:Int->V):V->Hp->VK->Prop:=λx H Q=>∃i,x=.int i/\Q (g i) H
section
variable {X:Cx}{a b c:Expr}{ta tb tc:TE}{pos:Pos}
theorem yV(ha:PE X a ta)(hb:PE X b tb){ak:List (Addr×Obj)}{s:Shared}{Z:St}{H:Hp}{R:V->V->Hp->Prop}(I:Inv X ak Z H s)
  (h:ta Z H λx H1=>tb Z H1 λy H2=>R x y H2) {Q:Value->Shared->Prop} {f:Value->Value->Sem Value}
  (hf:∀v u s2 x y H2,Inv X ak Z H2 s2->RelV x v->RelV y u->R x y H2->wpAny (model X.prog X.w) X.A (f v u) Q X.xe s2) :
  wpAny (model X.prog X.w) X.A (eval a X.env) (λv s₁=>wpAny (model X.prog X.w) X.A (eval b X.env) (λu s₂=>wpAny (model X.prog X.w) X.A (f v u) Q X.xe s₂) X.xe s₁) X.xe s:=by
 refine aZ (ha ak s Z H _ I h) λv s1 hx=>dG hx λx H1 I1 r1 q1=>?_;refine aZ (hb ak s1 Z H1 _ I1 q1) λu s2 hx=>dG hx λy H2 I2 r2 q2=>?_;exact hf v u s2 x y H2 I2 r1 r2 q2
theorem zlA{op:Operator}{r:R2}(ho:cN X (binaryOp op) r)(ha:PE X a ta)(hb:PE X b tb):PE X (.BinOp a op b pos) (JD r ta tb):=by
 intro ak s Z H Q I h;exact wpAny_BinOp (yV ha hb I h λv u s2 x y H2 I2 rx ry q=>ho ak s2 Z H2 x y v u Q I2 rx ry q)
theorem U8{op:UnaryOp}{r:V->Hp->VK->Prop}(ho:Jz X (unaryOp op) r)(ha:PE X a ta):PE X (.UnaryOp op a pos) (tUn r ta):=by
 intro ak s Z H Q I h;exact UnaryOp_ (aZ (ha ak s Z H _ I h) λv s1 hx=>dG hx λx H1 I1 r1 q1=>ho ak s1 Z H1 x v Q I1 r1 q1)
theorem JF{f:Value->Value->Sem Value}{C:Int->Int->Prop}{g:Int->Int->Int}
  (rule:∀(i j:Int) (t u:Tok) (s:Shared) (Q:Value->Shared->Prop) (E:Value->Shared->Prop),C i j->Q (.int (g i j) s.toks) {s with toks:=s.toks+1}->wpAny (model X.prog X.w) X.A (f (.int i t) (.int j u)) Q E s) :
  cN X f (rI C λi j=>.int (g i j)):=by
 intro ak s Z H x y v u Q I rx ry h;obtain⟨i,j,rfl,rfl,hc,q⟩:=h;obtain⟨t,rfl⟩:=rx;obtain⟨t',rfl⟩:=ry;exact rule i j t t' s _ _ hc ⟨.int (g i j),H,I.tok _,⟨_,rfl⟩,q⟩
theorem Ew{f:Value->Value->Sem Value}{g:Int->Int->Int}
  (rule:∀(i j:Int) (t u:Tok) (s:Shared) (Q:Value->Shared->Prop) (E:Value->Shared->Prop),Q (.int (g i j) s.toks) {s with toks:=s.toks+1}->wpAny (model X.prog X.w) X.A (f (.int i t) (.int j u)) Q E s) :
  cN X f (pZ λi j=>.int (g i j)):=by
 intro ak s Z H x y v u Q I rx ry h;obtain⟨i,j,rfl,rfl,q⟩:=h;obtain⟨t,rfl⟩:=rx;obtain⟨t',rfl⟩:=ry;exact rule i j t t' s _ _ ⟨.int (g i j),H,I.tok _,⟨_,rfl⟩,q⟩
theorem yW{f:Value->Value->Sem Value}{g:Int->Int->Bool}
  (rule:∀(i j:Int) (t u:Tok) (s:Shared) (Q:Value->Shared->Prop) (E:Value->Shared->Prop),Q (.bool (g i j)) s->wpAny (model X.prog X.w) X.A (f (.int i t) (.int j u)) Q E s) :
  cN X f (pZ λi j=>.bl (g i j)):=by
 intro ak s Z H x y v u Q I rx ry h;obtain⟨i,j,rfl,rfl,q⟩:=h;obtain⟨t,rfl⟩:=rx;obtain⟨t',rfl⟩:=ry;exact rule i j t t' s _ _ ⟨.bl (g i j),H,I,rfl,q⟩
def vC(i j:Int):Prop:=0<j/\j<1073741824
def Ey(i j:Int):Prop:=0<=j/\j<=1000000/\i.natAbs<2^64
def vD(i j:Int):Prop:=(-(2^64)<i/\i<2^64)\/(-(2^64)<j/\j<2^64)
theorem vD.ok{i j:Int}(h:vD i j):IntMulOk i j:=by
 rcases h with ⟨h1,h2⟩|⟨h1,h2⟩
 ·exact .of_left (intBits_le_64 h1 h2)
 ·exact .of_right (intBits_le_64 h1 h2)
theorem yX:cN X (binaryOp .Add) (pZ λi j=>.int (i+j)):=Ew λ_ _ _ _ _ _ _ q=>add_int q
theorem zi9:cN X (binaryOp .Sub) (pZ λi j=>.int (i-j)):=Ew λ_ _ _ _ _ _ _ q=>sub_int q
theorem zj3:cN X (binaryOp .Mult) (rI vD λi j=>.int (i*j)):=JF λ_ _ _ _ _ _ _ hc q=>mul_int q hc.ok
theorem ziB:cN X (binaryOp .FloorDiv) (rI vC λi j=>.int (i/j)):=JF λi j _ _ _ _ _ hc q=>by
 have h1:(0:Int)<j:=hc.1;have h2:j<1073741824:=hc.2;exact floordiv_int gV (by rw[Int.fdiv_eq_ediv_of_nonneg i gV];exact q) (.inl (PyProof.noPylong_small gV))
theorem zkV:cN X (binaryOp .Mod) (rI (λ_ j=>0<j) λi j=>.int (i%j)):=JF λi j _ _ _ _ _ hc q=>by
 have h1:(0:Int)<j:=hc;exact mod_int' gV (by rw[Int.fmod_eq_emod_of_nonneg i gV];exact q)
theorem zkz:cN X (binaryOp .Pow) (rI Ey λi j=>.int (i^j.toNat)):=JF λ_ _ _ _ _ _ _ hc q=>pow_int_small hc.1 hc.2.1 hc.2.2 q
theorem unI{f:Value->Sem Value}{g:Int->Int}
  (rule:∀(i:Int) (t:Tok) (s:Shared) (Q:Value->Shared->Prop) (E:Value->Shared->Prop),Q (.int (g i) s.toks) {s with toks:=s.toks+1}->wpAny (model X.prog X.w) X.A (f (.int i t)) Q E s) :
  Jz X f (rU λi=>.int (g i)):=by
 intro ak s Z H x v Q I rx h;obtain⟨i,rfl,q⟩:=h;obtain⟨t,rfl⟩:=rx;exact rule i t s _ _ ⟨.int (g i),H,I.tok _,⟨_,rfl⟩,q⟩
theorem U9:Jz X (unaryOp .USub) (rU λi=>.int (-i)):=unI λ_ _ _ _ _ q=>neg_int q
end
section
variable {X:Cx}{a b c:Expr}{ta tb tc:TE}{pos:Pos}
theorem Ez:cN X (compareOp .Lt) (pZ λi j=>.bl (decide (i<j))):=yW λ_ _ _ _ _ _ _ q=>lt_int q
theorem zlj:cN X (compareOp .LtE) (pZ λi j=>.bl (decide (i<=j))):=yW λ_ _ _ _ _ _ _ q=>le_int q
theorem zlv:cN X (compareOp .GtE) (pZ λi j=>.bl (decide (j<=i))):=yW λ_ _ _ _ _ _ _ q=>ge_int q
theorem cN.or{f:Value->Value->Sem Value}{r r':R2}(h:cN X f r)(h':cN X f r'):cN X f (λx y H Q=>r x y H Q\/r' x y H Q):=by
 intro ak s Z H x y v u Q I rx ry q;rcases q with q|q
 ·exact h ak s Z H x y v u Q I rx ry q
 ·exact h' ak s Z H x y v u Q I rx ry q
theorem zix{op:CmpOp}{r:R2}(ho:cN X (compareOp op) r)(ha:PE X a ta)(hb:PE X b tb)(hm:behindInMarks op b=false):PE X (.Compare a [op] [b] pos) (JD r ta tb):=by
 intro ak s Z H Q I h;exact wpAny_Compare1 (yV ha hb I h λv u s2 x y H2 I2 rx ry q=>ho ak s2 Z H2 x y v u Q I2 rx ry q) hm
noncomputable def xG(t:TE):TT:=λZ H Q=>t Z H λx H'=>∃k,x=.bl k/\Q k H'
theorem zhL{op:CmpOp}{r:R2}(ho:cN X (compareOp op) r)(ha:PE X a ta)(hb:PE X b tb)(hm:behindInMarks op b=false):PT X (.Compare a [op] [b] pos) (xG (JD r ta tb)):=by
 intro ak s Z H Q I h;refine wpAny_isTrue_Compare1 (aZ (ha ak s Z H _ I h) λv s1 hx=>dG hx λx H1 I1 r1 q1=>aZ (hb ak s1 Z H1 _ I1 q1) λu s2 hx=>dG hx λy H2 I2 r2 q2=>
  aZ (ho ak s2 Z H2 x y v u _ I2 r1 r2 q2) λc s3 hx=>wZ hx λz H3 I3 r3 k e q3=>?_) hm
 subst e;cases r3;exact qX ⟨H3,I3,q3⟩
noncomputable def rF(r r':R2)(ta tb tc:TE):TE:=λZ H Q=>ta Z H λx H1=>tb Z H1 λy H2=>r x y H2 λz H3=>∃k,z=.bl k /\
 (if k=true then tc Z H3 λw' H4=>r' y w' H4 Q else Q (.bl false) H3)
theorem zgW{op op':CmpOp}{r r':R2}(ho:cN X (compareOp op) r)(ji:cN X (compareOp op') r')(ha:PE X a ta)(hb:PE X b tb)(hc:PE X c tc)
  (hm:lastMarks [op,op'] [b,c]=false:=by with_unfolding_all rfl):PE X (.Compare a [op,op'] [b,c] pos) (rF r r' ta tb tc):=by
 intro ak s Z H Q I h;refine Compare_chain (aZ (ha ak s Z H _ I h) λv s1 hx=>dG hx λx H1 I1 r1 q1=>chain_link (aZ (hb ak s1 Z H1 _ I1 q1) λu s2 hx=>dG hx λy H2 I2 r2 q2=>
  aZ (ho ak s2 Z H2 x y v u _ I2 r1 r2 q2) λd s3 hx=>wZ hx λz H3 I3 r3 k e q3=>?_)) hm
 subst e;cases r3;refine qX ?_;cases k with
 |false=>exact ite_ff ⟨.bl false,H3,I3,rfl,q3⟩
 |true=>exact ite_tt (chain_last (aZ (hc ak s3 Z H3 _ I3 q3) λw' s4 hx=>dG hx λz' H4 I4 r4 q4=>ji ak s4 Z H4 y z' u w' Q I4 r2 r4 q4))
theorem zgO{op op':CmpOp}{r r':R2}(ho:cN X (compareOp op) r)(ji:cN X (compareOp op') r')(ha:PE X a ta)(hb:PE X b tb)(hc:PE X c tc)
  (hm:lastMarks [op,op'] [b,c]=false:=by with_unfolding_all rfl):PT X (.Compare a [op,op'] [b,c] pos) (xG (rF r r' ta tb tc)):=by
 intro ak s Z H Q I h;refine isTrue_chain (aZ (ha ak s Z H _ I h) λv s1 hx=>dG hx λx H1 I1 r1 q1=>test_link (aZ (hb ak s1 Z H1 _ I1 q1) λu s2 hx=>dG hx λy H2 I2 r2 q2=>
  aZ (ho ak s2 Z H2 x y v u _ I2 r1 r2 q2) λd s3 hx=>wZ hx λz H3 I3 r3 k e q3=>?_)) hm
 subst e;cases r3;refine qX ?_;cases k with
 |false=>
  obtain⟨k',e',q'⟩:=q3;cases e';exact ite_ff ⟨H3,I3,q'⟩
 |true=>
  refine ite_tt (test_last (aZ (hc ak s3 Z H3 _ I3 q3) λw' s4 hx=>dG hx λz' H4 I4 r4 q4=>aZ (ji ak s4 Z H4 y z' u w' _ I4 r2 r4 q4) λd' s5 hx=>wZ hx λz2 H5 I5 r5 k2 e2 q5=>?_));subst e2;cases r5;exact qX ⟨H5,I5,q5⟩
theorem jm:(sizeLine:Nat)<2^63:=by rw[pR];decide
theorem zeu:cN X (binaryOp .Add) (λx y H Q=>∃i j,x=.str i/\y=.str j/\i.length+j.length<=sizeLine/\Q (.str (i++j)) H):=by
 intro ak s Z H x y v u Q I rx ry h;obtain⟨i,j,rfl,rfl,hz,q⟩:=h;obtain⟨t,rfl⟩:=rx;obtain⟨t',rfl⟩:=ry;exact add_str (λt' tk=>⟨.str (i++j),H,I.tok _,⟨_,rfl⟩,q⟩) hz
theorem vals1{x:V}{us:List Value}(r:Vals [x] us):∃u,us=[u]/\RelV x u:=by
 cases r with
 |cons r1 r2=>cases r2;exact⟨_,rfl,r1⟩
theorem vals2{x y:V}{us:List Value}(r:Vals [x,y] us):∃u w',us=[u,w']/\RelV x u/\RelV y w':=by
 cases r with
 |cons r1 r2=>
  cases r2 with
  |cons r3 r4=>cases r4;exact⟨_,_,rfl,r1,r3⟩
theorem zfo(hc:X.aj=true):dw X (.builtin "max") (λxs H Q=>∃i j,xs=[.int i,.int j]/\Q (.int (if j>i then j else i)) H):=by
 intro ak s Z H xs us Q I r h;obtain⟨i,j,rfl,q⟩:=h;obtain⟨u,w',rfl,⟨t,rfl⟩,⟨t',rfl⟩⟩:=vals2 r;refine max_two_ints (I.ok.hd hc) λh' tk k=>⟨_,H,I.kept k,?_,q⟩;by_cases hj:j>i
 ·rw[if_pos hj,if_pos hj];exact⟨_,rfl⟩
 ·rw[if_neg hj,if_neg hj];exact⟨_,rfl⟩
theorem zeI:dw X (.type "int") (λxs H Q=>(∃i,xs=[.int i]/\Q (.int i) H)\/∃k,xs=[.bl k]/\Q (.int (if k then 1 else 0)) H):=by
 intro ak s Z H xs us Q I r h;rcases h with ⟨i,rfl,q⟩|⟨k,rfl,q⟩
 ·obtain⟨u,rfl,t,rfl⟩:=vals1 r;exact call_int_int ⟨.int i,H,I,⟨_,rfl⟩,q⟩
 ·obtain⟨u,rfl,r1⟩:=vals1 r;cases r1;exact call_int_bool ⟨.int (if k then 1 else 0),H,I.tok _,⟨_,rfl⟩,q⟩
theorem zc7:dw X (.builtin "divmod") (λxs H Q=>∃i j,xs=[.int i,.int j]/\vC i j/\∀p,H p=none->Q (.ref p) (upd H p (.tup [.int (i/j),.int (i%j)]))):=by
 intro ak s Z H xs us Q I r h;obtain⟨i,j,rfl,⟨h1,h2⟩,q⟩:=h;obtain⟨u,w',rfl,⟨t,rfl⟩,⟨t',rfl⟩⟩:=vals2 r;refine divmod_int gV ?_ (.inl (PyProof.noPylong_small gV));rw[Int.fdiv_eq_ediv_of_nonneg i gV,Int.fmod_eq_emod_of_nonneg i gV];have hn:H s.heap.objs.size=none:=I.hok.fresh (bT _);refine⟨.ref s.heap.objs.size,_,?_,rfl,q _ hn⟩;refine I.laid (λb o e=>bR _ e) (bT _) ⟨by simp only[iB,q_];rw[pR];decide,[.int (i/j) s.toks,.int (i%j) (s.toks+1)],.cons ⟨_,rfl⟩ (.cons ⟨_,rfl⟩ .nil),?_⟩;exact⟨_,fW s.heap rfl,rfl,0,rfl⟩
end
section
variable {X:Cx}{ak:List (Addr×Obj)}{Z:St}{H:Hp}{s:Shared}{a C dx:Addr}{fs:List (Str×V)}{f:Str}{v:V}{A:Around}{E:Value->Shared->Prop}
theorem ziF{prog:Program}{w:World}{env:Env}{e:Expr}{f:Str}{pos:Pos}{s:Shared}{Q:Value->Shared->Prop}(hb:attributeBase e f env (eval e env)=eval e env)
  (h:wpAny (model prog w) A (eval e env) (λo s₁=>wpAny (model prog w) A (getAttr o f true) Q E s₁) E s):wpAny (model prog w) A (eval (.Attribute e f pos) env) Q E s:=
 Attribute_any_ h (by rw[arm_eval_Attribute,hb])
end
structure bO(k:Nat)(A:Around):Prop where
 dp:A.depth+3*k+5<recursionLimit
 un:A.units+16*k+200<cLine
 gd:A.guards=some []
theorem bO.deeper{k:Nat}{A:Around}(r:bO (k+1) A)(env:Env):bO k (A.deeper env):=
 ⟨by have:=r.dp;show A.depth+1+3*k+5<_;lia,by have:=r.un;show A.units+3+16*k+200<_;lia,r.gd⟩
theorem bO.depth{k:Nat}{A:Around}(r:bO k A):A.depth<recursionLimit:=by have:=r.dp;lia
noncomputable def Ni:TA:=λ_ H Q=>Q [] H
noncomputable def EY(ta:TE)(tr:TA):TA:=λZ H Q=>ta Z H λx H1=>tr Z H1 λxs H2=>Q (x::xs) H2
section
variable {X:Cx}{e:Expr}{es:List Expr}{te:TE}{t:TA}{pos:Pos}
theorem BX:PA X [] Ni:=λ_ _ _ _ H Q I h=>Calls.spliced_nil ⟨[],H,I,.nil,h⟩
theorem uG(ha:PE X e te)(hr:PA X es t)(hs:starEach (e::es) X.env=(false,eval e X.env)::starEach es X.env:=by rfl):PA X (e::es) (EY te t):=by
 intro pos ak s Z H Q I h;rw[hs];show wpAny _ _ (spliced ((false,eval e X.env)::backTo pos (starEach es X.env))) _ _ s;refine Calls.spliced_cons (aZ (ha ak s Z H _ I h) λu s1 hx=>dG hx λx H1 I1 r1 q1=>?_);exact aZ (hr pos ak s1 Z H1 _ I1 q1) λus s2 hx=>dG hx λxs H2 I2 r2 q2=>⟨x::xs,H2,I2,.cons r1 r2,q2⟩
noncomputable def Nj(t:TA):TE:=λZ H Q=>t Z H λxs H1=>xs.length<=sizeLine/\∀p,H1 p=none->Q (.ref p) (upd H1 p (.tup xs))
noncomputable def Nk(t:TA):TE:=λZ H Q=>t Z H λxs H1=>xs.length<=sizeLine/\∀p,H1 p=none->Q (.ref p) (upd H1 p (.lst xs))
theorem zkM{x1}(h:PA X es t):PE X (.Tuple es x1 pos) (Nj t):=by
 intro ak s Z H Q I hq;refine wpAny_Tuple_spliced (aZ (h pos ak s Z H _ I hq) λus s1 ⟨xs,H1,I1,r,z,q⟩=>⟨by rw[<-r.length];exact z,?_⟩);have hf:H1 s1.heap.objs.size=none:=I1.hok.fresh (bT _);refine⟨.ref s1.heap.objs.size,upd H1 s1.heap.objs.size (.tup xs),I1.laid (t':=s1.toks) (λb u e=>bR _ e) (bT _) ?_,rfl,q _ hf⟩;exact⟨z,us,r,⟨_,fW _ rfl,rfl,_,rfl⟩⟩
theorem zjF(h:PA X es t):PE X (.List es pos) (Nk t):=by
 intro ak s Z H Q I hq;refine wpAny_List_spliced (aZ (h pos ak s Z H _ I hq) λus s1 ⟨xs,H1,I1,r,z,q⟩=>⟨by rw[<-r.length];exact z,?_⟩);have hf:H1 s1.heap.objs.size=none:=I1.hok.fresh (bT _);refine⟨.ref s1.heap.objs.size,upd H1 s1.heap.objs.size (.lst xs),I1.laid (t':=s1.toks) (λb u e=>bR _ e) (bT _) ?_,rfl,q _ hf⟩;exact⟨z,us,0,r,fW _ rfl⟩
end
noncomputable abbrev Sp:=List V->Hp->VK->XK->Prop
noncomputable abbrev qL:=List Env->Hp->Shared->XK->Value->Shared->Prop
structure vG(P:Program)(w:World)(K:W.Frag)(mg:Str->Option Value)(base:Heap)(A:Around)(outer:List Env)(s:Shared)(H:Hp):Prop where
 frames:A.frames=some outer
 mod:Mod K mg base
 bs:∀b o,base.get? b=some o->s.heap.get? b=some o/\H b=none
 xg:base.objs.size<=s.heap.objs.size
 jh:s.heap.FunFrames base outer
 BR:∀b∈frs outer,H b=none
 hok:fU P w H s.heap
 bare:AllBare s.gens
def CE(outer:List Env)(P:Program)(w:World)(H:Hp)(s:Shared)(Q:VK)(u:Value)(s':Shared):Prop:=
 ∃v H',s'.os=s.os/\AllBare s'.gens/\Un (frs outer) [] H H' s.heap s'.heap/\fU P w H' s'.heap/\RelV v u/\Q v H'
def CR(CX:qL)(outer:List Env)(P:Program)(w:World)(H:Hp)(s:Shared)(Q:VK)(E:XK)(r:Result)(s':Shared):Prop:=
 match r with
 |.ok (.ret u)=>CE outer P w H s Q u s'
 |.ok _=>False
 |.error e=>CX outer H s E e s'
structure dN(P:Program)(w:World)(K:W.Frag)(mg:Str->Option Value)(base:Heap)(CX:qL)(cm:Bool)(k:Nat)(f:Addr)(fd:FuncData)(ps:List Str)(sp:Sp):Prop where
 len:∀vs H Q E,sp vs H Q E->vs.length=ps.length
 run:∀(A:Around) (outer:List Env) (s:Shared) (H:Hp) (args:Args) (us:List Value) (vs:List V) (Q:VK) (E:XK),(cm=true->A.handled=none)->bO k A->vG P w K mg base A outer s H->BindsTo s fd args (ps.zip us)->Vals vs us->sp vs H Q E->
  codeAny (model P w) A (.call (.ref f) args) (CR CX outer P w H s Q E) s
theorem dN.imp{P:Program}{w:World}{K:W.Frag}{mg:Str->Option Value}{base:Heap}{CX:qL}{cm:Bool}{k:Nat}{f:Addr}{fd:FuncData}{ps:List Str}{sp U_:Sp}(F:dN P w K mg base CX cm k f fd ps sp)
  (h:∀vs H Q E,U_ vs H Q E->sp vs H Q E):dN P w K mg base CX cm k f fd ps U_:=
 ⟨λvs H Q E q=>F.len vs H Q E (h _ _ _ _ q),λA outer s H args us vs Q E p7 hr he hb hv hs=>F.run A outer s H args us vs Q E p7 hr he hb hv (h _ _ _ _ hs)⟩
section
variable {X:Cx}{ak:List (Addr×Obj)}{Z:St}{H:Hp}{s s':Shared}
theorem Inv.env0(I:Inv X ak Z H s):vG X.prog X.w X.K X.mg X.base X.A X.stack s H:=
 ⟨I.ok.frames,I.ok.mod,I.bs,mV I.ok.xg I.sz,I.stack,I.iQ,I.hok,I.bare⟩
theorem Inv.after{Q:VK}{u:Value}(I:Inv X ak Z H s)(h:CE X.stack X.prog X.w H s Q u s'):EP X ak Z Q u s':=by
 obtain⟨v,H',os,bare,un,hok,r,q⟩:=h;obtain⟨hh,g,d,t,os'⟩:=s';obtain rfl:os'=s.os:=os;exact⟨v,H',I.call (h':=hh) (g':=g) (d':=d) (t':=t) (ch:=[]) un hok bare (λb z=>absurd z Zaa),r,q⟩
end
def Binds(K:W.Frag)(fd:FuncData)(ps:List Str)(ds:List Value):Prop:=
 ∀(s:Shared) (us:List Value),K.In s.heap->(us++ds).length=ps.length->BindsTo s fd ⟨us,[]⟩ (ps.zip (us++ds))
theorem Binds.all{K:W.Frag}{fd:FuncData}{ps:List Str}(h:∀us:List Value,us.length=ps.length->bindArgs fd ⟨us,[]⟩=pure (ps.zip us)):Binds K fd ps []:=λs us _ hl=>by
 rw[yF] at hl ⊢;exact .of_eq (h us hl)
structure fj(N P:List Str)(sc:Scope):Prop where
 kind:sc.kind=.function
 co:sc.isCoroutine=false
 gen:sc.isGenerator=false
 nd:N.Nodup
 pre:N.take P.length=P
 par:∀x∈P,sc.names.lookup x=some .local\/sc.names.lookup x=some .cell
 yZ:∀y∈sc.names,y.2≠.free
theorem Va{kindOf:Str->Option NameKind}{x:Str}:∀{binds:List (Str×Value)} {m:Str->Option Value},(∀v,(x,v)∉binds)->bindL kindOf binds m x=m x
 |[],_,_=>rfl
 |(n,v)::r,m,h=>by
  unfold bindL;rw[Va λw hw=>h w (dF _ hw)]
  split
  ·have:x≠n:=by rintro rfl;exact h v dM
   simp[this]
  ·rfl
theorem Vb{kindOf:Str->Option NameKind}{x:Str}:∀{binds:List (Str×Value)} {m:Str->Option Value},(∀v,(x,v)∉binds)->bindC kindOf binds m x=m x
 |[],_,_=>rfl
 |(n,v)::r,m,h=>by
  unfold bindC;rw[Vb λw hw=>h w (dF _ hw)]
  split
  ·rfl
  ·have:x≠n:=by rintro rfl;exact h v dM
   simp[this]
theorem Vc{kindOf:Str->Option NameKind}{x:Str}{v:Value}:∀{P:List Str} {vs:List Value} {i:Nat} {m:Str->Option Value},P.Nodup->P[i]?=some x->vs[i]?=some v->kindOf x=some .local->
  bindL kindOf (P.zip vs) m x=some v
 |[],_,_,_,_,h,_,_=>by simp at h
 |_::_,[],_,_,_,_,h,_=>by simp at h
 |p::P,w::vs,0,m,nd,h1,h2,hk=>by
  simp at h1 h2;subst h1;subst h2;show bindL kindOf ((p,w)::P.zip vs) m p=_;unfold bindL;rw[Va λv hv=>(qI.mp nd).1 (Jh hv).1,if_pos hk];simp
 |p::P,w::vs,i+1,m,nd,h1,h2,hk=>by
  show bindL kindOf ((p,w)::P.zip vs) m x=_;unfold bindL;exact Vc (i:=i) (qI.mp nd).2 (by simpa using h1) (by simpa using h2) hk
theorem Vd{kindOf:Str->Option NameKind}{x:Str}{v:Value}:∀{P:List Str} {vs:List Value} {i:Nat} {m:Str->Option Value},P.Nodup->P[i]?=some x->vs[i]?=some v->kindOf x≠some .local->
  bindC kindOf (P.zip vs) m x=some v
 |[],_,_,_,_,h,_,_=>by simp at h
 |_::_,[],_,_,_,_,h,_=>by simp at h
 |p::P,w::vs,0,m,nd,h1,h2,hk=>by
  simp at h1 h2;subst h1;subst h2;show bindC kindOf ((p,w)::P.zip vs) m p=_;unfold bindC;rw[Vb λv hv=>(qI.mp nd).1 (Jh hv).1,if_neg hk];simp
 |p::P,w::vs,i+1,m,nd,h1,h2,hk=>by
  show bindC kindOf ((p,w)::P.zip vs) m x=_;unfold bindC;exact Vd (i:=i) (qI.mp nd).2 (by simpa using h1) (by simpa using h2) hk
noncomputable def start(N:List Str)(vs:List V):St:=vs.map some++List.replicate (N.length-vs.length) none
noncomputable def gK(CX:qL)(P:Program)(w:World)(K:W.Frag)(mg:Str->Option Value)(base:Heap)(N:List Str)(qual:Str)(scope:Scope)(f:Addr)(cd:Value)(A:Around)(outer:List Env)(s:Shared)(H:Hp)(E:XK)(cm:Bool):Cx where
 prog:=P
 w:=w
 K:=K
 mg:=mg
 base:=base
 A:=A.deeper (envOfC qual scope s.heap.objs.size f cd)
 N:=N
 s₀:=s
 H₀:=H
 env:=envOfC qual scope s.heap.objs.size f cd
 outer:=outer
 stack:=envOfC qual scope s.heap.objs.size f cd::outer
 ex:=[]
 aj:=cm
 fn:=λ_=>true
 pn:=[]
 xe:=λe s'=>wpAny (model P w) (A.deeper (envOfC qual scope s.heap.objs.size f cd)) (leaving (envOfC qual scope s.heap.objs.size f cd) e) (λ_ s''=>CX outer H s E e s'') (λe' s''=>CX outer H s E e' s'') s'
theorem Ve{sc:Scope}{n:Nat}{x:Str}(h:sc.names.lookup x=some .cell):∃c,(cellsFrom n sc.names []).lookup x=some c:=by
 have q:=Ls sc.names n [] (.inl h);exact Ln.mp q
theorem zfS{CX:qL}{P:Program}{w:World}{K:W.Frag}{mg:Str->Option Value}{base:Heap}{N ps:List Str}{qual:Str}{scope:Scope}{f:Addr}{cd:Value}{A:Around}{outer:List Env}{s s1:Shared}{H:Hp}{E:XK}{us:List Value}{vs:List V}
  {cm:Bool} (S:fj N ps scope) (hd:cm=true->A.handled=none) (e0:vG P w K mg base A outer s H) (hl:vs.length=ps.length) (r:Vals vs us)
  (x:InCallC s s.heap.objs.size (bindL (envOfC qual scope s.heap.objs.size f cd).kindOf (ps.zip us) λ_=>none) (cellsFrom (s.heap.objs.size+1) scope.names []) (bindC (envOfC qual scope s.heap.objs.size f cd).kindOf (ps.zip us) λ_=>none) s1) :
  Inv (gK CX P w K mg base N qual scope f cd A outer s H E cm) [] (start N vs) H s1:=by
 have bN:ps.length<=N.length:=by have:=pU List.length S.pre;rw[wO] at this;lia
 obtain⟨h1,tk,rfl,hk⟩:=x.done;have E_:∀b:Addr,b∉(gK CX P w K mg base N qual scope f cd A outer s H E cm).ex:=λb z=>absurd (show b∈([]:List Addr) from z) Zaa;refine⟨⟨e0.mod,S.kind,rfl,rfl,bT _,λy z c h1 h2=>?_,λy hy=>?_,λy c _ h=>?_,hd,Around.frames_deeper e0.frames,.inr ⟨rfl,rfl⟩,λb z=>absurd z (E_ b),e0.bs,e0.xg,λb _ _=>E_ b,λb z=>absurd z (E_ b),e0.jh,e0.BR⟩,
  rfl,e0.bare,Un.kept hk,⟨_,x.toInCall.ns,λi y v h1 h2 h3=>?_⟩,λy c h=>⟨_,x.cell y c h⟩,e0.hok.fresh (bT _),λy c h=>?_,λp hp=>absurd (show p∈([]:List (Addr×Obj)) from hp) Zaa,e0.hok.kept hk,?_⟩
 ·exact name_of_addr x.apart (Bk h1) (Bk h2)
 ·have hy:scope.names.lookup y=some .cell\/scope.names.lookup y=some .free:=hy;rcases hy with hy|hy
  ·exact Ve hy
  ·exact absurd rfl (S.yZ _ (Bk hy))
 ·exact wU (x.above y c (Bk h))
 ·have hi:i<vs.length:=by
   unfold start at h2;by_cases hi:i<vs.length
   ·exact hi
   ·rw[m8 (by simpa using hi)] at h2;rw[Iz] at h2;split at h2<;>cases h2
  have ha:vs[i]?=some v:=by
   unfold start at h2;rw[oU (by simpa using hi),kY] at h2;cases e:vs[i]? with
   |none=>rw[e] at h2;cases h2
   |some a=>rw[e] at h2;cases h2;rfl
  obtain⟨u,hu,rv⟩:=r.get ha;have hp:ps[i]?=some y:=by
   rw[<-S.pre,List.getElem?_take_of_lt gV];exact h1
  have Vf:ps.Nodup:=by rw[<-S.pre];exact S.nd.sublist (List.take_sublist _ _)
  refine⟨u,rv,?_⟩;rcases S.par y (jD hp) with k|k
  ·exact .inl ⟨k,Vc Vf hp hu k⟩
  ·obtain⟨c,e⟩:=Ve (n:=s.heap.objs.size+1) k;refine .inr ⟨.inl k,c,e,?_⟩;have q:=x.cell y c e;rw[Vd Vf hp hu (by show scope.names.lookup y≠_;rw[k];decide)] at q;exact q
 ·exact e0.hok.fresh (wU (x.above y c (Bk h)))
 ·unfold start;show _=N.length;rw[eZ,cg,IK]
  lia
theorem zl2{CX:qL}{cm:Bool}{P:Program}{w:World}{K:W.Frag}{mg:Str->Option Value}{base:Heap}{k:Nat}{f:Addr}{name qual:Str}{params:Arguments}{body:List Stmt}{scope:Scope}{dV kV doc pm cdv ct oc:Value}{an od:Option Addr}
  {osl:Array (Option Value)} {N ps:List Str} {sp:Sp} (lk:K.lookup f=some ⟨oc,od,.func (PySem.W.fnOf name qual params body scope dV kV doc pm an cdv ct),osl⟩) (lA:PySem.W.codeIn K cdv qual=true) (S:fj N ps scope)
  (len:∀vs H Q E,sp vs H Q E->vs.length=ps.length)
  (Fb:∀(A:Around) (outer:List Env) (s:Shared) (H:Hp) (vs:List V) (Q:VK) (E:XK),bO (k+1) A->sp vs H Q E->
   ∃t,nA (gK CX P w K mg base N qual scope f cdv A outer s H E cm) body t/\t {nx:=λ_ H'=>Q .non H',rt:=Q} (start N vs) H) :
  dN P w K mg base CX cm (k+1) f (PySem.W.fnOf name qual params body scope dV kV doc pm an cdv ct) ps sp:=by
 refine⟨len,λA outer s H args us vs Q E p7 hr e0 hb r JL=>?_⟩;have hl:=len _ _ _ _ JL;have KX:K.In s.heap:=e0.mod.yK.keeps λb o e=>(e0.bs b o e).1;have lim:s.heap.NoLimit:=e0.mod.nolimit.keeps λb o e=>(e0.bs b o e).1;have Fd:∀y∈ps.zip us,scope.names.lookup y.1=some .local\/(scope.names.lookup y.1=some .cell/\((cellsFrom (s.heap.objs.size+1) scope.names []).lookup y.1).isSome=true):=λ⟨n,v⟩ hy=>by
  rcases S.par n (Jh hy).1 with q|q
  ·exact .inl q
  ·exact .inr ⟨q,Ls _ _ _ (.inl q)⟩
 refine codeAny_call_function hr.depth (KX _ _ lk) rfl S.co S.gen rfl (PySem.W.codeRec_of KX lA) (hb _ _ _ _ ?_);refine wpAny_newFunctionEnv_cells S.kind Fd λenv he s1 x=>?_;subst he;refine⟨lim.keeps x.toInCall.keep,codeAny_func ?_⟩;obtain⟨t,ht,hq⟩:=Fb A outer s H vs Q E hr JL;have I:Inv (gK CX P w K mg base N qual scope f cdv A outer s H E cm) [] (start N vs) H s1:=zfS S p7 e0 hl r x;refine iC (ht [] s1 (start N vs) H _ I hq) (λfl s' hs=>?_) λe s' hs=>hs;have fin:∀{Z':St} {H':Hp} {v:V} {u:Value},Inv (gK CX P w K mg base N qual scope f cdv A outer s H E cm) [] Z' H' s'->RelV v u->Q v H'->CE outer P w H s Q u s':=
  λ{Z' H' v u} bU rv q=>⟨v,H',bU.os,bU.bare,bU.base,bU.hok,rv,q⟩
 cases fl with
 |ret u=>
  obtain⟨v,Z',H',bU,rv,q⟩:=hs;exact fin bU rv q
 |next=>
  obtain⟨Z',H',bU,q⟩:=hs;exact fin (v:=V.non) (u:=Value.none) bU rfl q
 |brk=>
  obtain⟨_,_,_,q⟩:=hs;exact False.elim q
 |cont=>
  obtain⟨_,_,_,q⟩:=hs;exact False.elim q
section
variable {X:Cx}{x:Str}{p pos:Pos}{e:Expr}{es:List Expr}{t:TA}{id T:String}{r:List V->Hp->VK->Prop}
noncomputable def Nm(r:List V->Hp->VK->Prop)(t:TA):TE:=λZ H Q=>t Z H λvs H1=>r vs H1 Q
theorem Vg(hc:dw X (.builtin id) r)(hg:Gl X x)(hm:X.mg x=none)(hv:bootBuiltins x=some (.builtin id))(ha:PA X (e::es) t)(hn:x≠"__name__":=by decide)(lB:(x==("__debug__" : Str))=false:=by decide)
  (he:starEach (e::es) X.env=(false,eval e X.env)::starEach es X.env:=by rfl) (bN:(backTo pos (starEach es X.env)).any (·.1)=false:=by rfl):PE X (.Call (.Name x p) (e::es) [] pos) (Nm r t):=by
 intro ak s Z H Q I h;refine Dt (xu I hg hm hv ?_ hn lB);exact PyProof.Rows.callWith_builtin1 (aZ (ha pos ak s Z H _ I h) λus s1 hx=>dG hx λvs H1 I1 r1 q1=>hc ak s1 Z H1 vs us Q I1 r1 q1) he bN
theorem zfg(hc:dw X (.type T) r)(hg:Gl X x)(hm:X.mg x=none)(hv:bootBuiltins x=some (.type T))(ha:PA X (e::es) t)(hn:x≠"__name__":=by decide)(lB:(x==("__debug__" : Str))=false:=by decide)
  (he:starEach (e::es) X.env=(false,eval e X.env)::starEach es X.env:=by rfl) (bN:(backTo pos (starEach es X.env)).any (·.1)=false:=by rfl):PE X (.Call (.Name x p) (e::es) [] pos) (Nm r t):=by
 intro ak s Z H Q I h;refine Dt (xu I hg hm hv ?_ hn lB);exact Dj (aZ (ha pos ak s Z H _ I h) λus s1 hx=>dG hx λvs H1 I1 r1 q1=>hc ak s1 Z H1 vs us Q I1 r1 q1) he bN
end
end L2
namespace HT
open PySem PyProof.Rows
noncomputable def lexLt:List Int->List Int->Bool
 |[],[]=>false
 |[],_::_=>true
 |_::_,[]=>false
 |x::xs,y::ys=>if x=y then lexLt xs ys else decide (x<y)
theorem jo(x y:Int)(xs ys:List Int):lexLt (x::xs) (y::ys)=if x=y then lexLt xs ys else decide (x<y):=rfl
theorem zcn:lexLt [] []=false:=rfl
theorem zbK(y:Int)(ys:List Int):lexLt [] (y::ys)=true:=rfl
theorem zbM(x:Int)(xs:List Int):lexLt (x::xs) []=false:=rfl
theorem zgo(A:Around)(s:Shared)(a:Int)(t:Tok)(c:Int)(u:Tok):∃e,SeqAt.EqAt A s (.int a t) (.int c u) e/\(e=true↔a=c):=
 ⟨(a==c),SeqAt.EqAt.int_int a t c u,by simp⟩
theorem zgR(A:Around)(s:Shared)(a:Int)(t:Tok)(c:Int)(u:Tok)(prog:Program)(w:World)(E:Value->Shared->Prop)(Q:Value->Shared->Prop)(h:Q (.bool (decide (a<c))) s) :
  wpAny (model prog w) A (richCompare .Lt (.int a t) (.int c u)) Q E s:=
 (PyProof.Rows.lt_int h:wpAny (model prog w) A (compareOp .Lt (.int a t) (.int c u)) Q E s)
section
open PySem.SeqAt
open PySem.AutoSeq1 (wpAny_loadPart')
open PySem.MeetsSeq PySem.MeetsSeq2 PySem.MeetsSeq3
theorem zb7(l b:Addr)(items items2:Array Value)(n n2:Nat)(dd dd2:Option Addr)(sl sl2:Array (Option Value))(ns ms:List Int)(hi:IntsAre items.toList ns)(hj:IntsAre items2.toList ms) :
  Meets (Builtin.«tuple.__lt__» ⟨[.ref l,.ref b],[]⟩)
   (λ_ R s=>s.heap.get? l=some {cls:=.type "tuple",dict:=dd,data:=.seq items n,slots:=sl}/\s.heap.get? b=some {cls:=.type "tuple",dict:=dd2,data:=.seq items2 n2,slots:=sl2} /\
    R (.ok (.ret (.bool (lexLt ns ms)))) s):=
 .of_wp λprog w A R s h=>by
  obtain⟨hp,g,d,tk,os⟩:=s;obtain⟨hl,hb,h⟩:=h;have f2:=AutoSeq1.sub_tuple_tuple;have z1:items.size=ns.length:=by rw[<-hi.length];simp
  have z2:items2.size=ms.length:=by rw[<-hj.length];simp
  wp_walk using wpAny_loadPart' hl,wpAny_loadPart' hb,Jf _ (λrest b s'=>b.1=none/\s'=⟨hp,g,d,tk,os⟩/\∃(vs ws:List Value) (ns' BZ:List Int),rest=vs.zip ws /\
   IntsAre vs ns'/\IntsAre ws BZ/\ns'.length+items2.size=BZ.length+items.size/\R (.ok (.ret (.bool (lexLt ns' BZ)))) ⟨hp,g,d,tk,os⟩) _
  case turn=>
   rintro⟨y,x⟩ rest b s' ⟨hb',rfl,vs,ws,ns',BZ,hz,Np,JM,hlen,hR⟩;cases Np with
   |nil=>rw[List.zip_nil_left] at hz;cases hz
   |cons a t Nq=>
    cases JM with
    |nil=>rw[List.zip_nil_right] at hz;cases hz
    |cons c u Nr=>
     rw[Bl] at hz;injection hz with hyx hrest;injection hyx with hy hx;subst hy hx;rw[jo] at hR;simp only[iB] at hlen;obtain⟨e,he,Fe⟩:=zgo A.in1 ⟨hp,g,d,tk,os⟩ a t c u;refine aq (he prog w _ _ ?_);cases e with
     |true=>
      rw[if_pos (Fe.mp rfl)] at hR
      wp_walk
      exact⟨rfl,rfl,_,_,_,_,hrest,Nq,Nr,by lia,hR⟩
     |false=>
      rw[if_neg (λq=>absurd (Fe.mpr q) Bool.false_ne_true)] at hR;have hri:=zgR A.in1 ⟨hp,g,d,tk,os⟩ a t c u prog w
      wp_walk using hri
      exact⟨_,rfl,by simpa using hR⟩
  case fin=>
   rintro⟨b1,b2⟩ s' ⟨hb',rfl,vs,ws,ns',BZ,hz,Np,JM,hlen,hR⟩;simp only at hb';subst hb';have hv:lexLt ns' BZ=decide (items.size<items2.size):=by
    cases Np with
    |nil=>
     cases JM with
     |nil=>
      simp only[q_] at hlen;rw[zcn];exact(gH gV).symm
     |cons c u hw=>
      simp only[q_,iB] at hlen;rw[zbK];exact(i_ gV).symm
    |cons a t hv=>
     cases JM with
     |nil=>
      simp only[q_,iB] at hlen;rw[zbM];exact(gH gV).symm
     |cons c u hw=>
      rw[Bl] at hz;cases hz
   rw[hv] at hR
   wp_walk
   exact⟨_,rfl,by simpa [Builtin.Tuple.tupleCompareSizes] using hR⟩
  case h=>
   exact⟨rfl,rfl,items.toList,items2.toList,ns,ms,rfl,hi,hj,by lia,h⟩
end
section
variable {prog:Program}{w:World}{A:Around}{E:Value->Shared->Prop}{s:Shared}
theorem nF{l b:Addr}{items items2:Array Value}{ns ms:List Int}{Q:Value->Shared->Prop}(hl:IsTup s.heap l items)(hb:IsTup s.heap b items2)(hi:IntsAre items.toList ns)(hj:IntsAre items2.toList ms)
  (hu:A.units<cLine) (h:Q (.bool (lexLt ns ms)) s):wpAny (model prog w) A (compareOp .Lt (.ref l) (.ref b)) Q E s:=by
 obtain⟨⟨cls,dd,data,sl⟩,ho,hc,n,hd⟩:=id hl;obtain⟨⟨cls2,dd2,data2,sl2⟩,nG,rG,n2,hd2⟩:=id hb;simp only at hc hd rG hd2;subst hc hd rG hd2;exact richCompare_meets_room (op:=.Lt) ⟨_,ho,rfl⟩ ⟨_,nG,rfl⟩ PySem.F.slot_tuple_lt PySem.F.entry_tuple_lt (PySem.F.args_tuple_lt_2 _ _) (zb7 l b items items2 n n2 dd dd2 sl sl2 ns ms hi hj)
  ⟨ho,nG,show Value.bool (lexLt ns ms)≠Value.notImplemented/\Q (.bool (lexLt ns ms)) s from ⟨(λx=>nomatch x),h⟩⟩ hu
theorem vH{t b:Addr}{vs ws:List Value}{Q:Value->Shared->Prop}(ht:IsTup s.heap t vs.toArray)(hb:IsTup s.heap b ws.toArray)(hv:vs≠[])
  (h1:ws=[]->Q (.ref t) s) (h2:ws≠[]->Q (.ref s.heap.objs.size) {s with heap:=s.heap.push {cls:=.type "tuple",data:=.seq (vs++ws).toArray}})
  (jP:vs.length+ws.length<=sizeLine):wpAny (model prog w) A (binaryOp .Add (.ref t) (.ref b)) Q E s:=by
 obtain⟨⟨cls,dd,data,sl⟩,ho,hc,n,hd⟩:=id ht;obtain⟨⟨cls2,dd2,data2,sl2⟩,nG,rG,n2,hd2⟩:=id hb;simp only at hc hd rG hd2;subst hc hd rG hd2;have e:vs.toArray++ws.toArray=(vs++ws).toArray:=by simp
 by_cases hw:ws=[]
 ·exact concat_meets ⟨_,ho,rfl⟩ ⟨_,nG,rfl⟩ noFill_tuple_add seq_tuple_add Lw Lq (Lp _ _)
   (tuple_addW1 t b vs.toArray ws.toArray n n2 dd dd2 sl sl2 (by simpa using hv) (by simp[hw])) ⟨ho,nG,h1 hw⟩
 ·refine concat_meets ⟨_,ho,rfl⟩ ⟨_,nG,rfl⟩ noFill_tuple_add seq_tuple_add Lw Lq (Lp _ _)
   (tuple_addW2 t b vs.toArray ws.toArray n n2 dd dd2 sl sl2 (by simpa using hv) (by simpa using hw) (by rw[cU,cU];exact jP)) ⟨ho,nG,?_⟩
  rw[e];exact h2 hw
noncomputable def bI(n d:Nat):Option Int->Nat
 |none=>d
 |some v=>if v<0 then (v+(n:Int)).toNat else min v.toNat n
theorem rH(n d:Nat):bI n d none=d:=rfl
theorem vI(n d k:Nat):bI n d (some (k:Int))=min k n:=by
 show (if (k:Int)<0 then ((k:Int)+(n:Int)).toNat else min (k:Int).toNat n)=min k n;rw[if_neg gV,Bp]
theorem zjp(n d:Nat)(hd:d<=n)(o:Option Int):bI n d o<=n:=by
 cases o with
 |none=>exact hd
 |some v=>
  show (if v<0 then (v+(n:Int)).toNat else min v.toNat n)<=n;by_cases hv:v<0
  ·rw[if_pos hv];lia
  ·rw[if_neg hv];exact Nat.min_le_right _ _
theorem Vh(v:Int)(n d:Nat):(if v<0 then max (v+(n:Int)) 0 else min v (n:Int))=((bI n d (some v):Nat):Int):=by
 show (if v<0 then max (v+(n:Int)) 0 else min v (n:Int))=(((if v<0 then (v+(n:Int)).toNat else min v.toNat n):Nat):Int);by_cases hv:v<0
 ·simp only[if_pos hv];lia
 ·simp only[if_neg hv];lia
theorem zez(lo hi:Option Int)(n:Nat):Builtin.Slice.sliceAdjust lo hi 1 (n:Int)=(((bI n 0 lo:Nat):Int),((bI n n hi:Nat):Int)):=by
 have h1:¬((1:Int)<0):=by lia
 unfold Builtin.Slice.sliceAdjust;simp only[h1,gW];refine Prod.ext ?_ ?_
 ·cases lo with
  |none=>rfl
  |some v=>exact Vh v n 0
 ·cases hi with
  |none=>rfl
  |some v=>exact Vh v n n
theorem zee(i j:Nat):Builtin.Slice.slicePlaces (i:Int) (j:Int) 1=j-i:=by
 unfold Builtin.Slice.slicePlaces;have h1:(1:Int)>0:=by lia
 simp only[h1,if_true,Int.ediv_one]
 split<;>lia
theorem Nt{v:Value}{o:Option Int}{Q:Option Int->Shared->Prop}(p:IsPart v o)(h:Q o s):wpAny (model prog w) A (Builtin.Slice.slicePartIndex v) Q E s:=by
 cases p with
 |none=>exact slicePart_none h
 |int i t=>exact slicePart_int h
theorem Vi{sl:Addr}{vl vu:Value}{lo hi:Option Int}{n:Nat}{Q:Int×Int×Nat->Shared->Prop}(hs:s.heap.IsSliceOf sl vl vu .none)(pl:IsPart vl lo)(pu:IsPart vu hi)
  (h:Q (((bI n 0 lo:Nat):Int),1,bI n n hi-bI n 0 lo) s):wpAny (model prog w) A (Builtin.Slice.sliceApplied (.ref sl) (pure (n:Int))) Q E s:=by
 obtain⟨os,p8,zc,uH⟩:=id hs;unfold Builtin.Slice.sliceApplied Builtin.Slice.sliceFields;refine aq (aq (jF p8 uH (x:=vl) rfl (aq (jF p8 uH (x:=vu) rfl (aq (jF p8 uH (x:=.none) rfl (aG ?_)))))));refine aq (slicePart_none ?_);show wpAny _ _ (if ((1:Int)==0)=true then _ else _) _ _ s;rw[if_neg R4];refine aq (Nt pl (aq (Nt pu (aq (aG ?_)))));show wpAny _ _ (match Builtin.Slice.sliceAdjust lo hi 1 (n:Int) with|(lo,hi)=>pure (lo,(1:Int),Builtin.Slice.slicePlaces lo hi 1)) _ _ s;rw[zez lo hi n];show wpAny _ _ (pure (((bI n 0 lo:Nat):Int),(1:Int),Builtin.Slice.slicePlaces ((bI n 0 lo:Nat):Int) ((bI n n hi:Nat):Int) 1)) _ _ s;rw[zee];exact aG h
theorem zgY(xs:Array Value)(i k:Nat):((List.range k).filterMap λ(m:Nat)=>xs[((i:Int)+(m:Int)*1).toNat]?).toArray=((xs.toList.drop i).take k).toArray:=by
 have e:(λ(m:Nat)=>xs[((i:Int)+(m:Int)*1).toNat]?)=λm=>xs[i+m]?:=by
  funext m
  have:((i:Int)+(m:Int)*1).toNat=i+m:=by lia
  rw[this]
 rw[e];have:=pick_run xs i k;rw[List.filterMap_map] at this;have e2:((λx=>xs[x]?)∘λx=>i+x)=λm=>xs[i+m]?:=rfl;rw[e2] at this;rw[this]
theorem gq{t sl:Addr}{items:Array Value}{vl vu:Value}{lo hi:Option Int}{Q:Value->Shared->Prop}(ht:IsTup s.heap t items)(hs:s.heap.IsSliceOf sl vl vu .none)(pl:IsPart vl lo)(pu:IsPart vu hi)
  (hw:¬(bI items.size 0 lo=0/\bI items.size items.size hi=items.size))
  (h:Q (.ref s.heap.objs.size) {s with heap:=s.heap.push {cls:=.type "tuple",data:=.seq ((items.toList.drop (bI items.size 0 lo)).take (bI items.size items.size hi-bI items.size 0 lo)).toArray}})
  (jP:items.size<=sizeLine):wpAny (model prog w) A (getItem (.ref t) (.ref sl)) Q E s:=by
 have gw:sizeOk (.seq ((items.toList.drop (bI items.size 0 lo)).take (bI items.size items.size hi-bI items.size 0 lo)).toArray):=by
  show ((items.toList.drop (bI items.size 0 lo)).take (bI items.size items.size hi-bI items.size 0 lo)).toArray.size<=sizeLine;rw[cU,wO,Dv,I8]
  lia
 have hj:bI items.size items.size hi<=items.size:=zjp _ _ (bT _) hi;obtain⟨os,p8,zc,uH⟩:=id hs;have Fg:s.TypeIs (.ref sl) "slice":=⟨os,p8,zc⟩;unfold getItem
 try with_reducible refine jd ?_
 first|refine aq (aG ?_)|skip
 refine aq (wpAny_sequenceKey ht.typeIs R4 ?_);refine aq (wL (name:=Str.ofString "__getitem__") ht.typeIs u5
  (qZ u5 ht.typeIs entry_tuple_getitem ?_ (args_tuple_getitem _ _)))
 show wpAny _ _ (Builtin.Tuple.tupleItemsOf (.ref t) >>= _) _ _ s;refine aq (tupleItemsOf_ ht ?_);refine aq (wV Fg ?_);rw[if_pos R4];refine aq (Vi hs pl pu ?_);have B_:¬((((bI items.size 0 lo:Nat):Int)==0&&(1:Int)==1&&(bI items.size items.size hi-bI items.size 0 lo)==items.size)=true):=by
  intro q;rw[cO,cO] at q;have q1:((bI items.size 0 lo:Nat):Int)=0:=eq_of_beq q.1.1;have q2:bI items.size items.size hi-bI items.size 0 lo=items.size:=eq_of_beq q.2;exact hw ⟨by lia,by lia⟩
 show wpAny _ _ (if (((bI items.size 0 lo:Nat):Int)==0&&(1:Int)==1&&(bI items.size items.size hi-bI items.size 0 lo)==items.size)=true then _ else _) _ _ s;rw[if_neg B_,zgY]
 first
  |exact aq (m:=Builtin.Tuple.tupleExact _) (mR (aG ⟨_,rfl,aG h⟩) gw)
  |exact aq (m:=Builtin.Tuple.tupleExact _) (mR (aq (aG (aG ⟨_,rfl,aG h⟩))) gw)
  |exact aq (aq (m:=Builtin.Tuple.tupleExact _) (mR (aG (aG ⟨_,rfl,aG h⟩)) gw))
  |exact aq (aq (m:=Builtin.Tuple.tupleExact _) (mR (aG ⟨_,rfl,aG h⟩) gw))
end
end HT
namespace L2
open PySem PySem.Spec PyProof.Rows
noncomputable abbrev TO:=St->Hp->(Option Int->Hp->Prop)->Prop
def PO(X:Cx)(e:Option Expr)(t:TO):Prop:=
 ∀(ak:List (Addr×Obj)) (s:Shared) (Z:St) (H:Hp) (Q:Option Int->Hp->Prop),Inv X ak Z H s->t Z H Q->
  wpAny (model X.prog X.w) X.A (evalPart e X.env) (λu s'=>∃o H',Inv X ak Z H' s'/\IsPart u o/\Q o H') X.xe s
noncomputable def vJ:TO:=λ_ H Q=>Q none H
noncomputable def Fi(t:TE):TO:=λZ H Q=>t Z H λx H1=>∃i,x=.int i/\Q (some i) H1
theorem Vj{ns:List Int}:∀{us:List Value},Vals (ns.map V.int) us->IntsAre us ns:=by
 induction ns with
 |nil=>intro us r;rw[List.map_nil] at r;cases r;exact .nil
 |cons n ns ih=>
  intro us r;rw[jE] at r;cases r with
  |cons r1 r2=>
   obtain⟨t,e⟩:=r1;subst e;exact .cons n t (ih r2)
section
variable {X:Cx}{e:Expr}{te:TE}{lo hi:Option Expr}{tl th:TO}{pos p2:Pos}
theorem ziw:PO X none vJ:=by
 intro ak s Z H Q I h;rw[evalPart_none];exact aG ⟨none,H,I,.none,h⟩
theorem ziX(h:PE X e te):PO X (some e) (Fi te):=by
 intro ak s Z H Q I hw;rw[evalPart_some];refine aZ (h ak s Z H _ I hw) λu s1 hx=>dG hx λx H1 I1 r1 q1=>?_;obtain⟨i,rfl,q⟩:=q1;obtain⟨t,rfl⟩:=r1;exact⟨some i,H1,I1,.int i t,q⟩
def vK(X:Cx)(r:V->Option Int->Option Int->Hp->VK->Prop):Prop:=
 ∀(ak:List (Addr×Obj)) (s:Shared) (Z:St) (H:Hp) (x:V) (v vl vu:Value) (lo hi:Option Int) (sl:Addr) (Q:VK),Inv X ak Z H s->RelV x v->s.heap.IsSliceOf sl vl vu .none->IsPart vl lo->IsPart vu hi->r x lo hi H Q->
  ∃T id,typeLookup (.type T) "__getitem__"=pure (some (.builtin id))/\s.TypeIs v T/\wpAny (model X.prog X.w) X.A (getItem v (.ref sl)) (EP X ak Z Q) X.xe s
theorem vK.or{r r':V->Option Int->Option Int->Hp->VK->Prop}(h:vK X r)(h':vK X r'):vK X (λx lo hi H Q=>r x lo hi H Q\/r' x lo hi H Q):=by
 intro ak s Z H x v vl vu lo hi sl Q I rx hs pl pu q;rcases q with q|q
 ·exact h ak s Z H x v vl vu lo hi sl Q I rx hs pl pu q
 ·exact h' ak s Z H x v vl vu lo hi sl Q I rx hs pl pu q
noncomputable def tSl(r:V->Option Int->Option Int->Hp->VK->Prop)(te:TE)(tl th:TO):TE:=λZ H Q=>te Z H λx H1=>tl Z H1 λl H2=>th Z H2 λu H3=>r x l u H3 Q
theorem zgs{r:V->Option Int->Option Int->Hp->VK->Prop}(hr:vK X r)(he:PE X e te)(hl:PO X lo tl)(hu:PO X hi th):PE X (.Subscript e (.Slice lo hi none p2) pos) (tSl r te tl th):=by
 intro ak s Z H Q I h;refine Subscript_ (aZ (he ak s Z H _ I h) λv s1 hx=>dG hx λx H1 I1 r1 q1=>?_);refine wpAny_Slice (aZ (hl ak s1 Z H1 _ I1 q1) λvl s2 hx=>dG hx λl H2 I2 pl q2=>aZ (hu ak s2 Z H2 _ I2 q2) λvu s3 hx=>dG hx λu H3 I3 pu q3=>?_);rw[evalPart_none];refine aG ?_;have I4:Inv X ak Z H3 {s3 with heap:=s3.heap.push {cls:=.type "slice",data:=.fields #[vl,vu,.none]}}:=I3.kept (t':=s3.toks) λb ob q=>bR _ q;obtain⟨T,id,hT,ht,hg⟩:=hr ak {s3 with heap:=s3.heap.push {cls:=.type "slice",data:=.fields #[vl,vu,.none]}} Z H3 x v vl vu l u s3.heap.objs.size Q I4 r1 (Heap.IsSliceOf.new ..) pl pu q3;show wpAny (model X.prog X.w) X.A (subscriptTail e (.Slice lo hi none p2) v (.ref s3.heap.objs.size)) (EP X ak Z Q) X.xe {s3 with heap:=s3.heap.push {cls:=.type "slice",data:=.fields #[vl,vu,.none]}};exact tail_any (ops:=[.ref s3.heap.objs.size,v]) ht hT hg (by with_unfolding_all rfl)
noncomputable def lC(xs:List V)(lo hi:Option Int):List V:=(xs.drop (HT.bI xs.length 0 lo)).take (HT.bI xs.length xs.length hi-HT.bI xs.length 0 lo)
theorem Vk(xs:List V)(lo hi:Option Int):(lC xs lo hi).length<=xs.length:=by
 unfold lC;rw[wO,Dv]
 lia
noncomputable def Nu(K:W.Frag):V->Option Int->Option Int->Hp->VK->Prop:=λx lo hi H Q=>∃a xs,x=.ref a/\f9 K H a xs /\
 ¬(HT.bI xs.length 0 lo=0/\HT.bI xs.length xs.length hi=xs.length)/\∀p,H p=none->Q (.ref p) (upd H p (.tup (lC xs lo hi)))
theorem zk4:vK X (Nu X.K):=by
 intro ak s Z H x v vl vu lo hi sl Q I rx hs pl pu h;obtain⟨a,xs,rfl,hx,hw,q⟩:=h;cases rx;obtain⟨its,r,ht,hz⟩:=I.tuple hx;have hlen:its.toArray.size=xs.length:=by rw[cU];exact r.length.symm
 refine⟨"tuple",_,u5.lookup,ht.typeIs,?_⟩;refine HT.gq ht hs pl pu (by rw[hlen];exact hw) ?_ (by rw[hlen];exact hz);rw[hlen];refine⟨.ref s.heap.objs.size,_,I.laid (t':=s.toks) (o:=.tup (lC xs lo hi)) (λb ob q=>bR _ q) (bT _) ?_,rfl,q _ (I.hok.fresh (bT _))⟩;exact⟨mV (Vk xs lo hi) hz,_,(r.drop (HT.bI xs.length 0 lo)).take (HT.bI xs.length xs.length hi-HT.bI xs.length 0 lo),IsTup.new _ _⟩
noncomputable def Fj(K:W.Frag):R2:=λx y H Q=>∃a b ns ms,x=.ref a/\y=.ref b/\f9 K H a (ns.map V.int)/\f9 K H b (ms.map V.int)/\Q (.bl (HT.lexLt ns ms)) H
theorem zjy(hu:X.A.units<cLine):cN X (compareOp .Lt) (Fj X.K):=by
 intro ak s Z H x y v u Q I rx ry h;obtain⟨a,b,ns,ms,rfl,rfl,ha,hb,q⟩:=h;cases rx;cases ry;obtain⟨its,r1,p1,_⟩:=I.tuple ha;obtain⟨its2,r2,p2,_⟩:=I.tuple hb;have i1:IntsAre its.toArray.toList ns:=Vj r1;have i2:IntsAre its2.toArray.toList ms:=Vj r2;exact HT.nF p1 p2 i1 i2 hu ⟨.bl (HT.lexLt ns ms),H,I,rfl,q⟩
theorem Vals.lD{xs:List V}{us:List Value}(r:Vals xs us):us=[]↔xs=[]:=by
 cases r with
 |nil=>simp
 |cons _ _=>simp
end
noncomputable def vL(n:Nat)(i:Int):Option Nat:=if 0<=i then (if i<n then some i.toNat else none) else if -(n:Int)<=i then some (i+n).toNat else none
noncomputable def rJ{α:Type}(xs:List α)(i:Int):Option α:=(vL xs.length i).bind λj=>xs[j]?
theorem Vl{n:Nat}{i:Int}{j:Nat}(h:vL n i=some j):seqIndex? i n=some j/\j<n/\-(n:Int)<=i/\i<n:=by
 unfold vL at h;by_cases h0:0<=i
 ·rw[if_pos h0] at h;by_cases h1:i<n
  ·rw[if_pos h1] at h;have e:i.toNat=j:=cI h;exact⟨by rw[seqIndex_of h0 h1,e],by lia,by lia,h1⟩
  ·rw[if_neg h1] at h;cases h
 ·rw[if_neg h0] at h;by_cases h1 : -(n:Int)<=i
  ·rw[if_pos h1] at h;have e:(i+n).toNat=j:=cI h;exact⟨by rw[seqIndex_neg gV h1,e],by lia,h1,by lia⟩
  ·rw[if_neg h1] at h;cases h
theorem Nv{α:Type}{xs:List α}{i:Int}{v:α}(h:rJ xs i=some v):∃j,seqIndex? i xs.length=some j/\xs[j]?=some v/\j<xs.length/\-(xs.length:Int)<=i/\i<xs.length:=by
 unfold rJ at h;cases e:vL xs.length i with
 |none=>rw[e] at h;cases h
 |some j=>
  rw[e] at h;obtain⟨h1,h2,h3,h4⟩:=Vl e;exact⟨j,h1,h,h2,h3,h4⟩
def pq(b:Expr):Prop:=∀o i,subscripted b false o i=operate [o,i] (getItem o i)
def vM(X:Cx)(r:R2):Prop:=
 ∀(value slice:Expr) (ak:List (Addr×Obj)) (s:Shared) (Z:St) (H:Hp) (x y:V) (v u:Value) (Q:VK),Inv X ak Z H s->RelV x v->RelV y u->r x y H Q->
  subscripted slice false v u=operate [v,u] (getItem v u)->wpAny (model X.prog X.w) X.A (subscriptTail value slice v u) (EP X ak Z Q) X.xe s
def JV(X:Cx)(id:String)(r:V->List V->Hp->VK->Prop):Prop:=
 ∀(ak:List (Addr×Obj)) (s:Shared) (Z:St) (H:Hp) (x:V) (xs:List V) (v:Value) (us:List Value) (Q:VK),Inv X ak Z H s->RelV x v->Vals xs us->r x xs H Q->
  wpAny (model X.prog X.w) X.A (call (.builtin id) (v::us)) (EP X ak Z Q) X.xe s
section
variable {X:Cx}{a b:Expr}{ta tb:TE}{pos:Pos}
theorem vM.or{r r':R2}(h:vM X r)(h':vM X r'):vM X (λx y H Q=>r x y H Q\/r' x y H Q):=by
 intro value slice ak s Z H x y v u Q I rx ry q hs;rcases q with q|q
 ·exact h value slice ak s Z H x y v u Q I rx ry q hs
 ·exact h' value slice ak s Z H x y v u Q I rx ry q hs
theorem zlE{r:R2}(hr:vM X r)(ha:PE X a ta)(hb:PE X b tb)(hs:pq b):PE X (.Subscript a b pos) (JD r ta tb):=by
 intro ak s Z H Q I h;exact Subscript_ (yV ha hb I h λv u s2 x y H2 I2 rx ry q=>hr a b ak s2 Z H2 x y v u Q I2 rx ry q (hs _ _))
noncomputable def Fl(K:W.Frag):R2:=λx y H Q=>∃p xs i v,x=.ref p/\y=.int i/\dj K H p xs/\rJ xs i=some v/\Q v H
noncomputable def Fp(K:W.Frag):R2:=λx y H Q=>∃p xs i v,x=.ref p/\y=.int i/\f9 K H p xs/\rJ xs i=some v/\Q v H
noncomputable def Fq:R2:=λx y H Q=>∃z i c,x=.str z/\y=.int i/\z.length<=sizeLine/\rJ z.cps.toList i=some c/\Q (.str ⟨#[c]⟩) H
theorem vN:vM X (Fl X.K):=by
 intro value slice ak s Z H x y v u Q I rx ry h hs;obtain⟨p,xs,i,z,rfl,rfl,hq,he,q⟩:=h;cases rx;obtain⟨t,rfl⟩:=ry;obtain⟨its,r,pl,hz⟩:=I.list hq;obtain⟨j,h1,h2,h3,h4,h5⟩:=Nv he;obtain⟨w,ew,nD⟩:=r.get h2;have hl:=r.length;have hn:=jm;have fin:EP X ak Z Q w s:=⟨z,H,I,nD,q⟩;by_cases h0:0<=i
 ·have hj:i.toNat=j:=by
   rw[seqIndex_of h0 h5] at h1;exact cI h1
  exact item_listR pl.isList h0 gV (by rw[hj];simpa using ew) fin hs
 ·have hj:(i+(its.toArray.size:Int)).toNat=j:=by
   rw[seqIndex_neg gV h4] at h1;rw[cU,<-hl];exact cI h1
  exact subscriptTail_builtinR (x:=w) pl.isList.typeIs slot_list_getitem.lookup
   (wpAny_getItem_list_neg (Q:=λr s'=>r=w/\EP X ak Z Q r s') pl.isList gV (by rw[cU]<;>lia) gV (by rw[hj];simpa using ew) ⟨rfl,fin⟩) hs
theorem zj:vM X (Fp X.K):=by
 intro value slice ak s Z H x y v u Q I rx ry h hs;obtain⟨p,xs,i,z,rfl,rfl,hq,he,q⟩:=h;cases rx;obtain⟨t,rfl⟩:=ry;obtain⟨its,r,pl,hz⟩:=I.tuple hq;obtain⟨j,h1,h2,h3,h4,h5⟩:=Nv he;obtain⟨w,ew,nD⟩:=r.get h2;have hl:=r.length;have hn:=jm;have fin:EP X ak Z Q w s:=⟨z,H,I,nD,q⟩;exact subscriptTail_builtinR (x:=w) pl.typeIs slot_tuple_getitem.lookup
  (getItem_tuple (j:=j) (Q:=λr s'=>r=w/\EP X ak Z Q r s') pl gV gV (by rw[cU,<-hl];exact h1) (by simpa using ew) ⟨rfl,fin⟩) hs
theorem zj2:vM X Fq:=by
 intro value slice ak s Z H x y v u Q I rx ry h hs;obtain⟨z,i,c,rfl,rfl,hz,he,q⟩:=h;obtain⟨t,rfl⟩:=rx;obtain⟨t',rfl⟩:=ry;obtain⟨j,h1,h2,h3,h4,h5⟩:=Nv he;have hl:z.cps.toList.length=z.length:=by simp[Str.length]
 rw[hl] at h1 h4 h5;have hn:=jm;exact tail_any (typeIs_str s z t) slot_str_getitem.lookup (getItem_str (c:=c) (by
  have e1:decide (i < -(2^63:Int))=false:=gH gV;have e2:decide (i>=2^63)=false:=gH gV;rw[e1,e2,Bool.or_false]) (by rw[h1];simpa using h2) ⟨.str ⟨#[c]⟩,H,I.tok _,⟨_,rfl⟩,q⟩) hs
noncomputable def Ny(K:W.Frag):R2:=λx y H Q=>Fl K x y H Q\/Fp K x y H Q\/Fq x y H Q
theorem zjE:vM X (Ny X.K):=vN.or (zj.or zj2)
theorem zeB(its:List Value)(n j:Nat)(u:Value):Obj.mapSeq (·.setIfInBounds j u) {cls:=.type "list",data:=.seq its.toArray n}={cls:=.type "list",data:=.seq (its.set j u).toArray n}:=by
 simp[Obj.mapSeq]
theorem Inv.lst{ak:List (Addr×Obj)}{Z:St}{H:Hp}{s:Shared}{p:Addr}{xs:List V}(I:Inv X ak Z H s)(h:H p=some (.lst xs)) :
  ∃(its:List Value) (n:Nat),Vals xs its/\s.heap.get? p=some {cls:=.type "list",data:=.seq its.toArray n}/\xs.length<=sizeLine:=by
 obtain⟨z,its,n,r,e⟩:=I.hok p _ h;exact⟨its,n,r,e,z⟩
theorem Inv.zm{ak:List (Addr×Obj)}{Z:St}{H:Hp}{s:Shared}{p:Addr}{xs ys:List V}{its its':List Value}{n n':Nat}{f:Obj->Obj}(I:Inv X ak Z H s)(h:H p=some (.lst xs))
  (ho:s.heap.get? p=some {cls:=.type "list",data:=.seq its.toArray n}) (hf:f {cls:=.type "list",data:=.seq its.toArray n}={cls:=.type "list",data:=.seq its'.toArray n'}) (r:Vals ys its') (hz:ys.length<=sizeLine) (t:Nat) :
  Inv X ak Z (upd H p (.lst ys)) {s with heap:=s.heap.update p f,toks:=t}:=by
 have e:(s.heap.update p f).get? p=some {cls:=.type "list",data:=.seq its'.toArray n'}:=by
  rw[qU f ho (by rw[hf]<;>rfl),hf]
 refine I.write (x:=p) (e:=p) (by rw[h];trivial) (.inl rfl) (λb u hb q=>(uo _ _ (Ne.symm hb)).trans q) ⟨_,e⟩ ?_;exact⟨hz,its',n',r,e⟩
noncomputable def Ft:V->V->V->Hp->(Hp->Prop)->Prop:=λo i v H Q=>∃p xs k j,o=.ref p/\i=.int k/\H p=some (.lst xs)/\vL xs.length k=some j/\Q (upd H p (.lst (xs.set j v)))
theorem zgE:El X Ft:=by
 intro ak s Z H o i v ov iv u Q I ro ri rv h;obtain⟨p,xs,k,j,rfl,rfl,hp,hj,q⟩:=h;cases ro;obtain⟨t,rfl⟩:=ri;obtain⟨its,n,r,ho,hz⟩:=I.lst hp;obtain⟨h1,h2,h3,h4⟩:=Vl hj;have hl:=r.length;have hn:=jm;have I':Inv X ak Z (upd H p (.lst (xs.set j v))) {s with heap:=s.heap.update p (Obj.mapSeq (·.setIfInBounds j u))}:=
  I.zm hp ho (zeB its n j u) (r.set rv j) (by rw[ni];exact hz) s.toks
 by_cases h0:0<=k
 ·have hk:k.toNat=j:=by
   rw[seqIndex_of h0 h4] at h1;exact cI h1
  exact PySem.W.ki_setAt ho h0 gV (by rw[cU,<-hl];exact h4) (by rw[hk];exact⟨_,I',q⟩)
 ·have hk:(k+(its.toArray.size:Int)).toNat=j:=by
   rw[seqIndex_neg gV h3] at h1;rw[cU,<-hl];exact cI h1
  exact PySem.W.ki_setBack ho gV (by rw[cU,<-hl];exact h3) gV (by rw[hk];exact⟨_,I',q⟩)
theorem zcT(lo hi:Option Int)(n:Nat):(sliceBounds lo hi none n).1=((HT.bI n 0 lo:Nat):Int)/\(sliceBounds lo hi none n).2.1=((HT.bI n n hi:Nat):Int)/\(sliceBounds lo hi none n).2.2=1:=by
 refine⟨?_,?_,rfl⟩
 ·cases lo with
  |none=>simp[sliceBounds,HT.bI]
  |some i=>
   simp only[sliceBounds,HT.bI,Option.getD_none,show (1:Int)>0 by decide,if_true];by_cases h:i<0
   ·simp only[h,if_true]<;>lia
   ·simp only[h,gW]<;>lia
 ·cases hi with
  |none=>simp[sliceBounds,HT.bI]
  |some i=>
   simp only[sliceBounds,HT.bI,Option.getD_none,show (1:Int)>0 by decide,if_true];by_cases h:i<0
   ·simp only[h,if_true]<;>lia
   ·simp only[h,gW]<;>lia
theorem zck(its:List Value)(lo hi:Option Int):slicePick its.toArray lo hi none=((its.drop (HT.bI its.length 0 lo)).take (HT.bI its.length its.length hi-HT.bI its.length 0 lo)).toArray:=by
 obtain⟨h1,h2,h3⟩:=zcT lo hi its.toArray.size;unfold slicePick;rw[h1,h2,h3];simp only[sliceRange_one,pick_run,cU]<;>rfl
noncomputable def Fv(K:W.Frag):V->Option Int->Option Int->Hp->VK->Prop:=λx lo hi H Q=>∃a xs,x=.ref a/\dj K H a xs/\∀p,H p=none->Q (.ref p) (upd H p (.lst (lC xs lo hi)))
theorem vO:vK X (Fv X.K):=by
 intro ak s Z H x v vl vu lo hi sl Q I rx hs pl pu h;obtain⟨a,xs,rfl,hx,q⟩:=h;cases rx;obtain⟨its,r,ht,hz⟩:=I.list hx;have hlen:=r.length;refine⟨"list",_,slot_list_getitem.lookup,ht.isList.typeIs,?_⟩;refine wpAny_getItem_list_slice ht.isList hs pl pu .none Zaa ?_ (by rw[cU]<;>lia);rw[zck,<-hlen];refine⟨.ref s.heap.objs.size,_,I.laid (t':=s.toks) (o:=.lst (lC xs lo hi)) (λb ob q=>bR _ q) (bT _) ?_,rfl,q _ (I.hok.fresh (bT _))⟩;exact⟨mV (Vk xs lo hi) hz,_,0,(r.drop (HT.bI xs.length 0 lo)).take (HT.bI xs.length xs.length hi-HT.bI xs.length 0 lo),fW _ rfl⟩
theorem zcD:dw X (.builtin "len") (λxs H Q=>∃p ys,xs=[.ref p]/\(dj X.K H p ys\/f9 X.K H p ys)/\Q (.int ys.length) H):=by
 intro ak s Z H xs us Q I r h;obtain⟨p,ys,rfl,hq,q⟩:=h;obtain⟨u,rfl,rx⟩:=vals1 r;cases rx;have hn:=jm;rcases hq with hq|hq
 ·obtain⟨its,r',pl,hz⟩:=I.list hq;have hlen:=r'.length;exact Calls.call_len_list pl.isList (by simp only[cU]<;>lia) ⟨.int ys.length,H,I.tok _,⟨s.toks+1,by rw[cU,hlen]⟩,q⟩
 ·obtain⟨its,r',pl,hz⟩:=I.tuple hq;have hlen:=r'.length;exact len_tuple pl (by simp only[cU]<;>lia) ⟨.int ys.length,H,I.tok _,⟨s.toks+1,by rw[cU,hlen]⟩,q⟩
theorem zcV:dw X (.type "list") (λxs H Q=>∃p ys,xs=[.ref p]/\(dj X.K H p ys\/f9 X.K H p ys)/\∀l,H l=none->Q (.ref l) (upd H l (.lst ys))):=by
 intro ak s Z H xs us Q I r h;obtain⟨p,ys,rfl,hq,q⟩:=h;obtain⟨u,rfl,rx⟩:=vals1 r;cases rx;have fin:∀(its:List Value),Vals ys its->ys.length<=sizeLine->∀(h':Heap) (c':Nat),(∀b o',s.heap.get? b=some o'->h'.get? b=some o')->
   h'.get? s.heap.objs.size=some {cls:=.type "list",dict:=none,data:=.seq its.toArray c',slots:=#[]}->EP X ak Z Q (.ref s.heap.objs.size) {s with heap:=h'}:=λits r' hz h' c' kp e=>
  ⟨.ref s.heap.objs.size,_,I.laid (t':=s.toks) kp (bT _) (show aR X.prog X.w _ h' _ (.lst ys) from ⟨hz,its,c',r',e⟩),rfl,q _ (I.hok.fresh (bT _))⟩
 rcases hq with hq|hq
 ·obtain⟨its,r',pl,hz⟩:=I.list hq;have hlen:=r'.length;obtain⟨o,ho,hc,n,hd⟩:=pl.isList;exact call_list_seq p (.inl rfl) ho hc hd (λh' c' kp e=>fin its r' hz h' c' kp e) (by simp only[cU]<;>lia)
 ·obtain⟨its,r',pl,hz⟩:=I.tuple hq;have hlen:=r'.length;obtain⟨o,ho,hc,n,hd⟩:=pl;exact call_list_seq p (.inr rfl) ho hc hd (λh' c' kp e=>fin its r' hz h' c' kp e) (by simp only[cU]<;>lia)
theorem zcg:dw X (.type "tuple") (λxs H Q=>∃p ys,xs=[.ref p]/\((dj X.K H p ys/\∀l,H l=none->Q (.ref l) (upd H l (.tup ys)))\/(f9 X.K H p ys/\Q (.ref p) H))):=by
 intro ak s Z H xs us Q I r h;obtain⟨p,ys,rfl,h⟩:=h;obtain⟨u,rfl,rx⟩:=vals1 r;cases rx;rcases h with ⟨hq,q⟩|⟨hq,q⟩
 ·obtain⟨its,r',pl,hz⟩:=I.list hq;have hlen:=r'.length;refine call_tuple_list pl.isList (λh' kp=>?_) (by simp only[cU]<;>lia);have I1:Inv X ak Z H {s with heap:=h'}:=I.kept (t':=s.toks) kp;have I2:Inv X ak Z (upd H h'.objs.size (.tup ys)) {s with heap:=h'.push {cls:=.type "tuple",data:=.seq its.toArray}}:=
   I1.laid (t':=s.toks) (λb o e=>bR _ e) (bT _) (show aR X.prog X.w _ _ _ (.tup ys) from ⟨hz,its,r',IsTup.new _ _⟩)
  exact⟨.ref h'.objs.size,_,I2,rfl,q _ (I1.hok.fresh (bT _))⟩
 ·obtain⟨its,r',pl,hz⟩:=I.tuple hq;exact call_tuple_same pl ⟨.ref p,H,I,rfl,q⟩
def Nz(K:W.Frag)(T:String)(x:V)(H:Hp):Prop:=match x with
 |.str _=>T="str"
 |.int _=>T="int"
 |.ref p=>(T="list"/\∃xs,dj K H p xs)\/(T="tuple"/\∃o,K.lookup p=some o/\o.cls=.type "tuple"/\o.dict=none) \/
   (T="dict"/\((∃kvs,H p=some (.dK kvs))\/∃kvs,H p=some (.dT kvs)))\/(T="set"/\∃S n,H p=some (.set S n))
 |_=>False
theorem zjt{ak:List (Addr×Obj)}{Z:St}{H:Hp}{s:Shared}{T:String}{x:V}{v:Value}(I:Inv X ak Z H s)(r:RelV x v)(ty:Nz X.K T x H) :
  s.TypeIs v T/\∀a,v=.ref a->∃ob,s.heap.get? a=some ob/\ob.dict=none:=by
 cases x with
 |str z=>
  obtain⟨t,rfl⟩:=r;cases (show T="str" from ty);exact⟨typeIs_str s z t,λ_ e=>nomatch e⟩
 |int i=>
  obtain⟨t,rfl⟩:=r;cases (show T="int" from ty);exact⟨typeIs_int s i t,λ_ e=>nomatch e⟩
 |ref p=>
  cases r;rcases ty with ⟨rfl,xs,hq⟩|⟨rfl,o,hk,hc,hd⟩|⟨rfl,hk⟩|⟨rfl,S,n,hk⟩
  ·obtain⟨its,_,pl,_⟩:=I.list hq;refine⟨pl.isList.typeIs,λa e=>?_⟩;cases e;obtain⟨o,n,e,c,hd,_⟩:=pl;exact⟨o,e,hd⟩
  ·refine⟨⟨o,I.o8 p o hk,hc⟩,λa e=>?_⟩;cases e;exact⟨o,I.o8 _ o hk,hd⟩
  ·have z:∃o,s.heap.get? p=some o/\o.ExactDict:=by
    rcases hk with ⟨kvs,hk⟩|⟨kvs,hk⟩
    ·obtain⟨_,_,_,_,o,_,_,e,ex,_⟩:=I.hok p _ hk;exact⟨o,e,ex⟩
    ·obtain⟨_,_,_,_,o,_,_,e,ex,_⟩:=I.hok p _ hk;exact⟨o,e,ex⟩
   obtain⟨o,e,ex⟩:=z;refine⟨⟨o,e,ex.1⟩,λa e2=>?_⟩;cases e2;exact⟨o,e,ex.2.1⟩
  ·obtain⟨o,_,_,_,e,ex,_⟩:=I.hok p _ hk;refine⟨⟨o,e,ex.1⟩,λa e2=>?_⟩;cases e2;exact⟨o,e,ex.2.1⟩
 |_=>exact False.elim ty
noncomputable def tBM(K:W.Frag)(T:String)(r:V->List V->Hp->VK->Prop)(to:TE)(t:TA):TE:=λZ H Q=>to Z H λx H1=>Nz K T x H1/\t Z H1 λxs H2=>r x xs H2 Q
variable {o e:Expr}{es:List Expr}{to:TE}{t:TA}{name:Str}{apos cpos:Pos}{T id:String}{r:V->List V->Hp->VK->Prop}
theorem zlV(pa:PlainAttrs T)(slot:Slot T name id)(NK:typeOf (.builtin id)=pure (.type "method_descriptor"))(hm:JV X id r)(ho:PE X o to)(ha:PA X (e::es) t)
  (dz:attributeBase o name X.env (eval o X.env)=eval o X.env:=by rfl)
  (nJ:((backTo cpos (starEach (e::es) X.env)).all (λx=>!x.1)&&(backToKw cpos (keywordEach [] X.env)).all (λx=>x.1.isSome)
  &&decide ((e::es).length+([]:List Keyword).length+(if ([]:List Keyword).isEmpty then 0 else 1)<30))=true:=by rfl)
  (jq:(apos.endLine==cpos.line)=true:=by rfl) (hs:starEach (e::es) X.env=(false,eval e X.env)::starEach es X.env:=by rfl) (cJ:(backTo cpos (starEach es X.env)).any (·.1)=false:=by rfl) :
  PE X (.Call (.Attribute o name apos) (e::es) [] cpos) (tBM X.K T r to t):=by
 intro ak s Z H Q I h;refine wpAny_Call_method_late dz nJ jq rfl (aZ (ho ak s Z H _ I h) λv s1 ⟨x,H1,I1,r1,ty,q1⟩=>?_);obtain⟨h1,h2⟩:=zjt I1 r1 ty;refine⟨T,id,pa,slot,NK,h1,h2,?_⟩;have hA:=ha cpos ak s1 Z H1 _ I1 q1;rw[hs] at hA ⊢;refine Calls.callWith_builtin (by show (false||(backTo cpos (starEach es X.env)).any (·.1))=false;rw[cJ]<;>rfl) (Calls.evalArgs_plain ?_);exact aZ hA λus s2 hx=>dG hx λvs H2 I2 r2 q2=>hm ak s2 Z H2 x vs v us Q I2 r1 r2 q2
end
def MtM(X:Cx)(id:String)(r:V->List V->Hp->VK->Prop):Prop:=
 ∀(ak:List (Addr×Obj)) (s:Shared) (Z:St) (H:Hp) (x:V) (xs:List V) (v:Value) (us:List Value) (Q:VK),Inv X ak Z H s->RelV x v->Vals xs us->r x xs H Q->
  wpAny (model X.prog X.w) X.A (call (.builtin id) (v::us)) (EP X ak Z Q) X.xe s
theorem Vals.one{x:V}{us:List Value}(h:Vals [x] us):∃u,us=[u]/\RelV x u:=by
 cases h with
 |cons r t=>cases t;exact⟨_,rfl,r⟩
theorem Vals.two{x y:V}{us:List Value}(h:Vals [x,y] us):∃u v,us=[u,v]/\RelV x u/\RelV y v:=by
 cases h with
 |cons r t=>
  obtain⟨v,rfl,q⟩:=Vals.one t;exact⟨_,_,rfl,r,q⟩
section
variable {X:Cx}{ak:List (Addr×Obj)}{Z:St}{H:Hp}{s:Shared}{l b:Addr}{xs ys zs:List V}
theorem Inv.NP{its its':List Value}{n:Nat}{f:Array Value->Array Value}{t':Nat}(I:Inv X ak Z H s)(hH:H l=some (.lst xs))
  (e:s.heap.get? l=some {cls:=.type "list",data:=.seq its.toArray n}) (hf:f its.toArray=its'.toArray) (hv:Vals ys its') (hz:ys.length<=sizeLine) :
  Inv X ak Z (upd H l (.lst ys)) {s with heap:=s.heap.update l (Obj.mapSeq f),toks:=t'}:=by
 have q:=PySem.IsL.update e f;rw[hf] at q;refine I.write (x:=l) (e:=l) (by rw[hH];exact trivial) (.inl rfl) (λb' u hb hu=>(uo s.heap (Obj.mapSeq f) (Ne.symm hb)).trans hu) ⟨_,q⟩ ?_;exact⟨hz,its',_,hv,q⟩
theorem Inv.NQ{its:List Value}{t':Nat}(I:Inv X ak Z H s)(hv:Vals ys its)(hz:ys.length<=sizeLine) :
  Inv X ak Z (upd H s.heap.objs.size (.lst ys)) {s with heap:=s.heap.push {cls:=.type "list",data:=.seq its.toArray},toks:=t'}:=
 I.laid (λ_ _ q=>bR _ q) (bT _) ⟨hz,its,0,hv,fW _ rfl⟩
theorem Inv.fresh(I:Inv X ak Z H s):H s.heap.objs.size=none:=I.hok.fresh (bT _)
theorem Inv.NT(I:Inv X ak Z H s)(hH:H l=some (.lst xs)):xs.length<=sizeLine/\∃(its:List Value) (n:Nat),Vals xs its/\xs.length=its.length/\s.heap.get? l=some {cls:=.type "list",data:=.seq its.toArray n}:=by
 obtain⟨z,its,n,r,e⟩:=I.hok l _ hH;exact⟨z,its,n,r,r.length,e⟩
end
section
variable {X:Cx}
noncomputable def vP:V->List V->Hp->VK->Prop:=λx vs H Q=>∃l xs y,x=.ref l/\vs=[y]/\H l=some (.lst xs)/\xs.length<sizeLine/\Q .non (upd H l (.lst (xs++[y])))
theorem ze5:MtM X "list.append" vP:=by
 intro ak s Z H x vs v us Q I rx rv h;obtain⟨l,xs,y,rfl,rfl,hH,hz,q⟩:=h;cases rx;obtain⟨u,rfl,ru⟩:=rv.one;obtain⟨z,its,n,r,hl,e⟩:=I.NT hH;refine call_meets F.slot_list_append ⟨_,e,rfl⟩ F.entry_list_append (F.args_list_append_2 _ _) (PySem.list_append l its.toArray n u (by rw[cU];lia)) ⟨e,?_⟩;refine⟨.non,_,I.NP (its':=its++[u]) hH e Zaa (r.append (.cons ru .nil)) ?_,rfl,q⟩;rw[eZ,List.length_singleton]
 lia
end
section
variable {prog:Program}{w:World}{A:Around}{E:Value->Shared->Prop}{s:Shared}
set_option maxRecDepth 100000 in
end
end L2
namespace Vm
open PySem PySem.W PySem.Calls PyProof.Rows
theorem zbq{P:Params}{h:Heap}:∀(ns:List Int) (vs:List Value),WellAll P h vs (ns.map WData.int)->IntsAre vs ns:=by
 intro ns
 induction ns with
 |nil=>
  intro vs w;rw[List.map_nil] at w;cases w;exact .nil
 |cons n ns ih=>
  intro vs w;rw[jE] at w;cases w with
  |cons a b=>
   cases a;exact .cons _ _ (ih _ b)
theorem zfN{l:OpenLaw}{n:Nat}(hn:l.most=some n){P:Params}{h:Heap}{args:List WData}{vals:List Value}
  (hpre:l.row.toRowW.claim.pre args=true) (NZ:WellAll P h vals args) :
  ∃a vs ns,vals=[Value.ref a]/\args=[WData.list (ns.map WData.int)]/\h.get? a=some {cls:=.type "list",data:=.seq vs.toArray}/\IntsAre vs ns/\ns.length<=n:=by
 have hsh:WShape.hasAll [] args [.list .int]=true:=(pre_splitW hpre).1;have hc:l.pre.holds [] {args:=args}=true:=(pre_splitW hpre).2;obtain⟨d,r,rfl,h1,h2⟩:=hasAllW_cons hsh;obtain rfl:=hasAllW_nil h2;obtain⟨xs,rfl,h3⟩:=hasW_list h1;obtain⟨ns,rfl⟩:=items_int h3;have hlen:ns.length<=n:=by
  unfold OpenLaw.pre at hc;have h4:(WTm.not (.lt (.lit (.int (n:Int))) (.len (.arg 0)))).holds [] {args:=[.list (ns.map .int)]}=true:=by
   have h4:=(holds_andW hc).1;rw[hn] at h4;exact h4
  have h5:=condW_of h4 (w_not (w_lt w_lit (w_len_list (w_arg rfl))));rw[cg] at h5;refine Dw λq=>?_;have q':(n:Int)<((ns.length:Nat):Int):=by lia
  first
   |(rw[i_ q'] at h5;exact absurd h5 R4)
   |(simp at h5;lia)
 cases NZ with
 |cons w1 w2=>
  cases w2;cases w1 with
  |list ho jQ=>exact⟨_,_,ns,rfl,rfl,ho,zbq ns _ jQ,hlen⟩
theorem ze7(l:OpenLaw)(args:List WData):l.row.toRowW.claim.post args (.bool true) args=true:=
 postW_of (r:=l.row.toRowW) (X:=(true==true))
  (show WShape.has [] (.bool true) .bool=true by first|rfl|decide|simp[WShape.has,WShape.arms,WShape.armsAll])
  (show (WTm.eq .res (.lit (.bool true))).value [] {args:=args,res:=some (.bool true),after:=args}=some (.bool (true==true)) from w_eq_bool (w_res rfl) w_lit) rfl
theorem mz{l:OpenLaw}{n:Nat}{q:Program}{loose:List Str}{XP:(Str->Option Value)->Heap->Prop}{YP:World->Heap->Prop}{d:DefRec}
  (hn:l.most=some n) (N5:d.params.defaults=[])
  (call:∀(w:World) (s₀ s₁:Shared) (mg mb:Str->Option Value) (fa:Addr) (o:Obj) (pm cd doc:Value) (a:Addr) (vs:List Value) (ns:List Int),
   Ground q loose [] XP w s₀ mg mb s₁.heap->YP w s₁.heap->
   s₁.heap.get? fa=some o->o.data=.func (docDef d.name d.params d.body d.scope pm cd doc)->s₁.heap.CodeRec cd d.name->mg d.name=some (.ref fa)->
   s₁.heap.get? a=some {cls:=.type "list",data:=.seq vs.toArray}->IntsAre vs ns->ns.length<=n->s₁.gens=#[]->
   codeAny (model l.prog w) callerA (.call (.ref fa) ⟨[.ref a],[]⟩) (λr s'=>r=.ok (.ret (.bool true))/\OldK s₁.heap s'.heap/\s'.os=s₁.os/\AllBare s'.gens) s₁) :
  WalkO q loose XP YP l.row.toRowW d [] (λf vs=>PySem.call f vs):=by
 intro w s₀ s₁ mg mb G Y fa o pm cd doc dV kV ho hd lA hD hmg hg args vals as hpre aac hrd NZ hlo;obtain rfl:dV=.none:=Dflts.none hD N5;obtain rfl:kV=.none:=Dflts.noKw hD;obtain⟨a,vs,ns,rfl,rfl,zp,hints,hlen⟩:=zfN hn hpre NZ;refine enter_call (DG (call w s₀ s₁ mg mb fa o pm cd doc a vs ns G Y ho (fd_plain hd) lA hmg zp hints hlen hg) λr s' hq=>?_);obtain⟨rfl,h2,h3,h4⟩:=hq;exact⟨.inl ⟨.bool true,.bool true,[],rfl,λ_=>rfl,.bool true,ze7 l _,λ_=>⟨List.Pairwise.nil,λ_ hm=>(nomatch hm)⟩⟩,h2,h3,h4⟩
end Vm
namespace L2
open PySem PySem.Spec PyProof.Rows
theorem Vn:∀{vs:List Value} {ns:List Int},IntsAre vs ns->Vals (ns.map V.int) vs
 |_,_,.nil=>.nil
 |_,_,.cons n t h=>.cons ⟨t,rfl⟩ (Vn h)
def Only(H:Hp):Prop:=∀b,H b=none\/∃o xs,H b=some (.uE o (.lst xs))
theorem zgH{P:Program}{w:World}{K:W.Frag}{mg mb:Str->Option Value}{CX:qL}{k:Nat}{fa a:Addr}{fd:FuncData}{x:Str}{sp:Sp}{s₁:Shared}{vs:List Value}{ns:List Int}
  (KX:K.In s₁.heap) (Fw:s₁.heap.Ns mainGlobals mg) (hb:s₁.heap.Ns builtinsNs mb) (hbb:∀x:Str,x≠"__name__"->mb x=bootBuiltins x) (N6:s₁.heap.NoLimit) (hg:s₁.gens=#[])
  (ha:s₁.heap.get? a=some {cls:=.type "list",data:=.seq vs.toArray}) (hi:IntsAre vs ns) (hl:ns.length<=sizeLine) (hr:bO k callerA)
  (F:∀base:Heap,K.In base->base.Ns mainGlobals mg->dN P w K mg base CX true k fa fd [x] sp) (rK:∀(s:Shared) (u:Value),BindsTo s fd ⟨[u],[]⟩ [(x,u)])
  (JL:∀H:Hp,Only H->dj K H a (ns.map V.int)->sp [.ref a] H (λv _=>v=.bl true) λ_ _ _=>False)
  (hCX:∀H e s',CX [] H s₁ (λ_ _ _=>False) e s'->False) :
  codeAny (model P w) callerA (.call (.ref fa) ⟨[.ref a],[]⟩) (λr s'=>r=.ok (.ret (.bool true))/\OldK s₁.heap s'.heap/\s'.os=s₁.os/\AllBare s'.gens) s₁:=by
 have rv:=Vn hi;have lenV:=hi.length;have core:∀H:Hp,Only H->dj K H a (ns.map V.int)->fU P w H s₁.heap->(∀b,H b≠none->b=a)->(H a≠none->K.lookup a=none)->
   codeAny (model P w) callerA (.call (.ref fa) ⟨[.ref a],[]⟩) (λr s'=>r=.ok (.ret (.bool true))/\OldK s₁.heap s'.heap/\s'.os=s₁.os/\AllBare s'.gens) s₁:=by
  intro H hO hS hok hA hK;have pA:∀{b:Addr} {o:Obj},s₁.heap.get? b=some o->H b=none->(lg s₁.heap H).get? b=some o:=λe n=>zg1 e n;have E_:∀{b:Addr} {o:Obj} {es:Array DictEntry} {ep:Nat},s₁.heap.get? b=some o->o.data=.dict es ep->H b=none:=λ{b o es ep} e d=>by
   cases q:H b with
   |none=>rfl
   |some u=>
    have e':b=a:=hA b (by rw[q];simp);subst e';rw[ha] at e;cases e;have d':Data.seq vs.toArray _=Data.dict es ep:=d;cases d'
  have JZ:∀{b:Addr} {m:Str->Option Value},s₁.heap.Ns b m->(lg s₁.heap H).Ns b m:=λ{b m} ⟨o,es,ep,e,d,r⟩=>⟨o,es,ep,pA e (E_ e d),d,r⟩;have Vo:K.In (lg s₁.heap H):=λb o e=>pA (KX b o e) (by
   cases q:H b with
   |none=>rfl
   |some u=>
    have e':b=a:=hA b (by rw[q];simp);subst e';rw[hK (by rw[q];simp)] at e;cases e)
  have hM:Mod K mg (lg s₁.heap H):=⟨Vo,JZ Fw,⟨mb,JZ hb,hbb⟩,let ⟨mc,h1,h2⟩:=N6;⟨mc,JZ h1,h2⟩⟩;have e0:vG P w K mg (lg s₁.heap H) callerA [] s₁ H:=⟨rfl,hM,λb o e=>zhZ e,Nat.le_of_eq (zf3 _ _),trivial,λb hb=>absurd (show b∈([]:List Addr) from hb) Zaa,hok,.of_eq hg⟩;refine DG ((F _ Vo (JZ Fw)).run callerA [] s₁ H ⟨[.ref a],[]⟩ [.ref a] [.ref a] _ _ (λ_=>rfl) hr e0 (rK s₁ (.ref a)) (.cons rfl .nil) (JL H hO hS)) λr s' h=>?_;cases r with
  |error e=>exact(hCX H e s' h).elim
  |ok fl=>
   cases fl with
   |next=>exact False.elim h
   |brk=>exact False.elim h
   |cont=>exact False.elim h
   |ret u=>
    obtain⟨v,H',os,bare,un,N7,r',q⟩:=h;have q':v=.bl true:=q;subst q';obtain rfl:u=Value.bool true:=r';refine⟨rfl,OldK.of_keep λb o e=>?_,os,bare⟩;cases q:H b with
    |none=>exact un.keep b o e q (by intro z;exact absurd (show b∈([]:List Addr) from z) Zaa) Zaa
    |some u=>
     rcases hO b with z|⟨ob,xs,z⟩
     ·rw[q] at z;cases z
     ·have z2:=un.iG b ob _ z;obtain⟨e1,_⟩:=hok b _ z;obtain⟨e2,_⟩:=N7 b _ z2;rw[e] at e1;cases e1;exact e2
 cases hk:K.lookup a with
 |some o=>
  have e:=KX a o hk;rw[ha] at e;cases e;refine core (λ_=>none) (λ_=>.inl rfl) (.inr ⟨_,vs.toArray,_,hk,rfl,rfl,rfl,by rw[cU,lenV];exact hl,by simpa using rv⟩) (λb u z=>by have z':(none:Option HO)=some u:=z;cases z') (λb z=>absurd rfl z) λz=>absurd rfl z
 |none=>
  refine core (λb=>if b=a then some (.uE {cls:=.type "list",data:=.seq vs.toArray} (.lst (ns.map V.int))) else none) (λb=>?_) (.inl (.inr ⟨{cls:=.type "list",data:=.seq vs.toArray},if_pos rfl⟩)) (λb u z=>?_) (λb z=>?_) λ_=>hk
  ·by_cases hb:b=a
   ·exact .inr ⟨_,_,if_pos hb⟩
   ·exact .inl (if_neg hb)
  ·by_cases hb:b=a
   ·have z':=(if_pos hb).symm.trans z;cases z';subst hb;exact⟨ha,by rw[cg];exact hl,vs,_,rv,ha⟩
   ·have z':=(if_neg hb).symm.trans z;cases z'
  ·by_cases hb:b=a
   ·exact hb
   ·exact absurd (if_neg hb) z
def N8(h0:Heap)(H:Hp)(h:Heap)(e:Addr)(hd:Value):Prop:=
 hd=.none\/∃T oT ts,hd=.ref T/\h0.get? T=none/\H T=none/\T≠e/\h.get? T=some oT/\oT.data=.fields ts/\ts[3]?=some .none
structure Exc(h0:Heap)(H:Hp)(h:Heap)(e C:Addr)(dx:Option Addr):Prop where
 new:h0.get? e=none
 un:H e=none
 ob:∃oe vs hd,h.get? e=some oe/\oe.cls=.ref C/\oe.dict=dx/\oe.data=.fields vs/\vs[1]?=some hd/\N8 h0 H h e hd
structure Fx(h0:Heap)(H:Hp)(fr:List Addr)(h h':Heap)(ch:List Addr):Prop where
 rec_:∀b∈ch,h0.get? b=none/\H b=none/\∃o vs,h.get? b=some o/\o.data=.fields vs
 keep:∀b o,h.get? b=some o->b∉fr->b∉ch->h'.get? b=some o
 slot:∀b o,h.get? b=some o->b∈fr->∃sl,h'.get? b=some {o with slots:=sl}
 there:∀b o,h.get? b=some o->∃o',h'.get? b=some o'
noncomputable def rM(head:Value)(L:Addr)(pl:List Value):Obj:=
 {cls:=.type "traceback",dict:=none,data:=.fields ([head,.ref L,.none,rawInt L,.none]++(if pl.isEmpty then List.replicate 6 Value.none else pl)).toArray}
theorem Vp(o:Obj)(f:Array Value->Array Value):(o.mapFields f).dict=o.dict:=by
 obtain⟨c,d,dt,sl⟩:=o;cases dt<;>rfl
theorem Vq(o:Obj)(f:Array Value->Array Value):(o.mapFields f).cls=o.cls:=by
 obtain⟨c,d,dt,sl⟩:=o;cases dt<;>rfl
section
variable {M:Model}{A:Around}{E:Value->Shared->Prop}{s:Shared}{base h0:Heap}{env:Env}{outer:List Env}{L e C:Addr}{dx:Option Addr}{H:Hp}{Q:Unit->Shared->Prop}
theorem Vr(hfr:A.frames=some (env::outer))(hl:s.heap.FunFrames base (env::outer))(hf:env.frame=some L)
  (he:s.heap.get? e=some oe) (hd:oe.data=.fields vs) (jP:1<vs.size)
  (k:∀h' T oT ts,s.heap.objs.size<=T->(∀b o,s.heap.get? b=some o->b∉frs (env::outer)->b≠e->h'.get? b=some o)->(∀b o,s.heap.get? b=some o->b∈frs (env::outer)->∃sl,h'.get? b=some {o with slots:=sl})->
   h'.get? e=some (oe.mapFields (·.setIfInBounds 1 (.ref T)))->h'.get? T=some oT->oT.data=.fields ts->3<ts.size->ts[3]?=some (rawInt L)->Q () {s with heap:=h'}) :
  wpAny M A (do let a <-frameOf env;let pl <-entryPlaceOf L hn;let b <-EntryCells.newEntry head a .none (rawInt L) .none pl;setField (.ref e) 1 b) Q E s:=by
 have Fy:e∉frs (env::outer):=λhm=>by
  obtain⟨_,o,ho,hx⟩:=hl.mem hm;rw[he] at ho;cases ho;exact hx vs hd
 refine aq (wpAny_frameOf_fun hfr hl hf λh₁ sl₁=>?_);refine aq (wpAny_entryPlaceOf λpl bN=>?_);unfold EntryCells.newEntry newFields;refine aq (mR ?_ (bN.sizeOk5 _ _ _ _ _));have e1:h₁.get? e=some oe:=(sl₁.2.1 e Fy).trans he;have e2:(h₁.push (rM head L pl)).get? e=some oe:=bR _ e1;refine wR e2 hd jP ?_;have ne:h₁.objs.size≠e:=uz (bK e1);have d3:=u9 hd (·.setIfInBounds 1 (Value.ref h₁.objs.size));have kp:∀b o,h₁.get? b=some o->b≠e->((h₁.push (rM head L pl)).update e (Obj.mapFields (·.setIfInBounds 1 (Value.ref h₁.objs.size)))).get? b=some o:=λb o q n=>by
  rw[uo _ _ n.symm];exact bR _ q
 refine k _ h₁.objs.size (rM head L pl) _ (by rw[sl₁.1];exact bT _) (λb o q n1 n2=>kp b o ((sl₁.2.1 b n1).trans q) n2) (λb o q m=>?_) (qU _ e2 (IV d3)) ?_ rfl ?_ ?_
 ·obtain⟨sl,z⟩:=sl₁.2.2 b o q;exact⟨sl,kp b _ z λy=>Fy (y▸m)⟩
 ·rw[uo _ _ ne.symm];exact fW _ rfl
 ·simp only[cU,eZ,iB,q_]<;>lia
 ·first
   |(simp;done)
   |(rcases bN with rfl|⟨_,_,_,_,_,_,_,rfl⟩<;>simp)
theorem zg6(hfr:A.frames=some (env::outer))(hl:s.heap.FunFrames base (env::outer))(hf:env.frame=some L)(x:Exc h0 H s.heap e C dx)
  (k:∀h' T oT oe ts vs ch,Fx h0 H (frs (env::outer)) s.heap h' ch->s.heap.objs.size<=T->h'.get? e=some oe->oe.cls=.ref C->oe.dict=dx->oe.data=.fields vs->vs[1]?=some (.ref T)->h'.get? T=some oT->oT.data=.fields ts->
   3<ts.size->ts[3]?=some (rawInt L)->Q () {s with heap:=h'}):wpAny M A (noteFrame (.ref e) env) Q E s:=by
 obtain⟨oe,vs,hd,he,hc,xH,mC,h1,tb⟩:=x.ob;have jP:1<vs.size:=(Bh.mp h1).1;have Fy:∀b o ws,s.heap.get? b=some o->o.data=.fields ws->b∉frs (env::outer):=λb o ws q d hm=>by
  obtain⟨_,o',ho,hx⟩:=hl.mem hm;rw[q] at ho;cases ho;exact hx ws d
 unfold noteFrame;simp only[hf];refine aq (jF he mC h1 ?_);rcases tb with rfl|⟨T,oT,ts,rfl,nT,uT,neT,gT,dT,h3⟩
 ·rw[if_neg R4];refine Vr hfr hl hf he mC jP λh' T oT ts lt kp sl ge gT dT z3 z4=>?_;refine k h' T oT _ ts _ [e] ⟨λb hb=>?_,λb o q n1 n2=>kp b o q n1 λz=>n2 (by rw[z];exact .head _),sl,λb o q=>?_⟩ lt ge ((Vq _ _).trans hc) ((Vp _ _).trans xH) (u9 mC _) (by simp[jP]) gT dT z3 z4
  ·obtain rfl:b=e:=by simpa using hb
   exact⟨x.new,x.un,oe,vs,he,mC⟩
  ·by_cases z:b=e
   ·subst z;exact⟨_,ge⟩
   ·by_cases m:b∈frs (env::outer)
    ·obtain⟨w,q'⟩:=sl b o q m;exact⟨_,q'⟩
    ·exact⟨o,kp b o q m z⟩
 ·rw[if_pos (show (Value.ref T != Value.none)=true from by simp)];refine aq (jF gT dT h3 ?_);rw[if_neg (show ¬((Value.none==rawInt L)=true) from by simp[rawInt])];have z3:3<ts.size:=(Bh.mp h3).1;refine aq (wR gT dT z3 ?_);have oth:∀b,b≠T->(s.heap.update T (Obj.mapFields (·.setIfInBounds 3 Value.none))).get? b=s.heap.get? b:=λb n=>uo _ _ n.symm;have hl':(s.heap.update T (Obj.mapFields (·.setIfInBounds 3 Value.none))).FunFrames base (env::outer):=hl.of_keeps λb o q nd=>⟨o,(oth b λz=>by subst z;rw[gT] at q;cases q;exact nd ts dT).trans q,rfl⟩;have sT:(s.heap.update T (Obj.mapFields (·.setIfInBounds 3 Value.none))).get? T=some (oT.mapFields (·.setIfInBounds 3 Value.none)):=qU _ gT (IV (u9 dT _));refine Vr hfr hl' hf ((oth e neT.symm).trans he) mC jP λh' T' oT' ts' lt kp sl ge gT' dT' z3' z4'=>?_;have lt':s.heap.objs.size<=T':=by
   have:=lt;simp only[Heap.size_after_update] at this;exact this
  refine k h' T' oT' _ ts' _ [e,T] ⟨λb hb=>?_,λb o q n1 n2=>kp b o ((oth b λz=>n2 (by simp[z])).trans q) n1 λz=>n2 (by simp[z]),λb o q m=>?_,λb o q=>?_⟩ lt' ge ((Vq _ _).trans hc) ((Vp _ _).trans xH) (u9 mC _) (by simp[jP]) gT' dT' z3' z4'
  ·have hb':b=e\/b=T:=by simpa using hb
   rcases hb' with rfl|rfl
   ·exact⟨x.new,x.un,oe,vs,he,mC⟩
   ·exact⟨nT,uT,oT,ts,gT,dT⟩
  ·exact sl b o ((oth b λz=>by subst z;exact Fy b o ts q (by rw[gT] at q;cases q;exact dT) m).trans q) m
  ·by_cases z:b=e
   ·subst z;exact⟨_,ge⟩
   ·by_cases y:b=T
    ·subst y;exact⟨_,kp b _ sT (Fy b oT ts gT dT) z⟩
    ·by_cases m:b∈frs (env::outer)
     ·obtain⟨w,q'⟩:=sl b o ((oth b y).trans q) m;exact⟨_,q'⟩
     ·exact⟨o,kp b o ((oth b y).trans q) m z⟩
theorem Vt(he:s.heap.get? e=some oe)(hd:oe.data=.fields vs)(h1:vs[1]?=some (.ref T))(gT:s.heap.get? T=some oT)(dT:oT.data=.fields ts)(z3:3<ts.size)
  (k:∀h',(∀b o,b≠T->s.heap.get? b=some o->h'.get? b=some o)->h'.get? T=some (oT.mapFields (·.setIfInBounds 3 Value.none))->Q () {s with heap:=h'}):wpAny M A (setFlight (.ref e) none) Q E s:=by
 unfold setFlight;refine aq (jF he hd h1 ?_);rw[if_pos (show (Value.ref T != Value.none)=true from by simp)];exact wR gT dT z3 (k _ (λb o n q=>(uo _ _ n.symm).trans q) (qU _ gT (IV (u9 dT _))))
theorem Vu(hfr:A.frames=some (env::outer))(hl:s.heap.FunFrames base (env::outer))(hf:env.frame=some L)(x:Exc h0 H s.heap e C dx)
  (o9:∀b,s.heap.objs.size<=b->H b=none) (h0s:∀b o,h0.get? b=some o->∃o',s.heap.get? b=some o')
  (k:∀h' ch,Fx h0 H (frs (env::outer)) s.heap h' ch->Exc h0 H h' e C dx->Q () {s with heap:=h'}) :
  wpAny M A (noteFrame (.ref e) env) (λ_ s₁=>wpAny M A (setFlight (.ref e) none) Q E s₁) E s:=by
 have ele:∃o,s.heap.get? e=some o:=let ⟨oe,_,_,he,_⟩:=x.ob;⟨oe,he⟩;refine zg6 hfr hl hf x λh' T oT oe ts vs ch t lt ge hc xH mC h1 gT dT z3 z4=>?_;have neT:T≠e:=λz=>by
  obtain⟨o,q⟩:=ele;exact absurd (fK (bK q) (z▸lt)) (lZ _)
 refine Vt (s:={s with heap:=h'}) ge mC h1 gT dT z3 λh2 kp gT2=>?_;have nT:∀b o,s.heap.get? b=some o->b≠T:=λb o q z=>absurd (fK (bK q) (z▸lt)) (lZ _);refine k h2 ch ⟨t.rec_,λb o q n1 n2=>kp b o (nT b o q) (t.keep b o q n1 n2),λb o q m=>?_,λb o q=>?_⟩ ⟨x.new,x.un,oe,vs,.ref T,kp e oe neT.symm ge,hc,xH,mC,h1,.inr ⟨T,_,_,rfl,?_,o9 T lt,neT,gT2,u9 dT _,by simp[z3]⟩⟩
 ·obtain⟨sl,q'⟩:=t.slot b o q m;exact⟨sl,kp b _ (nT b o q) q'⟩
 ·obtain⟨o',q'⟩:=t.there b o q;exact⟨o',kp b o' (nT b o q) q'⟩
 ·cases z:h0.get? T with
  |none=>rfl
  |some o=>
   obtain⟨o',q⟩:=h0s T o z;exact absurd rfl (nT T o' q)
end
noncomputable abbrev XS:=St->Value->Option Addr->Hp->Prop
def Sub(h0 h:Heap):Prop:=∀b o,h0.get? b=some o->∃o',h.get? b=some o'
theorem Sub.none{h0 h:Heap}(x:Sub h0 h){b:Addr}(e:h.get? b=none):h0.get? b=none:=by
 cases q:h0.get? b with
 |none=>rfl
 |some o=>
  obtain⟨o',z⟩:=x b o q;rw[e] at z;cases z
theorem Exc.older{h0 h1:Heap}{H:Hp}{h:Heap}{e C:Addr}{dx:Option Addr}(x:Exc h1 H h e C dx)(y:Sub h0 h1):Exc h0 H h e C dx:=by
 obtain⟨oe,vs,hd,a,b,c,d,f,tb⟩:=x.ob;refine⟨y.none x.new,x.un,oe,vs,hd,a,b,c,d,f,?_⟩;rcases tb with z|⟨T,oT,ts,z1,z2,z3⟩
 ·exact .inl z
 ·exact .inr ⟨T,oT,ts,z1,y.none z2,z3⟩
section
variable {X:Cx}{ak:List (Addr×Obj)}{Z:St}{H:Hp}{s:Shared}{h0 h':Heap}{ch fr:List Addr}
theorem fU.Fz{P:Program}{w:World}{h:Heap}(x:fU P w H h)(t:Fx h0 H fr h h' ch)(hf:∀b∈fr,H b=none):fU P w H h':=λa o e=>by
 have st:∀b u,(b=a\/H b=some (.own a))->h.get? b=some u->h'.get? b=some u:=λb u z q=>by
  have nb:H b≠none:=by
   rcases z with z|z
   ·rw[z,e];simp
   ·rw[z];simp
  exact t.keep b u q (λm=>nb (hf b m)) λm=>nb (t.rec_ b m).2.1
 exact(x a o e).stay st (λ_ z=>z) λ_ _ z=>z
theorem Inv.Fz(I:Inv X ak Z H s)(t:Fx h0 H (frs X.stack) s.heap h' ch)(hs:∀b o,X.s₀.heap.get? b=some o->b∉X.ex->∃o',h0.get? b=some o')(hp:∀p∈X.pn++ak,∃o,h0.get? p.1=some o):Inv X ak Z H {s with heap:=h'}:=by
 refine I.call (g':=s.gens) (d':=s.drawn) (t':=s.toks) (ch:=ch) ⟨λb o q _ n1 n2=>t.keep b o q n1 n2,λb o q _ m _=>t.slot b o q m,λ_ _ _ n _=>n,λb o q _=>t.there b o q,λ_ _ q=>q,λ_ _ _ q=>q,λ_ ps q=>⟨#[],by rw[q];simp⟩⟩ (I.hok.Fz t I.iQ) I.bare λb hb=>?_;obtain⟨n0,_,o,vs,q,d⟩:=t.rec_ b hb;refine⟨?_,λz=>?_,λx c e z=>?_,λp hq z=>?_⟩
 ·by_cases m:b∈X.ex
  ·exact .inl m
  ·refine .inr ?_;cases z:X.s₀.heap.get? b with
   |none=>rfl
   |some u=>
    obtain⟨o',z'⟩:=hs b u z m;rw[n0] at z';cases z'
 ·subst z;obtain⟨m,⟨ol,es,ep,e1,e2,_⟩,_⟩:=I.loc;rw[q] at e1;cases e1;rw[d] at e2;cases e2
 ·subst z;obtain⟨v,oc,e1,e2⟩:=I.cell x c e;rw[q] at e1;cases e1;rw[d] at e2;cases e2
 ·obtain⟨u,e1⟩:=hp p hq;rw[z,n0] at e1;cases e1
end
def Raises(X:Cx)(EX:XS):Prop:=
 ∀(ak:List (Addr×Obj)) (Z:St) (H:Hp) (s:Shared) (h0:Heap) (e C:Addr) (dx:Option Addr),Inv X ak Z H s->(∀b o,X.s₀.heap.get? b=some o->b∉X.ex->∃o',h0.get? b=some o')->
  (∀p∈X.pn++ak,∃o,h0.get? p.1=some o)->Sub h0 s.heap->Exc h0 H s.heap e C dx->EX Z (.ref C) dx H->X.xe (.ref e) s
noncomputable def jR(P:Program)(w:World):qL:=λouter H s E e s'=>
 ∃(a C:Addr) (dx:Option Addr) (H':Hp),e=.ref a/\s'.os=s.os/\AllBare s'.gens/\Un (frs outer) [] H H' s.heap s'.heap/\fU P w H' s'.heap/\Exc s.heap H' s'.heap a C dx/\E (.ref C) dx H'
theorem zen{P:Program}{w:World}{K:W.Frag}{mg:Str->Option Value}{base:Heap}{N:List Str}{qual:Str}{scope:Scope}{f:Addr}{cd:Value}{A:Around}{outer:List Env}{s:Shared}{H:Hp}{E:XK}{cm:Bool} :
  Raises (gK (jR P w) P w K mg base N qual scope f cd A outer s H E cm) (λ_ C dx H'=>E C dx H'):=by
 intro ak Z H1 s1 h0 e C dx I hs hp h01 x ex;have I0:Inv (gK (jR P w) P w K mg base N qual scope f cd A outer s H E cm) [] Z H1 s1:=I.lu λp z=>absurd z Zaa;show wpAny (model P w) (A.deeper (envOfC qual scope s.heap.objs.size f cd)) (leaving (envOfC qual scope s.heap.objs.size f cd) (.ref e)) _ _ s1;unfold leaving;have hsub:Sub s.heap h0:=λb o q=>hs b o q (by show b∉([]:List Addr);simp);refine aq (Vu (base:=base) (outer:=outer) (L:=s.heap.objs.size) I0.ok.frames I0.stack rfl x (λb z=>I0.hok.fresh z) h01 λh' ch t x'=>?_);have fin:∀b o,s.heap.get? b=some o->b∉ch:=λb o q m=>by
  have z:=hsub.none (t.rec_ b m).1;rw[q] at z;cases z
 have nL:∀b o,s.heap.get? b=some o->b∉frs outer->b∉frs (envOfC qual scope s.heap.objs.size f cd::outer):=λb o q n m=>by
  have m':b∈s.heap.objs.size::frs outer:=m;rcases cV.mp m' with z|z
  ·exact absurd (bK q) (by rw[z];exact lZ _)
  ·exact n z
 refine⟨e,C,dx,H1,rfl,I0.os,I0.bare,⟨λb o q n hb _=>?_,λb o q n hb _=>?_,λb o q n _=>I0.base.free b o q n (by show b∉([]:List Addr);simp),λb o q _=>?_,I0.base.tups,I0.base.iG,I0.base.jg⟩,I0.hok.Fz t I0.iQ,x'.older hsub,ex⟩
 ·exact t.keep b o (I0.base.keep b o q n hb (by show b∉([]:List Addr);simp)) (nL b o q hb) (fin b o q)
 ·obtain⟨sl,q1⟩:=I0.base.slot b o q n hb (by show b∉([]:List Addr);simp);obtain⟨sl',q2⟩:=t.slot b _ q1 (show b∈s.heap.objs.size::frs outer from dF _ hb);exact⟨sl',q2⟩
 ·obtain⟨o',q1⟩:=I0.base.there b o q (by show b∉([]:List Addr);simp);exact t.there b o' q1
section
variable {X:Cx}{cm:Bool}{k:Nat}{f C:Addr}{fd:FuncData}{ps:List Str}{sp:Sp}{EX:XS}{x m:Str}{p pos apos:Pos}{e o:Expr}{es:List Expr}{ta:TE}{t:TA}
theorem Raises.pass(R:Raises X EX)(I:Inv X ak Z H s)(h:jR X.prog X.w X.stack H s (EX Z) v s'):X.xe v s':=by
 obtain⟨a,C,dx,H',rfl,os,bare,un,hok,x,q⟩:=h;have ao:Sub s.heap s'.heap:=λb o z=>un.there b o z Zaa;refine R ak Z H' s' s.heap a C dx (I.call' os un hok bare λb z=>absurd z Zaa) (λb o z n=>I.base.there b o z n) (λp hp=>?_) ao x q;exact⟨p.2,(I.pin p hp).1⟩
noncomputable def zu(sp:Sp)(EX:XS)(t:TA):TE:=λZ H Q=>t Z H λvs H1=>sp vs H1 Q (EX Z)
theorem zhR(F:dN X.prog X.w X.K X.mg X.base (jR X.prog X.w) cm k f fd ps sp)(p7:cm=true->X.aj=true)(hr:bO k X.A)(hb:Binds X.K fd ps [])(R:Raises X EX)
  (I:Inv X ak Z H s) (r:Vals vs us) (h:sp vs H Q (EX Z)):wpAny (model X.prog X.w) X.A (call (.ref f) us) (EP X ak Z Q) X.xe s:=by
 have hl:us.length=ps.length:=by rw[<-r.length];exact F.len _ _ _ _ h
 have hb':=hb s us I.o8 (by rw[yF];exact hl);rw[yF] at hb';refine wX (DG (F.run X.A X.stack s H ⟨us,[]⟩ us vs Q (EX Z) (λz=>I.ok.hd (p7 z)) hr I.env0 hb' r h) λr s' hq=>?_);cases r with
 |error v=>exact R.pass I hq
 |ok fl=>
  cases fl with
  |ret u=>exact I.after hq
  |next=>exact False.elim hq
  |brk=>exact False.elim hq
  |cont=>exact False.elim hq
theorem zgU(F:dN X.prog X.w X.K X.mg X.base (jR X.prog X.w) cm k f fd ps sp)(p7:cm=true->X.aj=true)(hr:bO k X.A)(hg:Gl X x)(hm:X.mg x=some (.ref f))(hk:PySem.W.keepIn X.K (.ref f)=true)(hb:Binds X.K fd ps [])(R:Raises X EX)
  (ha:PA X (e::es) t) (lB:(x==("__debug__" : Str))=false:=by decide) (he:starEach (e::es) X.env=(false,eval e X.env)::starEach es X.env:=by rfl) (bN:(backTo pos (starEach es X.env)).any (·.1)=false:=by rfl) :
  PE X (.Call (.Name x p) (e::es) [] pos) (zu sp EX t):=by
 intro ak s Z H Q I h;refine Dt (Js I hg hm ?_ lB);exact PySem.W.callWith_K (h₀:=X.base) I.ok.mod.yK hk (aZ (ha pos ak s Z H _ I h) λus s1 ⟨vs,H1,I1,r,q⟩=>⟨I1.o8,zhR F p7 hr hb R I1 r q⟩) he bN
end
noncomputable def gM(a C:Addr)(dx:Option Addr):HO:=.ext λh=>∃oe vs,h.get? a=some oe/\oe.cls=.ref C/\oe.dict=dx/\oe.data=.fields vs
theorem zh4(x:Exc h0 H0 h a C dx):aR P w H h a (gM a C dx):=by
 obtain⟨oe,vs,hd,q,c,d,f,_⟩:=x.ob;exact⟨⟨oe,vs,q,c,d,f⟩,⟨oe,q⟩,λh1 h2 ⟨o1,v1,q1,c1,d1,f1⟩ k=>⟨o1,v1,k o1 q1,c1,d1,f1⟩⟩
section
variable {X:Cx}{ak:List (Addr×Obj)}{Z:St}{H:Hp}{s:Shared}{e:Addr}{o:HO}
theorem Inv.track(I:Inv X ak Z H s)(hn:X.s₀.heap.get? e=none)(un:H e=none)(hp:∀p∈X.pn++ak,p.1≠e)(hL:e≠X.env.locals)(hc:∀x c,X.env.cells.lookup x=some c->c≠e)
  (new:aR X.prog X.w (upd H e o) s.heap e o):Inv X ak Z (upd H e o) s:=by
 have ne:∀b u,H b=some u->b≠e:=λb u q z=>by rw[z,un] at q;cases q
 have n0:∀b u,X.s₀.heap.get? b=some u->b≠e:=λb u q z=>by rw[z,hn] at q;cases q
 refine⟨I.ok,I.os,I.bare,⟨I.base.keep,I.base.slot,λb u q n hx=>?_,I.base.there,λb xs q=>?_,λb u v q=>?_,λb ps q=>?_⟩,I.loc,I.cell,?_,λx c q=>?_,λp q=>?_,λb u q=>?_,I.len⟩
 ·rw[cQ (n0 b u q)];exact I.base.free b u q n hx
 ·have z:=I.base.tups b xs q;rw[cQ (ne b _ z)];exact z
 ·have z:=I.base.iG b u v q;rw[cQ (ne b _ z)];exact z
 ·obtain⟨m,z⟩:=I.base.jg b ps q;exact⟨m,by rw[cQ (ne b _ z)];exact z⟩
 ·rw[cQ hL.symm];exact I.free
 ·rw[cQ (hc x c q)];exact I.dH x c q
 ·obtain⟨a1,a2,a3⟩:=I.pin p q;exact⟨a1,by rw[cQ (hp p q)];exact a2,a3⟩
 ·by_cases z:b=e
  ·subst z;rw[jN] at q;cases q;exact new
  ·rw[cQ z] at q;exact(I.hok b u q).stay (λ_ _ _ r=>r) (λc r=>by rw[cQ (ne c _ r)];exact r) λc xs r=>by rw[cQ (ne c _ r)];exact r
noncomputable def Cx.seen(X:Cx)(A:Around)(aj:Bool)(pn:List (Addr×Obj))(E:Value->Shared->Prop):Cx:={X with A:=A,aj:=aj,pn:=pn,xe:=E}
theorem Inv.seen(I:Inv X ak Z H s)(hA:A.frames=X.A.frames)(hc:c=true->A.handled=none)(hp:∀p∈pn++ps,p∈X.pn++ak):Inv (X.seen A c pn E) ps Z H s:=
 ⟨⟨I.ok.mod,I.ok.kind,I.ok.glob,I.ok.blt,I.ok.above,I.ok.inj,I.ok.has,I.ok.cab,hc,hA.trans I.ok.frames,I.ok.stk,I.ok.Ut,I.ok.bs,I.ok.xg,I.ok.rA,I.ok.vp,I.ok.jh,I.ok.BR⟩,I.os,I.bare,I.base,I.loc,I.cell,I.free,I.dH,λp z=>I.pin p (hp p z),I.hok,I.len⟩
theorem Inv.dZ(I:Inv (X.seen A c pn E) ps Z H s)(hA:X.A.frames=A.frames)(hc:X.aj=true->X.A.handled=none)(hp:∀p∈X.pn++ak,p∈pn++ps):Inv X ak Z H s:=
 ⟨⟨I.ok.mod,I.ok.kind,I.ok.glob,I.ok.blt,I.ok.above,I.ok.inj,I.ok.has,I.ok.cab,hc,hA.trans I.ok.frames,I.ok.stk,I.ok.Ut,I.ok.bs,I.ok.xg,I.ok.rA,I.ok.vp,I.ok.jh,I.ok.BR⟩,I.os,I.bare,I.base,I.loc,I.cell,I.free,I.dH,λp z=>I.pin p (hp p z),I.hok,I.len⟩
theorem SP.dZ(h:SP (X.seen A c pn E) ps D f s)(hA:X.A.frames=A.frames)(hc:X.aj=true->X.A.handled=none)(hp:∀p∈X.pn++ak,p∈pn++ps):SP X ak D f s:=by
 cases f with
 |next=>obtain⟨a,b,bU,q⟩:=h;exact⟨a,b,bU.dZ hA hc hp,q⟩
 |brk=>obtain⟨a,b,bU,q⟩:=h;exact⟨a,b,bU.dZ hA hc hp,q⟩
 |cont=>obtain⟨a,b,bU,q⟩:=h;exact⟨a,b,bU.dZ hA hc hp,q⟩
 |ret u=>obtain⟨v,a,b,bU,r,q⟩:=h;exact⟨v,a,b,bU.dZ hA hc hp,r,q⟩
theorem Inv.gone(I:Inv X ak Z H s)(hN:X.N.Nodup)(hi:X.N[i]?=some n)(hl:X.env.kindOf n=some .local)(hm:s.heap.Ns X.env.locals m)
  (hn:h'.Ns X.env.locals (λx=>if x=n then v else m x)) (sb:Heap.SameBut X.env.locals s.heap h'):Inv X ak (Z.set i none) H {s with heap:=h',toks:=t'}:=by
 have kp:∀b u,b≠X.env.locals->s.heap.get? b=some u->h'.get? b=some u:=λb u z q=>(sb.2 b z).trans q;have n0:∀b u,X.s₀.heap.get? b=some u->b≠X.env.locals:=λb u q=>cP (fK (bK q) I.ok.above);have nH:∀b u,H b=some u->b≠X.env.locals:=λb u q z=>by rw[z,I.free] at q;cases q
 refine⟨I.ok,I.os,I.bare,⟨λb u q n hb hx=>kp b u (n0 b u q) (I.base.keep b u q n hb hx),λb u q n hb hx=>?_,I.base.free,λb u q hx=>?_,I.base.tups,I.base.iG,I.base.jg⟩,⟨_,hn,λj x w e1 e2 e3=>?_⟩,λx c q=>?_,I.free,I.dH,λp q=>?_,λb u q=>?_,by rw[ni];exact I.len⟩
 ·obtain⟨sl,z⟩:=I.base.slot b u q n hb hx;exact⟨sl,kp b _ (n0 b u q) z⟩
 ·obtain⟨u',z⟩:=I.base.there b u q hx;exact⟨u',kp b u' (n0 b u q) z⟩
 ·have Vv:i≠j:=λz=>by
   subst z;by_cases hl:i<Z.length
   ·rw[wM hl] at e2;cases e2
   ·rw[IW (by rw[ni];lia)] at e2;cases e2
  rw[qG Vv] at e2;obtain⟨m2,J0,rN⟩:=I.loc;obtain⟨u,r,l⟩:=rN j x w e1 e2 e3;refine⟨u,r,?_⟩;rcases l with ⟨k1,k2⟩|⟨k1,c,k2,oc,k3,k4⟩
  ·refine .inl ⟨k1,?_⟩;have nx:x≠n:=λz=>Vv (MF hN (by rw[z] at e1;exact hi) (z▸e1));have em:m=m2:=by
    obtain⟨o1,es1,ep1,g1,d1,t1,f1⟩:=hm;obtain⟨o2,es2,ep2,g2,d2,t2,f2⟩:=J0;rw[g1] at g2;cases g2;rw[d1] at d2;cases d2
    funext y
    rw[<-f1,<-f2]
   show (if x=n then v else m x)=some u;rw[if_neg nx,em];exact k2
  ·exact .inr ⟨k1,c,k2,oc,kp c oc (I.vq x c k2) k3,k4⟩
 ·obtain⟨u,oc,k3,k4⟩:=I.cell x c q;exact⟨u,oc,kp c oc (I.vq x c q) k3,k4⟩
 ·obtain⟨a1,a2,a3,a4⟩:=I.pin p q;exact⟨kp _ _ a3 a1,a2,a3,a4⟩
 ·exact(I.hok b u q).stay (λc w z r=>kp c w (z.elim (λy=>y▸nH b u q) λy=>nH c _ y) r) (λ_ r=>r) λ_ _ r=>r
end
theorem zgd(x:Exc h0 H s.heap e C dx)(hf:∀b∈fr,∀o vs,s.heap.get? b=some o->o.data≠.fields vs)
  (k:∀h' ch,Fx h0 H fr s.heap h' ch->Exc h0 H h' e C dx->Q () {s with heap:=h'}):wpAny M A (setFlight (.ref e) none) Q E s:=by
 obtain⟨oe,vs,hd,he,hc,xH,mC,h1,tb⟩:=x.ob;rcases tb with rfl|⟨T,oT,ts,rfl,nT,uT,neT,gT,dT,h3⟩
 ·unfold setFlight;refine aq (jF he mC h1 ?_);rw[if_neg R4];exact aG (k s.heap [] {rec_:=(λ_ z=>nomatch z),keep:=(λb o q _ _=>q),slot:=(λb o q _=>⟨o.slots,q⟩),there:=(λb o q=>⟨o,q⟩)} x)
 ·refine Vt he mC h1 gT dT (Bh.mp h3).1 λh' kp g'=>?_;have z3:3<ts.size:=(Bh.mp h3).1;refine k h' [T] ⟨λb z=>?_,λb o q _ n=>kp b o (λz=>n (by simp[z])) q,λb o q m=>?_,λb o q=>?_⟩ ⟨x.new,x.un,oe,vs,.ref T,kp e oe neT.symm he,hc,xH,mC,h1,.inr ⟨T,_,_,rfl,nT,uT,neT,g',u9 dT _,by simp[z3]⟩⟩
  ·obtain rfl:b=T:=by simpa using z
   exact⟨nT,uT,oT,ts,gT,dT⟩
  ·refine⟨o.slots,kp b o (λz=>?_) q⟩;subst z;rw[gT] at q;cases q;exact hf b m _ ts gT dT
  ·by_cases z:b=T
   ·subst z;exact⟨_,g'⟩
   ·exact⟨o,kp b o z q⟩
theorem zbL{M:Model}{A:Around}{E:Value->Shared->Prop}{K:W.Frag}{h:Heap}{g:Array GenState}{d:Drawn}{t:Nat}{os:OsState}{e C D:Addr}{oe:Obj}{Q:Bool->Shared->Prop}(KI:K.In h)(q:subIn K C D=true)
  (he:h.get? e=some oe) (yQ:oe.cls=.ref C) (hq:Q true ⟨h,g,d,t,os⟩):wpAny M A (excMatches (.ref e) (.ref D)) Q E ⟨h,g,d,t,os⟩:=by
 unfold subIn at q;simp only[cO] at q;obtain⟨⟨q1,q2⟩,q3⟩:=q;obtain⟨nm,qn,N,bs,bm,hdct,sn,ao,ab,col,dd,k0,k1,k2,k3,k5,newId,hC,_,_⟩:=PySem.W.kts_cls KI q1;obtain⟨nm',qn',N',bs',bm',Vw,sn',sub',ab',col',N_,k0',k1',k2',k3',k5',newId',hD,hb',_⟩:=PySem.W.kts_cls KI q2;have m1:(Value.ref C::bm).contains (.ref D)=true:=by
  split at q3
  ·rename_i c0 d0 cd sl lk;have z:=KI _ _ lk;rw[hC] at z;cases z;exact q3
  ·cases q3
 have m2:(Value.ref D::bm').contains (.type "BaseException")=true:=by rw[Mf,hb',Bool.or_true]
 have f:=tc_notTuple;unfold excMatches
 repeat (first|(with_reducible refine yE he ?_;rw[yQ])|with_reducible refine yE hD ?_|(with_reducible refine I9 hD ?_;rw[m2])|(with_reducible refine I9 hC ?_;rw[m1])|wp_step)
 exact hq
noncomputable def rO(D:Ends)(i:Nat):Ends:={nx:=λZ H=>D.nx (Z.set i none) H,rt:=D.rt,bk:=λZ H=>D.bk (Z.set i none) H,ct:=λZ H=>D.ct (Z.set i none) H}
noncomputable def FJ(K:W.Frag)(Dc:Addr)(i:Nat)(th:TS)(D:Ends):XS:=λZ C dx H=>∃Ca,C=.ref Ca/\subIn K Ca Dc=true/\∀a,H a=none->th (rO D i) (Z.set i (some (.ref a))) (upd H a (gM a Ca dx))
section
variable {X:Cx}{x n:Str}{np rP pos:Pos}{b₀:Stmt}{body suite:List Stmt}{Dc:Addr}{i:Nat}{tb:XS->TS}{th:TS}
theorem zla(hex:X.ex=[])(o_:X.stack=X.env::X.outer/\X.env.frame=some X.env.locals)(hg:Gl X x)(hm:X.mg x=some (.ref Dc))(hN:X.N.Nodup)(hi:X.N[i]?=some n)(hl:X.env.scope.names.lookup n=some .local)
  (hb:∀(pn:List (Addr×Obj)) (E':Value->Shared->Prop) (qM:XS),Raises (X.seen X.A X.aj pn E') qM->PassesOwn (model X.prog X.w) X.A X.env E'->nA (X.seen X.A X.aj pn E') body (tb qM))
  (hh:∀e:Value,nA (X.seen (X.A.mark (some e)) false X.pn (λ_ _=>False)) (b₀::suite) th) (lB:(x==("__debug__" : Str))=false:=by decide) :
  PS X (.Try body [.ExceptHandler (some (.Name x np)) (some n) (b₀::suite) rP] [] [] pos) (λD Z H=>tb (FJ X.K Dc i th D) D Z H):=by
 intro ak s Z H D I h;refine wpAny_Try_except ?_;have B:=hb (X.pn++ak) (λe s₁=>wpAny (model X.prog X.w) X.A (noteFrame e X.env) (λ_ s₂=>wpAny (model X.prog X.w) X.A (setFlight e none) (λ_ s₃=>wpAny (model X.prog X.w) X.A (handleBy e X.env [.ExceptHandler (some (.Name x np)) (some n) (b₀::suite) rP]) (SP X ak D) X.xe s₃) X.xe s₂) X.xe s₁) (FJ X.K Dc i th D) ?R PassesOwn.looking [] s Z H D (I.seen rfl I.ok.hd (by intro p z;simpa using z)) h
 case R=>
  intro rB Z' H' s' h0 e C dx bU hs hp ao xc ⟨Ca,eC,sI,k⟩;cases eC;have I1:Inv X ak Z' H' s':=bU.dZ rfl I.ok.hd (λp z=>qF _ z);have Oa:∀p∈X.pn++ak,∃o,h0.get? p.1=some o:=λp z=>hp p (qF _ z);show wpAny (model X.prog X.w) X.A (noteFrame (.ref e) X.env) _ X.xe s';refine Vu (base:=X.base) (outer:=X.outer) (L:=X.env.locals) (I1.ok.frames.trans (pU some o_.1)) (o_.1▸I1.stack) o_.2 xc (λb z=>I1.hok.fresh z) ao λh1 ch1 t1 x1=>?_;have I2:=I1.Fz (o_.1▸t1) hs Oa;refine wpAny_handleBy_cons (codeAny_handlers_test ?_) (by intro z;cases z);have I2h:Inv (X.seen (X.A.mark (some (.ref e))) false X.pn (λ_ _=>False)) ak Z' H' {s' with heap:=h1}:=I2.seen rfl (λz=>by cases z) (λp z=>z);refine Js (E:=_) I2h hg hm ?_ lB;obtain⟨oe,vs,hd,g1,c1,d1,f1,_⟩:=x1.ob;refine zbL I2.o8 sI g1 c1 ?_;refine codeAny_handlers_suite_as ?_;have Ob:∀b∈frs X.stack,∀o vs,h1.get? b=some o->o.data≠.fields vs:=λb hb o vs q d=>by
   obtain⟨_,o',q',nd⟩:=I2.stack.mem hb;have q'':h1.get? b=some o':=q';rw[q] at q'';cases q'';exact nd vs d
  refine zgd (s:={s' with heap:=h1}) (fr:=frs X.stack) x1 Ob λh2 qN t2 x2=>?_;have I3:Inv X ak Z' H' {s' with heap:=h2}:=I2.Fz t2 hs Oa;obtain⟨oe2,vs2,hd2,g2,c2,d2,f2,_⟩:=x2.ob;have ns0:X.s₀.heap.get? e=none:=by
   cases z:X.s₀.heap.get? e with
   |none=>rfl
   |some u=>
    obtain⟨u',z'⟩:=hs e u z (by show e∉X.ex;rw[hex];simp);rw[x2.new] at z';cases z'
  have nL:e≠X.env.locals:=λz=>by
   obtain⟨m,⟨ol,es,ep,e1,e2,_⟩,_⟩:=I3.loc;have e1':h2.get? X.env.locals=some ol:=e1;rw[<-z,g2] at e1';cases e1';rw[f2] at e2;cases e2
  have nC:∀y c,X.env.cells.lookup y=some c->c≠e:=λy c q z=>by
   obtain⟨v,oc,e1,e2⟩:=I3.cell y c q;have e1':h2.get? c=some oc:=e1;rw[z,g2] at e1';cases e1';rw[f2] at e2;cases e2
  have I4:=I3.track (o:=gM e C dx) ns0 x2.un (λp z y=>by
   obtain⟨u,q⟩:=Oa p z;rw[y,x2.new] at q;cases q) nL nC (zh4 x2)
  have I4h:Inv (X.seen (X.A.mark (some (.ref e))) false X.pn (λ_ _=>False)) ak Z' (upd H' e (gM e C dx)) {s' with heap:=h2}:=I4.seen rfl (λz=>by cases z) (λp z=>z);refine Ed (X:=X.seen (X.A.mark (some (.ref e))) false X.pn (λ_ _=>False)) (v:=.ref e) I4h hN hi (.inl hl) rfl (λs5 I5=>?_) (.inr hl);refine iC (hh (.ref e) ak s5 _ _ (rO D i) I5 (k e x2.un)) (λf s6 q6=>?_) (λ_ _ z=>z.elim);have hkd:(X.env.scope.kind==.class||(X.env.scope.kind==.module&&X.env.locals != X.env.globals))=false:=by rw[I.ok.kind];rfl
  have fin:∀{Z6:St} {H6:Hp} {Q:Shared->Prop},Inv (X.seen (X.A.mark (some (.ref e))) false X.pn (λ_ _=>False)) ak Z6 H6 s6->(∀s7,Inv X ak (Z6.set i none) H6 s7->Q s7)->
    wpAny (model X.prog X.w) X.A (do bindName X.env n .none;unbindBehindTheSuite X.env n rP) (λ_ s7=>Q s7) X.xe s6:=λ{Z6 H6 Q} gO kq=>by
   have bU:Inv X ak Z6 H6 s6:=gO.dZ rfl I.ok.hd (λp z=>z);obtain⟨m,Vx,_⟩:=id bU.loc;exact wpAny_nameGoes_keeps hl Vx hkd λh' v vA sb=>kq _ (bU.gone hN hi hl Vx vA sb)
  cases f with
  |next=>obtain⟨Z6,H6,gO,q⟩:=q6;exact fin gO λs7 lE=>⟨_,_,lE,q⟩
  |brk=>obtain⟨Z6,H6,gO,q⟩:=q6;exact fin gO λs7 lE=>⟨_,_,lE,q⟩
  |cont=>obtain⟨Z6,H6,gO,q⟩:=q6;exact fin gO λs7 lE=>⟨_,_,lE,q⟩
  |ret u=>obtain⟨v,Z6,H6,gO,r,q⟩:=q6;exact fin gO λs7 lE=>⟨v,_,_,lE,r,q⟩
 refine iC B (λf s1 q=>?_) λ_ _ z=>z;have q':SP X ak D f s1:=SP.dZ q rfl I.ok.hd (by intro p z;simpa using z);cases f with
 |next=>exact Jg q'
 |brk=>exact q'
 |cont=>exact q'
 |ret u=>exact q'
end
end L2
namespace L2
open PySem PySem.Spec PyProof.Rows PySem.W Builtin.ObjectAttr
section
variable {prog:Program}{w:World}{A:Around}{E:Value->Shared->Prop}{s:Shared}{K:Frag}{x C:Addr}{ox:Obj}{od:Option Obj}{name:Str}{tk:Tok}
theorem ziO(XI:K.In s.heap)(I:InstAt s.heap x ox C od)(hf:findObj K C od name=some r)
  (h:match r with|.value v=>Q (.done (.ret v)) s|.bind g a=>wpAny (model prog w) A (call g [a,.ref x,.ref C]) (λv s'=>Q (.done (.ret v)) s') E s|.missing=>False) :
  wpAny (model prog w) A (Builtin.«object.__getattribute__» ⟨[.ref x,.str name tk],[]⟩) Q E s:=by
 obtain⟨hh,g,d,t,os⟩:=s;have L0:=I.type (M:=model prog w);have L1:=looks_find (M:=model prog w) XI I hf;unfold Builtin.«object.__getattribute__»;refine aq (yG (a:=(Value.ref x,[Value.str name tk])) (by rfl) ?_);refine aq (yG (a:=name) (by rfl) ?_);refine aq (L0.at (aq (L1.at ?_)));cases r with
 |value v=>exact aG h
 |bind g a=>
  show wpAny _ _ (holding [a] (call g [a,.ref x,.ref C]) >>= ret) _ _ _;exact aq (jd (iC h (λv s' z=>aG z) λ_ _ z=>z))
 |missing=>exact h.elim
theorem Vy(XI:K.In s.heap)(I:InstAt s.heap x ox C od)(hb:mroIn K C (.type "BaseException")=some true)(hf:findObj K C od name=some r)
  (h:match r with|.value v=>R (.ok (.ret v)) s|.bind g a=>wpAny (model prog w) A.in1 (call g [a,.ref x,.ref C]) (λv s'=>R (.ok (.ret v)) s') (λe s'=>R (.error e) s') s|.missing=>False) :
  codeAny (model prog w) A (.call (.builtin "BaseException.__getattribute__") ⟨[.ref x,.str name tk],[]⟩) R s:=by
 have hk:builtinKind "BaseException.__getattribute__"=some .slot:=by decide +kernel
 have zx:splitId "BaseException.__getattribute__"=some ("BaseException","__getattribute__"):=by decide +kernel
 have ha:=F.args_bexc_ga (.ref x) (.str name tk);refine LQ F.attr_ValueError.ga.plain F.entry_bexc_ga ?_;have fin:wpAny (model prog w) A.in1 (Builtin.«object.__getattribute__» ⟨[.ref x,.str name tk],[]⟩) (λfin s'=>match fin with|.done f=>R (.ok f) s'|.again c'=>c'.quiet=true/\codeAny (model prog w) A c' R s') (λe s'=>R (.error e) s') s:=by
  refine ziO XI I hf ?_;cases r with
  |value v=>exact h
  |bind g a=>exact h
  |missing=>exact h.elim
 have chk:∀Q:Unit->Shared->Prop,Q () s->wpAny (model prog w) A.in1 (checkBuiltinCall "BaseException.__getattribute__" ⟨[.ref x,.str name tk],[]⟩) Q (λe s'=>R (.error e) s') s:=λQ hq=>by
  obtain⟨hh,g,d,t,os⟩:=s;have L0:=I.type (M:=model prog w);have L1:=looks_mroIn (M:=model prog w) XI hb;have LI:Looks (model prog w) hh (isInstance (.ref x) (.type "BaseException")) true:=L0.andThen L1;simp only[checkBuiltinCall,hk,zx];refine aq ?_
  repeat (first|with_reducible exact hq|with_reducible refine LI.at ?_|wp_step)
 exact chk _ fin
theorem bexc_get?(XI:K.In s.heap)(I:InstAt s.heap x ox C od)(hb:mroIn K C (.type "BaseException")=some true)(Oc:findIn K (.ref C) "__getattribute__"=some (some (.builtin "BaseException.__getattribute__")))
  (Od:findIn K (.ref C) "__getattr__"=some none) (hf:findObj K C od name=some r)
  (h:match r with|.value v=>wpAny (model prog w) A (handedOut v) (λu s'=>Q (some u) s') (λ_ _=>False) {s with toks:=s.toks+1}|.bind g a=>wpAny (model prog w) A.in1 (call g [a,.ref x,.ref C]) (λv s'=>wpAny (model prog w) A (handedOut v) (λu s''=>Q (some u) s'') (λ_ _=>False) s') (λ_ _=>False) {s with toks:=s.toks+1}|.missing=>False) :
  wpAny (model prog w) A (getAttr? (.ref x) name) Q E s:=by
 obtain⟨hh,g,d,t,os⟩:=s;have L0:=I.type (M:=model prog w);have L1:=Bw (M:=model prog w) XI Oc;have L2:=Bw (M:=model prog w) XI Od;have vQ:(Value.builtin "BaseException.__getattribute__"==Value.builtin "object.__getattribute__")=false:=by decide +kernel
 unfold getAttr? getAttrBy? getAttrBy;refine aq (wpAny_mkText (aq (Bv (jd (aq (L0.at (aq (L1.at ?_))))))));show wpAny _ _ (if (onTheHeap (.ref C)&&(Value.builtin "BaseException.__getattribute__"==Value.builtin "object.__getattribute__"))=true then _ else getAttrByItsOwn _ _ _ _ _ _) _ _ _;rw[vQ,Bool.and_false,if_neg R4];unfold getAttrByItsOwn hookBefore callGetattribute boundAndCalled;refine aq (L2.at ?_);refine aq (Bv (jd (aq (yG (F.attr_ValueError.ga.bind (.ref x)) ?_))));refine wX (Vy XI I hb hf ?_);cases r with
 |value v=>exact iC h (λv s'' hv=>aG hv) (λ_ _ z=>z.elim)
 |bind g a=>exact iC h (λv s' hv=>iC hv (λu s'' z=>aG z) λ_ _ z=>z.elim) (λ_ _ z=>z.elim)
 |missing=>exact h.elim
end
structure XC(K:Frag)(C:Addr):Prop where
 ga:findIn K (.ref C) "__getattribute__"=some (some (.builtin "BaseException.__getattribute__"))
 gn:findIn K (.ref C) "__getattr__"=some none
 cl:findIn K (.ref C) "__class__"=some (some (.builtin "object.__class__"))
 mb:mroIn K C (.type "BaseException")=some true
 mo:mroIn K C (.type "object")=some true
 cd:(clsIn K C).isSome=true
 dg:specialIn K (.builtin "object.__class__") "__get__"=some (some (.builtin "getset_descriptor.__get__"))
 dt:takesIn K (.builtin "object.__class__")=some true
theorem zeV{K:Frag}{C:Addr}{od:Option Obj}{name:Str}{a g:Value}(hc:(clsIn K C).isSome=true)(ha:findIn K (.ref C) name=some (some a))(hg:specialIn K a "__get__"=some (some g))(ht:takesIn K a=some true):findObj K C od name=some (.bind g a):=by
 obtain⟨cd,z⟩:=Ln.mp hc;simp only[findObj,z,ha,hg,ht,Option.bind_some]
theorem Vz{K:Frag}{e C:Addr}(c:XC K C):KitX K (.ref e) (.ref C) (λh=>∃ox od,InstAt h e ox C od) where
 ty:=λ_ _ _ ⟨_,_,I⟩=>I.type
 it:=λ_ _ XI _=>by
  have q:=c.cd;unfold clsIn at q;split at q
  ·rename_i c' d' cd' sl' lk;intro A' Q' E' s' k z;unfold isType loadHead;exact aq (wpAny_loadPart (k _ _ (XI _ _ lk)) (aG z))
  ·cases q
 ne:=λh tp dd its n sl XI htp=>by
  refine Mh.mpr λz=>?_;have ee:C=tp:=Value.ref.inj (iD.mp z);subst ee;have q:=c.cd;unfold clsIn at q;split at q
  ·rename_i c' d' cd' sl' lk;have y:=(XI _ _ lk).symm.trans htp;cases y
  ·cases q
 ca:=λ{prog w A E Q s} XI ⟨ox,od,I⟩ k=>by
  have hf:findObj K C od "__class__"=some (.bind (.builtin "getset_descriptor.__get__") (.builtin "object.__class__")):=zeV c.cd c.cl c.dg c.dt;refine bexc_get? XI I c.mb c.ga c.gn hf ?_;exact wX (class_get (s:={s with toks:=s.toks+1}) (ox:=ox) (od:=od) XI I c.mo (handed_on rfl k))
end L2
namespace L2
open PySem PySem.Spec PyProof.Rows
theorem zev:∀(names:List (Str×NameKind)) (cs:List (Str×Addr)),(∀x∈names,x.2=.free->∃c,env.cells.lookup x.1=some c)->(∀x c,cs.lookup x=some c->env.cells.lookup x=some c)->
  ∃cl,(forIn names cs λx r=>(do
    if x.2==.free then
     let a <-cellOf env x.1
     pure (ForInStep.yield ((x.1,a)::r))
    else pure (ForInStep.yield r)):Sem (List (Str×Addr)))=pure cl/\(∀x c,cl.lookup x=some c->env.cells.lookup x=some c)/\(∀x c,cs.lookup x=some c->cl.lookup x=some c)/\∀x∈names,x.2=.free->∃c,cl.lookup x.1=some c:=by
 intro names
 induction names with
 |nil=>intro cs _ h;exact⟨cs,rfl,h,λ_ _ q=>q,λx z=>nomatch z⟩
 |cons y r ih=>
  intro cs h1 h2;obtain⟨n,k⟩:=y;by_cases hk:k=.free
  ·subst hk;obtain⟨c,hc⟩:=h1 (n,.free) dM rfl;have hc:env.cells.lookup n=some c:=hc;have h3:∀x d,((n,c)::cs).lookup x=some d->env.cells.lookup x=some d:=λx d q=>by
    rw[lW] at q;by_cases z:x=n
    ·subst z;simp at q;subst q;exact hc
    ·have z':(x==n)=false:=by simpa using z
     rw[z'] at q;exact h2 x d q
   obtain⟨cl,e,a,b,d⟩:=ih ((n,c)::cs) (λx z=>h1 x (dF _ z)) h3;have hco:cellOf env n=pure c:=by
    unfold cellOf;rw[hc]
   refine⟨cl,?_,a,λx q z=>?_,λx z q=>?_⟩
   ·rw[Dz];simp only[wQ,if_true,hco];exact e
   ·by_cases y:x=n
    ·subst y;have z1:=h2 x q z;rw[hc] at z1;cases z1;exact b x c Zaa
    ·have y':(x==n)=false:=by simpa using y
     exact b x q (by rw[lW,y'];exact z)
   ·rcases cV.mp z with z|z
    ·subst z;exact⟨c,b n c Zaa⟩
    ·exact d x z q
  ·have hb:(k==NameKind.free)=false:=by simpa using hk
   obtain⟨cl,e,a,b,d⟩:=ih cs (λx z=>h1 x (dF _ z)) h2;refine⟨cl,?_,a,b,λx z q=>?_⟩
   ·rw[Dz];simp only[hb,iz,gW];exact e
   ·rcases cV.mp z with z|z
    ·subst z;exact absurd q hk
    ·exact d x z q
theorem zeA(h:∀x∈scope.names,x.2=.free->∃c,env.cells.lookup x.1=some c):∃cl,closureFor scope env=pure cl/\(∀x c,cl.lookup x=some c->env.cells.lookup x=some c)/\∀x∈scope.names,x.2=.free->∃c,cl.lookup x.1=some c:=by
 obtain⟨cl,e,a,_,d⟩:=zev scope.names [] h (λx c q=>by cases q);refine⟨cl,?_,a,d⟩;unfold closureFor;have e':=e;simp only[pure_bind,bind_pure] at e' ⊢;exact e'
theorem Oe{env:Env}{k:NameKind}:∀{names:List (Str×NameKind)} {x:Str},(names.map λ(n,k)=>if (k==NameKind.free&&env.scope.kind==.function&&env.kindOf n==some .cell) then (n,NameKind.cell) else (n,k)).lookup x=some k->
  names.lookup x=some k\/(k=.cell/\names.lookup x=some .free)
 |[],x,h=>by simp at h
 |(n,q)::r,x,h=>by
  rw[jE,lW] at h;rw[lW];have hd:∀c:Bool,(if c=true then (n,NameKind.cell) else (n,q)).1=n:=λc=>by cases c<;>rfl
  rw[hd] at h;by_cases z:x=n
  ·subst z;simp only[wQ] at h ⊢;split at h
   ·rename_i y;simp only[cO,iD] at y;cases h;exact .inr ⟨rfl,by rw[y.1.1]⟩
   ·cases h;exact .inl rfl
  ·have z':(x==n)=false:=by simpa using z
   simp only[z'] at h ⊢;exact Oe h
theorem Og{env:Env}:∀{names:List (Str×NameKind)} {x:Str},names.lookup x=some .free->
  (names.map λ(n,k)=>if (k==NameKind.free&&env.scope.kind==.function&&env.kindOf n==some .cell) then (n,NameKind.cell) else (n,k)).lookup x=some .cell \/
  (names.map λ(n,k)=>if (k==NameKind.free&&env.scope.kind==.function&&env.kindOf n==some .cell) then (n,NameKind.cell) else (n,k)).lookup x=some .free
 |[],x,h=>by simp at h
 |(n,q)::r,x,h=>by
  rw[lW] at h;rw[jE,lW];have hd:∀c:Bool,(if c=true then (n,NameKind.cell) else (n,q)).1=n:=λc=>by cases c<;>rfl
  rw[hd];by_cases z:x=n
  ·subst z;simp only[wQ] at h ⊢;cases h
   split
   ·exact .inl rfl
   ·exact .inr rfl
  ·have z':(x==n)=false:=by simpa using z
   simp only[z'] at h ⊢;exact Og h
structure mD(n:Nat)(h1:Heap)(names:List (Str×NameKind))(cl iR:List (Str×Addr)):Prop where
 d1:∀x c,iR.lookup x=some c->(cl.lookup x=some c/\(x,NameKind.cell)∉names)\/((x,NameKind.cell)∈names/\n<c/\h1.IsCell c none)
 d2:∀x y c,n<c->iR.lookup x=some c->iR.lookup y=some c->x=y
 d3:∀x,names.lookup x=some .cell->∃c,iR.lookup x=some c
 d4:∀x c,(x,NameKind.cell)∉names->cl.lookup x=some c->iR.lookup x=some c
theorem cc:(NameKind.cell==NameKind.cell)=true:=by decide
theorem FN:∀(names:List (Str×NameKind)) (h:Heap) (b:Addr) (o:Obj),h.get? b=some o->(pushCells h names).get? b=some o
 |[],h,b,o,e=>e
 |(x,k)::r,h,b,o,e=>by
  rw[pushCells]
  split
  ·exact FN r _ b o (bR _ e)
  ·exact FN r h b o e
theorem Oh:∀(names:List (Str×NameKind)) (h:Heap) (acc:List (Str×Addr)) (x:Str) (c:Addr),(cellsFrom h.objs.size names acc).lookup x=some c->
  (acc.lookup x=some c/\(x,NameKind.cell)∉names)\/((x,NameKind.cell)∈names/\h.objs.size<=c/\(pushCells h names).IsCell c none)
 |[],h,acc,x,c,e=>.inl ⟨e,by simp⟩
 |(y,k)::r,h,acc,x,c,e=>by
  rw[cellsFrom] at e;rw[pushCells];by_cases hk:k=.cell
  ·subst hk;rw[if_pos cc] at e ⊢;have sz:(h.push {cls:=Value.type "cell",data:=Data.cell none}).objs.size=h.objs.size+1:=by unfold Heap.push;simp
   rw[<-sz] at e;rcases Oh r _ _ x c e with ⟨a,b⟩|⟨a,b,d⟩
   ·rw[lW] at a;by_cases z:x=y
    ·subst z;simp at a;subst a;exact .inr ⟨dM,bT _,_,FN r _ _ _ (fW _ rfl),rfl⟩
    ·have z':(x==y)=false:=by simpa using z
     rw[z'] at a;exact .inl ⟨a,by simp[z,b]⟩
   ·exact .inr ⟨dF _ a,by lia,d⟩
  ·have hb:(k==NameKind.cell)=false:=by simpa using hk
   rw[if_neg (by rw[hb];decide)] at e ⊢;rcases Oh r _ _ x c e with ⟨a,b⟩|⟨a,b,d⟩
   ·exact .inl ⟨a,by simp[b];intro _ q;exact hk q.symm⟩
   ·exact .inr ⟨dF _ a,b,d⟩
theorem Oi:∀(names:List (Str×NameKind)) (n:Nat) (acc:List (Str×Addr)) (x y:Str) (c:Addr),(∀u v,acc.lookup u=some c->acc.lookup v=some c->u=v)->(∀u a,acc.lookup u=some a->a<n\/a≠c)->(cellsFrom n names acc).lookup x=some c->(cellsFrom n names acc).lookup y=some c->x=y
 |[],n,acc,x,y,c,h,_,e1,e2=>h x y e1 e2
 |(z,k)::r,n,acc,x,y,c,h,hl,e1,e2=>by
  rw[cellsFrom] at e1 e2;by_cases hk:k=.cell
  ·subst hk;rw[if_pos cc] at e1 e2;refine Oi r (n+1) _ x y c (λu v a b=>?_) (λu a q=>?_) e1 e2
   ·rw[lW] at a b;by_cases u1:u=z
    ·by_cases v1:v=z
     ·rw[u1,v1]
     ·have v':(v==z)=false:=by simpa using v1
      subst u1;simp at a;rw[v'] at b;subst a;have b:acc.lookup v=some n:=b;rcases hl v n b with q|q
      ·exact absurd q (lZ _)
      ·exact absurd rfl q
    ·have u':(u==z)=false:=by simpa using u1
     rw[u'] at a;have a:acc.lookup u=some c:=a;by_cases v1:v=z
     ·subst v1;simp at b;subst b;rcases hl u n a with q|q
      ·exact absurd q (lZ _)
      ·exact absurd rfl q
     ·have v':(v==z)=false:=by simpa using v1
      rw[v'] at b;exact h u v a b
   ·rw[lW] at q;by_cases u1:u=z
    ·subst u1;simp at q;subst q;exact .inl (Nat.lt_succ_self _)
    ·have u':(u==z)=false:=by simpa using u1
     rw[u'] at q;exact(hl u a q).imp (λq=>qY q) id
  ·have hb:(k==NameKind.cell)=false:=by simpa using hk
   rw[if_neg (by rw[hb];decide)] at e1 e2;exact Oi r n acc x y c h hl e1 e2
theorem Oj:∀(names:List (Str×NameKind)) (n:Nat) (acc:List (Str×Addr)) (x:Str) (c:Addr),(x,NameKind.cell)∉names->acc.lookup x=some c->(cellsFrom n names acc).lookup x=some c
 |[],n,acc,x,c,_,e=>e
 |(z,k)::r,n,acc,x,c,h,e=>by
  rw[cellsFrom];have hr:(x,NameKind.cell)∉r:=λq=>h (dF _ q);by_cases hk:k=.cell
  ·subst hk;rw[if_pos cc];refine Oj r (n+1) _ x c hr ?_;have:x≠z:=λq=>h (by rw[q];exact dM);have z':(x==z)=false:=by simpa using this
   rw[lW,z'];exact e
  ·have hb:(k==NameKind.cell)=false:=by simpa using hk
   rw[if_neg (by rw[hb];decide)];exact Oj r n acc x c hr e
theorem Ol:∀(names:List (Str×NameKind)) (acc:List (Str×Addr)) (s:Shared) (Q:List (Str×Addr)->Shared->Prop),
  Q (cellsFrom s.heap.objs.size names acc) {s with heap:=pushCells s.heap names}->
  wpAny M A (forIn names acc λx (cells:List (Str×Addr))=>match x with
   |(name,kind)=>if (kind==NameKind.cell)=true then do
     let a <-alloc {cls:=Value.type "cell",data:=Data.cell none}
     pure (ForInStep.yield ((name,a)::cells))
    else pure (ForInStep.yield cells)) Q E s
 |[],acc,s,Q,h=>by
  rw[Jj];exact aG h
 |(z,k)::r,acc,s,Q,h=>by
  rw[Dz];rw[cellsFrom,pushCells] at h;by_cases hk:k=.cell
  ·subst hk;rw[if_pos cc,if_pos cc] at h;refine aq ?_;dsimp only;rw[if_pos cc];refine aq (wpAny_alloc (aG ?_));refine Ol r _ _ Q ?_;have sz:(s.heap.push {cls:=Value.type "cell",data:=Data.cell none}).objs.size=s.heap.objs.size+1:=by unfold Heap.push;simp
   rw[sz];exact h
  ·have hb:(k==NameKind.cell)=false:=by simpa using hk
   rw[if_neg (by rw[hb];decide),if_neg (by rw[hb];decide)] at h;refine aq ?_;dsimp only;rw[if_neg (by rw[hb];decide)];exact aG (Ol r _ _ Q h)
theorem zfY(old:∀x c,cl.lookup x=some c->c<s.heap.objs.size)(inj:∀x y c,cl.lookup x=some c->cl.lookup y=some c->x=y)
  (h:∀h1 iR,h1.Ns s.heap.objs.size (λ_=>none)->(∀b o,s.heap.get? b=some o->h1.get? b=some o)->mD s.heap.objs.size h1 scope.names cl iR->Q {scope:=scope,locals:=s.heap.objs.size,globals:=globals,cells:=iR,qual:=qual,func:=none,code:=env.code,frame:=env.frame,builtins:=env.builtins} {s with heap:=h1}) :
  wpAny M A (newFunctionEnv scope globals cl [] qual none .none (some env)) Q E s:=by
 unfold newFunctionEnv;refine aq (wpAny_alloc ?_);refine aq ?_;refine Ol scope.names cl _ _ ?_;dsimp only;rw[Jj];refine aq (aG (aG ?_));have sz:(s.heap.push {cls:=Value.type (if (some env).isSome=true then "dict" else "frame"),data:=Data.dict #[]}).objs.size=s.heap.objs.size+1:=by unfold Heap.push;simp
 refine h _ _ ?_ (λb o e=>FN _ _ _ _ (bR _ e)) ⟨λx c e=>?_,λx y c hc e1 e2=>?_,λx e=>?_,λx c hx e=>Oj _ _ _ x c hx e⟩
 ·refine⟨_,#[],_,FN _ _ _ _ (fW _ rfl),rfl,?_,λ_=>rfl⟩;intro e he;simp at he
 ·rcases Oh _ _ _ x c e with ⟨a,b⟩|⟨a,b,d⟩
  ·exact .inl ⟨a,b⟩
  ·rw[sz] at b;exact .inr ⟨a,by lia,d⟩
 ·exact Oi _ _ _ x y c (λu v a b=>inj u v c a b) (λu a q=>.inl (by rw[sz];exact qY (old u a q))) e1 e2
 ·have:=Ls scope.names (s.heap.push {cls:=Value.type (if (some env).isSome=true then "dict" else "frame"),data:=Data.dict #[]}).objs.size cl (.inl e);exact Ln.mp this
noncomputable def Cx.blk(X:Cx)(scope:Scope)(cl:List (Str×Addr))(N:List Str)(C:Addr)(s3:Shared)(H3:Hp)(fp:List Addr)(ak:List (Addr×Obj)):Cx where
 prog:=X.prog
 w:=X.w
 K:=X.K
 mg:=X.mg
 base:=X.base
 A:=X.A
 N:=N
 s₀:=s3
 H₀:=H3
 env:=compEnvC scope cl C X.env
 outer:=X.stack
 stack:=X.stack
 ex:=fp
 fn:=λx=>scope.names.lookup x==some .cell
 aj:=X.aj
 pn:=X.pn++ak
 xe:=λ_ _=>False
structure gY(sc scope:Scope):Prop where
 kind:scope.kind=.function
 cel:∀y∈scope.names,y.2=.cell->scope.names.lookup y.1=some .cell
 free:∀y∈scope.names,y.2=.free->sc.names.lookup y.1=some .cell\/sc.names.lookup y.1=some .free
 loc:∀y∈scope.names,y.2=.local->scope.names.lookup y.1=some .local
section
variable {X:Cx}{ak:List (Addr×Obj)}{Z:St}{H:Hp}{s:Shared}{scope:Scope}{cl:List (Str×Addr)}{N:List Str}{fp:List Addr}{ZY:St}
theorem zhT{h1:Heap}{t:Nat}{iR:List (Str×Addr)}(I:Inv X ak Z H s)(B:gY X.env.scope scope)(c1:∀x c,cl.lookup x=some c->X.env.cells.lookup x=some c)(c2:∀x∈scope.names,x.2=.free->∃c,cl.lookup x.1=some c)
  (f:∀b∈fp,gJ X ak H b) (fo:∀b∈fp,∃o,s.heap.get? b=some o) (hn:h1.Ns s.heap.objs.size (λ_=>none)) (kp:∀b o,s.heap.get? b=some o->h1.get? b=some o) (CN:mD s.heap.objs.size h1 scope.names cl iR)
  (hl:ZY.length=N.length) (hZ:∀(i:Nat) (x:Str) (v:V),N[i]?=some x->ZY[i]?=some (some v)->scope.names.lookup x=some .free/\∃j:Nat,X.N[j]?=some x/\Z[j]?=some (some v)) :
  Inv (X.blk scope iR N s.heap.objs.size s H fp ak) [] ZY H {s with heap:=h1,toks:=t}:=by
 have lt:∀b o,s.heap.get? b=some o->b≠s.heap.objs.size:=λb o q=>cP (bK q);have VB:∀b,b≠X.env.locals->b∉X.fs->b∉frs X.stack:=λb a c z=>(cV.mp (I.lq b z)).elim a c;have mem_of:∀x k,scope.names.lookup x=some k->(x,k)∈scope.names:=λx k q=>Bk q;have old:∀x c,cl.lookup x=some c->c<s.heap.objs.size:=λx c q=>by
  obtain⟨v,o,q1,q2⟩:=I.cell x c (c1 x c q);exact bK q1
 have VD:∀x,scope.names.lookup x=some .free->(x,NameKind.cell)∉scope.names:=λx q z=>by
  have:=B.cel _ z rfl;have this:scope.names.lookup x=some .cell:=this;rw[q] at this;cases this
 refine⟨⟨I.ok.mod,B.kind,I.ok.glob,I.ok.blt,bT _,λx y c a b=>?_,λx hx=>?_,λx c z q=>?_,I.ok.hd,I.ok.frames,.inl rfl,λb hb=>?_,I.bs,mV I.ok.xg I.sz,λb o q hb=>?_,λb hb=>VB b (f b hb).2.1 (f b hb).2.2.1,I.stack,I.iQ⟩,
  rfl,I.bare,Un.kept kp,⟨_,hn,λi x v e1 e2 e3=>?_⟩,λx c q=>?_,I.hok.fresh (bT _),λx c q=>?_,λp hp=>?_,I.hok.kept kp,hl⟩
 ·by_cases hc:s.heap.objs.size<c
  ·exact CN.d2 x y c hc a b
  ·rcases CN.d1 x c a with ⟨a1,_⟩|⟨_,a1,_⟩
   ·rcases CN.d1 y c b with ⟨b1,_⟩|⟨_,b1,_⟩
    ·exact I.ok.inj x y c (c1 x c a1) (c1 y c b1)
    ·exact absurd b1 hc
   ·exact absurd a1 hc
 ·have hx:(relabel scope X.env).names.lookup x=some .cell\/(relabel scope X.env).names.lookup x=some .free:=hx;have fr:scope.names.lookup x=some .cell\/scope.names.lookup x=some .free:=by
   rcases hx with hx|hx
   ·rcases Oe hx with z|⟨_,z⟩
    ·exact .inl z
    ·exact .inr z
   ·rcases Oe hx with z|⟨z,_⟩
    ·exact .inr z
    ·cases z
  rcases fr with fr|fr
  ·exact CN.d3 x fr
  ·obtain⟨c,hc⟩:=c2 (x,.free) (mem_of x _ fr) rfl;exact⟨c,CN.d4 x c (VD x fr) hc⟩
 ·rcases CN.d1 x c q with ⟨_,q1⟩|⟨_,q1,_⟩
  ·have z:(scope.names.lookup x==some NameKind.cell)=true:=z;exact absurd (mem_of x _ (by simpa using z)) q1
  ·exact wU q1
 ·obtain⟨o,q⟩:=fo b hb;refine⟨lt b o q,λx c z=>?_⟩;rcases CN.d1 x c z with ⟨q1,_⟩|⟨_,q1,_⟩
  ·exact(f b hb).2.2.2.2.1 x c (c1 x c q1)
  ·exact λe=>absurd (bK q) (by rw[<-e];exact DK.mpr (wU q1))
 ·obtain⟨_,_,_,z,_⟩:=f b hb;rcases z with z|z
  ·exact I.ok.rA b o q z
  ·exact absurd (fK (bK q) (mV I.ok.xg z)) (lZ _)
 ·obtain⟨fr,j,hj,hv⟩:=hZ i x v e1 e2;have hk:=B.free (x,.free) (mem_of x _ fr) rfl;obtain⟨m,hm,Om⟩:=I.loc;obtain⟨u,r,l⟩:=Om j x v hj hv (hk.elim (λz=>.inr (.inl z)) λz=>.inr (.inr z));obtain⟨c',jO⟩:=c2 (x,.free) (mem_of x _ fr) rfl;have jO:cl.lookup x=some c':=jO;refine⟨u,r,.inr ⟨Og fr,c',CN.d4 x c' (VD x fr) jO,?_⟩⟩;rcases l with ⟨k1,_⟩|⟨_,c,k2,oc,k3,k4⟩
  ·have k1:X.env.scope.names.lookup x=some .local:=k1;rcases hk with hk|hk
   ·have hk:X.env.scope.names.lookup x=some .cell:=hk;rw[k1] at hk;cases hk
   ·have hk:X.env.scope.names.lookup x=some .free:=hk;rw[k1] at hk;cases hk
  ·have e:=c1 x c' jO;rw[k2] at e;cases e;exact⟨oc,kp _ oc k3,k4⟩
 ·rcases CN.d1 x c q with ⟨q1,_⟩|⟨_,_,q1⟩
  ·obtain⟨v,o,q1,q2⟩:=I.cell x c (c1 x c q1);exact⟨v,o,kp c o q1,q2⟩
  ·exact⟨none,q1⟩
 ·rcases CN.d1 x c q with ⟨q1,_⟩|⟨_,q1,_⟩
  ·exact I.dH x c (c1 x c q1)
  ·exact I.hok.fresh (wU q1)
 ·have hp:p∈X.pn++ak:=by
   have z:p∈(X.pn++ak)++[]:=hp;simpa using z
  obtain⟨a1,a2,a3,a4,a5⟩:=I.pin p hp;exact⟨kp _ _ a1,a2,lt _ _ a1,VB _ a3 a4,a5⟩
theorem zdg(I:Inv X ak Z H s)(f:∀b∈fp,gJ X ak H b)(bU:Inv (X.blk scope cl N s.heap.objs.size s H fp ak) [] Z' H' s'):Inv X ak Z H' s':=
 I.call' (ch:=fp) bU.os bU.base bU.hok bU.bare λb hb=>by
  obtain⟨_,a2,_,a4,a5,a6⟩:=f b hb;exact⟨a4.imp id λz=>Bj z,a2,a5,a6⟩
theorem zcM{Z':St}{H':Hp}{s':Shared}{h2:Heap}{C:Addr}(bU:Inv X ak Z H' s')(hC:X.s₀.heap.objs.size<=C)(n1:H' C=none)(n2:C≠X.env.locals)(n3:∀x c,X.env.cells.lookup x=some c->c≠C)(n4:∀p∈X.pn++ak,p.1≠C)
  (sb:Heap.SameBut C s'.heap h2):Inv X ak Z H' {s' with heap:=h2}:=
 bU.turned (t':=s'.toks) (λb o z q=>(sb.2 b z).trans q) n1 n2 (.inr hC) n3 n4
end
noncomputable abbrev pB(ifs:List Expr)(env:Env):Sem Bool:=forIn ifs true λc r=>if r=true then do let ok <-isTrue c env (eval c env);pure (ForInStep.yield ok) else pure (ForInStep.yield r)
theorem zeY{prog:Program}{w:World}{A:Around}{R:Result->Shared->Prop}{s:Shared}{elt target iter:Expr}{ifs:List Expr}{scope:Scope}{pos:Pos}{it acc:Value}{env:Env}(V:Nat->Shared->Prop)
  (turn:∀n s,V n s->wpAny (model prog w) A (pyNext it) (λr s₁=>match r with
   |none=>R (.ok .next) s₁
   |some v=>wpAny (model prog w) A (letOwnedTupleGo target it v) (λ_ s₂=>wpAny (model prog w) A (assign target env v) (λ_ s₃=>
     wpAny (model prog w) A (pB ifs env) (λok s₄=>
      if ok=true then wpAny (model prog w) A (eval elt env) (λx s₅=>wpAny (model prog w) A (call (.builtin "list.append") [acc,x]) (λ_ s₆=>∃m,m<n/\V m s₆) (λ_ _=>False) s₅) (λ_ _=>False) s₄
      else ∃m,m<n/\V m s₄) (λ_ _=>False) s₃) (λ_ _=>False) s₂) (λ_ _=>False) s₁) (λ_ _=>False) s)
  (n:Nat) (h:V n s):codeAny (model prog w) A (.compLoop (.ListComp elt [⟨target,iter,ifs,0⟩] scope pos) 0 it acc env) R s:=by
 refine codeAny_loop rfl V (λn s hV=>?_) n h;show wpAny _ A ((compTurn (.ListComp elt [⟨target,iter,ifs,0⟩] scope pos) 0 it acc env).onRaise (λx=>do noteFrame x env;theTreesLotGoes x)) _ _ s;refine wpAny_noted ?_;rw[compTurn_list];refine aq (uy (aq (iC (turn n s hV) (λr s₁ h₁=>?_) λ_ _ z=>z.elim)));cases r with
 |none=>exact aG h₁
 |some v=>
  refine aq (iC h₁ (λ_ s₂ h₂=>?_) λ_ _ z=>z.elim);refine aq (iC h₂ (λ_ s₃ h₃=>aq (iC h₃ (λok s₄ h₄=>?_) λ_ _ z=>z.elim)) λ_ _ z=>z.elim);cases ok with
  |true=>
   simp only[if_true] at h₄ ⊢;exact aq (aq (iC h₄ (λx s₅ h₅=>aq (iC h₅ (λ_ s₆ h₆=>aG (aG ⟨rfl,h₆⟩)) λ_ _ z=>z.elim)) λ_ _ z=>z.elim))
  |false=>
   simp only[iz,gW] at h₄ ⊢;exact aG ⟨rfl,h₄⟩
def J1(X:Cx)(ifs:List Expr)(t:TT):Prop:=
 ∀(ak:List (Addr×Obj)) (s:Shared) (Z:St) (H:Hp) (Q:Bool->Hp->Prop),Inv X ak Z H s->t Z H Q->wpAny (model X.prog X.w) X.A (pB ifs X.env) (TP X ak Z Q) X.xe s
noncomputable def Oo:TT:=λ_ H Q=>Q true H
theorem zh8:J1 X [] Oo:=λ_ _ _ H _ I h=>wpAny_tests_nil ⟨H,I,h⟩
theorem ziD(h:PT X c t):J1 X [c] t:=λak s Z H Q I hq=>wpAny_tests_one (h ak s Z H Q I hq)
def FP(ZY:St->St)(g:TG)(tt:TT)(te:TE)(bU:It)(Z:St)(H:Hp)(Q:VK):Prop:=∀D,H D=none->∃W:Nat->Nat->St->Hp->Prop,(∃m,W 0 m (ZY Z) (upd H D (.lst [])))/\∀i m Z' H',W i m Z' H'->
 (bU.stop i H'/\Q (.ref D) H')\/(bU.go i H'/\∃N:St->Hp->Prop,(∀Z2 H2,N Z2 H2->∃m',m'<m/\W (i+1) m' Z2 H2)/\∀x H2,bU.yU i H' x H2->g x Z' H2 λZ3 H3=>tt Z3 H3 λok H4=>
  if ok=true then te Z3 H4 λy H5=>∃ys,H5 D=some (.lst ys)/\ys.length<sizeLine/\N Z3 (upd H5 D (.lst (ys++[y]))) else N Z3 H4)
section
variable {X:Cx}{elt tg iter:Expr}{ifs:List Expr}{scope:Scope}{pos:Pos}{N:List Str}{ZY:St->St}{wi:TI}{g:TG}{tt:TT}{te:TE}
structure Parts(X:Cx)(elt tg:Expr)(ifs:List Expr)(scope:Scope)(N:List Str)(g:TG)(tt:TT)(te:TE):Prop where
 tgt:∀cl C s3 H3 fp ak,PG (X.blk scope cl N C s3 H3 fp ak) tg g
 tst:∀cl C s3 H3 fp ak,J1 (X.blk scope cl N C s3 H3 fp ak) ifs tt
 el:∀cl C s3 H3 fp ak,PE (X.blk scope cl N C s3 H3 fp ak) elt te
theorem zeL(hc:X.aj=true)(B:gY X.env.scope scope)(P:Parts X elt tg ifs scope N g tt te)(hl:∀Z,(ZY Z).length=N.length)
  (hZ:∀(Z:St) (i:Nat) (x:Str) (v:V),N[i]?=some x->(ZY Z)[i]?=some (some v)->scope.names.lookup x=some .free/\∃j:Nat,X.N[j]?=some x/\Z[j]?=some (some v))
  {ak:List (Addr×Obj)} {s:Shared} {Z:St} {H:Hp} {Q:VK} {it:Addr} {fp:List Addr} {tn:Nat->Heap->Prop} {bU:It} (I:Inv X ak Z H s) (T:Turn X.prog X.w X.K tg bU fp it tn) (st:tn 0 s.heap) (f:∀b∈fp,gJ X ak H b) (h:FP ZY g tt te bU Z H Q)
  {cl:List (Str×Addr)} (c1:∀x c,cl.lookup x=some c->X.env.cells.lookup x=some c) (c2:∀x∈scope.names,x.2=.free->∃c,cl.lookup x.1=some c) {R:Value->Addr->Result->Shared->Prop} {E:Value->Shared->Prop}
  (k:∀D C s' H',Inv X ak Z H' s'->X.s₀.heap.objs.size<=C->H' C=none->C≠X.env.locals->(∀x c,X.env.cells.lookup x=some c->c≠C)->(∀p∈X.pn++ak,p.1≠C)->(∃m,s'.heap.Ns C m)->Q (.ref D) H'->R (.ref D) C (.ok .next) s') :
  wpAny (model X.prog X.w) X.A (newList []) (λacc s₃=>wpAny (model X.prog X.w) X.A (newFunctionEnv scope X.env.globals cl [] X.env.qual none .none (some X.env)) (λcenv s₄=>
   codeAny (model X.prog X.w) X.A (.compStart (.ListComp elt [⟨tg,iter,ifs,0⟩] scope pos) 0 (.ref it) acc {cenv with scope:=relabel scope X.env}) (R acc cenv.locals) s₄) E s₃) E s:=by
 refine mR ?_;have hD:H s.heap.objs.size=none:=I.hok.fresh (bT _);have I3:Inv X ak Z (upd H s.heap.objs.size (.lst [])) {s with heap:=s.heap.push {cls:=.type "list",dict:=none,data:=.seq ([]:List Value).toArray}}:=
  I.laid (t':=s.toks) (λb u q=>bR _ q) (bT _) ⟨nj _,[],0,.nil,fW _ rfl⟩
 have f3:∀b∈fp,gJ X ak (upd H s.heap.objs.size (.lst [])) b:=λb hb=>by
  obtain⟨a1,a2⟩:=f b hb;obtain⟨o,q,_⟩:=T.obj 0 _ st b hb;exact⟨by rw[cQ (cP (bK q))];exact a1,a2⟩
 have st3:tn 0 (s.heap.push {cls:=.type "list",dict:=none,data:=.seq ([]:List Value).toArray}):=T.keep _ _ _ st λb hb o q=>bR _ q;obtain⟨W,⟨m0,w0⟩,turn⟩:=h s.heap.objs.size hD;generalize hs3:({s with heap:=s.heap.push {cls:=.type "list",dict:=none,data:=.seq ([]:List Value).toArray}}:Shared)=s3 at *;have zy:tn 0 s3.heap:=by rw[<-hs3];exact st3
 generalize hH3:upd H s.heap.objs.size (.lst [])=H3 at *;refine zfY (λx c q=>by obtain⟨v,o,q1,_⟩:=I3.cell x c (c1 x c q);exact bK q1) (λx y c a b=>I3.ok.inj x y c (c1 x c a) (c1 y c b)) λh1 iR hn kp CN=>?_;have Oq:Inv (X.blk scope iR N s3.heap.objs.size s3 H3 fp ak) [] (ZY Z) H3 {s3 with heap:=h1}:=
  zhT (t:=s3.toks) I3 B c1 c2 f3 (λb hb=>let ⟨o,q,_⟩:=T.obj 0 _ zy b hb;⟨o,q⟩) hn kp CN (hl Z) (hZ Z)
 have VF:tn 0 h1:=T.keep _ _ _ zy λb hb o q=>kp b o q;have fY:∀{H':Hp},(∀b∈fp,H' b=none)->∀b∈fp,gJ (X.blk scope iR N s3.heap.objs.size s3 H3 fp ak) [] H' b:=λ{H'} z b hb=>by
  obtain⟨a1,a2,a3,a4,a5,a6⟩:=f3 b hb;obtain⟨o,q,_⟩:=T.obj 0 _ zy b hb;refine⟨z b hb,cP (bK q),λy=>(cV.mp (I3.lq b y)).elim a2 a3,.inl hb,λx c y=>?_,λp hp=>a6 p ?_⟩
  ·rcases CN.d1 x c y with ⟨q1,_⟩|⟨_,q1,_⟩
   ·exact a5 x c (c1 x c q1)
   ·exact λe=>absurd (bK q) (by rw[<-e];exact DK.mpr (wU q1))
  have y:p∈(X.pn++ak)++[]:=hp;simpa using y
 have loop:codeAny (model X.prog X.w) X.A (.compLoop (.ListComp elt [⟨tg,iter,ifs,0⟩] scope pos) 0 (.ref it) (.ref s.heap.objs.size) (compEnvC scope iR s3.heap.objs.size X.env)) (R (.ref s.heap.objs.size) s3.heap.objs.size) {s3 with heap:=h1}:=by
  refine zeY (λn s'=>∃i Z' H',Inv (X.blk scope iR N s3.heap.objs.size s3 H3 fp ak) [] Z' H' s'/\tn i s'.heap/\(∀b∈fp,H' b=none)/\W i n Z' H') ?_ m0 ⟨0,ZY Z,H3,Oq,VF,λb hb=>(f3 b hb).1,w0⟩;rintro n s5 ⟨i,Z5,H5,FQ,BW,Jy,w5⟩;rcases turn i n Z5 H5 w5 with ⟨stop,q⟩|⟨go,Nx,hN,step⟩
  ·refine aZ (T.done (X.blk scope iR N s3.heap.objs.size s3 H3 fp ak) rfl rfl rfl hc i [] s5 Z5 H5 _ FQ (fY Jy) BW stop) λr s6 ⟨hr,gO⟩=>?_;subst hr;have JX:=zdg I3 f3 gO;refine k s.heap.objs.size s3.heap.objs.size s6 H5 JX I3.sz gO.free (uz I3.lt) (λx c y z=>?_) (λp hp z=>?_) ?_ q
   ·obtain⟨v,qc⟩:=I3.cell x c y;exact absurd qc.lt (by rw[z];exact lZ _)
   ·exact absurd (bK (I3.pin p hp).1) (by rw[z];exact lZ _)
   ·obtain⟨m,hm,_⟩:=gO.loc;exact⟨m,hm⟩
  ·refine aZ (T.item (X.blk scope iR N s3.heap.objs.size s3 H3 fp ak) rfl rfl rfl hc i [] s5 Z5 H5 _ FQ (fY Jy) BW go) λr s6 hx=>vm hx λu hr h6=>?_;subst hr;refine aZ h6 λ_ s7 ⟨x,H7,lE,r7,y7,Ot,fr7⟩=>?_;have FT:=lE.pinned (fY fr7) (T.obj _ _ Ot);refine aZ (P.tgt iR s3.heap.objs.size s3 H3 fp ak _ s7 Z5 H7 x u _ FT r7 (step x H7 y7)) λ_ s8 ⟨Z8,H8,Ou,q8⟩=>?_;refine aZ (P.tst iR s3.heap.objs.size s3 H3 fp ak _ s8 Z8 H8 _ Ou q8) λok s9 hx=>vm hx λH9 FW q9=>?_;have again:∀{H':Hp} {s':Shared},Inv (X.blk scope iR N s3.heap.objs.size s3 H3 fp ak) ([]++jk fp s7.heap) Z8 H' s'->Nx Z8 H'->∃m,m<n/\∃i Z' H',Inv (X.blk scope iR N s3.heap.objs.size s3 H3 fp ak) [] Z' H' s'/\tn i s'.heap/\(∀b∈fp,H' b=none)/\W i m Z' H':=λ{H' s'} rQ n'=>by
    obtain⟨m',hm,w'⟩:=hN Z8 H' n';refine⟨m',hm,i+1,Z8,H',rQ.gj,T.keep _ _ _ Ot λb hb o e=>(rQ.pin (b,o) (m_ _ (m_ _ (Jx hb e)))).1,λb hb=>?_,w'⟩;obtain⟨o,e,d⟩:=T.obj _ _ Ot b hb;exact(rQ.pin (b,o) (m_ _ (m_ _ (Jx hb e)))).2.1
   cases ok with
   |false=>
    rw[if_neg R4] at q9 ⊢;exact again FW q9
   |true=>
    rw[if_pos rfl] at q9 ⊢;refine aZ (P.el iR s3.heap.objs.size s3 H3 fp ak _ s9 Z8 H9 _ FW q9) λv s10 ⟨y,H10,FZ,r10,ys,Ov,hz,q10⟩=>?_;refine aZ (ze5 (X:=(X.blk scope iR N s3.heap.objs.size s3 H3 fp ak)) _ s10 Z8 H10 (.ref s.heap.objs.size) [y] (.ref s.heap.objs.size) [v] (λ_ H'=>Nx Z8 H') FZ rfl (.cons r10 .nil) ⟨s.heap.objs.size,ys,y,rfl,rfl,Ov,hz,q10⟩) λ_ s11 hx=>dG hx λ_ H11 Ga _ q11=>again Ga q11
 exact codeAny_compStart_list loop (T.self _ 0 _ _ _ VF loop)
end
noncomputable def xJ(wi:TI)(ZY:St->St)(g:TG)(tt:TT)(te:TE):TE:=λZ H Q=>wi Z H λbU H1=>FP ZY g tt te bU Z H1 Q
section
variable {X:Cx}{elt tg iter:Expr}{ifs:List Expr}{scope:Scope}{pos spos py:Pos}{N:List Str}{ZY:St->St}{wi:TI}{g:TG}{tt:TT}{te:TE}{i:Nat}{y:Str}
theorem zhQ(I:Inv X ak Z H s)(B:gY X.env.scope scope):∃cl,closureFor scope X.env=pure cl/\(∀x c,cl.lookup x=some c->X.env.cells.lookup x=some c)/\∀x∈scope.names,x.2=.free->∃c,cl.lookup x.1=some c:=
 zeA λx hx hf=>I.ok.has x.1 (B.free x hx hf)
theorem zif(hc:X.aj=true)(B:gY X.env.scope scope)(hi:PI X tg iter wi)(P:Parts X elt tg ifs scope N g tt te)(hl:∀Z,(ZY Z).length=N.length)
  (hZ:∀(Z:St) (i:Nat) (x:Str) (v:V),N[i]?=some x->(ZY Z)[i]?=some (some v)->scope.names.lookup x=some .free/\∃j:Nat,X.N[j]?=some x/\Z[j]?=some (some v))
  (hs:∀x,foldedSetIterable iter X.env x=pure x:=by intro _;rfl):PE X (.ListComp elt [⟨tg,iter,ifs,0⟩] scope pos) (xJ wi ZY g tt te):=by
 intro ak s Z H Q I h;obtain⟨cl,jr,c1,c2⟩:=zhQ I B;rw[eval_ListComp];refine wpAny_comprehension_free (use:=none) rfl hs jr B.kind B.loc (aZ (hi ak s Z H _ I h) λxv s1 h1=>aZ h1 λitv s2 h2=>?_);obtain⟨it,fp,tn,bU,H2,e,I2,T,st2,f2,hq⟩:=h2;subst e;exact zeL hc B P hl hZ I2 T st2 f2 hq c1 c2 (R:=λacc C=>compPost (model X.prog X.w) X.A X.xe none (EP X ak Z Q) acc C) λD C s' H' rQ a b c d e ⟨m,hm⟩ q=>⟨m,hm,λh' sb=>⟨.ref D,H',zcM (Z':=Z) rQ a b c d e sb,rfl,q⟩⟩
end
end L2
namespace L2
open PySem PySem.Spec PyProof.Rows PySem.W
noncomputable def bQ{α:Type}(lt:Nat->Nat->Option Bool):KasT α->Option α
 |.ret a=>some a
 |.ask i j k=>match lt i j with
  |some b=>bQ lt (k b)
  |none=>none
theorem VG{α:Type}{lt:Nat->Nat->Option Bool}{cmp:Nat->Nat->(Bool->Shared->Prop)->Shared->Prop}{Q:α->Shared->Prop}{s:Shared}(hc:∀i j b C,lt i j=some b->C b s->cmp i j C s){a:α}(q:Q a s):∀{t:KasT α},bQ lt t=some a->t.kasWp cmp Q s
 |.ret a',h=>by
  unfold bQ at h;cases h;exact q
 |.ask i j k,h=>by
  unfold bQ at h;cases e:lt i j with
  |none=>rw[e] at h;cases h
  |some b=>
   rw[e] at h;exact hc i j b _ e (VG hc q h)
noncomputable def jT(vs:List Value)(p:Array Nat):Array Value:=if vs.length<2 then vs.toArray else List.toArray (p.toList.map λi=>vs.getD i Value.none)
section
variable {prog:Program}{w:World}{A:Around}{E:Value->Shared->Prop}{s:Shared}{κ:SortKind}{lt:Nat->Nat->Option Bool}{p:Array Nat}
theorem zch{a:Addr}{vs:List Value}{n:Nat}{P:PySem.Fin->Shared->Prop}(ho:s.heap.get? a=some (seqObj "list" vs.toArray n))(Ow:vs.length<64)
  (hk:2<=vs.length->∀(s':Shared) (Q:SortKind->Shared->Prop),(∀b o,b≠a->s.heap.get? b=some o->s'.heap.get? b=some o)->Q κ s'->wpAny (model prog w) A (keyKind' vs.toArray) Q E s')
  (hlt:2<=vs.length->∀(s':Shared) i j b C,(∀b o,b≠a->s.heap.get? b=some o->s'.heap.get? b=some o)->lt i j=some b->C b s'->kas_ask prog w A κ vs i j C s') (hr:2<=vs.length->bQ lt (kas_sort vs.length)=some p) (Ox:2<=vs.length->p.size=vs.length)
  (h:P (.done (.ret .none)) {s with heap:=sortedHeap s.heap a vs (jT vs p)}) :
  wpAny (model prog w) A (Builtin.«list.sort» ⟨[.ref a],[]⟩) P E s:=by
 rw[list_sort_plain];have ha:a<s.heap.objs.size:=bK ho;refine aq (listItems_at ho rfl ?_);refine aq (listUpdate_at ho rfl ?_ (by rw[cU,pR];lia) (nj _));obtain⟨e1,J3⟩ : ∃e1,(s.heap.update a (Obj.mapSeq λ_=>#[])).get? a=some (seqObj "list" #[] e1):=⟨_,get?_update_seq ho (λ_=>#[])⟩;refine aq (seqEpoch_at J3 rfl ?_);refine aq (wpAny_newTuple ?_ (by show vs.length<=_;rw[pR];lia));refine aq (wpAny_newList ?_ (nj _));refine jd ?_;have keep:∀b o,b≠a->s.heap.get? b=some o->(((s.heap.update a (Obj.mapSeq λ_=>(#[]:Array Value))).push (seqObj "tuple" vs.toArray 0)).push (seqObj "list" #[] 0)).get? b=some o:=λb o nb e=>
  bR _ (bR _ ((Heap.get?_update_ne _ _ _ _ nb).trans e))
 have J5:(((s.heap.update a (Obj.mapSeq λ_=>(#[]:Array Value))).push (seqObj "tuple" vs.toArray 0)).push (seqObj "list" #[] 0)).get? a=some (seqObj "list" #[] e1):=by
  rw[Heap.get?_push_ne _ _ _ (by rw[size_push',Heap.size_update];exact cP (qY ha)),Heap.get?_push_ne _ _ _ (by rw[Heap.size_update];exact cP ha)];exact J3
 show wpAny (model prog w) A _ P E {s with heap:=((s.heap.update a (Obj.mapSeq λ_=>#[])).push (seqObj "tuple" vs.toArray 0)).push (seqObj "list" #[] 0)};dsimp only;have jP:vs.toArray.size=vs.length:=by simp
 by_cases h2:vs.toArray.size<2
 ·rw[if_pos h2,if_pos h2];refine aq (aG ?_);rw[StateT.run_pure];refine aq (aG ?_);dsimp only;refine aq (seqEpoch_at J5 rfl ?_);refine aq (listUpdate_at J5 rfl ?_ (nj _) (by rw[Array.size_map];show (pairsOf vs).size<=_;rw[pairsOf_size,pR];lia));simp only[Bq,iz,gW];have e:((vs.toArray.zip vs.toArray).map (·.2))=jT vs p:=by
   unfold jT;rw[if_pos (by rw[jP] at h2;exact h2)];apply Array.toList_inj.mp;simp[List.map_snd_zip]
  refine aG ?_;have h':=h;rw[<-e] at h';exact h'
 ·rw[if_neg h2,if_neg h2];have h2':2<=vs.length:=by lia
  refine aq (hk h2' _ _ keep ?_);refine aq (iC (kat_run (κ:=κ) (ks:=vs) (vs:=vs) (G:=λp' s'=>p'=p/\s'={s with heap:=((s.heap.update a (Obj.mapSeq λ_=>#[])).push (seqObj "tuple" vs.toArray 0)).push (seqObj "list" #[] 0)})
   (Q:=λst' s'=>arrOf st'=p.map (kas_item (vs.toArray.zip vs.toArray))/\failedOf st'=none/\s'={s with heap:=((s.heap.update a (Obj.mapSeq λ_=>#[])).push (seqObj "tuple" vs.toArray 0)).push (seqObj "list" #[] 0)})
   rfl h2' Ow (λp' st' s' a1 a2 a3 a4=>⟨by rw[a2,a4.1],a3,a4.2⟩) (VG (λi j b C hl hC=>hlt h2' _ i j b C keep hl hC) ⟨rfl,rfl⟩ (hr h2'))) ?_ λ_ _ e=>e)
  rintro⟨⟨⟩,st'⟩ s' ⟨J6,hf,rfl⟩;dsimp only;have hout:=kat_snds (ks:=vs) (vs:=vs) rfl J6;have e:List.toArray (p.toList.map λi=>vs.getD i Value.none)=jT vs p:=by
   unfold jT;rw[if_neg gV]
  rw[hout,e];have hso:(jT vs p).size=vs.length:=by rw[<-e,cU,cg,I8,Ox h2']
  refine aq (seqEpoch_at J5 rfl ?_);refine aq (listUpdate_at J5 rfl ?_ (nj _) (by rw[hso,pR];lia));rw[hf];simp only[Bq,iz,gW];exact aG h
end
noncomputable def nM:List V->List V->Option Bool
 |[],ys=>some (decide (0<ys.length))
 |_::_,[]=>some false
 |.int x::xs,.int y::ys=>if x=y then nM xs ys else some (decide (x<y))
 |_::_,_::_=>none
theorem zj6{prog:Program}{w:World}{A:Around}{s:Shared}{fin:Bool}{C:Bool->Shared->Prop}{b:Bool}:∀{us ws:List V} {its jts:List Value} {i:Nat},Vals us its->Vals ws jts->nM us ws=some b->fin=decide (us.length<ws.length)->C b s->KatLex prog w A true fin C (its.zip jts) i s:=by
 intro us ws its jts i r1
 induction r1 generalizing ws jts i with
 |nil=>
  intro _ h hf hc;rw[List.zip_nil_left];unfold nM at h;cases h;rw[hf];exact kat_nil hc
 |@cons x u us its rx ri ih=>
  intro r2 h hf hc;cases r2 with
  |nil=>
   rw[List.zip_nil_right];unfold nM at h;cases h;rw[hf];exact kat_nil (by simpa using hc)
  |@cons y v ws jts ry rj=>
   rw[Bl];cases x with
   |int a=>
    cases y with
    |int c=>
     obtain⟨t,rfl⟩:=rx;obtain⟨t',rfl⟩:=ry;unfold nM at h;refine kat_cons (wpAny_eqBool_int ?_);by_cases e:a=c
     ·rw[if_pos e] at h;subst e;rw[wQ];exact kat_yes (ih rj h (by rw[hf];simp) hc)
     ·rw[if_neg e] at h;cases h;rw[show (a==c)=false by simpa using e];refine kat_no ?_;by_cases hi:i=0
      ·subst hi;exact oneLt_int hc
      ·rw[show (true&&i==0)=false by simpa using hi];exact kat_one _ _ (wpAny_lt_int hc)
    |_=>cases h
   |_=>cases y<;>cases h
theorem VH(r:Vals ys its):∀l:List Nat,Vals (l.map λi=>ys.getD i .non) (l.map λi=>its.getD i Value.none)
 |[]=>.nil
 |i::l=>by
  refine .cons ?_ (VH r l);cases e:ys[i]? with
  |some y=>
   obtain⟨u,e1,e2⟩:=r.get e;show RelV (ys.getD i .non) (its.getD i Value.none);rw[kW,kW,e,e1];exact e2
  |none=>
   have e1:its[i]?=none:=by rw[oV] at e ⊢;rw[<-r.length];exact e
   show RelV (ys.getD i .non) (its.getD i Value.none);rw[kW,kW,e,e1];rfl
section
variable {X:Cx}
theorem zga{prog:Program}{w:World}{A:Around}{E:Value->Shared->Prop}{s:Shared}{its fs:List Value}{Q:SortKind->Shared->Prop}(h2:2<=its.length)(hl:fs.length=its.length)(hi:∀u∈fs,∃i t,u=Value.int i t)(kt:KatTups s.heap its fs)(q:Q (tuples' true) s):wpAny (model prog w) A (keyKind' its.toArray) Q E s:=
 kat_kind (T:=.type "int") kt gV (λv hv=>by obtain⟨i,t,rfl⟩:=hi v hv;exact .of_pure rfl) R4 q
theorem Oz{its:List Value}{i:Nat}{u:Value}(h:its[i]?=some u):its.getD i Value.none=u:=by rw[kW,h];rfl
end
end L2
namespace L2
open PySem PySem.Spec PyProof.Rows PySem.W PySem.Calls PySem.Builtin PySem.Builtin.ObjectAttr
theorem VJ(self:Value):∀{l:List Value},aY l=true->refuseLoop self "__setattr__" l=pure ()
 |.ref c::r,e=>by rw[refuseLoop_ref];exact VJ self (by unfold aY at e;exact e)
 |[],e=>by cases e
 |.type n::r,e=>by
  have e':(Value.type n::r)=pW:=by unfold aY at e;exact iD.mp e
  rw[e'];exact PySem.F.store_ValueError.passes self
 |.none::r,e=>by unfold aY at e;cases (iD.mp e)
 |.bool _::r,e=>by unfold aY at e;cases (iD.mp e)
 |.int _ _::r,e=>by unfold aY at e;cases (iD.mp e)
 |.str _ _::r,e=>by unfold aY at e;cases (iD.mp e)
 |.bytes _ _::r,e=>by unfold aY at e;cases (iD.mp e)
 |.float _ _::r,e=>by unfold aY at e;cases (iD.mp e)
 |.builtin _::r,e=>by unfold aY at e;cases (iD.mp e)
theorem VL:∀{l:List Value},aY l=true->l.contains (.type "object")=true
 |.ref c::r,e=>by rw[Mf,VL (l:=r) (by unfold aY at e;exact e),Bool.or_true]
 |[],e=>by cases e
 |.type n::r,e=>by
  have e':(Value.type n::r)=pW:=by unfold aY at e;exact iD.mp e
  rw[e']
  decide
 |.none::r,e=>by unfold aY at e;cases (iD.mp e)
 |.bool _::r,e=>by unfold aY at e;cases (iD.mp e)
 |.int _ _::r,e=>by unfold aY at e;cases (iD.mp e)
 |.str _ _::r,e=>by unfold aY at e;cases (iD.mp e)
 |.bytes _ _::r,e=>by unfold aY at e;cases (iD.mp e)
 |.float _ _::r,e=>by unfold aY at e;cases (iD.mp e)
 |.builtin _::r,e=>by unfold aY at e;cases (iD.mp e)
section
variable {prog:Program}{w:World}{A:Around}{R:Result->Shared->Prop}{E:Value->Shared->Prop}{s:Shared}{K:W.Frag}{x C:Addr}{ox:Obj}{cd:ClassData}{name:Str}{v:Value}{mA:Str->Option Value}{ns:List Str}
theorem xK(hx:h.get? x=some ox)(hc:ox.cls=.ref C):Looks M h (typeOf (.ref x)) (.ref C):=by
 rw[<-hc];exact(Looks.ld hx).andThen .now
theorem OD(X:K.In s.heap)(hx:s.heap.get? x=some ox)(hc:ox.cls=.ref C)(rT:∀c,ox.data≠.cls c)(jr:clsIn K C=some cd)(hm:aY cd.mro=true)(rW:cd.hasDict=true)(ht:findIn K (.ref C) name=some none)
  (hd:(ox.dict=none/\∀n,mA n=none)\/∃dx,ox.dict=some dx/\dx≠x/\s.heap.Ns1 dx mA) (hw:Within mA ns) (jP:ns.length<=1000)
  (hq:∀h' tk' d,h'.get? x=some {ox with dict:=some d}->d≠x->h'.Ns1 d (λy=>if y=name then some v else mA y)->((ox.dict=none/\s.heap.objs.size<=d)\/ox.dict=some d)->(∀b o,b≠x->b≠d->s.heap.get? b=some o->h'.get? b=some o)->R (.ok (.ret .none)) {s with heap:=h',toks:=tk'}) :
  codeAny (model prog w) A (.call (.builtin "object.__setattr__") ⟨[.ref x,.str name tk,v],[]⟩) R s:=by
 have SF:=PySem.F.store_object;have ne:cd.mro.isEmpty=false:=by cases q:cd.mro with|nil=>rw[q] at hm;cases hm|cons _ _=>rfl
 have I:Looks (model prog w) s.heap (typeOf (.ref x)) (.ref C):=xK hx hc;have ao:Looks (model prog w) s.heap (isInstance (.ref x) (.type "object")) true:=I.andThen (looks_mroIn X (by unfold mroIn;rw[jr,Option.bind_some,if_neg (by rw[ne];decide),VL hm]));refine LQ SF.slot.plain SF.entry (@check_slot (model prog w) _ _ s "object.__setattr__" "object" "__setattr__" (.ref x) [.str name tk,v] [] _ SF.kind SF.split ao (SF.args (.ref x) (.str name tk) v) ?_);have zA:Looks (model prog w) s.heap (mroOf (.ref C)) cd.mro:=(looks_clsIn X jr).andThen .now;rw[osa_eq,refuse_eq];refine aq (aq (I.here (aq (zA.here ?_))));rw[VJ _ hm];refine aG (aq (I.here (aq ((Bw X ht).here (aq (aG ?_))))));obtain⟨oc,odi,oda,osl⟩:=ox;dsimp only at hc hd hq rT;subst hc;refine aq (aG (aq (aq (wpAny_loadPart hx (aq ((looks_clsIn X jr).here ?_))))));rw[rW];rcases hd with ⟨rfl,hn⟩|⟨dx,rfl,nx,n1⟩
 ·have hfr:=(Heap.get?_some_iff.mp hx).2;have hx₁:(s.heap.push {cls:=.type "dict",data:=.dict #[]}).get? x=some ⟨.ref C,none,oda,osl⟩:=bR _ hx;have OJ:x≠s.heap.objs.size:=cP (bK hx);have key:wpAny (model prog w) A.in1 (do
    let d <-alloc {cls:=Value.type "dict",data:=Data.dict #[]}
    update x λo=>{cls:=o.cls,dict:=some d,data:=o.data,slots:=o.slots}
    dictMade (Value.ref C) x d) (λa s'=>wpAny (model prog w) A.in1 (match a with
    |some d=>storeInDict d (Value.str name tk) name v
    |none=>noDictFor (Value.ref x) (Value.ref C) name (Option.isSome (none:Option Value)))
    (λfin s'=>match fin with
     |Fin.done f=>R (Except.ok f) s'
     |Fin.again c'=>c'.quiet=true/\codeAny (model prog w) A c' R s')
    (λe s'=>R (Except.error e) s') s') (λe s'=>R (Except.error e) s') s:=by
   refine aq (wpAny_alloc' ?_);refine aq (wpAny_update' hx₁ ?_);refine aG (a:=some s.heap.objs.size) ?_;have hgd:((s.heap.push {cls:=.type "dict",data:=.dict #[]}).update x λo=>{cls:=o.cls,dict:=some s.heap.objs.size,data:=o.data,slots:=o.slots}).get? s.heap.objs.size
    =some {cls:=.type "dict",data:=.dict #[]}:=
    (Heap.get?_update_ne _ _ _ _ OJ.symm).trans (Heap.get?_push_at rfl rfl)
   have uI:((s.heap.push {cls:=.type "dict",data:=.dict #[]}).update x λo=>{cls:=o.cls,dict:=some s.heap.objs.size,data:=o.data,slots:=o.slots}).Ns s.heap.objs.size (λ_=>none):=
    ⟨_,#[],_,hgd,rfl,λe he=>absurd he Zaa,λ_=>rfl⟩
   show wpAny _ _ (storeInDict s.heap.objs.size (.str name tk) name v) _ _ _;unfold storeInDict newKeyGuard;refine aq (aG (aq (wpAny_nsSet1 (Heap.Ns1.of_empty uI) λh' vA hs=>?_)));obtain⟨oD,esD,epD,O1,O2,O4⟩:=vA.count (Within.cons name v Within.nil);refine aq (wpAny_lookBehind O1 (by rw[O2];exact pastItsLine_dict (mV O4 (by rw[iB,q_,pR];lia))) ?_);refine aG (hq h' _ s.heap.objs.size ?_ OJ.symm ?_ (.inl ⟨rfl,bT _⟩) λb ob hbx _ hb=>?_)
   ·refine(hs.2 x OJ).trans (qU _ hx₁ ?_);cases oda<;>first|rfl|exact hfr
   ·obtain⟨o',es,ep,e1,e2,e3,eu,e4⟩:=vA;exact⟨o',es,ep,e1,e2,e3,eu,λy=>by rw[e4 y];by_cases hy:y=name<;>simp[hy,hn]⟩
   ·exact(hs.2 b (cP (bK hb))).trans ((Heap.get?_update_ne _ _ _ _ hbx).trans (bR _ hb))
  cases oda<;>first|exact key|exact absurd rfl (rT _)
 ·refine aG (a:=some dx) ?_;show wpAny _ _ (storeInDict dx (.str name tk) name v) _ _ _;unfold storeInDict newKeyGuard;refine aq (aG (aq (wpAny_nsSet1 n1 λh' vA hs=>?_)));obtain⟨oD,esD,epD,O1,O2,O4⟩:=vA.count (Within.cons name v hw);refine aq (wpAny_lookBehind O1 (by rw[O2];exact pastItsLine_dict (mV O4 (by rw[iB,pR];lia))) ?_);exact aG (hq h' _ dx ((hs.2 x nx.symm).trans hx) nx vA (.inr rfl) λb o _ nb e=>(hs.2 b nb).trans e)
theorem Gb(X:K.In s.heap)(hx:s.heap.get? x=some ox)(hc:ox.cls=.ref C)(rT:∀c,ox.data≠.cls c)(hs:findIn K (.ref C) "__setattr__"=some (some (.builtin "object.__setattr__")))(jr:clsIn K C=some cd)(hm:aY cd.mro=true)(rW:cd.hasDict=true)(ht:findIn K (.ref C) name=some none)
  (hd:(ox.dict=none/\∀n,mA n=none)\/∃dx,ox.dict=some dx/\dx≠x/\s.heap.Ns1 dx mA) (hw:Within mA ns) (jP:ns.length<=1000)
  (hq:∀h' tk' d,h'.get? x=some {ox with dict:=some d}->d≠x->h'.Ns1 d (λy=>if y=name then some v else mA y)->((ox.dict=none/\s.heap.objs.size<=d)\/ox.dict=some d)->(∀b o,b≠x->b≠d->s.heap.get? b=some o->h'.get? b=some o)->Q () {s with heap:=h',toks:=tk'}) :
  wpAny (model prog w) A (setAttr (.ref x) name v) Q E s:=by
 refine aq (wpAny_mkText (aq (aq (aq (xK hx hc _ _ _ _ (λ_ _ e=>e) (Bw X hs _ _ _ _ (λ_ _ e=>e) (jd ?_)))))));rw[PySem.F.store_object.slot.bind];refine aq (aG (aq (wX (OD (s:={s with toks:=s.toks+1}) X hx hc rT jr hm rW ht hd hw jP λh' tk' d a1 a2 a3 a4 a5=>?_))));exact aG (aG (hq h' tk' d a1 a2 a3 a4 a5))
end
end L2
namespace L2
open PySem PySem.Spec PyProof.Rows PySem.W PySem.Calls
noncomputable def vR:Stmt->Option (Str×Str×Str)
 |.Assign [.Attribute (.Name a _) x _] (.Name y _) _=>some (a,x,y)
 |_=>none
theorem ziJ{st:Stmt}{t:Str×Str×Str}(h:vR st=some t):∃p1 p2 p3 p4,st=.Assign [.Attribute (.Name t.1 p1) t.2.1 p2] (.Name t.2.2 p3) p4:=by
 unfold vR at h;split at h
 ·cases h;exact⟨_,_,_,_,rfl⟩
 ·cases h
noncomputable def gA(sf:Str):List Stmt->List Str->Bool
 |[],fs=>fs.isEmpty
 |st::rest,fs=>match fs with
  |[]=>false
  |f::fs=>vR st==some (sf,f,f)&&gA sf rest fs
theorem VN{sf f:Str}{fs:List Str}{body:List Stmt}(h:gA sf body (f::fs)=true):∃p1 p2 p3 p4 rest,body=.Assign [.Attribute (.Name sf p1) f p2] (.Name f p3) p4::rest/\gA sf rest fs=true:=by
 cases body with
 |nil=>cases h
 |cons st rest=>
  have h:(vR st==some (sf,f,f)&&gA sf rest fs)=true:=h;obtain⟨h1,h2⟩:=(cO _ _).mp h;obtain⟨p1,p2,p3,p4,e⟩:=ziJ (eq_of_beq h1);exact⟨p1,p2,p3,p4,rest,by rw[e],h2⟩
noncomputable def jt:List (Str×Value)->(Str->Option Value)->Str->Option Value
 |[],m=>m
 |(f,u)::r,m=>jt r (λy=>if y=f then some u else m y)
section
variable {prog:Program}{w:World}{K:W.Frag}{C e:Addr}{cd:ClassData}{env:Env}{m:Str->Option Value}{A:Around}{E:Value->Shared->Prop}{sf:Str}
theorem VP(hk:env.scope.kind=.function)(mF:m sf=some (.ref e))(lF:env.scope.names.lookup sf=some .local)(Gd:(sf==("__debug__" : Str))=false)(rY:findIn K (.ref C) "__setattr__"=some (some (.builtin "object.__setattr__")))(jr:clsIn K C=some cd)(hm:aY cd.mro=true)(rW:cd.hasDict=true)
  (Ge:∀b o,K.lookup b=some o->b≠e) (hL:env.locals≠e):∀(fs:List Str) (us:List Value) (body:List Stmt) (ox:Obj) (mA:Str->Option Value) (ns:List Str) (s:Shared) (Q:Flow->Shared->Prop),gA sf body fs=true->fs.length=us.length->
  (∀(i:Nat) f u,fs[i]?=some f->us[i]?=some u->m f=some u)->(∀f∈fs,env.scope.names.lookup f=some .local/\(f==("__debug__" : Str))=false/\findIn K (.ref C) f=some none)->
  K.In s.heap->s.heap.Ns env.locals m->s.heap.get? e=some ox->ox.cls=.ref C->(∀c,ox.data≠.cls c)->(∃dx,ox.dict=some dx/\dx≠e/\s.heap.Ns1 dx mA/\dx≠env.locals/\∀b o,K.lookup b=some o->b≠dx)->Within mA ns->ns.length+fs.length<=1000->
  (∀h' tk',h'.get? e=some ox->(∀dx,ox.dict=some dx->h'.Ns1 dx (jt (fs.zip us) mA))->(∀b o,b≠e->(∀dx,ox.dict=some dx->b≠dx)->s.heap.get? b=some o->h'.get? b=some o)->Q .next {s with heap:=h',toks:=tk'})->
  wpAny (model prog w) A (execs body env) Q E s
 |[],us,[],ox,mA,ns,s,Q,hb,hl,hv,hf,X,hN,he,hc,rT,⟨dx,h1,h2,h3,h4,h5⟩,hw,hz,q=>by
  cases us with
  |cons _ _=>cases hl
  |nil=>exact Jg (q s.heap s.toks he (λd hd=>by rw[h1] at hd;cases hd;exact h3) λb o _ _ e=>e)
 |[],us,st::rest,ox,mA,ns,s,Q,hb,_,_,_,_,_,_,_,_,_,_,_,_=>by
  cases hb
 |f::fs,[],body,ox,mA,ns,s,Q,hb,hl,_,_,_,_,_,_,_,_,_,_,_=>by cases hl
 |f::fs,u::us,body,ox,mA,ns,s,Q,hb,hl,hv,hf,X,hN,he,hc,rT,⟨dx,h1,h2,h3,h4,h5⟩,hw,hz,q=>by
  obtain⟨p1,p2,p3,p4,rest,rfl,xM⟩:=VN hb;obtain⟨k1,k2,k3⟩:=hf _ dM;have hu:=hv 0 _ _ rfl rfl;refine wpAny_execs_cons ?_;refine plainObj_wpAny_Assign_Attribute ?_ rfl;refine yH (Dm hk k1 hN hu ?_) k2;refine yH (Dm hk lF hN mF ?_) Gd;refine Gb (ns:=ns) X he hc rT rY jr hm rW k3 (.inr ⟨dx,h1,h2,h3⟩) hw gV λh' tk' d a1 a2 a3 a4 a5=>?_;have ed:d=dx:=by
   rcases a4 with ⟨z,_⟩|z
   ·rw[h1] at z;cases z
   ·rw[h1] at z;cases z;rfl
  subst ed;have eo:({ox with dict:=some d}:Obj)=ox:=by rw[<-h1]
  rw[eo] at a1;have X':K.In h':=λb o z=>a5 b o (Ge b o z) (h5 b o z) (X b o z);have O5:h'.Ns env.locals m:=let ⟨o,es,ep,e1,r⟩:=hN;⟨o,es,ep,a5 _ _ hL h4.symm e1,r⟩;refine VP hk mF lF Gd rY jr hm rW Ge hL fs us rest ox _ (f::ns) {s with heap:=h',toks:=tk'} Q xM (by simpa using hl) (λi f u e1 e2=>hv (i+1) f u (by simpa using e1) (by simpa using e2)) (λf hf'=>hf f (dF _ hf')) X' O5 a1 hc rT ⟨d,h1,h2,a3,h4,h5⟩ (Within.cons f u hw) (by simp at hz ⊢;lia) λh2' tk2 b1 b2 b3=>q h2' tk2 b1 (λdx' yP=>?_) λb o nb nd e'=>b3 b o nb nd (a5 b o nb (nd d h1) e');exact b2 dx' yP
theorem zc2(hk:env.scope.kind=.function)(mF:m sf=some (.ref e))(lF:env.scope.names.lookup sf=some .local)(Gd:(sf==("__debug__" : Str))=false)(rY:findIn K (.ref C) "__setattr__"=some (some (.builtin "object.__setattr__")))(jr:clsIn K C=some cd)(hm:aY cd.mro=true)(rW:cd.hasDict=true)
  (Ge:∀b o,K.lookup b=some o->b≠e) (hL:env.locals≠e) {f:Str} {fs:List Str} {u:Value} {us:List Value} {body:List Stmt} {ox:Obj} {s:Shared} {Q:Flow->Shared->Prop} (hb:gA sf body (f::fs)=true) (hl:fs.length=us.length) (hz:fs.length<=900)
  (hv:∀(i:Nat) g v,(f::fs)[i]?=some g->(u::us)[i]?=some v->m g=some v) (hf:∀g∈f::fs,env.scope.names.lookup g=some .local/\(g==("__debug__" : Str))=false/\findIn K (.ref C) g=some none)
  (X:K.In s.heap) (hN:s.heap.Ns env.locals m) (he:s.heap.get? e=some ox) (hc:ox.cls=.ref C) (rT:∀c,ox.data≠.cls c) (hd:ox.dict=none)
  (q:∀h' tk' d,s.heap.objs.size<=d->h'.get? e=some {ox with dict:=some d}->h'.Ns1 d (jt ((f::fs).zip (u::us)) λ_=>none)->(∀b o,b≠e->b≠d->s.heap.get? b=some o->h'.get? b=some o)->Q .next {s with heap:=h',toks:=tk'}) :
  wpAny (model prog w) A (execs body env) Q E s:=by
 obtain⟨p1,p2,p3,p4,rest,rfl,xM⟩:=VN hb;obtain⟨k1,k2,k3⟩:=hf _ dM;have hu:=hv 0 _ _ rfl rfl;refine wpAny_execs_cons ?_;refine plainObj_wpAny_Assign_Attribute ?_ rfl;refine yH (Dm hk k1 hN hu ?_) k2;refine yH (Dm hk lF hN mF ?_) Gd;refine Gb (ns:=[]) (mA:=λ_=>none) X he hc rT rY jr hm rW k3 (.inl ⟨hd,λ_=>rfl⟩) Within.nil (nj _) λh' tk' d a1 a2 a3 a4 a5=>?_;have fd:s.heap.objs.size<=d:=by
  rcases a4 with ⟨_,z⟩|z
  ·exact z
  ·rw[hd] at z;cases z
 have nd:∀b o,s.heap.get? b=some o->b≠d:=λb o z=>cP (fK (bK z) fd);have X':K.In h':=λb o z=>a5 b o (Ge b o z) (nd b o (X b o z)) (X b o z);have O5:h'.Ns env.locals m:=let ⟨o,es,ep,e1,r⟩:=hN;⟨o,es,ep,a5 _ _ hL (nd _ _ e1) e1,r⟩;have nL:d≠env.locals:=let ⟨o,es,ep,e1,r⟩:=hN;(nd _ _ e1).symm;refine VP hk mF lF Gd rY jr hm rW Ge hL fs us rest {ox with dict:=some d} _ [f] {s with heap:=h',toks:=tk'} Q xM hl (λi g v e1 e2=>hv (i+1) g v (by simpa using e1) (by simpa using e2)) (λg hg=>hf g (dF _ hg)) X' O5 a1 hc rT ⟨d,rfl,a2,a3,nL,λb o z=>nd b o (X b o z)⟩ (Within.cons f u Within.nil) (by simp;lia) λh2 tk2 b1 b2 b3=>q h2 tk2 d fd b1 (b2 d rfl) λb o n1 n2 z=>b3 b o n1 (λdx hx=>by cases hx;exact n2) (a5 b o n1 n2 z)
end
end L2
namespace PySem
open Sem (wp)
section
variable {prog:Program}{w:World}{A:Around}{E:Value->Shared->Prop}{h:Heap}{g:Array GenState}{d:Drawn}{t:Nat}{os:OsState}
variable {nm q:Str}{C N:Addr}{bs bm bmB:List Value}{hdct:Bool}{sn:List Str}{ao:List Value}{ab:Bool}{col:Option Bool}{dd:Option Addr}{k0 k1 k2 k3 k5:Option Value}{B Bn newId nid initId inN:String}{bmN:List Value}
theorem zaD(Fn:ExcBaseFacts Bn newId inN bmN)(Cd:bmB.contains (.type Bn)=true)(F:ExcBaseFacts B nid initId bmB)(T:OwnTail h bmB bm)
  (hC:h.get? C=some (excClassObj nm q C N bs bm hdct sn ao ab col dd k0 k1 k2 k3 k5 newId)) (hn:h.Ns N mN) (hi:mN "__init__"=some (.ref fI))
  (zB:h.get? fI=some oI) (Gf:oI.cls=.type "function")
  (hq:wpAny (model prog w) A (call (.ref fI) (.ref (h.objs.size+1)::rest)) (λr s'=>r=.none/\Q (.done (.ret (.ref (h.objs.size+1)))) s') E
   ⟨(h.push {cls:=.type "tuple",data:=.seq rest.toArray}).push {cls:=.ref C,data:=.fields #[.ref h.objs.size,.none,.none,.none,.bool false,.none]},g,d,t,os⟩) (hrest:rest.length<=sizeLine:=by size_fits) :
  wpAny (model prog w) A (Builtin.«type.__call__» ⟨.ref C::rest,[]⟩) Q E ⟨h,g,d,t,os⟩:=by
 repeat (first|with_reducible refine yE hC ?_|with_reducible refine wpAny_madeBy_exc hC ?_|wp_step)
 refine codeAny_call_builtin_code (Ja _ Fn.quiet) (wpAny_check_new_subU Fn Cd T hC ?_);refine codeAny_exc_new_subU Fn Cd F T hC ?_ hrest;show wpAny _ _ _ _ _ _;have hC₁:=bR {cls:=.ref C,data:=.fields #[.ref h.objs.size,.none,.none,.none,.bool false,.none]}
  (bR {cls:=.type "tuple",data:=.seq rest.toArray} hC)
 have zB₁:=bR {cls:=.ref C,data:=.fields #[.ref h.objs.size,.none,.none,.none,.bool false,.none]}
  (bR {cls:=.type "tuple",data:=.seq rest.toArray} zB)
 have hn₁:((h.push {cls:=.type "tuple",data:=.seq rest.toArray}).push {cls:=.ref C,data:=.fields #[.ref h.objs.size,.none,.none,.none,.bool false,.none]}).Ns N mN:=
  let ⟨o,es,ep,e,r⟩:=hn;⟨o,es,ep,bR _ (bR _ e),r⟩
 have qb:((h.push {cls:=.type "tuple",data:=.seq rest.toArray}).push
   {cls:=.ref C,data:=.fields #[.ref h.objs.size,.none,.none,.none,.bool false,.none]}).get? (h.objs.size+1)=some
   {cls:=.ref C,data:=.fields #[.ref h.objs.size,.none,.none,.none,.bool false,.none]}:=by heap_get
 have hcC:(Value.ref C::bm).contains (.ref C)=true:=by simp
 have T₁:=T.keeps (h':=(h.push {cls:=.type "tuple",data:=.seq rest.toArray}).push {cls:=.ref C,data:=.fields #[.ref h.objs.size,.none,.none,.none,.bool false,.none]})
  λb o e=>bR _ (bR _ e)
 unfold isInstance
 repeat (first|with_reducible refine yE qb ?_|(with_reducible refine I9 hC₁ ?_;rw[hcC])|wp_step)
 show wpAny _ _ (typeLookup (.ref C) _) _ _ _;refine wpAny_typeLookup_tail hC₁ hn₁ T₁ F.mroIs F.init.lookup ?_;rw[hi];refine jd (aq ?_);unfold bindSpecial;refine aq (wV (T:="function") ⟨_,zB₁,Gf⟩ ?_);rw[if_pos R4];refine aG (aq (iC hq (λr s' hr=>?_) λ_ _ x=>x));obtain⟨rfl,hQ⟩:=hr
 wp_walk
 exact hQ
theorem zaW(Fn:ExcBaseFacts Bn newId inN bmN)(Cd:bmB.contains (.type Bn)=true)(F:ExcBaseFacts B nid initId bmB)(T:OwnTail h bmB bm)
  (hC:h.get? C=some (excClassObj nm q C N bs bm hdct sn ao ab col dd k0 k1 k2 k3 k5 newId)) (hn:h.Ns N mN) (hi:mN "__init__"=some (.ref fI))
  (zB:h.get? fI=some oI) (Gf:oI.cls=.type "function")
  (hq:wpAny (model prog w) (A.under (.builtin "type.__call__" ⟨.ref C::rest,[]⟩)) (call (.ref fI) (.ref (h.objs.size+1)::rest)) (λr s'=>r=.none/\Q (.ref (h.objs.size+1)) s') E
   ⟨(h.push {cls:=.type "tuple",data:=.seq rest.toArray}).push {cls:=.ref C,data:=.fields #[.ref h.objs.size,.none,.none,.none,.bool false,.none]},g,d,t,os⟩) (hrest:rest.length<=sizeLine:=by size_fits) :
  wpAny (model prog w) A (call (.ref C) rest) Q E ⟨h,g,d,t,os⟩:=by
 have f1:=tc_lookup;have f2:=tc_bind (.ref C);have hT:(⟨h,g,d,t,os⟩ : Shared).TypeIs (.ref C) "type":=⟨_,hC,rfl⟩;refine wX (codeAny_of_tree ?_);show wpAny _ _ (callAny (.ref C) _) _ _ _
 repeat (any_goals (first|assumption|with_reducible refine yE hC ?_|wp_step))
 refine⟨rfl,?_⟩;refine codeAny_call_builtin_at (Ja _ Bd) entry_typeCall (wpAny_check_type_call_sub hC (zaD (hrest:=hrest) Fn Cd F T hC hn hi zB Gf ?_));exact hq
end
section
variable {prog:Program}{w:World}{A:Around}{E:Value->Shared->Prop}{s:Shared}{env:Env}
variable {nm q:Str}{C N:Addr}{bs bm bmB:List Value}{hdct:Bool}{sn:List Str}{ao:List Value}{ab:Bool}{col:Option Bool}{dd:Option Addr}{k0 k1 k2 k3 k5:Option Value}{B Bn newId nid initId inN:String}{bmN:List Value}
theorem O6(dz:bm.contains (.type "BaseException")=true)(hh:A.handled=none)
  (h:wpAny M A x (λv s₁=>∃e t dx,v=.ref e/\s₁.heap.get? C=some (excClassObj nm q C N bs bm hdct sn ao ab col dd k0 k1 k2 k3 k5 newId) /\
   s₁.heap.get? e=some {cls:=.ref C,dict:=dx,data:=.fields #[.ref t,.none,.none,.none,.bool false,.none]}/\E (.ref e) s₁) E s) :
  wpAny M A (raiseStmt env (some x) none) Q E s:=by
 have hcB:(Value.ref C::bm).contains (.type "BaseException")=true:=by rw[Mf,dz,Bool.or_true]
 unfold raiseStmt;refine aq (iC h (λv s₁ h₁=>?_) λ_ _ x=>x);obtain⟨e,t,dx,rfl,hC,he,hE⟩:=h₁;obtain⟨hp,g,d,tk,os⟩:=s₁
 repeat (first|with_reducible refine yE he ?_|with_reducible refine yE hC ?_|(with_reducible refine I9 hC ?_;rw[hcB])|wp_step)
 exact wpAny_raiseNew_none hh hE
theorem zaN(Fn:ExcBaseFacts Bn newId inN bmN)(Cd:bmB.contains (.type Bn)=true)(F:ExcBaseFacts B nid initId bmB){mN:Str->Option Value}{fI:Addr}{oI:Obj}{x:Str}{np cpos pos:Pos}{args:List Expr}{Q:Flow->Shared->Prop}
  (dz:bm.contains (.type "BaseException")=true) (hh:A.handled=none) (cJ:(backTo cpos (starEach args env)).any (·.1)=false) (hi:mN "__init__"=some (.ref fI)) (Gf:oI.cls=.type "function")
  (h:wpAny (model prog w) A (eval (.Name x np) env) (λf s₁=>f=.ref C/\wpAny (model prog w) A (evalArgs (.ref C) true (backTo cpos (starEach args env)) [])
   (λa s₂=>a.kw=[]/\a.pos.length<=sizeLine/\s₂.heap.get? C=some (excClassObj nm q C N bs bm hdct sn ao ab col dd k0 k1 k2 k3 k5 newId)/\s₂.heap.Ns N mN/\OwnTail s₂.heap bmB bm/\s₂.heap.get? fI=some oI /\
    wpAny (model prog w) (A.under (.builtin "type.__call__" ⟨.ref C::a.pos,[]⟩)) (call (.ref fI) (.ref (s₂.heap.objs.size+1)::a.pos)) (λr s'=>r=.none/\(∃dx t0,s'.heap.get? (s₂.heap.objs.size+1)=some {cls:=.ref C,dict:=dx,data:=.fields #[.ref t0,.none,.none,.none,.bool false,.none]})/\s'.heap.get? C=some (excClassObj nm q C N bs bm hdct sn ao ab col dd k0 k1 k2 k3 k5 newId)/\E (.ref (s₂.heap.objs.size+1)) s') E
     {s₂ with heap:=(s₂.heap.push {cls:=.type "tuple",data:=.seq a.pos.toArray}).push {cls:=.ref C,data:=.fields #[.ref s₂.heap.objs.size,.none,.none,.none,.bool false,.none]}}) E s₁) E s) :
  wpAny (model prog w) A (exec (.Raise (some (.Call (.Name x np) args [] cpos)) none pos) env) Q E s:=by
 rw[arm_exec_Raise]
 first
  |refine aq (uy (O6 (C:=C) (nm:=nm) (q:=q) (N:=N) (bs:=bs) (bm:=bm) (hdct:=hdct) (sn:=sn) (ao:=ao) (ab:=ab) (col:=col) (dd:=dd) (k0:=k0) (k1:=k1) (k2:=k2) (k3:=k3) (k5:=k5) (newId:=newId) dz hh (aq (iC (wpAny_Call_ofName (iC h (λf s₁ h₁=>?_) λ_ _ x=>x)) (λv s₃ h₃=>aq (uy (aG h₃))) λ_ _ x=>x))))
  |(simp only[evalOpt,Option.map];refine aq (uy (O6 (C:=C) (nm:=nm) (q:=q) (N:=N) (bs:=bs) (bm:=bm) (hdct:=hdct) (sn:=sn) (ao:=ao) (ab:=ab) (col:=col) (dd:=dd) (k0:=k0) (k1:=k1) (k2:=k2) (k3:=k3) (k5:=k5) (newId:=newId) dz hh (aq (iC (wpAny_Call_ofName (iC h (λf s₁ h₁=>?_) λ_ _ x=>x)) (λv s₃ h₃=>aq (uy (aG h₃))) λ_ _ x=>x)))))
  |(refine aq (uy (O6 (C:=C) (nm:=nm) (q:=q) (N:=N) (bs:=bs) (bm:=bm) (hdct:=hdct) (sn:=sn) (ao:=ao) (ab:=ab) (col:=col) (dd:=dd) (k0:=k0) (k1:=k1) (k2:=k2) (k3:=k3) (k5:=k5) (newId:=newId) dz hh ?_));refine aq (iC (wpAny_Call_ofName (iC h (λf s₁ h₁=>?_) λ_ _ x=>x)) (λv s₃ h₃=>aq (uy (aG h₃))) λ_ _ x=>x))
 obtain⟨rfl,h₁⟩:=h₁;unfold callWith;refine aq (jd (iC h₁ (λa s₂ h₂=>aq (uy ?_)) λ_ _ x=>x));obtain⟨apos,akw⟩:=a;obtain⟨hkw,hlen,hC,hn,T,zB,h₂⟩:=h₂;obtain rfl:akw=[]:=hkw;obtain⟨hp,g,d,tk,os⟩:=s₂;simp only[cJ];refine aq (wpAny_keeperOf_exc hC ?_);refine aq (zaW (hrest:=hlen) Fn Cd F T hC hn hi zB Gf (iC h₂ (λr s' hr=>?_) λ_ _ x=>x));obtain⟨rfl,⟨dx,t0,ht⟩,hC',hE⟩:=hr;exact⟨rfl,aq (jd (wpAny_point (aG ⟨_,t0,dx,rfl,hC',ht,hE⟩)))⟩
end
end PySem
namespace L2
open PySem PySem.Spec PyProof.Rows PySem.W PySem.Calls
theorem O7{α:Type}:∀{l:List (Str×α)} {f:Str} {u:α},(l.map (·.1)).Nodup->(f,u)∈l->l.lookup f=some u
 |(g,v)::r,f,u,hn,hm=>by
  rw[jE,qI] at hn;rw[lW];rcases cV.mp hm with e|hm
  ·cases e;simp
  ·have:f≠g:=λz=>hn.1 (by rw[<-z];exact fZ.mpr ⟨(f,u),hm,rfl⟩);rw[show (f==g)=false by simpa using this];exact O7 hn.2 hm
theorem VR{α:Type}{fs:List Str}{us:List α}{i:Nat}{f:Str}{u:α}(h1:fs[i]?=some f)(h2:us[i]?=some u):(f,u)∈fs.zip us:=by
 refine jD (i:=i) ?_;exact(List.getElem?_zip_eq_some (z:=(f,u))).mpr ⟨h1,h2⟩
theorem V0{α:Type}{fs:List Str}{us:List α}(h:fs.length=us.length):(fs.zip us).map (·.1)=fs:=by
 rw[List.map_fst_zip]
 lia
theorem zet{α:Type}{fs:List Str}{us:List α}(hn:fs.Nodup)(hl:fs.length=us.length){i:Nat}{f:Str}{u:α}(h1:fs[i]?=some f)(h2:us[i]?=some u):(fs.zip us).reverse.lookup f=some u:=by
 refine O7 ?_ (List.mem_reverse.mpr (VR h1 h2));rw[List.map_reverse,V0 hl,List.Nodup,List.pairwise_reverse];exact List.Pairwise.imp (λh=>h.symm) hn
theorem V1:∀{l:List (Str×Value)} {m:Str->Option Value} {f:Str},(l.map (·.1)).Nodup->jt l m f=match l.lookup f with|some u=>some u|none=>m f
 |[],m,f,_=>rfl
 |(g,v)::r,m,f,hn=>by
  rw[jE,qI] at hn;unfold jt;rw[V1 hn.2,lW];by_cases e:f=g
  ·subst e;have:r.lookup f=none:=by
    cases z:r.lookup f with
    |none=>rfl
    |some u=>
     exfalso
     apply hn.1;clear hn
     induction r with
     |nil=>cases z
     |cons p r ih=>
      rw[lW] at z;by_cases e:f=p.1
      ·rw[e];exact dM
      ·rw[show (f==p.1)=false by simpa using e] at z;exact dF _ (ih z)
   rw[this];simp
  ·rw[show (f==g)=false by simpa using e,if_neg e]
theorem zgw{fs:List Str}:∀{vs:List V} {us:List Value},Vals vs us->∀f,yM ((fs.zip vs).lookup f) ((fs.zip us).lookup f):=by
 induction fs with
 |nil=>intro vs us _ f;exact trivial
 |cons g r ih=>
  intro vs us h f;cases h with
  |nil=>exact trivial
  |cons h t=>
   rw[Bl,Bl,lW,lW];by_cases e:f=g
   ·rw[show (f==g)=true by simpa using e];exact h
   ·rw[show (f==g)=false by simpa using e];exact ih t f
theorem zhe{K:Frag}{h:Heap}{C fI:Addr}(XI:K.In h)(q:je K C fI=true) :
  ∃bm N nm qn bs hdct sn ao ab col dd k0 k1 k2 k3 k5 mN,h.get? C=some (excClassObj nm qn C N bs bm hdct sn ao ab col dd k0 k1 k2 k3 k5 "ValueError.__new__")/\h.Ns N mN/\mN "__init__"=some (.ref fI)/\OwnTail h pW bm:=by
 unfold je at q;split at q
 ·rename_i dd cd sl lk;split at q
  ·rename_i C' bm k0 k1 k2 k3 nw k5 em es;simp only[cO,iD,Mj] at q;obtain⟨⟨⟨⟨⟨rfl,rfl⟩,xO⟩,tl⟩,V2⟩,V3⟩:=q;obtain⟨nm,bs,mro,ns,qn,hd,sn,ao,ab,col,del⟩:=cd;dsimp only at em xO V2 V3;subst em xO;have esl:sl=#[k0,k1,k2,k3,some (.builtin "ValueError.__new__"),k5]:=by
    obtain⟨ll⟩:=sl;simp only at es;rw[es]
   subst esl;have V4:h.Ns ns (h.nsMap ns):=.of_isNs (isNs_of_in XI V2);refine⟨bm,ns,nm,qn,bs,hd,sn,ao,ab,col,dd,k0,k1,k2,k3,k5,_,XI _ _ lk,V4,?_,tail_of_in XI tl⟩;exact nO XI V4 V3
  ·cases q
 ·cases q
where
 nO {K:Frag} {h:Heap} {N:Addr} {x:Str} {v:Value} {m:Str->Option Value} (X:K.In h) (G:h.Ns N m) (e:nsIn K N x=some (some v)):m x=some v:=by
  obtain⟨o,es,ep,ho,hd,_,hf⟩:=G;unfold nsIn at e;split at e
  ·rename_i c d es' n' sl q;have:=X _ _ q;rw[ho] at this;cases this;cases hd;rw[<-hf x];split at e
   ·rename_i z;cases e;unfold nsFind findBy;rw[<-Array.find?_toList,z];rfl
   ·split at e<;>cases e
  ·cases e
structure ju(K:Frag)(C:Addr)(ar:Arguments)(bd:List Stmt)(sc:Scope)(fs:List Str):Prop where
 ex:∃(fI:Addr) (od:Option Addr) (kV doc pm:Value) (an:Option Addr) (cdv ct:Value) (osl:Array (Option Value)) (qual:Str) (cd:ClassData),
  K.lookup fI=some ⟨.type "function",od,.func (fnOf "__init__" qual ar bd sc .none kV doc pm an cdv ct),osl⟩/\codeIn K cdv qual=true/\je K C fI=true/\clsIn K C=some cd/\aY cd.mro=true/\cd.hasDict=true /\
  (∀us:List Value,us.length=fs.length+1->bindArgs (fnOf "__init__" qual ar bd sc .none kV doc pm an cdv ct) ⟨us,[]⟩=pure ((("self" : Str)::fs).zip us))
 set:findIn K (.ref C) "__setattr__"=some (some (.builtin "object.__setattr__"))
 nd:("self"::fs:List Str).Nodup
 ne:fs≠[]
 few:fs.length<=900
 body:gA "self" bd fs=true
 nP:∀x∈sc.names,x.2≠.cell
 loc:∀f∈("self"::fs:List Str),sc.names.lookup f=some .local/\(f==("__debug__" : Str))=false
 fld:∀f∈fs,findIn K (.ref C) f=some none
 co:sc.isCoroutine=false
 gen:sc.isGenerator=false
 kind:sc.kind=.function
section
variable {X:Cx}{EX:XS}{C:Addr}{ar:Arguments}{bd:List Stmt}{sc:Scope}{fs:List Str}{t:TA}{x:Str}{p apos pos:Pos}{e:Expr}{es:List Expr}
noncomputable def vU(EX:XS)(C:Addr)(fs:List Str)(t:TA):TS:=λ_ Z H=>t Z H λvs H1=>vs.length=fs.length/\vs.length<=sizeLine/\∀d,H1 d=none->EX Z (.ref C) (some d) (upd H1 d (.xd (fs.zip vs)))
theorem zf1{k:Nat}(hr:bO k X.A)(hc:X.aj=true)(IO:ju X.K C ar bd sc fs)(hg:Gl X x)(hm:X.mg x=some (.ref C))
  (R:Raises X EX) (ha:PA X (e::es) t) (lB:(x==("__debug__" : Str))=false:=by decide) (he:starEach (e::es) X.env=(false,eval e X.env)::starEach es X.env:=by rfl) (bN:(backTo apos (starEach es X.env)).any (·.1)=false:=by rfl) :
  PS X (.Raise (some (.Call (.Name x p) (e::es) [] apos)) none pos) (vU EX C fs t):=by
 intro ak s Z H D I h;obtain⟨fI,od,kV,doc,pm,an,cdv,ct,osl,qual,cd,lk,lA,hX,jr,Gg,rW,rK⟩:=IO.ex;obtain⟨bm,N,nm,qn,bs,hdct,sn,ao,ab,col,dd,k0,k1,k2,k3,k5,mN,hC,hN,Gh,T⟩:=zhe I.mod.yK hX;refine zaN (C:=C) (nm:=nm) (q:=qn) (N:=N) (bs:=bs) (bm:=bm) (hdct:=hdct) (sn:=sn) (ao:=ao) (ab:=ab) (col:=col) (dd:=dd) (k0:=k0) (k1:=k1) (k2:=k2) (k3:=k3) (k5:=k5) (bmB:=pW)
  Lj Bd Lj (mN:=mN) (fI:=fI) (T.hasType Lj.hasBase) (I.ok.hd hc) (by rw[he];show (false||(backTo apos (starEach es X.env)).any (·.1))=false;rw[bN];rfl) Gh (oI:=⟨.type "function",od,.func (fnOf "__init__" qual ar bd sc .none kV doc pm an cdv ct),osl⟩) rfl (Js I hg hm ⟨rfl,?_⟩ lB)
 have h2:=ha apos ak s Z H _ I h;rw[he] at h2 ⊢;refine Calls.evalArgs_plain (aZ h2 λus s2 ⟨vs,H2,I2,r,hl,z,q⟩=>⟨rfl,by rw[<-r.length];exact z,I2.bk _ _ hC,hN.keeps I2.bk,T.keeps I2.bk,I2.o8 _ _ lk,?_⟩);have Ce:us.length=fs.length:=by rw[<-r.length];exact hl
 dsimp only;generalize hS:({s2 with heap:=(s2.heap.push {cls:=.type "tuple",data:=.seq us.toArray}).push {cls:=.ref C,data:=.fields #[.ref s2.heap.objs.size,.none,.none,.none,.bool false,.none]}}:Shared)=s3;have Gi:s3.heap.objs.size=s2.heap.objs.size+2:=by rw[<-hS];simp[qJ]
 have rZ:∀b o,s2.heap.get? b=some o->s3.heap.get? b=some o:=λb o q=>by rw[<-hS];exact bR _ (bR _ q)
 have he3:s3.heap.get? (s2.heap.objs.size+1)=some {cls:=.ref C,data:=.fields #[.ref s2.heap.objs.size,.none,.none,.none,.bool false,.none]}:=by
  rw[<-hS];have:=fW (s2.heap.push {cls:=.type "tuple",data:=.seq us.toArray}) (o:={cls:=.ref C,data:=.fields #[.ref s2.heap.objs.size,.none,.none,.none,.bool false,.none]}) rfl;rw[qJ] at this;exact this
 have O8:X.K.In s3.heap:=I2.o8.keeps rZ;have O9:s3.heap.NoLimit:=I2.nolimit.keeps rZ;have nK:∀b o,X.K.lookup b=some o->b≠s2.heap.objs.size+1:=λb o q=>cP (qY (bK (I2.o8 b o q)));have hlen:("self"::fs:List Str).length=(Value.ref (s2.heap.objs.size+1)::us).length:=by simp[Ce]
 refine wX (codeAny_call_def (fd:=fnOf "__init__" qual ar bd sc .none kV doc pm an cdv ct) (binds:=(("self" : Str)::fs).zip (Value.ref (s2.heap.objs.size+1)::us)) (by have:=hr.dp;show X.A.depth+(Code.builtin "type.__call__" {pos:=Value.ref C::us}).weight<recursionLimit;have w:(Code.builtin "type.__call__" {pos:=Value.ref C::us}).weight<=1:=(by show (Code.builtin "type.__call__" {pos:=Value.ref C::us}).weight<=1;first|exact bT _|exact nj _|exact Ly (by kernel_rfl)|(simp[Code.weight,Code.frames,Code.isGuard,Code.isCaller]));lia) (O8 _ _ lk) rfl O9 (codeRec_of O8 lA) rfl
  (.of_eq (rK _ (by simp[Ce]))) IO.nP (λy hy=>(IO.loc y.1 (Jh hy).1).1) (λh₀ Fw O_=>?_) IO.co IO.gen IO.kind)
 obtain⟨f0,fr,rfl⟩ : ∃f0 fr,fs=f0::fr:=by
  cases hfs:fs with
  |nil=>exact absurd hfs IO.ne
  |cons a b=>exact⟨a,b,rfl⟩
 obtain⟨u0,ur,rfl⟩ : ∃u0 ur,us=u0::ur:=by
  cases hus:us with
  |nil=>rw[hus] at Ce;cases Ce
  |cons a b=>exact⟨a,b,rfl⟩
 have get:∀(i:Nat) g v,("self"::f0::fr:List Str)[i]?=some g->(Value.ref (s2.heap.objs.size+1)::u0::ur)[i]?=some v->((("self" : Str)::f0::fr).zip (Value.ref (s2.heap.objs.size+1)::u0::ur)).reverse.lookup g=some v:=λi g v e1 e2=>zet IO.nd hlen e1 e2;refine zc2 (K:=X.K) (C:=C) (cd:=cd) (sf:="self") (e:=s2.heap.objs.size+1) (m:=λx=>((("self" : Str)::f0::fr).zip (Value.ref (s2.heap.objs.size+1)::u0::ur)).reverse.lookup x) (fs:=fr) (us:=ur) (ox:={cls:=.ref C,data:=.fields #[.ref s2.heap.objs.size,.none,.none,.none,.bool false,.none]})
  IO.kind (get 0 _ _ rfl rfl) (IO.loc _ dM).1 (IO.loc _ dM).2 IO.set jr Gg rW nK (uz (by show _<s3.heap.objs.size;rw[Gi];lia)) IO.body (by simpa using Ce.symm) (by have:=IO.few;simp at this;lia)
  (λi g v e1 e2=>get (i+1) g v (by simpa using e1) (by simpa using e2)) (λg hg=>⟨(IO.loc g (dF _ hg)).1,(IO.loc g (dF _ hg)).2,IO.fld g hg⟩)
  (O8.keeps O_) Fw (O_ _ _ he3) rfl (λc z=>by cases z) rfl λh' tk' d hd a1 a2 a3=>?_
 have hd3:s3.heap.objs.size<=d:=by
  refine mV ?_ hd;by_cases z:h₀.objs.size<s3.heap.objs.size
  ·exfalso
   have e1:=Fw.lt;exact absurd (Nat.lt_trans e1 z) (lZ _)
  ·exact Dw z
 have lG:∀b o,s2.heap.get? b=some o->h'.get? b=some o:=λb o q=>a3 b o (cP (qY (bK q))) (cP (fK (bK q) (by rw[Gi] at hd3;lia))) (O_ _ _ (rZ _ _ q));have hne:d≠s2.heap.objs.size+1:=by lia
 have und:H2 d=none:=I2.hok.fresh gV;refine⟨rfl,⟨some d,_,a1⟩,lG _ _ (I2.bk _ _ hC),?_⟩;have new:aR X.prog X.w (upd H2 d (.xd ((f0::fr).zip vs))) h' d (.xd ((f0::fr).zip vs)):=⟨_,a2,λf=>by
  rw[V1 (by rw[V0 Ce.symm];exact(qI.mp IO.nd).2)];have:=zgw (fs:=f0::fr) r f
  revert this
  cases ((f0::fr).zip (u0::ur)).lookup f<;>exact id⟩
 have I3:Inv X ak Z (upd H2 d (.xd ((f0::fr).zip vs))) {s3 with heap:=h',toks:=tk'}:=by
  have:=I2.laid (t':=tk') lG gV new;rw[<-hS];exact this
 have une:upd H2 d (.xd ((f0::fr).zip vs)) (s2.heap.objs.size+1)=none:=by
  rw[cQ (Ne.symm hne)];exact I2.hok.fresh (Nat.le_succ _)
 refine R ak Z _ _ s2.heap (s2.heap.objs.size+1) C (some d) I3 (λb ob z n=>I2.base.there b ob z n) (λq hq=>⟨q.2,(I2.pin q hq).1⟩) (λb ob z=>⟨ob,lG b ob z⟩) ⟨Bj (Nat.le_succ _),une,_,_,_,a1,rfl,rfl,rfl,rfl,.inl rfl⟩ (q d und)
end
section
variable {prog:Program}{w:World}{A:Around}{E:Value->Shared->Prop}{s:Shared}{K:Frag}{x C:Addr}{ox:Obj}{od:Option Obj}{name:Str}
theorem zgh{v:Value}{Q:Value->Shared->Prop}(XI:K.In s.heap)(I:InstAt s.heap x ox C od)(hb:mroIn K C (.type "BaseException")=some true)(Oc:findIn K (.ref C) "__getattribute__"=some (some (.builtin "BaseException.__getattribute__")))
  (Od:findIn K (.ref C) "__getattr__"=some none) (hf:findObj K C od name=some (.value v)) (h:wpAny (model prog w) A (handedOut v) Q E {s with toks:=s.toks+1}) :
  wpAny (model prog w) A (getAttr (.ref x) name true) Q E s:=by
 obtain⟨hh,g,d,t,os⟩:=s;have L0:=I.type (M:=model prog w);have L1:=Bw (M:=model prog w) XI Oc;have L2:=Bw (M:=model prog w) XI Od;have vQ:(Value.builtin "BaseException.__getattribute__"==Value.builtin "object.__getattribute__")=false:=by decide +kernel
 unfold getAttr getAttrBy;refine aq (wpAny_mkText (jd (aq (L0.at (aq (L1.at ?_))))));show wpAny _ _ (if (onTheHeap (.ref C)&&(Value.builtin "BaseException.__getattribute__"==Value.builtin "object.__getattribute__"))=true then _ else getAttrByItsOwn _ _ _ _ _ _) _ _ _;rw[vQ,Bool.and_false,if_neg R4];unfold getAttrByItsOwn hookBefore callGetattribute boundAndCalled;refine aq (L2.at ?_);refine aq (Bv (jd (aq (yG (F.attr_ValueError.ga.bind (.ref x)) ?_))));refine wX (Vy XI I hb hf ?_);exact h
end
structure XF(K:Frag)(C:Addr)(f:Str):Prop where
 ga:findIn K (.ref C) "__getattribute__"=some (some (.builtin "BaseException.__getattribute__"))
 gn:findIn K (.ref C) "__getattr__"=some none
 mb:mroIn K C (.type "BaseException")=some true
 no:findIn K (.ref C) f=some none
 hd:hasDictIn K C=true
theorem handed{M:Model}{A:Around}{E:Value->Shared->Prop}{s:Shared}{x:V}{u:Value}{Q:Value->Shared->Prop}(r:RelV x u)(h:Q u s):wpAny M A (handedOut u) Q E s:=by
 cases x with
 |non=>cases (show u=Value.none from r);exact aG h
 |bl b=>cases (show u=Value.bool b from r);exact aG h
 |int i=>obtain⟨t,rfl⟩:=r;exact aG h
 |str i=>obtain⟨t,rfl⟩:=r;exact aG h
 |Jp i=>obtain⟨t,rfl⟩:=r;exact aG h
 |flt i=>obtain⟨t,rfl⟩:=r;exact aG h
 |ref a=>cases (show u=Value.ref a from r);exact aG h
 |ty n=>cases (show u=Value.type n from r);exact aG h
theorem zeb{h:Heap}{d:Addr}{mA:Str->Option Value}(n:h.Ns1 d mA):∃o,h.get? d=some o/\∀f v,mA f=some v->lookIn f o=some (some v):=by
 obtain⟨o,es,ep,ho,hd,hk,hu,hf⟩:=n;refine⟨o,ho,λf v e=>?_⟩;unfold lookIn;rw[hd];dsimp only;have e':=(hf f).trans e;unfold nsFind findBy at e';rw[<-Array.find?_toList] at e';cases z:es.toList.find? (·.key.isStr f) with
 |none=>
  have e2:(List.find? (λx=>x.key.isStr f) es.toList).map (·.val)=some v:=e';rw[z] at e2;cases e2
 |some en=>
  have e2:(List.find? (λx=>x.key.isStr f) es.toList).map (·.val)=some v:=e';rw[z] at e2;cases e2;rfl
section
variable {X:Cx}{e:Expr}{f:Str}{pos:Pos}{ta:TE}
noncomputable def tXf(K:Frag)(ta:TE)(f:Str):TE:=λZ H Q=>ta Z H λx H1=>∃a C dx fs v,x=.ref a/\H1 a=some (gM a C (some dx))/\H1 dx=some (.xd fs)/\XF K C f/\fs.lookup f=some v/\Q v H1
theorem zl3(he:PE X e ta)(hb:attributeBase e f X.env (eval e X.env)=eval e X.env):PE X (.Attribute e f pos) (tXf X.K ta f):=by
 intro ak s Z H Q I h;refine ziF hb (aZ (he ak s Z H _ I h) λu s1 ⟨x,H1,I1,rx,a,C,dx,fs,v,ex,ea,ed,c,l,q⟩=>?_);subst ex;obtain rfl:u=Value.ref a:=rx;obtain⟨⟨oe,vs,q1,c1,d1,f1⟩,_,_⟩:=(show aR X.prog X.w H1 s1.heap a (gM a C (some dx)) from I1.hok a _ ea);obtain⟨mA,n1,rl⟩:=(show aR X.prog X.w H1 s1.heap dx (.xd fs) from I1.hok dx _ ed);have rf:=rl f;rw[l] at rf;cases em:mA f with
 |none=>rw[em] at rf;exact rf.elim
 |some uv=>
  rw[em] at rf;obtain⟨od,ho,Om⟩:=zeb n1;have IA:InstAt s1.heap a oe C (some od):=⟨q1,c1,by obtain⟨_,_,_,_⟩:=oe;cases f1;rfl,by rw[d1];exact ho⟩;refine zgh I1.o8 IA c.mb c.ga c.gn (findObj_own c.hd c.no rfl (Om f uv em)) (handed rf ?_);exact⟨v,H1,I1.kept (t':=s1.toks+1) λb o z=>z,rf,q⟩
end
end L2
namespace L2
open PySem PySem.Spec PyProof.Rows
section
variable {X:Cx}{ak:List (Addr×Obj)}{Z:St}{H:Hp}{s:Shared}{h':Heap}
theorem Inv.qd{t':Nat}{ch:List Addr}{a:Addr}{o:HO}(I:Inv X ak Z H s)(k:∀b u,b∉ch->s.heap.get? b=some u->h'.get? b=some u)(hf:∀b∈ch,gJ X ak H b)(ha:s.heap.objs.size<=a)(new:aR X.prog X.w (upd H a o) h' a o) :
  Inv X ak Z (upd H a o) {s with heap:=h',toks:=t'}:=by
 have xq:∀b u,H b=some u->b∉ch:=λb u e z=>by rw[(hf b z).1] at e;cases e
 have hn:H a=none:=I.hok.fresh ha;have na:∀b u,H b=some u->b≠a:=λb u e z=>by rw[z,hn] at e;cases e
 have la:∀b u,s.heap.get? b=some u->b≠a:=λb u e=>cP (fK (bK e) ha);refine I.step (g':=s.gens) (d':=s.drawn) (ch:=ch) (λb hb=>?_) (λb o _ _ hc e _=>k b o hc e) (λb o _ _ hc e _=>⟨o.slots,k b o hc e⟩) (λb o' _ e n=>by rw[cQ (la b o' e)];exact n)
  (λb o hc e=>⟨o,k b o hc e⟩) (λb xs e=>by rw[cQ (na b _ e)];exact e) (λb o u e=>by rw[cQ (na b _ e)];exact e) (λb ps e=>⟨#[],by rw[cQ (na b _ e),e];simp⟩) (λm hm=>?_) (λb u e=>?_) I.bare
 ·obtain⟨f0,f1,f2,f3,f4,f5⟩:=hf b hb;exact⟨f3.imp id λz=>Bj z,f1,f4,f5⟩
 ·obtain⟨o,es,ep,ho,r⟩:=hm;exact⟨o,es,ep,k _ o (λz=>(hf _ z).2.1 rfl) ho,r⟩
 ·by_cases z:b=a
  ·subst z;rw[jN] at e;cases e;exact new
  ·rw[cQ z] at e;refine(I.hok b u e).stay (λc v hc q=>k c v ?_ q) (λc q=>by rw[cQ (na c _ q)];exact q) λc _ q=>by rw[cQ (na c _ q)];exact q
   rcases hc with y|y
   ·rw[y];exact xq b u e
   ·exact xq c _ y
theorem Inv.vV{t':Nat}{ch:List Addr}(I:Inv X ak Z H s)(k:∀b u,b∉ch->s.heap.get? b=some u->h'.get? b=some u)(hf:∀b∈ch,gJ X ak H b):Inv X ak Z H {s with heap:=h',toks:=t'}:=by
 have xq:∀b u,H b=some u->b∉ch:=λb u e z=>by rw[(hf b z).1] at e;cases e
 refine I.step (g':=s.gens) (d':=s.drawn) (ch:=ch) (λb hb=>?_) (λb o _ _ hc e _=>k b o hc e) (λb o _ _ hc e _=>⟨o.slots,k b o hc e⟩) (λ_ _ _ _ n=>n)
  (λb o hc e=>⟨o,k b o hc e⟩) (λ_ _ e=>e) (λ_ _ _ e=>e) (λb ps e=>⟨#[],by rw[e];simp⟩) (λm hm=>?_) (λb u e=>?_) I.bare
 ·obtain⟨f0,f1,f2,f3,f4,f5⟩:=hf b hb;exact⟨f3.imp id λz=>Bj z,f1,f4,f5⟩
 ·obtain⟨o,es,ep,ho,r⟩:=hm;exact⟨o,es,ep,k _ o (λz=>(hf _ z).2.1 rfl) ho,r⟩
 ·refine(I.hok b u e).stay (λc v hc q=>k c v ?_ q) (λ_ q=>q) λ_ _ q=>q;rcases hc with y|y
  ·rw[y];exact xq b u e
  ·exact xq c _ y
end
structure mX(prog:Program)(w:World)(it src:Addr)(st:Nat->Heap->Prop)(its:Array Value):Prop where
 item:∀(A:Around) (E:Value->Shared->Prop) (s:Shared) (i:Nat) (x:Value) (Q:Value->Shared->Prop),st i s.heap->its[i]?=some x->(∀h',st (i+1) h'->Heap.SameBut it s.heap h'->Q x {s with heap:=h'})->wpAny (model prog w) A (Builtin.SmallTypes.nextOf (.ref it)) Q E s
 fin:∀(A:Around) (E:Value->Shared->Prop) (s:Shared) (i:Nat) (Q:Value->Shared->Prop),A.handled=none->st i s.heap->its[i]?=none->(∀h' e,Heap.ExtBut it s.heap h'->(∃o,h'.get? e=some o/\o.cls=.type "StopIteration")->E (.ref e) {s with heap:=h'})->wpAny (model prog w) A (Builtin.SmallTypes.nextOf (.ref it)) Q E s
 keep:∀i h h',st i h->(∀b o,b=it\/b=src->h.get? b=some o->h'.get? b=some o)->st i h'
theorem mX.list(hne:l≠it):mX prog w it l (λi h=>h.IsListIter it l i/\h.IsList l its) its where
 item:=λA E s i x Q ⟨h1,h2⟩ hx q=>wpAny_nextOf_list_item h1 h2 hx λh' a sb=>q h' ⟨a,h2.at λo e=>(sb.2 l hne).trans e⟩ sb
 fin:=λA E s i Q hh ⟨h1,h2⟩ hx q=>wpAny_nextOf_list_end hh h1 h2 hx q
 keep:=λi h h' ⟨h1,h2⟩ k=>⟨h1.at λo e=>k it o (.inl rfl) e,h2.at λo e=>k l o (.inr rfl) e⟩
theorem V5(l:Addr):¬((Value.ref l==Value.none)=true):=λz=>by cases (show false=true from z)
theorem IsTupleIter.at'{h h':Heap}{it l:Addr}{i:Nat}(x:h.IsTupleIter it l i)(k:∀o,h.get? it=some o->h'.get? it=some o):h'.IsTupleIter it l i:=by
 obtain⟨o,e,r⟩:=x;exact⟨o,k o e,r⟩
theorem IsTuple.at'{h h':Heap}{l:Addr}{xs:Array Value}(x:h.IsTuple l xs)(k:∀o,h.get? l=some o->h'.get? l=some o):h'.IsTuple l xs:=by
 obtain⟨o,e,r⟩:=x;exact⟨o,k o e,r⟩
section
variable {prog:Program}{w:World}{A:Around}{E:Value->Shared->Prop}{s:Shared}{it l:Addr}{i:Nat}{its:Array Value}
theorem zeh{x:Value}{Q:Value->Shared->Prop}(hi:s.heap.IsTupleIter it l i)(hl:s.heap.IsTuple l its)(hx:its[i]?=some x)(q:∀h',h'.IsTupleIter it l (i+1)->Heap.SameBut it s.heap h'->Q x {s with heap:=h'}) :
  wpAny (model prog w) A (Builtin.SmallTypes.nextOf (.ref it)) Q E s:=by
 obtain⟨oi,ei,ci,di⟩:=id hi;obtain⟨ol,el,_,nl,dl⟩:=hl;unfold Builtin.SmallTypes.nextOf;refine aq (wL (name:=Str.ofString "__next__") hi.typeIs Iw (qZ Iw hi.typeIs F.entry_tuple_iterator_next ?_ (F.args_tuple_iterator_next_1 _)));show wpAny _ A.in1 (field (.ref it) 0 >>= _) _ E s;refine aq (jF ei di (x:=.ref l) rfl ?_);show wpAny _ A.in1 (if (Value.ref l==Value.none)=true then _ else _) _ E s;rw[if_neg (V5 l)];show wpAny _ A.in1 (field (.ref it) 1 >>= _) _ E s;refine aq (jF ei di (x:=.int i 0) rfl ?_);show wpAny _ A.in1 (seqItems? (.ref l) >>= _) _ E s;refine aq (ux el dl ?_);simp only[Bp,hx];refine aq (wR ei di Zaa (aG ⟨x,rfl,aG (q _ ⟨_,qU _ ei (IV (u9 di _)),(Obj.cls_mapFields ..).trans ci,?_⟩ (yC ..))⟩));rw[u9 di];simp[rawInt]
theorem zfe{Q:Value->Shared->Prop}(hh:A.handled=none)(hi:s.heap.IsTupleIter it l i)(hl:s.heap.IsTuple l its)(hx:its[i]?=none)(q:∀h' e,Heap.ExtBut it s.heap h'->(∃o,h'.get? e=some o/\o.cls=.type "StopIteration")->E (.ref e) {s with heap:=h'}) :
  wpAny (model prog w) A (Builtin.SmallTypes.nextOf (.ref it)) Q E s:=by
 obtain⟨oi,ei,ci,di⟩:=id hi;obtain⟨ol,el,_,nl,dl⟩:=hl;unfold Builtin.SmallTypes.nextOf;refine aq (wL (name:=Str.ofString "__next__") hi.typeIs Iw (qZ Iw hi.typeIs F.entry_tuple_iterator_next ?_ (F.args_tuple_iterator_next_1 _)));show wpAny _ A.in1 (field (.ref it) 0 >>= _) _ E s;refine aq (jF ei di (x:=.ref l) rfl ?_);show wpAny _ A.in1 (if (Value.ref l==Value.none)=true then _ else _) _ E s;rw[if_neg (V5 l)];show wpAny _ A.in1 (field (.ref it) 1 >>= _) _ E s;refine aq (jF ei di (x:=.int i 0) rfl ?_);show wpAny _ A.in1 (seqItems? (.ref l) >>= _) _ E s;refine aq (ux el dl ?_);simp only[Bp,hx];refine aq (BK (aq (wR ei di Zaa ?_)));show wpAny _ A.in1 (newExc (.type "StopIteration") [] >>= _) _ E _;refine aq ?_;simp only[newExc,newTuple];refine aq (mR (aq (m:=firstArgMember _ _) (yG (a:=Value.none) (by first|rfl|(simp only[firstArgMember];rfl)) (mR ?_ (by size_fits)))) (by size_fits));simp only[raiseNew];refine aq (wpAny_handled ?_);rw[show A.in1.handled=none from hh];exact aq (aG (wpAny_throw (q _ _ (((yC ..).extBut.push _).push _) ⟨_,fW _ rfl,rfl⟩)))
end
theorem mX.tuple{prog:Program}{w:World}{it l:Addr}{its:Array Value}(hne:l≠it):mX prog w it l (λi h=>h.IsTupleIter it l i/\h.IsTuple l its) its where
 item:=λA E s i x Q ⟨h1,h2⟩ hx q=>zeh h1 h2 hx λh' a sb=>q h' ⟨a,IsTuple.at' h2 λo e=>(sb.2 l hne).trans e⟩ sb
 fin:=λA E s i Q hh ⟨h1,h2⟩ hx q=>zfe hh h1 h2 hx q
 keep:=λi h h' ⟨h1,h2⟩ k=>⟨IsTupleIter.at' h1 λo e=>k it o (.inl rfl) e,IsTuple.at' h2 λo e=>k l o (.inr rfl) e⟩
structure lH(z TI TO i1 i2 l1 l2:Addr):Prop where
 zs:z≠TI/\z≠TO/\z≠i1/\z≠i2/\z≠l1/\z≠l2
 os:TO≠TI/\TO≠i1/\TO≠i2/\TO≠l1/\TO≠l2
 is:TI≠i1/\TI≠i2/\i1≠i2/\i1≠l1/\i1≠l2/\i2≠l1/\i2≠l2
section
variable {prog:Program}{w:World}{A:Around}{E:Value->Shared->Prop}{s:Shared}{z TI TO i1 i2 l1 l2:Addr}{st1 st2:Nat->Heap->Prop}{xs ys:Array Value}{k:Nat}{a b:Value}
theorem zgT(N1:mX prog w i1 l1 st1 xs)(N2:mX prog w i2 l2 st2 ys)(D:lH z TI TO i1 i2 l1 l2)(hz:IsZip s.heap z TI TO .none)(Pa:IsPair s.heap TI (.ref i1) (.ref i2))(Pb:IsPair s.heap TO a b)
  (h1:st1 k s.heap) (h2:st2 k s.heap) (hx:xs[k]?=some x) (hy:ys[k]?=some y)
  (q:∀h',IsZip h' z TI TO (rawInt s.heap.objs.size)->IsPair h' TO x y->st1 (k+1) h'->st2 (k+1) h'->IsPair h' s.heap.objs.size x y->h'.objs.size=s.heap.objs.size+1->(∀c o,c≠z->c≠TO->c≠i1->c≠i2->s.heap.get? c=some o->h'.get? c=some o)->Q (some (.ref s.heap.objs.size)) {s with heap:=h'}) :
  wpAny (model prog w) A (pyNext (.ref z)) Q E s:=by
 obtain⟨⟨z1,z2,z3,z4,z5,z6⟩,⟨t1,t2,t3,t4,t5⟩,⟨j1,j2,j3,j4,j5,j6,j7⟩⟩:=D;have hT:s.TypeIs (.ref z) "zip":=⟨_,hz,rfl⟩;unfold pyNext;refine aq (Bv (wL (name:=Str.ofString "__next__") hT Ji (qZ Ji hT F.entry_zip_next ?_ (F.args_zip_next_1 _))));show wpAny _ A.in1 (field (.ref z) 2 >>= _) _ _ s;refine aq (jF hz rfl (x:=.bool false) rfl ?_);show wpAny _ A.in1 (field (.ref z) 3 >>= _) _ _ s;refine aq (jF hz rfl (x:=.ref TI) rfl (aq (ux Pa rfl ?_)));show wpAny _ A.in1 (Builtin.SmallTypes.ownedTupleIsFree (.ref z) >>= _) _ _ s;refine aq ?_;unfold Builtin.SmallTypes.ownedTupleIsFree;refine aq (jF hz rfl (x:=.none) rfl (aG ?_));simp only[if_true];refine aq (BK (aq (jF hz rfl (x:=.ref TO) rfl (aq (Bm hz Zaa λha za sa=>aq ?_)))))
 replace za:IsZip ha z TI TO .ellipsis:=za
 simp only[List.zipIdx_cons,List.zipIdx_nil,Dz,Jj];refine aq (aq (wpAny_onRaise ?_));show wpAny _ A.in1 (Builtin.SmallTypes.nextOf (.ref i1) >>= _) _ _ _;refine aq (N1.item _ _ {s with heap:=ha} k x _ (N1.keep _ _ _ h1 λc o hc e=>sa.extBut c o (by rcases hc with rfl|rfl;exact z3.symm;exact z5.symm) e) hx λhb V6 sb=>aG ?_);have tb:IsPair hb TO a b:=sb.extBut _ _ t2 (sa.extBut _ _ z2.symm Pb);refine aq (ux tb rfl (aq (LR tb λhc tc sc=>aq (wpAny_letGo (aG ?_)))))
 replace tc:IsPair hc TO x b:=tc
 refine aq (aq (wpAny_onRaise ?_));show wpAny _ A.in1 (Builtin.SmallTypes.nextOf (.ref i2) >>= _) _ _ _;have k2:st2 k hc:=N2.keep _ _ _ h2 λc o jO e=>by
  rcases jO with rfl|rfl
  ·exact sc.extBut _ _ t3.symm (sb.extBut _ _ j3.symm (sa.extBut _ _ z4.symm e))
  ·exact sc.extBut _ _ t5.symm (sb.extBut _ _ j5.symm (sa.extBut _ _ z6.symm e))
 have k1:st1 (k+1) hc:=N1.keep _ _ _ V6 λc o jO e=>by
  rcases jO with rfl|rfl
  ·exact sc.extBut _ _ t2.symm e
  ·exact sc.extBut _ _ t4.symm e
 refine aq (N2.item _ _ {s with heap:=hc} k y _ k2 hy λhd sd2 sd=>aG ?_);have td:IsPair hd TO x b:=sd.extBut _ _ t3 tc;refine aq (ux td rfl (aq (LR td λhe te se=>aq (wpAny_letGo (aG (aG ?_))))))
 replace te:IsPair he TO x y:=te
 refine aq (ux te rfl (aq (wpAny_newTuple ?_)));have size:he.objs.size=s.heap.objs.size:=by rw[se.1,sd.1,sc.1,sb.1,sa.1]
 have ze:IsZip he z TI TO .ellipsis:=se.extBut _ _ z2 (sd.extBut _ _ z4 (sc.extBut _ _ z2 (sb.extBut _ _ z3 za)));have kept:∀c o,c≠z->c≠TO->c≠i1->c≠i2->s.heap.get? c=some o->he.get? c=some o:=λc o c1 c2 c3 c4 e=>se.extBut _ _ c2 (sd.extBut _ _ c4 (sc.extBut _ _ c2 (sb.extBut _ _ c3 (sa.extBut _ _ c1 e))));have e1:st1 (k+1) he:=N1.keep _ _ _ k1 λc o jO e=>by
  rcases jO with rfl|rfl
  ·exact se.extBut _ _ t2.symm (sd.extBut _ _ j3 e)
  ·exact se.extBut _ _ t4.symm (sd.extBut _ _ j6.symm e)
 have e2:st2 (k+1) he:=N2.keep _ _ _ sd2 λc o jO e=>by
  rcases jO with rfl|rfl
  ·exact se.extBut _ _ t3.symm e
  ·exact se.extBut _ _ t5.symm e
 show wpAny _ A.in1 (Builtin.SmallTypes.ownedTupleHandOut (.ref z) (.ref he.objs.size) >>= _) _ _ _;refine aq ?_;unfold Builtin.SmallTypes.ownedTupleHandOut;have zf:IsZip (he.push {cls:=.type "tuple",data:=.seq #[x,y]}) z TI TO .ellipsis:=bR _ ze;refine aq (Bm zf Zaa λhg zg sg=>Bm zg Zaa λhh zh sh=>aG ⟨_,rfl,aG ?_⟩)
 replace zh:IsZip hh z TI TO (rawInt he.objs.size):=zh
 have up:∀c o,c≠z->he.get? c=some o->hh.get? c=some o:=λc o c1 e=>sh.extBut _ _ c1 (sg.extBut _ _ c1 (bR _ e));have lz:z<he.objs.size:=bK ze;have tn:IsPair hh he.objs.size x y:=sh.extBut _ _ (uz lz) (sg.extBut _ _ (uz lz) (fW _ rfl));have sz:hh.objs.size=he.objs.size+1:=by rw[sh.1,sg.1,qJ]
 rw[size] at zh tn sz;show Q (some (.ref he.objs.size)) _;rw[size];exact q hh zh (up _ _ z2.symm te) (N1.keep _ _ _ e1 λc o jO e=>up c o (by rcases jO with rfl|rfl;exact z3.symm;exact z5.symm) e) (N2.keep _ _ _ e2 λc o jO e=>up c o (by rcases jO with rfl|rfl;exact z4.symm;exact z6.symm) e) tn sz λc o c1 c2 c3 c4 e=>up c o c1 (kept c o c1 c2 c3 c4 e)
theorem zi0(hn:A.handled=none)(N1:mX prog w i1 l1 st1 xs)(N2:mX prog w i2 l2 st2 ys)(D:lH z TI TO i1 i2 l1 l2)(hz:IsZip s.heap z TI TO .none)(Pa:IsPair s.heap TI (.ref i1) (.ref i2))(Pb:IsPair s.heap TO a b)
  (h1:st1 k s.heap) (h2:st2 k s.heap) (hx:xs[k]?=none\/ys[k]?=none) (q:∀h',(∀c o,c≠z->c≠TO->c≠i1->c≠i2->s.heap.get? c=some o->h'.get? c=some o)->Q none {s with heap:=h'}):wpAny (model prog w) A (pyNext (.ref z)) Q E s:=by
 obtain⟨⟨z1,z2,z3,z4,z5,z6⟩,⟨t1,t2,t3,t4,t5⟩,⟨j1,j2,j3,j4,j5,j6,j7⟩⟩:=D;have hT:s.TypeIs (.ref z) "zip":=⟨_,hz,rfl⟩;have stop:∀(h':Heap) (e:Addr),(∀c o,c≠z->c≠TO->c≠i1->c≠i2->s.heap.get? c=some o->h'.get? c=some o)->(∃o,h'.get? e=some o/\o.cls=.type "StopIteration")->
   wpAny (model prog w) A (do if <-isInstance (.ref e) (.type "StopIteration") then pure none else throw (.ref e):Sem (Option Value)) Q E {s with heap:=h'}:=λh' e kp ⟨o,ho,hc⟩=>
  aq (wpAny_isInstance (T:="StopIteration") (b:=true) ⟨o,ho,hc⟩ isSubtype_stop (aG (q h' kp)))
 unfold pyNext;refine aq (Bv (wL (name:=Str.ofString "__next__") hT Ji (qZ Ji hT F.entry_zip_next ?_ (F.args_zip_next_1 _))));show wpAny _ A.in1 (field (.ref z) 2 >>= _) _ _ s;refine aq (jF hz rfl (x:=.bool false) rfl ?_);show wpAny _ A.in1 (field (.ref z) 3 >>= _) _ _ s;refine aq (jF hz rfl (x:=.ref TI) rfl (aq (ux Pa rfl ?_)));show wpAny _ A.in1 (Builtin.SmallTypes.ownedTupleIsFree (.ref z) >>= _) _ _ s;refine aq ?_;unfold Builtin.SmallTypes.ownedTupleIsFree;refine aq (jF hz rfl (x:=.none) rfl (aG ?_));simp only[if_true];refine aq (BK (aq (jF hz rfl (x:=.ref TO) rfl (aq (Bm hz Zaa λha za sa=>aq ?_)))))
 replace za:IsZip ha z TI TO .ellipsis:=za
 simp only[List.zipIdx_cons,List.zipIdx_nil,Dz,Jj];refine aq (aq (wpAny_onRaise ?_));show wpAny _ A.in1 (Builtin.SmallTypes.nextOf (.ref i1) >>= _) _ _ _;have ka:st1 k ha:=N1.keep _ _ _ h1 λc o hc e=>sa.extBut c o (by rcases hc with rfl|rfl;exact z3.symm;exact z5.symm) e;cases ex:xs[k]? with
 |none=>
  refine aq (N1.fin _ _ {s with heap:=ha} k _ hn ka ex λhb e sb se=>?_);obtain⟨oe,ho,hc⟩:=se;have zb:IsZip hb z TI TO .ellipsis:=sb _ _ z3 za;have ne:e≠z:=λy=>by subst y;rw[zb] at ho;cases ho;simp at hc
  exact Bm zb Zaa λhd _ sd=>stop hd e (λc o c1 _ c3 _ y=>sd.extBut _ _ c1 (sb _ _ c3 (sa.extBut _ _ c1 y))) ⟨oe,sd.extBut _ _ ne ho,hc⟩
 |some x=>
  have ey:ys[k]?=none:=by
   rcases hx with y|y
   ·rw[ex] at y;cases y
   ·exact y
  refine aq (N1.item _ _ {s with heap:=ha} k x _ ka ex λhb V6 sb=>aG ?_);have tb:IsPair hb TO a b:=sb.extBut _ _ t2 (sa.extBut _ _ z2.symm Pb);refine aq (ux tb rfl (aq (LR tb λhc tc sc=>aq (wpAny_letGo (aG ?_)))));refine aq (aq (wpAny_onRaise ?_));show wpAny _ A.in1 (Builtin.SmallTypes.nextOf (.ref i2) >>= _) _ _ _;have k2:st2 k hc:=N2.keep _ _ _ h2 λc o jO e=>by
   rcases jO with rfl|rfl
   ·exact sc.extBut _ _ t3.symm (sb.extBut _ _ j3.symm (sa.extBut _ _ z4.symm e))
   ·exact sc.extBut _ _ t5.symm (sb.extBut _ _ j5.symm (sa.extBut _ _ z6.symm e))
  refine aq (N2.fin _ _ {s with heap:=hc} k _ hn k2 ey λhd e sd se=>?_);obtain⟨oe,ho,jr⟩:=se;have zd:IsZip hd z TI TO .ellipsis:=sd _ _ z4 (sc.extBut _ _ z2 (sb.extBut _ _ z3 za));have ne:e≠z:=λy=>by subst y;rw[zd] at ho;cases ho;simp at jr
  exact Bm zd Zaa λhf _ sf=>stop hf e (λc o c1 c2 c3 c4 y=>sf.extBut _ _ c1 (sd _ _ c4 (sc.extBut _ _ c2 (sb.extBut _ _ c3 (sa.extBut _ _ c1 y))))) ⟨oe,sf.extBut _ _ ne ho,jr⟩
end
noncomputable def Ck:Bool->Heap->Addr->Array Value->Prop
 |true,h,l,xs=>h.IsList l xs
 |false,h,l,xs=>h.IsTuple l xs
noncomputable def Rk:Bool->Addr->Addr->Nat->Heap->Prop
 |true,it,l,i,h=>h.IsListIter it l i
 |false,it,l,i,h=>h.IsTupleIter it l i
noncomputable def Sk:Bool->W.Frag->Hp->Addr->List V->Prop
 |true,K,H,l,xs=>dj K H l xs
 |false,K,H,l,xs=>f9 K H l xs
noncomputable def gP:Bool->Addr->Obj
 |true,l=>{cls:=.type "list_iterator",data:=.fields #[.ref l,.int 0 0]}
 |false,l=>{cls:=.type "tuple_iterator",data:=.fields #[.ref l,.int 0 0]}
theorem mX.of(kd:Bool)(hne:l≠it):mX prog w it l (λi h=>Rk kd it l i h/\Ck kd h l its) its:=by
 cases kd
 ·exact mX.tuple hne
 ·exact mX.list hne
theorem Ck.keep(x:Ck kd h l xs)(k:∀o,h.get? l=some o->h'.get? l=some o):Ck kd h' l xs:=by
 cases kd
 ·exact IsTuple.at' x k
 ·exact Heap.IsList.at x k
theorem Rk.keep(x:Rk kd it l i h)(k:∀o,h.get? it=some o->h'.get? it=some o):Rk kd it l i h':=by
 cases kd
 ·exact IsTupleIter.at' x k
 ·exact Heap.IsListIter.at x k
theorem Rk.obj(x:Rk kd it l i h):∃o,h.get? it=some o/\∀v,o.data≠.cell v:=by
 cases kd
 ·obtain⟨o,e,c,d⟩:=x;exact⟨o,e,λv z=>by rw[d] at z;cases z⟩
 ·obtain⟨o,e,c,d⟩:=x;exact⟨o,e,λv z=>by rw[d] at z;cases z⟩
theorem Ck.lt(x:Ck kd h l xs):l<h.objs.size:=by
 cases kd
 ·obtain⟨o,e,_⟩:=x;exact bK e
 ·obtain⟨o,e,_⟩:=x;exact bK e
section
variable {prog:Program}{w:World}{A:Around}{E:Value->Shared->Prop}{s:Shared}
theorem V7(c:Ck kd s.heap l xs)(q:Q (.ref s.heap.objs.size) {s with heap:=s.heap.push (gP kd l)}):wpAny (model prog w) A (pyIter (.ref l)) Q E s:=by
 cases kd
 ·exact wpAny_pyIter_tuple c q
 ·exact wpAny_pyIter_list c q
end
noncomputable def zH(h:Heap)(k1 k2:Bool)(l1 l2:Addr):Heap:=((((h.push (gP k1 l1)).push (gP k2 l2)).push {cls:=.type "tuple",data:=.seq #[.ref h.objs.size,.ref (h.push (gP k1 l1)).objs.size]}).push {cls:=.type "tuple",data:=.seq #[.none,.none]}).push
 {cls:=.type "zip",data:=.fields #[.none,.bool false,.bool false,.ref ((h.push (gP k1 l1)).push (gP k2 l2)).objs.size,.ref (((h.push (gP k1 l1)).push (gP k2 l2)).push {cls:=.type "tuple",data:=.seq #[.ref h.objs.size,.ref (h.push (gP k1 l1)).objs.size]}).objs.size]}
theorem zg7(k1 k2:Bool)(l1 l2:Addr)(xs ys:Array Value):Meets (Builtin.«zip.__new__» ⟨[.type "zip",.ref l1,.ref l2],[]⟩) (λ_ R s=>Ck k1 s.heap l1 xs/\Ck k2 s.heap l2 ys /\
   R (.ok (.ret (.ref ((((s.heap.push (gP k1 l1)).push (gP k2 l2)).push {cls:=.type "tuple",data:=.seq #[.ref s.heap.objs.size,.ref (s.heap.push (gP k1 l1)).objs.size]}).push {cls:=.type "tuple",data:=.seq #[.none,.none]}).objs.size))) {s with heap:=zH s.heap k1 k2 l1 l2}):=
 .of_wp λprog w A R s h=>by
  obtain⟨hp,g,d,tk,os⟩:=s;obtain⟨c1,c2,h⟩:=h;have hsub:=sub_zip;have C1:Ck k1 (Shared.heap ⟨hp,g,d,tk,os⟩) l1 xs:=c1;have C2:Ck k2 (Shared.heap ⟨hp.push (gP k1 l1),g,d,tk,os⟩) l2 ys:=c2.keep λo e=>bR _ e
  wp_walk using V7 C1,V7 C2
  exact⟨_,rfl,h⟩
section
variable {prog:Program}{w:World}{A:Around}{E:Value->Shared->Prop}{s:Shared}
theorem zh9(c1:Ck k1 s.heap l1 xs)(c2:Ck k2 s.heap l2 ys)
  (h:∀h',IsZip h' (s.heap.objs.size+4) (s.heap.objs.size+2) (s.heap.objs.size+3) .none->IsPair h' (s.heap.objs.size+2) (.ref s.heap.objs.size) (.ref (s.heap.objs.size+1))->IsPair h' (s.heap.objs.size+3) .none .none->
   Rk k1 s.heap.objs.size l1 0 h'->Rk k2 (s.heap.objs.size+1) l2 0 h'->(∀c o,s.heap.get? c=some o->h'.get? c=some o)->Q (.ref (s.heap.objs.size+4)) {s with heap:=h'}) :
  wpAny (model prog w) A (call (.type "zip") [.ref l1,.ref l2]) Q E s:=by
 refine callType_new F.called_zip R4 (F.typeCall_zip_2 _ _) (F.newCall_zip_2 _ _) (λobj=>F.args_object_init_3 obj _ _) F.entry_zip_new (zg7 k1 k2 l1 l2 xs ys) ⟨c1,c2,?_⟩;have n1:(s.heap.push (gP k1 l1)).objs.size=s.heap.objs.size+1:=qJ ..;have n2:((s.heap.push (gP k1 l1)).push (gP k2 l2)).objs.size=s.heap.objs.size+2:=by rw[qJ,n1]
 have fr:∀kd l,(gP kd l).isFreed=false:=λkd l=>by cases kd<;>rfl
 have rk:∀{h:Heap} {a:Addr} {kd:Bool} {l:Addr},h.get? a=some (gP kd l)->Rk kd a l 0 h:=λ{h a kd l} e=>by
  cases kd
  ·exact⟨_,e,rfl,rfl⟩
  ·exact⟨_,e,rfl,rfl⟩
 have o1:(s.heap.push (gP k1 l1)).get? s.heap.objs.size=some (gP k1 l1):=fW _ (fr _ _);have o2:((s.heap.push (gP k1 l1)).push (gP k2 l2)).get? (s.heap.objs.size+1)=some (gP k2 l2):=by
  have:=fW (s.heap.push (gP k1 l1)) (o:=gP k2 l2) (fr _ _);rw[n1] at this;exact this
 generalize hA:(s.heap.push (gP k1 l1)).push (gP k2 l2)=J7 at *;have eH:zH s.heap k1 k2 l1 l2=((J7.push {cls:=.type "tuple",data:=.seq #[.ref s.heap.objs.size,.ref (s.heap.objs.size+1)]}).push {cls:=.type "tuple",data:=.seq #[.none,.none]}).push {cls:=.type "zip",data:=.fields #[.none,.bool false,.bool false,.ref (s.heap.objs.size+2),.ref (s.heap.objs.size+3)]}:=by
  unfold zH;rw[hA,n1,n2,qJ,n2]
 have n3:(J7.push {cls:=.type "tuple",data:=.seq #[.ref s.heap.objs.size,.ref (s.heap.objs.size+1)]}).objs.size=s.heap.objs.size+3:=by rw[qJ,n2]
 have n4:((J7.push {cls:=.type "tuple",data:=.seq #[.ref s.heap.objs.size,.ref (s.heap.objs.size+1)]}).push {cls:=.type "tuple",data:=.seq #[.none,.none]}).objs.size=s.heap.objs.size+4:=by rw[qJ,n3]
 rw[n1,n4];have g5:(zH s.heap k1 k2 l1 l2).get? (s.heap.objs.size+4)=some {cls:=.type "zip",data:=.fields #[.none,.bool false,.bool false,.ref (s.heap.objs.size+2),.ref (s.heap.objs.size+3)]}:=by
  rw[eH,<-n4];exact fW _ rfl
 have g4:(zH s.heap k1 k2 l1 l2).get? (s.heap.objs.size+3)=some {cls:=.type "tuple",data:=.seq #[.none,.none]}:=by
  rw[eH,<-n3];exact bR _ (fW _ rfl)
 have g3:(zH s.heap k1 k2 l1 l2).get? (s.heap.objs.size+2)=some {cls:=.type "tuple",data:=.seq #[.ref s.heap.objs.size,.ref (s.heap.objs.size+1)]}:=by
  rw[eH,<-n2];exact bR _ (bR _ (fW _ rfl))
 have up:∀c o,J7.get? c=some o->(zH s.heap k1 k2 l1 l2).get? c=some o:=λc o e=>by rw[eH];exact bR _ (bR _ (bR _ e))
 refine⟨⟨_,g5,rfl⟩,h _ g5 g3 g4 (rk (up _ _ ?_)) (rk (up _ _ o2)) λc o e=>up _ _ ?_⟩
 ·rw[<-hA];exact bR _ o1
 ·rw[<-hA];exact bR _ (bR _ e)
end
noncomputable def Pg(K:W.Frag)(k1 k2:Bool)(l1 l2:Addr):It:=
 ⟨λi H=>∃xs ys x y,Sk k1 K H l1 xs/\Sk k2 K H l2 ys/\xs[i]?=some x/\ys[i]?=some y,
  λi H v H'=>∃a x y,H a=none/\v=.ref a/\H'=upd H a (.tup [x,y])/\(∀xs,Sk k1 K H l1 xs->xs[i]?=some x)/\∀ys,Sk k2 K H l2 ys->ys[i]?=some y,
  λi H=>∃xs ys,Sk k1 K H l1 xs/\Sk k2 K H l2 ys/\(xs.length<=i\/ys.length<=i)⟩
section
variable {X:Cx}{ak:List (Addr×Obj)}{Z:St}{H:Hp}{s:Shared}{kd:Bool}{l:Addr}{xs ys:List V}
theorem Inv.row(I:Inv X ak Z H s)(h:Sk kd X.K H l xs):∃its:List Value,Vals xs its/\Ck kd s.heap l its.toArray:=by
 cases kd
 ·obtain⟨its,rv,p,hz⟩:=I.tuple h;exact⟨its,rv,p⟩
 ·obtain⟨its,rv,p,hz⟩:=I.list h;exact⟨its,rv,p.isList⟩
theorem Inv.pC(I:Inv X ak Z H s)(h:Sk kd X.K H l xs)(h':Sk kd X.K H l ys):xs=ys:=by
 cases kd
 ·exact I.jY h h'
 ·exact I.mq h h'
end
theorem zgQ{P:Program}{w:World}{K:W.Frag}{elts:List Expr}{kk:Nat}{pos:Pos}{k1 k2:Bool}{l1 l2 z TI TO i1 i2:Addr}(D:lH z TI TO i1 i2 l1 l2) :
  Turn P w K (.Tuple elts kk pos) (Pg K k1 k2 l1 l2) [z,TI,TO,i1,i2] z (λi h=>IsZip h z TI TO .none/\IsPair h TI (.ref i1) (.ref i2)/\(∃a b,IsPair h TO a b)/\Rk k1 i1 l1 i h/\Rk k2 i2 l2 i h) where
 mem:=by simp
 obj:=λi h ⟨a1,a2,⟨p,q,a3⟩,a4,a5⟩ b hb=>by
  have:b=z\/b=TI\/b=TO\/b=i1\/b=i2:=by simpa using hb
  rcases this with rfl|rfl|rfl|rfl|rfl
  ·exact⟨_,a1,λv y=>by cases y⟩
  ·exact⟨_,a2,λv y=>by cases y⟩
  ·exact⟨_,a3,λv y=>by cases y⟩
  ·exact a4.obj
  ·exact a5.obj
 keep:=λi h h' ⟨a1,a2,⟨p,q,a3⟩,a4,a5⟩ k=>⟨k z Zaa _ a1,k TI Zaa _ a2,⟨p,q,k TO Zaa _ a3⟩,a4.keep λo e=>k i1 Zaa o e,a5.keep λo e=>k i2 Zaa o e⟩
 item:=by
  intro X hP hw hK hc i ak s Z H E I hf ⟨a1,a2,⟨p,q,a3⟩,a4,a5⟩ hg;subst hP hw hK;obtain⟨xs,ys,x,y,Cg,Cj,hx,hy⟩:=hg;obtain⟨V8,J8,c1⟩:=I.row Cg;obtain⟨Gj,J9,c2⟩:=I.row Cj;obtain⟨u,hu,ru⟩:=J8.get hx;obtain⟨v,hv,rv⟩:=J9.get hy;have D':=D;obtain⟨⟨z1,z2,z3,z4,z5,z6⟩,⟨t1,t2,t3,t4,t5⟩,⟨j1,j2,j3,j4,j5,j6,j7⟩⟩:=D';refine zgT (mX.of k1 j4.symm) (mX.of k2 j7.symm) D a1 a2 a3 ⟨a4,c1⟩ ⟨a5,c2⟩ (x:=u) (y:=v) (by simpa using hu) (by simpa using hv) λh1 b1 b2 b3 b4 b5 b6 kp=>?_;refine⟨_,rfl,wpAny_letOwnedTupleGo_zip (s:={s with heap:=h1}) b1 λh2 e2 sb=>?_⟩;have hT2:IsPair h2 s.heap.objs.size u v:=(sb.2 _ (uz (bK a1))).trans b5;have kk:∀b o,b∉[z,TI,TO,i1,i2]->s.heap.get? b=some o->h2.get? b=some o:=λb o hb e=>(sb.2 b λy=>hb (by simp[y])).trans (kp b o (λy=>hb (by simp[y])) (λy=>hb (by simp[y])) (λy=>hb (by simp[y])) (λy=>hb (by simp[y])) e);have I2:=I.qd (t':=s.toks) (a:=s.heap.objs.size) (o:=.tup [x,y]) kk (λb hb=>hf b hb) (bT _) (show aR X.prog X.w _ h2 _ (.tup [x,y]) from ⟨by show 2<=sizeLine;decide,[u,v],.cons ru (.cons rv .nil),⟨_,hT2,rfl,_,rfl⟩⟩);have hn:H s.heap.objs.size=none:=I.hok.fresh (bT _);refine⟨.ref s.heap.objs.size,_,I2,rfl,⟨_,x,y,hn,rfl,rfl,λzs hz=>by rw[I.pC hz Cg];exact hx,λzs hz=>by rw[I.pC hz Cj];exact hy⟩,⟨e2,(sb.2 _ z1.symm).trans (kp _ _ z1.symm t1.symm j1 j2 a2),⟨_,_,(sb.2 _ z2.symm).trans b2⟩,b3.1.keep λo e=>(sb.2 _ z3.symm).trans e,b4.1.keep λo e=>(sb.2 _ z4.symm).trans e⟩,λb hb=>?_⟩;have nb:b≠s.heap.objs.size:=by
   have:b=z\/b=TI\/b=TO\/b=i1\/b=i2:=by simpa using hb
   rcases this with rfl|rfl|rfl|rfl|rfl
   ·exact cP (bK a1)
   ·exact cP (bK a2)
   ·exact cP (bK a3)
   ·obtain⟨o,e,_⟩:=a4.obj;exact cP (bK e)
   ·obtain⟨o,e,_⟩:=a5.obj;exact cP (bK e)
  rw[cQ nb];exact(hf b hb).1
 done:=by
  intro X hP hw hK hc i ak s Z H E I hf ⟨a1,a2,⟨p,q,a3⟩,a4,a5⟩ hg;subst hP hw hK;obtain⟨xs,ys,Cg,Cj,hx⟩:=hg;obtain⟨V8,J8,c1⟩:=I.row Cg;obtain⟨Gj,J9,c2⟩:=I.row Cj;have n1:=J8.length;have n2:=J9.length;refine zi0 (I.ok.hd hc) (mX.of k1 D.is.2.2.2.1.symm) (mX.of k2 D.is.2.2.2.2.2.2.symm) D a1 a2 a3 ⟨a4,c1⟩ ⟨a5,c2⟩ ?_ λh' kp=>⟨rfl,I.vV (t':=s.toks) (ch:=[z,TI,TO,i1,i2]) (λb o hb e=>kp b o (λy=>hb (by simp[y])) (λy=>hb (by simp[y])) (λy=>hb (by simp[y])) (λy=>hb (by simp[y])) e) λb hb=>hf b hb⟩;rcases hx with y|y
  ·exact .inl (by simp;lia)
  ·exact .inr (by simp;lia)
 self:=λ_ _ _ _ _ ⟨a1,_⟩ h=>wpAny_pyIter_zip a1 h
section
variable {X:Cx}
noncomputable def Pj(K:W.Frag)(ta:TA):TI:=λZ H R=>ta Z H λvs H1=>∃k1 k2 l1 l2 xs ys,vs=[.ref l1,.ref l2]/\Sk k1 K H1 l1 xs/\Sk k2 K H1 l2 ys/\R (Pg K k1 k2 l1 l2) H1
theorem zhc:bootBuiltins "zip"=some (.type "zip"):=by decide +kernel
theorem zjg{a b:Expr}{ta:TA}{p pos tpos:Pos}{elts:List Expr}{kk:Nat}(hg:Gl X "zip")(hm:X.mg "zip"=none)(ha:PA X [a,b] ta)(hs:starEach [a,b] X.env=[(false,eval a X.env),(false,eval b X.env)]:=by rfl)(Eu:starEach [b] X.env=[(false,eval b X.env)]:=by rfl) :
  PI X (.Tuple elts kk tpos) (.Call (.Name "zip" p) [a,b] [] pos) (Pj X.K ta):=by
 intro ak s Z H R I h;refine Call_ (xu I hg hm zhc (Dj (aZ (ha pos ak s Z H _ I h) λus s1 ⟨vs,H1,I1,r1,q1⟩=>?_) (by rw[hs,Eu]) (by rw[Eu];rfl)));obtain⟨k1,k2,l1,l2,xs,ys,e,Cg,Cj,q⟩:=q1;subst e;cases r1 with
 |cons r rr=>
  cases rr with
  |cons r' rr=>
   cases rr;cases r;cases r';obtain⟨V8,J8,c1⟩:=I1.row Cg;obtain⟨Gj,J9,c2⟩:=I1.row Cj;have m1:=c1.lt;have m2:=c2.lt;refine zh9 c1 c2 λh' b1 b2 b3 b4 b5 kp=>?_;refine wpAny_pyIter_zip b1 ?_;have ne:∀{u v:Nat},u<v->u≠v:=λh=>cP h;have D:lH (s1.heap.objs.size+4) (s1.heap.objs.size+2) (s1.heap.objs.size+3) s1.heap.objs.size (s1.heap.objs.size+1) l1 l2:=
    ⟨⟨(ne gV).symm,(ne gV).symm,(ne gV).symm,(ne gV).symm,(ne (fK m1 gV)).symm,(ne (fK m2 gV)).symm⟩,
     ⟨(ne gV).symm,(ne gV).symm,(ne gV).symm,(ne (fK m1 gV)).symm,(ne (fK m2 gV)).symm⟩,
     ⟨(ne gV).symm,(ne gV).symm,ne gV,(ne m1).symm,(ne m2).symm,(ne (fK m1 gV)).symm,(ne (fK m2 gV)).symm⟩⟩
   refine⟨s1.heap.objs.size+4,[s1.heap.objs.size+4,s1.heap.objs.size+2,s1.heap.objs.size+3,s1.heap.objs.size,s1.heap.objs.size+1],_,_,H1,rfl,I1.kept (t':=s1.toks) kp,zgQ D,⟨b1,b2,⟨_,_,b3⟩,b4,b5⟩,λb hb=>?_,q⟩;have:s1.heap.objs.size<=b:=by
    have:b=s1.heap.objs.size+4\/b=s1.heap.objs.size+2\/b=s1.heap.objs.size+3\/b=s1.heap.objs.size\/b=s1.heap.objs.size+1:=by simpa using hb
    rcases this with rfl|rfl|rfl|rfl|rfl<;>lia
   exact I1.vB this (I1.hok.fresh this)
end
end L2
set_option genSizeOf false
set_option genInjectivity false
namespace Mi
open PySem
inductive D where
 |non|bl (b:Bool)|int (i:Int)|str (s:Str)|tup (xs:List D)|fl (xs:List D)|fd (ks vs:List D)|exc (c:Nat) (fs:List D)|ob (c:Nat) (fs:List D)|any
inductive Xv where
 |d (x:D)|l (n:Nat)
inductive Kx where
 |non|int (i:Int)|row (is:List Int)
deriving DecidableEq
inductive SO where
 |lst (xs:List D)
 |dct (kvs:List (List Kx×D))
noncomputable abbrev S:=List SO
inductive Rs (α:Type) where
 |ok (a:α)|er (c:Nat) (fs:List D)
noncomputable abbrev M(α:Type):=S->Option (Rs α×S)
noncomputable def M.ret{α:Type}(a:α):M α:=λs=>some (.ok a,s)
noncomputable def M.bd{α β:Type}(m:M α)(k:α->M β):M β:=λs=>match m s with
 |some (.ok a,s')=>k a s'
 |some (.er c f,s')=>some (.er c f,s')
 |none=>none
noncomputable def M.qt{α:Type}(m:M α):M α:=λs=>match m s with
 |some (.ok a,s')=>some (.ok a,s')
 |_=>none
noncomputable def M.no{α:Type}:M α:=λ_=>none
noncomputable def M.opt{α:Type}:Option α->M α
 |some a=>M.ret a
 |none=>M.no
inductive Rz where
 |dat (d:D)|nw (xs:List D)
inductive Pr where
 |add|ao|mul|fdiv|mod|pow|neg
 |eq|ne|lt|le|gt|ge|inn|nin
 |isN|noN
 |len|abs|max2|min2|Gk|Gm|Gn|V9|vW|divmod|all|sum|list|tuple|sorted|dD|zE|str1
 |ix|rev|V_|nQ|mult|xP
 |count|index|repr
inductive Kd where
 |int|bool|str|tuple|list|dict|cls (c:Nat)|nR
mutual
inductive E where
 |c (d:D)
 |v (i:Nat)
 |pr (fz:Bool) (p:Pr) (xs:Es)
 |qN (p q:Pr) (a b c:E)
 |zF (p q r:Pr) (a b c d:E)
 |and (a b:E)
 |or (a b:E)
 |not (a:E)
 |ite (c a b:E)
 |tup (xs:Es)
 |lst (fz:Bool) (xs:Es)
 |su (k:Str) (i:Int)
 |call (f:Nat) (xs:Es)
 |fL (a:E) (k:Kd)
 |sl (fz:Bool) (a:E) (lo hi:Eo)
 |meth (fz:Bool) (p:Pr) (k:Kd) (o:E) (xs:Es)
 |push (o a:E)
 |pop (o:E)
 |comp (fz:Bool) (elt:E) (tg:List Nat) (it:Wk) (fr:List Nat) (many:Nat) (cond:Eo)
 |Gp (fz:Bool) (elt:E) (tg:List Nat) (it:Wk) (Wa:List Nat) (Gj:Wk) (fr:List Nat) (many:Nat) (cond:Eo)
 |fld (o:E) (cs:List Nat) (i:Nat)
 |of (o:E) (c i:Nat)
 |mk (c f:Nat) (xs:Es)
 |cm (c f:Nat) (o:E) (xs:Es)
 |Pk
 |din (b:Bool) (k d:E)
 |Pn (d k:E)
 |tru (a:E)
 |Gq (fz:Bool) (a:E) (b:E)
 |orv (a b:E)
 |ins (o i a:E)
 |no
inductive Wk where
 |seq (e:E)
 |rg (a b:E)
 |zip (a b:E)
 |enum (a:E)
 |rrg (a:E)
inductive Es where
 |nil
 |cons (a:E) (r:Es)
inductive Eo where
 |no
 |yes (a:E)
end
noncomputable abbrev Ea(a:E):Es:=.cons a .nil
noncomputable abbrev Eb(a b:E):Es:=.cons a (.cons b .nil)
noncomputable abbrev Ec(a b c:E):Es:=.cons a (.cons b (.cons c .nil))
noncomputable abbrev Ei(a b:E):E:=.pr true .ix (.cons a (.cons b .nil))
noncomputable abbrev Ci(i:Int):E:=.c (.int i)
noncomputable def Es.len:Es->Nat
 |.nil=>0
 |.cons _ r=>r.len+1
inductive Tg where
 |nm (i:Nat)
 |tp (is:List Nat)
 |ao (o i:E)
mutual
inductive St where
 |pass
 |ex (e:E)
 |asg (t:Tg) (e:E)
 |par (i j:Nat) (a b:E)
 |aug (i:Nat) (e:E)
 |ret (e:E)
 |rise (c:Nat) (kp:Bool) (xs:Es)
 |iff (c:E) (t e:bw)
 |wh (c:E) (b:bw)
 |fr (t:Tg) (w:Wk) (b:bw)
 |qe (b:bw) (d:Nat) (i:Nat) (h:bw)
 |dput (d k v:E)
 |no
inductive bw where
 |nil
 |cons (a:St) (r:bw)
end
noncomputable def fM(eq:D->D->Option Bool):List D->List D->Option Bool
 |[],[]=>some true
 |[],_::_=>some false
 |_::_,[]=>some false
 |x::xs,y::ys=>match eq x y,fM eq xs ys with
  |some a,some b=>some (a&&b)
  |_,_=>none
noncomputable def kq:D->Option Nat
 |.non=>some 0
 |.bl _=>some 1
 |.int _=>some 1
 |.str _=>some 2
 |.tup _=>some 3
 |.fl _=>some 4
 |_=>none
noncomputable def cW:Nat->D->D->Option Bool
 |n+1,.tup xs,.tup ys=>fM (cW n) xs ys
 |n+1,.fl xs,.fl ys=>fM (cW n) xs ys
 |_,.non,.non=>some true
 |_,.bl a,.bl b=>some (a==b)
 |_,.int a,.int b=>some (a==b)
 |_,.str a,.str b=>some (a==b)
 |_,.bl a,.int b=>some ((if a then 1 else 0)==b)
 |_,.int a,.bl b=>some (a==(if b then 1 else 0))
 |_,a,b=>match kq a,kq b with
  |some i,some j=>if i=j then none else some false
  |_,_=>none
noncomputable def d9:List D->Option (List Int)
 |[]=>some []
 |.int i::r=>(d9 r).map (i::·)
 |_=>none
noncomputable def ltI:List Int->List Int->Bool
 |_,[]=>false
 |[],_::_=>true
 |x::xs,y::ys=>if x=y then ltI xs ys else decide (x<y)
noncomputable def gB:List D->Option (List Bool)
 |[]=>some []
 |.bl b::r=>(gB r).map (b::·)
 |_=>none
noncomputable def cut{α:Type}(xs:List α)(lo hi:Option Int):List α:=(xs.drop (HT.bI xs.length 0 lo)).take (HT.bI xs.length xs.length hi-HT.bI xs.length 0 lo)
noncomputable def nU:D->Option (List D)
 |.tup xs=>some xs
 |.fl xs=>some xs
 |_=>none
noncomputable def cutD(x:D)(lo hi:Option Int):Option Rz:=match x with
 |.tup xs=>some (.dat (.tup (cut xs lo hi)))
 |.fl xs=>some (.nw (cut xs lo hi))
 |_=>none
noncomputable def memD(d:D):List D->Option Bool
 |[]=>some false
 |x::r=>match cW 50 x d,memD d r with
  |some a,some b=>some (a||b)
  |_,_=>none
noncomputable def qg(d:D):List D->Nat
 |[]=>0
 |x::r=>qg d r+(if cW 50 x d=some true then 1 else 0)
noncomputable def nW:Kd->D->Bool
 |.list,.fl _=>true
 |.str,.str _=>true
 |.dict,.fd _ _=>true
 |_,_=>false
noncomputable def cL(f:Int->Int->Option D):List D->Option Rz
 |[.int i,.int j]=>(f i j).map .dat
 |_=>none
noncomputable def sy(f:Int->D):List D->Option Rz
 |[.int i]=>some (.dat (f i))
 |_=>none
noncomputable def qj(f:List D->Option Rz):List D->Option Rz
 |[a]=>(nU a).bind f
 |_=>none
noncomputable def zG:List D->Option Rz
 |[.int i,.int j]=>some (.dat (.int (i+j)))
 |[.tup xs,.tup ys]=>if xs.length+ys.length<=sizeLine then some (.dat (.tup (xs++ys))) else none
 |[.fl xs,.fl ys]=>if xs.length+ys.length<=sizeLine then some (.nw (xs++ys)) else none
 |[.str x,.str y]=>if x.length+y.length<=sizeLine then some (.dat (.str (x++y))) else none
 |_=>none
noncomputable def Gs:List D->Option Rz
 |[.int i,.int j]=>some (.dat (.bl (decide (i<j))))
 |[.tup xs,.tup ys]=>match d9 xs,d9 ys with
  |some a,some b=>some (.dat (.bl (ltI a b)))
  |_,_=>none
 |_=>none
noncomputable def Cm(f:Bool->Bool):List D->Option Rz
 |[a,b]=>(cW 50 a b).map λk=>.dat (.bl (f k))
 |_=>none
noncomputable def Wb(f:Bool->Bool):List D->Option Rz
 |[a,b]=>((nU b).bind (memD a)).map λk=>.dat (.bl (f k))
 |_=>none
noncomputable def D.Gu:D->Bool
 |.non=>true
 |_=>false
noncomputable def Gv(f:Bool->Bool):List D->Option Rz
 |[a]=>some (.dat (.bl (f a.Gu)))
 |_=>none
noncomputable def Gw:List D->Option Rz
 |[.int i]=>some (.dat (.int i))
 |[.bl k]=>some (.dat (.int (if k then 1 else 0)))
 |_=>none
noncomputable def zJ:List D->Option Rz
 |[.fl xs]=>(gB xs).map λbs=>.dat (.bl (bs.all id))
 |_=>none
noncomputable def lJ:List D->Option (List Int)
 |[]=>some []
 |.int i::r=>(lJ r).map (i::·)
 |_=>none
noncomputable def best(bt:Int->Int->Bool)(i:Int)(is:List Int):Int:=is.foldl (λm j=>if bt j m then j else m) i
noncomputable def Gx(bt:Int->Int->Bool):Option (List Int)->Option Rz
 |some (i::is)=>some (.dat (.int (best bt i is)))
 |_=>none
noncomputable def xQ(bt:Int->Int->Bool):List D->Option Rz
 |[a]=>(nU a).bind λxs=>Gx bt (lJ xs)
 |_=>none
noncomputable def okR(i j:Int):Bool:=decide (-(2^62)<=i/\i<2^62/\-(2^62)<=j/\j<2^62/\(j-i).toNat<=65536)
noncomputable def Pq(i:Int)(n:Nat):List D:=(List.range n).map λk=>.int (i+(k:Nat))
noncomputable def Pu:List D->Option Rz
 |[.int j]=>if okR 0 j then some (.nw (Pq 0 (j-0).toNat)) else none
 |[.int i,.int j]=>if okR i j then some (.nw (Pq i (j-i).toNat)) else none
 |_=>none
noncomputable def Px:List D->Option Rz
 |[.int j]=>if okR 0 j then some (.dat (.tup (Pq 0 (j-0).toNat))) else none
 |_=>none
noncomputable def nY:List D->Option Rz
 |[a]=>(nU a).map λxs=>.dat (.tup xs)
 |_=>none
noncomputable def Py:List D->Option Rz
 |[a,.int i]=>((nU a).bind λxs=>L2.rJ xs i).map .dat
 |_=>none
noncomputable def Gy:List D->List D->Option Bool
 |[],ys=>some (decide (0<ys.length))
 |_::_,[]=>some false
 |.int x::xs,.int y::ys=>if x=y then Gy xs ys else some (decide (x<y))
 |_::_,_::_=>none
noncomputable def ltD(xs:List D)(i j:Nat):Option Bool:=match xs[i]?,xs[j]? with
 |some (.int x),some (.int y)=>some (decide (x<y))
 |some (.tup us),some (.tup ws)=>Gy us ws
 |_,_=>none
noncomputable def xR(b:List Int):List (List Int)->List Int
 |[]=>b
 |x::r=>xR (if ltI x b=true then x else b) r
noncomputable def xT:List D->Option (List (List Int))
 |[]=>some []
 |.tup xs::r=>match d9 xs,xT r with
  |some a,some b=>some (a::b)
  |_,_=>none
 |_=>none
noncomputable def Gz:List D->Option Rz
 |[.fl xs]=>match xT xs with
  |some (x::r)=>some (.dat (.tup ((xR x r).map .int)))
  |_=>none
 |_=>none
noncomputable def sE:D->Bool
 |.int _=>true
 |_=>false
noncomputable def zK:D->Bool
 |.tup (.int _::_)=>true
 |_=>false
noncomputable def xU(lt:Nat->Nat->Option Bool)(xs:List D):Option (List D):=if xs.length<2 then some xs else if xs.length<64 then (match L2.bQ lt (PySem.W.kas_sort xs.length) with
  |some p=>if p.size=xs.length then some (p.toList.map λi=>xs.getD i .non) else none
  |none=>none) else none
noncomputable def Wc(xs:List D):Option (List D):=if xs.all sE||xs.all zK then xU (ltD xs) xs else none
noncomputable def vX:List D->Option Rz
 |[.fl xs]=>(Wc xs).map .nw
 |_=>none
noncomputable def ltK(ks:List Int)(i j:Nat):Option Bool:=match ks[i]?,ks[j]? with
 |some x,some y=>some (decide (x<y))
 |_,_=>none
noncomputable def zL:List D->Option Rz
 |[.tup xs]=>some (.dat (.tup xs.reverse))
 |_=>none
noncomputable def nZ:List D->Option Rz
 |[.fl xs,d]=>(memD d xs).map λ_=>.dat (.int (qg d xs:Nat))
 |_=>none
noncomputable def n8:List D->Option Rz
 |[.fl xs,.bl b]=>((gB xs).bind λbs=>bs.idxOf? b).map λ(i:Nat)=>.dat (.int i)
 |_=>none
noncomputable def zM:List D->Option Rz
 |[.int i]=>if i.natAbs<2^62 then some (.dat (.str (Str.ofString (toString i)))) else none
 |_=>none
noncomputable def Pz(f:D->Option PyData):List D->Option (List PyData)
 |[]=>some []
 |x::r=>match f x,Pz f r with
  |some a,some b=>some (a::b)
  |_,_=>none
noncomputable def pd:Nat->D->Option PyData
 |n+1,.tup xs=>(Pz (pd n) xs).map .tuple
 |n+1,.fl xs=>(Pz (pd n) xs).map .list
 |_,.non=>some .none
 |_,.bl b=>some (.bool b)
 |_,.int i=>some (.int i)
 |_,.str x=>some (.str x)
 |_,_=>none
noncomputable def pdT:D->Option PyData
 |.fd [.str k] [.int i]=>some (.dict [(.str k,.int i)])
 |x=>pd 40 x
noncomputable def shw(d:PyData):Option Rz:=if d.showable=true/\d.shown.length<=sizeLine then some (.dat (.str d.shown)) else none
noncomputable def GC:List D->Option Rz
 |[x]=>(pdT x).bind shw
 |_=>none
noncomputable def gC:List (Int×Int):=[(0,1),(0,2),(0,3),(0,4),(0,5),(0,6),(0,7),(1,2),(1,3),(1,4),(1,5),(1,6),(1,7),(2,3),(2,4),(2,5),(2,6),(2,7),(3,4),(3,5),(3,6),(3,7),(4,5),(4,6),(4,7),(5,6),(5,7),(6,7)]
noncomputable def ss(ts:List (Int×Int)):List (Int×Int):=gC.filter λt=>ts.contains t
noncomputable def vY:D->Option (Int×Int)
 |.tup [.int a,.int b]=>if 0<=a/\a<b/\b<8 then some (a,b) else none
 |_=>none
noncomputable def jw:List D->Option (List (Int×Int))
 |[]=>some []
 |x::r=>match vY x,jw r with
  |some a,some b=>some (a::b)
  |_,_=>none
noncomputable def PB:List D->Option Rz
 |[.tup xs]=>(jw xs).map λts=>.nw ((ss ts).map λp=>.tup [.int p.1,.int p.2])
 |_=>none
noncomputable def GD(is:List Int):Bool:=decide (is.length<=1000)&&is.all λi=>decide (-1000000<=i/\i<=1000000)
noncomputable def PJ(is:List Int):Option Rz:=match GD is with
 |true=>some (.dat (.int is.sum))
 |false=>none
noncomputable def PK:List D->Option Rz
 |[a]=>(nU a).bind λxs=>(lJ xs).bind PJ
 |_=>none
noncomputable def lK:List Int->List Int
 |[]=>[]
 |x::r=>if r.contains x then lK r else x::lK r
noncomputable def GF:List D->Option Rz
 |[.tup xs]=>(lJ xs).map λis=>.dat (.int (lK is).length)
 |_=>none
noncomputable def rep{α:Type}(xs:List α)(n:Nat):List α:=(List.replicate n xs).flatten
noncomputable def sG:List D->Option Rz
 |[.fl xs,.int n]=>if 0<=n/\n<=1000/\xs.length<=1000 then some (.nw (rep xs n.toNat)) else none
 |_=>none
noncomputable def zN:List D->Option Rz
 |[.tup xs]=>if xs.all sE=true then (Wc xs).map .nw else none
 |_=>none
noncomputable def GJ:List D->Option Rz
 |[.tup xs,.int n]=>if 1<=n/\n<=1000/\1<=xs.length/\xs.length<=1000 then some (.dat (.tup (rep xs n.toNat))) else none
 |_=>none
noncomputable def GK:D->Option Bool
 |.non=>some false
 |.bl b=>some b
 |.int i=>some (i != 0)
 |.tup xs=>some (!xs.isEmpty)
 |.fl xs=>some (!xs.isEmpty)
 |_=>none
noncomputable def prim:Pr->List D->Option Rz
 |.add=>zG
 |.ao=>cL λi j=>some (.int (i-j))
 |.mul=>cL λi j=>if (-(2^64)<i/\i<2^64)\/(-(2^64)<j/\j<2^64) then some (.int (i*j)) else none
 |.fdiv=>cL λi j=>if 0<j/\j<1073741824 then some (.int (i/j)) else none
 |.mod=>cL λi j=>if 0<j then some (.int (i%j)) else none
 |.pow=>cL λi j=>if 0<=j/\j<=1000000/\i.natAbs<2^64 then some (.int (i^j.toNat)) else none
 |.neg=>sy λi=>.int (-i)
 |.eq=>Cm id
 |.ne=>Cm not
 |.lt=>Gs
 |.le=>cL λi j=>some (.bl (decide (i<=j)))
 |.gt=>cL λi j=>some (.bl (decide (j<i)))
 |.ge=>cL λi j=>some (.bl (decide (j<=i)))
 |.inn=>Wb id
 |.nin=>Wb not
 |.isN=>Gv id
 |.noN=>Gv not
 |.len=>qj λxs=>some (.dat (.int xs.length))
 |.abs=>sy λi=>.int (if i<0 then -i else i)
 |.max2=>cL λi j=>some (.int (if j>i then j else i))
 |.min2=>cL λi j=>some (.int (if j<i then j else i))
 |.vW=>Gw
 |.divmod=>cL λi j=>if 0<j/\j<1073741824 then some (.tup [.int (i/j),.int (i%j)]) else none
 |.all=>zJ
 |.V_=>Pu
 |.Gk=>xQ λa b=>decide (a>b)
 |.Gm=>xQ λa b=>decide (a<b)
 |.Gn=>Gz
 |.V9=>Px
 |.list=>qj λxs=>some (.nw xs)
 |.tuple=>nY
 |.ix=>Py
 |.rev=>zL
 |.sorted=>vX
 |.dD=>PB
 |.nQ=>sG
 |.mult=>GJ
 |.xP=>zN
 |.sum=>PK
 |.zE=>GF
 |.count=>nZ
 |.index=>n8
 |.repr=>GC
 |.str1=>zM
noncomputable def j8(ao:Nat->Nat->Bool):D->Kd->Option Bool
 |.exc c _,.cls e=>some (ao c e)
 |.exc _ _,.nR=>some true
 |.exc _ _,_=>none
 |.ob _ _,_=>none
 |.any,_=>none
 |_,.cls _=>none
 |_,.nR=>none
 |.bl _,.bool=>some true
 |.bl _,.int=>some true
 |.bl _,_=>some false
 |.int _,.int=>some true
 |.int _,_=>some false
 |.non,_=>some false
 |.str _,.str=>some true
 |.str _,_=>some false
 |.tup _,.tuple=>some true
 |.tup _,_=>some false
 |.fl _,.list=>some true
 |.fl _,_=>some false
 |.fd _ _,.dict=>some true
 |.fd _ _,_=>some false
noncomputable def rd(x:Xv):M D:=λs=>match x with
 |.d v=>some (.ok v,s)
 |.l n=>match s[n]? with
  |some (.lst xs)=>some (.ok (.fl xs),s)
  |_=>none
noncomputable def dO:List Xv->M (List D)
 |[]=>M.ret []
 |x::r=>M.bd (rd x) λd=>M.bd (dO r) λds=>M.ret (d::ds)
noncomputable def dat(x:Xv):M D:=match x with
 |.d v=>M.ret v
 |.l _=>M.no
noncomputable def dR:List Xv->M (List D)
 |[]=>M.ret []
 |x::r=>M.bd (dat x) λd=>M.bd (dR r) λds=>M.ret (d::ds)
noncomputable def bool(x:Xv):M Bool:=match x with
 |.d (.bl b)=>M.ret b
 |_=>M.no
noncomputable def int(x:Xv):M Int:=match x with
 |.d (.int b)=>M.ret b
 |_=>M.no
noncomputable def newL(fz:Bool)(xs:List D):M Xv:=match fz with
 |true=>M.ret (.d (.fl xs))
 |false=>λs=>some (.ok (.l s.length),s++[.lst xs])
noncomputable def bH(fz:Bool)(o:Option Rz):M Xv:=match o with
 |some (.dat d)=>M.ret (.d d)
 |some (.nw xs)=>newL fz xs
 |none=>M.no
noncomputable def cC(x:Xv):M (Nat×List D):=λs=>match x with
 |.l n=>match s[n]? with
  |some (.lst xs)=>some (.ok (n,xs),s)
  |_=>none
 |_=>none
noncomputable def putL(n:Nat)(xs:List D):M Unit:=λs=>some (.ok (),s.set n (.lst xs))
noncomputable def PL:D->Option Kx
 |.non=>some .non
 |.int i=>some (.int i)
 |.tup xs=>(d9 xs).map .row
 |_=>none
noncomputable def Wd:List D->Option (List Kx)
 |[]=>some []
 |x::r=>match PL x,Wd r with
  |some a,some b=>some (a::b)
  |_,_=>none
noncomputable def kOf:D->Option (List Kx)
 |.tup xs=>Wd xs
 |_=>none
noncomputable abbrev uJ:=List (List Kx×D)
noncomputable def vZ(k:List Kx):uJ->Option D
 |[]=>none
 |p::r=>if p.1=k then some p.2 else vZ k r
noncomputable def PN(k:List Kx)(d:D)(r:uJ):uJ:=if (vZ k r).isSome=true then r.map λp=>if p.1=k then (p.1,d) else p else r++[(k,d)]
noncomputable def sH(x:Xv):M (Nat×uJ):=λs=>match x with
 |.l n=>match s[n]? with
  |some (.dct kvs)=>some (.ok (n,kvs),s)
  |_=>none
 |_=>none
noncomputable def putD(n:Nat)(kvs:uJ):M Unit:=λs=>some (.ok (),s.set n (.dct kvs))
noncomputable def key(x:Xv):M (List Kx):=match x with
 |.d v=>M.opt (kOf v)
 |.l _=>M.no
noncomputable def enumFrom:Nat->List D->List D
 |_,[]=>[]
 |i,x::r=>.tup [.int i,x]::enumFrom (i+1) r
inductive Src where
 |fix (xs:List D)|live (n:Nat)|xV (n:Nat)
noncomputable def Src.at(c:Src)(i:Nat)(s:S):Option (Option D):=match c with
 |.fix xs=>some xs[i]?
 |.live n=>match s[n]? with
  |some (.lst xs)=>some xs[i]?
  |_=>none
 |.xV n=>match s[n]? with
  |some (.lst xs)=>some (xs[i]?.map λx=>.tup [.int i,x])
  |_=>none
noncomputable def sJ(x:Xv):M (Src×Nat):=λs=>match x with
 |.d (.tup xs)=>some (.ok (.fix (enumFrom 0 xs),(enumFrom 0 xs).length),s)
 |.d (.fl xs)=>some (.ok (.fix (enumFrom 0 xs),(enumFrom 0 xs).length),s)
 |.l n=>match s[n]? with
  |some (.lst xs)=>some (.ok (.xV n,xs.length),s)
  |_=>none
 |_=>none
noncomputable def src(x:Xv):M (Src×Nat):=λs=>match x with
 |.d (.tup xs)=>some (.ok (.fix xs,xs.length),s)
 |.d (.fl xs)=>some (.ok (.fix xs,xs.length),s)
 |.l n=>match s[n]? with
  |some (.lst xs)=>some (.ok (.live n,xs.length),s)
  |_=>none
 |_=>none
noncomputable def n_(x:Xv):M (List D):=match x with
 |.d (.tup xs)=>M.ret xs
 |.d (.fl xs)=>M.ret xs
 |_=>M.no
noncomputable def iH(a b:Int):List D:=(List.range (b-a).toNat).map λ(i:Nat)=>.int (a+i)
noncomputable def eE(a:Int):Bool:=decide (-(2^62)<a)&&decide (a<2^62)
noncomputable def walk(c:Src)(f:D->List D->M (List D)):Nat->Nat->List D->M (List D)
 |0,_,_=>M.no
 |k+1,i,acc=>λs=>match c.at i s with
  |none=>none
  |some none=>some (.ok acc,s)
  |some (some x)=>M.bd (f x acc) (λacc'=>walk c f k (i+1) acc') s
noncomputable def xW(f:D->M Xv):List D->Option (List Int)
 |[]=>some []
 |x::r=>match f x [] with
  |some (.ok (.d (.int k)),[])=>(xW f r).map (k::·)
  |_=>none
noncomputable abbrev Vs:=List (Option Xv)
noncomputable abbrev Fn:=Nat->List Xv->M Xv
noncomputable def locs:List Xv->List Nat
 |[]=>[]
 |.d _::r=>locs r
 |.l n::r=>n::locs r
noncomputable def cR:Nat->List Xv->List Xv
 |_,[]=>[]
 |k,.d v::r=>.d v::cR k r
 |k,.l _::r=>.l k::cR (k+1) r
noncomputable def gQ(s:S):List Nat->Option S
 |[]=>some []
 |n::r=>match s[n]?,gQ s r with
  |some o,some q=>some (o::q)
  |_,_=>none
noncomputable def cD(s:S):List Nat->S->S
 |n::r,o::q=>cD (s.set n o) r q
 |_,_=>s
noncomputable def bY(F:List Xv->M Xv)(xs:List Xv):M Xv:=λs=>
 if (locs xs).Nodup then match gQ s (locs xs) with
  |none=>none
  |some s0=>match F (cR 0 xs) s0 with
   |none=>none
   |some (.er c fs,s1)=>some (.er c fs,cD s (locs xs) s1)
   |some (.ok (.d v),s1)=>some (.ok (.d v),cD s (locs xs) s1)
   |some (.ok (.l n),s1)=>match (locs xs)[n]? with
    |some m=>some (.ok (.l m),cD s (locs xs) s1)
    |none=>match s1[n]? with
     |some o=>some (.ok (.l s.length),cD s (locs xs) s1++[o])
     |none=>none
 else none
noncomputable def mkW(F:List Xv->M Xv)(c:Nat)(vs:List Xv):M Xv:=λs=>
 if locs vs=[] then match F (.d .any::vs) [] with
  |some (.ok (.d (.tup ds)),_)=>some (.ok (.d (.ob c ds)),s)
  |_=>none
 else none
noncomputable def GP(c:Nat)(x:Xv):M (List D):=match x with
 |.d (.ob e fs)=>if e=c then M.ret fs else M.no
 |_=>M.no
noncomputable def fO{α:Type}:List Nat->List α->List (Option α)->Option (List (Option α))
 |[],[],J=>some J
 |i::is,d::ds,J=>fO is ds (J.set i (some d))
 |_,_,_=>none
noncomputable def j9:D->Option (List D)
 |.tup xs=>some xs
 |_=>none
noncomputable def jx(tg:List Nat)(x:D)(J:Vs):Option Vs:=match tg with
 |[i]=>some (J.set i (some (.d x)))
 |is=>(j9 x).bind λds=>fO is (ds.map .d) J
noncomputable def blk(many:Nat)(fr:List Nat)(J:Vs):Vs:=List.replicate many none++fr.map λj=>J[j]?.join
section
variable (ao:Nat->Nat->Bool)(aj:Bool)(F:Fn)
mutual
noncomputable def ev:E->Vs->M Xv
 |.c d,_=>M.ret (.d d)
 |.v i,J=>M.opt (J[i]?.join)
 |.pr fz p xs,J=>M.bd (evs xs J) λvs=>M.bd (dO vs) λds=>bH fz (prim p ds)
 |.qN p q a b c,J=>M.bd (ev a J) λx=>M.bd (ev b J) λy=>M.bd (dO [x,y]) λds=>M.bd (bH true (prim p ds)) λt=>M.bd (bool t) λk=>
   if k=true then M.bd (ev c J) λz=>M.bd (dO [y,z]) λds=>bH true (prim q ds) else M.ret (.d (.bl false))
 |.zF p q r a b c d,J=>M.bd (ev a J) λx=>M.bd (ev b J) λy=>M.bd (dO [x,y]) λds=>M.bd (bH true (prim p ds)) λt=>M.bd (bool t) λk=>
   if k=true then M.bd (ev c J) λz=>M.bd (dO [y,z]) λds=>M.bd (bH true (prim q ds)) λt=>M.bd (bool t) λk2=>
    if k2=true then M.bd (ev d J) λw=>M.bd (dO [z,w]) λds=>bH true (prim r ds) else M.ret (.d (.bl false))
   else M.ret (.d (.bl false))
 |.and a b,J=>M.bd (ev a J) λx=>M.bd (bool x) λk=>if k=true then ev b J else M.ret (.d (.bl false))
 |.or a b,J=>M.bd (ev a J) λx=>M.bd (bool x) λk=>if k=true then M.ret (.d (.bl true)) else ev b J
 |.not a,J=>M.bd (ev a J) λx=>M.bd (bool x) λk=>M.ret (.d (.bl (!k)))
 |.ite c a b,J=>M.bd (ev c J) λx=>M.bd (bool x) λk=>if k=true then ev a J else ev b J
 |.tup xs,J=>M.bd (evs xs J) λvs=>M.bd (dR vs) λds=>M.ret (.d (.tup ds))
 |.lst fz xs,J=>M.bd (evs xs J) λvs=>M.bd (dR vs) λds=>newL fz ds
 |.su k i,_=>M.ret (.d (.fd [.str k] [.int i]))
 |.call f xs,J=>M.bd (evs xs J) λvs=>bY (F f) vs
 |.fL a k,J=>M.bd (ev a J) λx=>M.bd (rd x) λd=>M.bd (M.opt (j8 ao d k)) λb=>M.ret (.d (.bl b))
 |.sl fz a lo hi,J=>M.bd (ev a J) λx=>M.bd (v7 lo J) λl=>M.bd (v7 hi J) λh=>M.bd (rd x) λd=>bH fz (cutD d l h)
 |.meth fz p k o xs,J=>M.bd (ev o J) λx=>M.bd (rd x) λd=>if nW k d=true then M.bd (evs xs J) λys=>M.bd (dO (x::ys)) λds=>bH fz (prim p ds) else M.no
 |.push o a,J=>M.bd (ev o J) λx=>M.bd (cC x) λ_=>M.bd (ev a J) λy=>M.bd (dat y) λd=>M.bd (cC x) λnx=>if nx.2.length<sizeLine then M.bd (putL nx.1 (nx.2++[d])) λ_=>M.ret (.d .non) else M.no
 |.pop o,J=>M.bd (ev o J) λx=>M.bd (cC x) λnx=>match nx.2.getLast? with
   |some d=>M.bd (putL nx.1 nx.2.dropLast) λ_=>M.ret (.d d)
   |none=>M.no
 |.comp fz elt tg it fr many cond,J=>if aj=true then M.bd (mY it J) λcn=>
   M.bd (walk cn.1 (λd acc=>M.bd (M.opt (jx tg d (blk many fr J))) λJ'=>M.bd (M.qt (sO cond J')) λok=>
    if ok=true then M.bd (M.qt (ev elt J')) λy=>M.bd (dat y) λe=>if acc.length<sizeLine then M.ret (acc++[e]) else M.no else M.ret acc) (cn.2+1) 0 []) λxs=>newL fz xs
  else M.no
 |.Gp fz elt tg it Wa Gj fr many cond,J=>if aj=true then M.bd (mY it J) λcn=>
   M.bd (walk cn.1 (λd acc=>M.bd (M.opt (jx tg d (blk many fr J))) λJ'=>M.bd (M.qt (mY Gj J')) λWf=>
    walk Wf.1 (λd2 acc=>M.bd (M.opt (jx Wa d2 J')) λWg=>M.bd (M.qt (sO cond Wg)) λok=>
     if ok=true then M.bd (M.qt (ev elt Wg)) λy=>M.bd (dat y) λe=>if acc.length<sizeLine then M.ret (acc++[e]) else M.no else M.ret acc) (Wf.2+1) 0 acc) (cn.2+1) 0 []) λxs=>newL fz xs
  else M.no
 |.fld o cs i,J=>M.bd (ev o J) λx=>match x with
   |.d (.exc c fs)=>if cs.contains c=true then M.opt (fs[i]?.map .d) else M.no
   |_=>M.no
 |.of o c i,J=>M.bd (ev o J) λx=>M.bd (GP c x) λfs=>M.opt (fs[i]?.map .d)
 |.mk c f xs,J=>M.bd (evs xs J) λvs=>mkW (F f) c vs
 |.cm c f o xs,J=>M.bd (ev o J) λx=>M.bd (GP c x) λ_=>M.bd (evs xs J) λvs=>M.qt (bY (F f) (x::vs))
 |.Pk,_=>λs=>some (.ok (.l s.length),s++[.dct []])
 |.din b k d,J=>M.bd (ev k J) λx=>M.bd (ev d J) λy=>M.bd (key x) λkx=>M.bd (sH y) λnk=>M.ret (.d (.bl ((vZ kx nk.2).isSome==b)))
 |.Pn d k,J=>M.bd (ev d J) λy=>M.bd (ev k J) λx=>M.bd (key x) λkx=>M.bd (sH y) λnk=>M.opt ((vZ kx nk.2).map .d)
 |.tru a,J=>M.bd (ev a J) λx=>M.bd (rd x) λd=>M.bd (M.opt (GK d)) λk=>M.ret (.d (.bl k))
 |.Gq fz a b,J=>if aj=true then M.bd (ev a J) λx=>match x with
   |.d (.fl xs)=>M.bd (M.opt (xW (λd=>ev b [some (.d d)]) xs)) λks=>M.bd (M.opt (xU (ltK ks) xs)) λys=>newL fz ys
   |_=>M.no else M.no
 |.orv a b,J=>M.bd (ev a J) λx=>M.bd (rd x) λd=>M.bd (M.opt (GK d)) λk=>if k=true then M.ret x else ev b J
 |.ins o i a,J=>M.bd (ev o J) λx=>M.bd (cC x) λ_=>M.bd (ev i J) λz=>M.bd (int z) λj=>M.bd (ev a J) λy=>M.bd (dat y) λd=>M.bd (cC x) λnx=>if 0<=j/\j<=nx.2.length/\nx.2.length<sizeLine then M.bd (putL nx.1 (nx.2.take j.toNat++d::nx.2.drop j.toNat)) λ_=>M.ret (.d .non) else M.no
 |.no,_=>M.no
noncomputable def mY:Wk->Vs->M (Src×Nat)
 |.seq e,J=>M.bd (ev e J) src
 |.rg a b,J=>M.bd (ev a J) λx=>M.bd (ev b J) λy=>M.bd (int x) λi=>M.bd (int y) λj=>if eE i&&eE j then M.ret (.fix (iH i j),(iH i j).length) else M.no
 |.zip a b,J=>M.bd (ev a J) λx=>M.bd (ev b J) λy=>M.bd (n_ x) λxs=>M.bd (n_ y) λys=>M.ret (.fix (List.zipWith (λp q=>.tup [p,q]) xs ys),(List.zipWith (λ(p q:D)=>D.tup [p,q]) xs ys).length)
 |.enum a,J=>M.bd (ev a J) sJ
 |.rrg a,J=>M.bd (ev a J) λx=>M.bd (int x) λi=>if eE i then M.ret (.fix (iH 0 i).reverse,(iH 0 i).length) else M.no
noncomputable def v7:Eo->Vs->M (Option Int)
 |.no,_=>M.ret none
 |.yes a,J=>M.bd (ev a J) λx=>M.bd (int x) λi=>M.ret (some i)
noncomputable def sO:Eo->Vs->M Bool
 |.no,_=>M.ret true
 |.yes a,J=>M.bd (ev a J) bool
noncomputable def evs:Es->Vs->M (List Xv)
 |.nil,_=>M.ret []
 |.cons a r,J=>M.bd (ev a J) λx=>M.bd (evs r J) λxs=>M.ret (x::xs)
end
end
inductive Out where
 |nx (J:Vs)|rt (x:Xv)|bk (J:Vs)|ct (J:Vs)|er (c:Nat) (fs:List D) (J:Vs)
noncomputable abbrev MS:=S->Option (Out×S)
noncomputable def ofM{α:Type}(m:M α)(J:Vs)(k:α->MS):MS:=λs=>match m s with
 |some (.ok a,s')=>k a s'
 |some (.er c fs,s')=>some (.er c fs J,s')
 |none=>none
noncomputable def b_(m:MS)(k:Vs->MS):MS:=λs=>match m s with
 |some (.nx J,s')=>k J s'
 |r=>r
section
variable (ao:Nat->Nat->Bool)
noncomputable def store(aj:Bool)(F:Fn)(t:Tg)(x:Xv)(J:Vs):MS:=match t with
 |.nm i=>λs=>some (.nx (J.set i (some x)),s)
 |.tp is=>if aj=true then ofM (M.bd (dat x) λd=>M.opt ((j9 d).bind λds=>fO is (ds.map .d) J)) J (λJ' s=>some (.nx J',s)) else λ_=>none
 |.ao o i=>ofM (M.bd (dat x) λd=>M.bd (ev ao aj F o J) λy=>M.bd (ev ao aj F i J) λz=>M.bd (int z) λj=>M.bd (cC y) λnx=>
   match L2.vL nx.2.length j with
   |some q=>putL nx.1 (nx.2.set q d)
   |none=>M.no) J (λ_ s=>some (.nx J,s))
noncomputable def oh(c:Vs->M Bool)(b:Vs->MS):Nat->Vs->MS
 |0,_=>λ_=>none
 |k+1,J=>ofM (c J) J λok=>if ok=true then λs=>match b J s with
   |some (.nx J',s')=>oh c b k J' s'
   |some (.ct J',s')=>oh c b k J' s'
   |some (.bk J',s')=>some (.nx J',s')
   |r=>r
  else λs=>some (.nx J,s)
noncomputable def cX(c:Src)(b:D->Vs->MS):Nat->Nat->Vs->MS
 |0,_,_=>λ_=>none
 |k+1,i,J=>λs=>match c.at i s with
  |none=>none
  |some none=>some (.nx J,s)
  |some (some d)=>match b d J s with
   |some (.nx J',s')=>cX c b k (i+1) J' s'
   |some (.ct J',s')=>cX c b k (i+1) J' s'
   |some (.bk J',s')=>some (.nx J',s')
   |r=>r
noncomputable def goes(i:Nat):Out->Out
 |.nx J=>.nx (J.set i none)
 |.bk J=>.bk (J.set i none)
 |.ct J=>.ct (J.set i none)
 |r=>r
noncomputable def GQ:Nat:=1000000000000
mutual
noncomputable def ex(aj:Bool)(F:Bool->Fn):St->Vs->MS
 |.pass,J=>λs=>some (.nx J,s)
 |.ex e,J=>ofM (ev ao aj (F aj) e J) J λ_ s=>some (.nx J,s)
 |.asg t e,J=>ofM (ev ao aj (F aj) e J) J λx=>store ao aj (F aj) t x J
 |.par i j a b,J=>if aj=true then ofM (M.bd (ev ao aj (F aj) a J) λx=>M.bd (ev ao aj (F aj) b J) λy=>M.ret (x,y)) J λxy s=>some (.nx ((J.set i (some xy.1)).set j (some xy.2)),s) else λ_=>none
 |.aug i e,J=>ofM (M.bd (M.opt (J[i]?.join)) λx=>M.bd (ev ao aj (F aj) e J) λy=>M.bd (int x) λp=>M.bd (int y) λq=>M.ret (p+q)) J λr s=>some (.nx (J.set i (some (.d (.int r)))),s)
 |.ret e,J=>ofM (ev ao aj (F aj) e J) J λx s=>some (.rt x,s)
 |.rise c kp xs,J=>if aj=true then ofM (M.bd (evs ao aj (F aj) xs J) dR) J λds s=>some (.er c (if kp=true then ds else []) J,s) else λ_=>none
 |.iff c t e,J=>ofM (M.bd (ev ao aj (F aj) c J) bool) J λb=>if b=true then exs aj F t J else exs aj F e J
 |.wh c b,J=>oh (λJ=>M.bd (ev ao aj (F aj) c J) bool) (λJ=>exs aj F b J) GQ J
 |.fr t w b,J=>if aj=true then ofM (mY ao aj (F aj) w J) J λcn=>cX cn.1 (λd J=>b_ (store ao aj (F aj) t (.d d) J) λJ'=>exs aj F b J') (cn.2+1) 0 J else λ_=>none
 |.qe b d i h,J=>if aj=true then λs=>match exs aj F b J s with
   |some (.er c fs J',s')=>if ao c d=true then (match exs false F h (J'.set i (some (.d (.exc c fs)))) s' with
    |some (r,s'')=>(match r with
     |.er _ _ _=>none
     |r=>some (goes i r,s''))
    |none=>none) else none
   |r=>r
  else λ_=>none
 |.dput d k v,J=>ofM (M.bd (ev ao aj (F aj) v J) λz=>M.bd (dat z) λw=>M.bd (ev ao aj (F aj) d J) λy=>M.bd (ev ao aj (F aj) k J) λx=>M.bd (key x) λkx=>M.bd (sH y) λnk=>if nk.2.length<sizeLine then putD nk.1 (PN kx w nk.2) else M.no) J (λ_ s=>some (.nx J,s))
 |.no,_=>λ_=>none
noncomputable def exs(aj:Bool)(F:Bool->Fn):bw->Vs->MS
 |.nil,J=>λs=>some (.nx J,s)
 |.cons a r,J=>b_ (ex aj F a J) λJ'=>exs aj F r J'
end
structure Df where
 many:Nat
 gD:Nat
 body:bw
noncomputable def call(T:Nat->Option Df):Nat->Bool->Fn
 |0,_,_,_=>M.no
 |k+1,aj,f,xs=>match T f with
  |none=>M.no
  |some d=>if xs.length=d.gD then λs=>match exs ao aj (λc=>call T k c) d.body (xs.map some++List.replicate (d.many-d.gD) none) s with
    |some (.nx _,s')=>some (.ok (.d .non),s')
    |some (.rt v,s')=>some (.ok v,s')
    |some (.er c fs _,s')=>some (.er c fs,s')
    |_=>none
   else M.no
end
end Mi
namespace Mi
open PySem L2
structure Ph where
 z:Addr->Prop
 l:List Addr
structure Cl where
 a:Nat->Addr
 f:Nat->List Str
 b:Nat->Addr
 g:Nat->List Str
section
variable (K:W.Frag)(cA:Cl)
def KT(a:Addr)(vs:List V):Prop:=f9 K (λ_=>none) a vs
def KL(a:Addr)(vs:List V):Prop:=dj K (λ_=>none) a vs
def TupAt(U:Ph)(H:Hp)(a:Addr)(vs:List V):Prop:=(Rd H a (.tup vs)/\¬U.z a)\/KT K a vs
def LstAt(U:Ph)(H:Hp)(a:Addr)(vs:List V):Prop:=(Rd H a (.lst vs)/\¬U.z a)\/KL K a vs
def ExcAt(U:Ph)(H:Hp)(a:Addr)(c:Nat)(vs:List V):Prop:=¬U.z a/\((cA.f c=[]/\vs=[]/\H a=some (gM a (cA.a c) none))\/∃dx,H a=some (gM a (cA.a c) (some dx))/\¬U.z dx/\H dx=some (.xd ((cA.f c).zip vs))/\(cA.f c).length=vs.length)
def ou(U:Ph)(H:Hp)(a:Addr)(c:Nat)(vs:List V):Prop:=¬U.z a/\∃dx,H a=some (.ins (cA.b c) dx ((cA.g c).zip vs))/\(cA.g c).length=vs.length
mutual
inductive Rep (U:Ph) (H:Hp):D->V->Prop where
 |non:Rep U H .non .non
 |bl (b:Bool):Rep U H (.bl b) (.bl b)
 |int (i:Int):Rep U H (.int i) (.int i)
 |str (x:Str):Rep U H (.str x) (.str x)
 |tup {a:Addr} {xs:List D} {vs:List V} (h:TupAt K U H a vs) (r:aB U H xs vs):Rep U H (.tup xs) (.ref a)
 |fl {a:Addr} {xs:List D} {vs:List V} (h:LstAt K U H a vs) (r:aB U H xs vs):Rep U H (.fl xs) (.ref a)
 |fd {a:Addr} {k:Str} {i:Int} (h:H a=some (.dK [(.inr k,.int i)])) (n:¬U.z a):Rep U H (.fd [.str k] [.int i]) (.ref a)
 |exc {a:Addr} {c:Nat} {xs:List D} {vs:List V} (h:ExcAt cA U H a c vs) (r:aB U H xs vs):Rep U H (.exc c xs) (.ref a)
 |ob {a:Addr} {c:Nat} {xs:List D} {vs:List V} (h:ou cA U H a c vs) (r:aB U H xs vs):Rep U H (.ob c xs) (.ref a)
 |any (a:Addr):Rep U H .any (.ref a)
inductive aB (U:Ph) (H:Hp):List D->List V->Prop where
 |nil:aB U H [] []
 |cons {d:D} {v:V} {ds:List D} {vs:List V} (h:Rep U H d v) (r:aB U H ds vs):aB U H (d::ds) (v::vs)
end
inductive bB (U:Ph) (H:Hp):Xv->V->Prop where
 |d {x:D} {v:V} (h:Rep K cA U H x v):bB U H (.d x) v
 |l {n:Nat} {a:Addr} (h:U.l[n]?=some a):bB U H (.l n) (.ref a)
inductive bL (U:Ph) (H:Hp):List Xv->List V->Prop where
 |nil:bL U H [] []
 |cons {d:Xv} {v:V} {ds:List Xv} {vs:List V} (h:bB K cA U H d v) (r:bL U H ds vs):bL U H (d::ds) (v::vs)
noncomputable def kxH:Kx->Int
 |.non=>reduceHash 0xFCA86420
 |.int i=>hashInt i
 |.row is=>reduceHash (Builtin.Tuple.tupleHashOf (is.map hashInt))
noncomputable def GR(k:List Kx):Int:=reduceHash (Builtin.Tuple.tupleHashOf (k.map kxH))
noncomputable def kxD:Kx->D
 |.non=>.non
 |.int i=>.int i
 |.row is=>.tup (is.map .int)
noncomputable def PX(k:List Kx):D:=.tup (k.map kxD)
noncomputable abbrev ql:=List (List Kx×Addr×Value)
noncomputable def DcO(a:Addr)(xs:ql):HO:=.ext λh=>(a==sysModules)=false/\xs.length<=sizeLine/\∃o es ep,h.get? a=some o/\o.ExactDict/\o.data=.dict es ep/\es.toList=xs.map (λx=>⟨GR x.1,.ref x.2.1,x.2.2⟩)/\(xs.map (·.1)).Nodup
inductive zO (U:Ph) (H:Hp):uJ->ql->Prop where
 |nil:zO U H [] []
 |cons {k:List Kx} {d:D} {ka:Addr} {u:Value} {v:V} {r:uJ} {xs:ql} (hk:Rep K cA U H (PX k) (.ref ka)) (hu:RelV v u) (hv:Rep K cA U H d v) (q:zO U H r xs):zO U H ((k,d)::r) ((k,ka,u)::xs)
noncomputable def jG(U:Ph)(H:Hp)(a:Addr):SO->Prop
 |.lst xs=>∃vs,H a=some (.lst vs)/\aB K cA U H xs vs
 |.dct kvs=>∃xs,H a=some (DcO a xs)/\zO K cA U H kvs xs
structure aC(U:Ph)(H:Hp)(s:S):Prop where
 len:U.l.length=s.length
 obj:∀(n:Nat) o a,s[n]?=some o->U.l[n]?=some a->jG K cA U H a o
 uniq:U.l.Nodup
 lz:∀a∈U.l,U.z a
 zt:∀a,U.z a->∃o,H a=some o
structure Ext(U:Ph)(H:Hp)(U':Ph)(H':Hp):Prop where
 more:∃r,U'.l=U.l++r/\∀b∈r,H b=none
 uK:∀a,U.z a->U'.z a
 mH:∀a,U'.z a->U.z a\/H a=none
 frame:∀a o,H a=some o->a∉U.l->H' a=some o
 stay:∀a o,H a=some o->∃o',H' a=some o'
def aW(U:Ph)(H:Hp)(Z:L2.St)(J:Vs):Prop:=Z.length=J.length/\∀(i:Nat) (x:Xv),J[i]?=some (some x)->∃v,Z[i]?=some (some v)/\bB K cA U H x v
end
section
variable {K:W.Frag}{cA:Cl}{U U' P0:Ph}{H H' P_:Hp}{s:S}{Z:L2.St}{J:Vs}
theorem Ext.refl:Ext U H U H:=⟨⟨[],by simp,by simp⟩,λ_ h=>h,λ_ h=>.inl h,λ_ _ h _=>h,λ_ o h=>⟨o,h⟩⟩
theorem Ext.j_(x:Ext U H U' H'){a:Addr}(h:H' a=none):H a=none:=by
 cases e:H a with
 |none=>rfl
 |some o=>obtain⟨o',q⟩:=x.stay a o e;rw[h] at q;cases q
theorem Ext.trans(x:Ext U H U' H')(y:Ext U' H' P0 P_):Ext U H P0 P_:=by
 obtain⟨r,e,hr⟩:=x.more;obtain⟨r',e',mZ⟩:=y.more;refine⟨⟨r++r',by rw[e',e,Br],λb hb=>?_⟩,λa h=>y.uK a (x.uK a h),λa h=>?_,λa o h n=>y.frame a o (x.frame a o h n) ?_,λa o h=>?_⟩
 ·rcases fX.mp hb with z|z
  ·exact hr b z
  ·exact x.j_ (mZ b z)
 ·rcases y.mH a h with z|z
  ·exact x.mH a z
  ·exact .inr (x.j_ z)
 ·rw[e];intro z;rcases fX.mp z with z|z
  ·exact n z
  ·rw[hr a z] at h;cases h
 ·obtain⟨o',q⟩:=x.stay a o h;exact y.stay a o' q
theorem Ext.get(x:Ext U H U' H'){n:Nat}{a:Addr}(h:U.l[n]?=some a):U'.l[n]?=some a:=by
 obtain⟨r,e,_⟩:=x.more;rw[e,oU (iK.mp h).1];exact h
theorem Ext.out(x:Ext U H U' H')(hz:∀a∈U.l,U.z a){a:Addr}{o:HO}(h:H a=some o)(n:¬U.z a):H' a=some o/\¬U'.z a:=
 ⟨x.frame a o h λz=>n (hz a z),λz=>by
  rcases x.mH a z with y|y
  ·exact n y
  ·rw[h] at y;cases y⟩
theorem TupAt.mono(x:Ext U H U' H')(hz:∀a∈U.l,U.z a){a:Addr}{vs:List V}(h:TupAt K U H a vs):TupAt K U' H' a vs:=by
 rcases h with ⟨h|⟨o,h⟩,n⟩|h
 ·obtain⟨p,q⟩:=x.out hz h n;exact .inl ⟨.inl p,q⟩
 ·obtain⟨p,q⟩:=x.out hz h n;exact .inl ⟨.inr ⟨o,p⟩,q⟩
 ·exact .inr h
theorem LstAt.mono(x:Ext U H U' H')(hz:∀a∈U.l,U.z a){a:Addr}{vs:List V}(h:LstAt K U H a vs):LstAt K U' H' a vs:=by
 rcases h with ⟨h|⟨o,h⟩,n⟩|h
 ·obtain⟨p,q⟩:=x.out hz h n;exact .inl ⟨.inl p,q⟩
 ·obtain⟨p,q⟩:=x.out hz h n;exact .inl ⟨.inr ⟨o,p⟩,q⟩
 ·exact .inr h
theorem ExcAt.mono(x:Ext U H U' H')(hz:∀a∈U.l,U.z a){a:Addr}{c:Nat}{vs:List V}(h:ExcAt cA U H a c vs):ExcAt cA U' H' a c vs:=by
 obtain⟨n,⟨e1,e2,h⟩|⟨dx,h,n2,h2,h3⟩⟩:=h
 ·obtain⟨p,q⟩:=x.out hz h n;exact⟨q,.inl ⟨e1,e2,p⟩⟩
 ·obtain⟨p,q⟩:=x.out hz h n;obtain⟨p2,q2⟩:=x.out hz h2 n2;exact⟨q,.inr ⟨dx,p,q2,p2,h3⟩⟩
theorem ou.mono(x:Ext U H U' H')(hz:∀a∈U.l,U.z a){a:Addr}{c:Nat}{vs:List V}(h:ou cA U H a c vs):ou cA U' H' a c vs:=by
 obtain⟨n,dx,h,h3⟩:=h;obtain⟨p,q⟩:=x.out hz h n;exact⟨q,dx,p,h3⟩
theorem Rep.mono(x:Ext U H U' H')(hz:∀a∈U.l,U.z a){d:D}{v:V}(h:Rep K cA U H d v):Rep K cA U' H' d v:=
 Rep.rec (motive_1:=λd v _=>Rep K cA U' H' d v) (motive_2:=λd v _=>aB K cA U' H' d v) .non .bl .int .str (λh _ i=>.tup (h.mono x hz) i) (λh _ i=>.fl (h.mono x hz) i) (λh n=>.fd (x.out hz h n).1 (x.out hz h n).2) (λh _ i=>.exc (h.mono x hz) i) (λh _ i=>.ob (h.mono x hz) i) .any .nil (λ_ _ i j=>.cons i j) h
theorem aB.mono(x:Ext U H U' H')(hz:∀a∈U.l,U.z a){d:List D}{v:List V}(h:aB K cA U H d v):aB K cA U' H' d v:=
 aB.rec (motive_1:=λd v _=>Rep K cA U' H' d v) (motive_2:=λd v _=>aB K cA U' H' d v) .non .bl .int .str (λh _ i=>.tup (h.mono x hz) i) (λh _ i=>.fl (h.mono x hz) i) (λh n=>.fd (x.out hz h n).1 (x.out hz h n).2) (λh _ i=>.exc (h.mono x hz) i) (λh _ i=>.ob (h.mono x hz) i) .any .nil (λ_ _ i j=>.cons i j) h
theorem aB.map(m:∀d v,Rep K cA U H d v->Rep K cA U' H' d v):∀{d:List D} {v:List V},aB K cA U H d v->aB K cA U' H' d v
 |_,_,.nil=>.nil
 |_,_,.cons h r=>.cons (m _ _ h) (aB.map m r)
theorem zO.map(m:∀d v,Rep K cA U H d v->Rep K cA U' H' d v){d:uJ}{v:ql}(h:zO K cA U H d v):zO K cA U' H' d v:=by
 induction h with
 |nil=>exact .nil
 |cons a b c _ ih=>exact .cons (m _ _ a) b (m _ _ c) ih
theorem jG.map{a:Addr}{o:SO}(h:jG K cA U H a o)(e:∀u,H a=some u->H' a=some u)(m:∀d v,Rep K cA U H d v->Rep K cA U' H' d v):jG K cA U' H' a o:=by
 cases o with
 |lst xs=>obtain⟨vs,q,r⟩:=h;exact⟨vs,e _ q,r.map m⟩
 |dct xs=>obtain⟨vs,q,r⟩:=h;exact⟨vs,e _ q,r.map m⟩
theorem bB.mono(x:Ext U H U' H')(hz:∀a∈U.l,U.z a){d:Xv}{v:V}(h:bB K cA U H d v):bB K cA U' H' d v:=by
 cases h with
 |d h=>exact .d (h.mono x hz)
 |l h=>exact .l (x.get h)
theorem aW.mono(x:Ext U H U' H')(hz:∀a∈U.l,U.z a)(h:aW K cA U H Z J):aW K cA U' H' Z J:=⟨h.1,λi d e=>let ⟨v,a,b⟩:=h.2 i d e;⟨v,a,b.mono x hz⟩⟩
theorem aB.len:∀{ds:List D} {vs:List V},aB K cA U H ds vs->ds.length=vs.length
 |_,_,.nil=>rfl
 |_,_,.cons _ r=>by rw[iB,iB,aB.len r]
theorem bL.len:∀{ds:List Xv} {vs:List V},bL K cA U H ds vs->ds.length=vs.length
 |_,_,.nil=>rfl
 |_,_,.cons _ r=>by rw[iB,iB,bL.len r]
theorem aB.get:∀{ds:List D} {vs:List V} {i:Nat} {d:D},aB K cA U H ds vs->ds[i]?=some d->∃v,vs[i]?=some v/\Rep K cA U H d v
 |_,_,_,_,.nil,e=>by simp at e
 |_,_,0,_,.cons h _,e=>by simp at e;subst e;exact⟨_,rfl,h⟩
 |_,_,i+1,d,.cons _ r,e=>by
  obtain⟨v,a,b⟩:=aB.get (i:=i) (d:=d) r (by simpa using e);exact⟨v,by simpa using a,b⟩
theorem bL.get:∀{ds:List Xv} {vs:List V} {i:Nat} {d:Xv},bL K cA U H ds vs->ds[i]?=some d->∃v,vs[i]?=some v/\bB K cA U H d v
 |_,_,_,_,.nil,e=>by simp at e
 |_,_,0,_,.cons h _,e=>by simp at e;subst e;exact⟨_,rfl,h⟩
 |_,_,i+1,d,.cons _ r,e=>by
  obtain⟨v,a,b⟩:=bL.get (i:=i) (d:=d) r (by simpa using e);exact⟨v,by simpa using a,b⟩
theorem aB.none:∀{ds:List D} {vs:List V} {i:Nat},aB K cA U H ds vs->ds[i]?=none->vs[i]?=none:=λ{ds vs i} r e=>by
 have:=r.len;have h2:ds.length<=i:=oV.mp e;exact oV.mpr gV
theorem aB.app:∀{ds es:List D} {vs us:List V},aB K cA U H ds vs->aB K cA U H es us->aB K cA U H (ds++es) (vs++us)
 |_,_,_,_,.nil,s=>s
 |_,_,_,_,.cons h r,s=>.cons h (aB.app r s)
theorem aB.take:∀{ds:List D} {vs:List V} (n:Nat),aB K cA U H ds vs->aB K cA U H (ds.take n) (vs.take n)
 |_,_,0,_=>by simp;exact .nil
 |_,_,n+1,.nil=>by simp;exact .nil
 |_,_,n+1,.cons h r=>by simp only[List.take_succ_cons];exact .cons h (aB.take n r)
theorem aB.drop:∀{ds:List D} {vs:List V} (n:Nat),aB K cA U H ds vs->aB K cA U H (ds.drop n) (vs.drop n)
 |_,_,0,r=>r
 |_,_,n+1,.nil=>by simp;exact .nil
 |_,_,n+1,.cons _ r=>by simp only[List.drop_succ_cons];exact aB.drop n r
theorem aB.set{d:D}{v:V}(h:Rep K cA U H d v):∀{ds:List D} {vs:List V} (i:Nat),aB K cA U H ds vs->aB K cA U H (ds.set i d) (vs.set i v)
 |_,_,_,.nil=>.nil
 |_,_,0,.cons _ r=>.cons h r
 |_,_,i+1,.cons q r=>.cons q (aB.set h i r)
theorem aB.rev:∀{ds:List D} {vs:List V},aB K cA U H ds vs->aB K cA U H ds.reverse vs.reverse
 |_,_,.nil=>.nil
 |_,_,.cons h r=>by rw[Jc,Jc];exact(aB.rev r).app (.cons h .nil)
theorem aB.cut{ds:List D}{vs:List V}{l h:Option Int}(r:aB K cA U H ds vs):aB K cA U H (Mi.cut ds l h) (lC vs l h):=by
 unfold Mi.cut lC;rw[<-r.len];exact(r.drop _).take _
def bD(H H':Hp):Prop:=∀a o,H a=some o->H' a=some o
theorem bD.refl:bD H H:=λ_ _ h=>h
theorem bD.new{p:Addr}{o:HO}(hp:H p=none):bD H (upd H p o):=λa u h=>by rw[cQ (BL h hp)];exact h
theorem bD.ext(g:bD H H'):Ext U H U H':=⟨⟨[],by simp,by simp⟩,λ_ h=>h,λ_ h=>.inl h,λa o h _=>g a o h,λa o h=>⟨o,g a o h⟩⟩
theorem jG.grow{a:Addr}{o:SO}(g:bD H H')(hz:∀a∈U.l,U.z a)(h:jG K cA U H a o):jG K cA U H' a o:=h.map (g _) λ_ _ r=>r.mono g.ext hz
theorem aC.grow(g:bD H H')(h:aC K cA U H s):aC K cA U H' s:=
 ⟨h.len,λn o a e1 e2=>(h.obj n o a e1 e2).grow g h.lz,h.uniq,h.lz,λa z=>let ⟨o,e⟩:=h.zt a z;⟨o,g _ _ e⟩⟩
theorem aC.nz(h:aC K cA U H s){p:Addr}(hp:H p=none):¬U.z p:=λz=>by obtain⟨o,e⟩:=h.zt p z;rw[hp] at e;cases e
noncomputable def Ph.add(U:Ph)(p:Addr):Ph:=⟨λa=>U.z a\/a=p,U.l++[p]⟩
theorem Ext.add{p:Addr}{o:HO}(hp:H p=none):Ext U H (U.add p) (upd H p o):=
 ⟨⟨[p],rfl,by simpa using hp⟩,λ_ h=>.inl h,λa h=>h.imp id λe=>by rw[e];exact hp,λa u h _=>bD.new hp a u h,λa u h=>⟨u,bD.new hp a u h⟩⟩
theorem aC.Qa{p:Addr}{so:SO}{ho:HO}(h:aC K cA U H s)(hp:H p=none)(hr:jG K cA (U.add p) (upd H p ho) p so):aC K cA (U.add p) (upd H p ho) (s++[so]):=by
 have pn:p∉U.l:=λz=>h.nz hp (h.lz p z);refine⟨by show (U.l++[p]).length=_;rw[eZ,eZ,h.len];rfl,λn o a e1 e2=>?_,?_,λa ha=>?_,λa ha=>?_⟩
 ·have e2:(U.l++[p])[n]?=some a:=e2;by_cases hn:n<s.length
  ·rw[oU hn] at e1;rw[oU (by rw[h.len];exact hn)] at e2;exact(h.obj n o a e1 e2).map (bD.new hp _) λ_ _ r=>r.mono (Ext.add hp) h.lz
  ·have hl:n=s.length:=by
    have z:=(iK.mp e1).1;rw[eZ] at z;simp at z
    lia
   subst hl;rw[m8 (bT _)] at e1;rw[m8 (by rw[h.len];exact bT _)] at e2;simp at e1;simp[h.len] at e2;subst e1 e2;exact hr
 ·show (U.l++[p]).Nodup;rw[Jd];refine⟨h.uniq,by simp,λa ha b hb e=>?_⟩;simp at hb;subst hb e;exact pn ha
 ·have ha:a∈U.l++[p]:=ha;rcases fX.mp ha with z|z
  ·exact .inl (h.lz a z)
  ·simp at z;exact .inr z
 ·rcases ha with z|z
  ·obtain⟨o,e⟩:=h.zt a z;exact⟨o,bD.new hp _ _ e⟩
  ·subst z;exact⟨_,jN⟩
theorem aC.add{p:Addr}{xs:List D}{vs:List V}(h:aC K cA U H s)(hp:H p=none)(r:aB K cA U H xs vs):aC K cA (U.add p) (upd H p (.lst vs)) (s++[.lst xs]):=h.Qa hp ⟨vs,jN,r.mono (Ext.add hp) h.lz⟩
theorem Ext.write{n:Nat}{p:Addr}{o:HO}(hp:U.l[n]?=some p)(hv:∃u,H p=some u):Ext U H U (upd H p o):=by
 have hm:p∈U.l:=jD hp;refine⟨⟨[],by simp,by simp⟩,λ_ h=>h,λ_ h=>.inl h,λa u h n=>by
  have ne:a≠p:=λe=>n (by rw[e];exact hm);rw[cQ ne];exact h,λa u h=>?_⟩
 by_cases e:a=p
 ·subst e;exact⟨o,jN⟩
 ·exact⟨u,by rw[cQ e];exact h⟩
theorem aC.zP{n:Nat}{p:Addr}{so:SO}{ho:HO}(h:aC K cA U H s)(hl:n<s.length)(hp:U.l[n]?=some p)(hr:jG K cA U (upd H p ho) p so):aC K cA U (upd H p ho) (s.set n so):=by
 have hv:=h.zt p (h.lz p (jD hp));have x:Ext U H U (upd H p ho):=Ext.write hp hv;refine⟨by rw[ni];exact h.len,λm o a e1 e2=>?_,h.uniq,h.lz,λa ha=>?_⟩
 ·by_cases hm:n=m
  ·subst hm;rw[wM hl] at e1;cases e1;rw[hp] at e2;cases e2;exact hr
  ·rw[qG hm] at e1;have ne:a≠p:=λy=>by
    subst y;exact hm ((Ml (iK.mp hp).1 h.uniq).mp (hp.trans e2.symm))
   exact(h.obj m o a e1 e2).map (λ_ q=>by rw[cQ ne];exact q) λ_ _ r=>r.mono x h.lz
 ·obtain⟨o,e⟩:=h.zt a ha;obtain⟨o',e'⟩:=x.stay a o e;exact⟨o',e'⟩
theorem aC.write{n:Nat}{p:Addr}{xs ys:List D}{us:List V}(h:aC K cA U H s)(hn:s[n]?=some (.lst xs))(hp:U.l[n]?=some p)(r:aB K cA U H ys us):aC K cA U (upd H p (.lst us)) (s.set n (.lst ys)):=
 h.zP (iK.mp hn).1 hp ⟨us,jN,r.mono (Ext.write hp (h.zt p (h.lz p (jD hp)))) h.lz⟩
theorem aW.set{i:Nat}{d:Xv}{v:V}(hL:aW K cA U H Z J)(r:bB K cA U H d v):aW K cA U H (Z.set i (some v)) (J.set i (some d)):=by
 refine⟨by rw[ni,ni];exact hL.1,λj e h=>?_⟩;by_cases jZ:i=j
 ·subst jZ;by_cases hl:i<J.length
  ·rw[wM hl] at h;cases h;exact⟨v,by rw[wM (by rw[hL.1];exact hl)],r⟩
  ·rw[IW (by rw[ni];lia)] at h;cases h
 ·rw[qG jZ] at h;obtain⟨u,a,b⟩:=hL.2 j e h;exact⟨u,by rw[qG jZ];exact a,b⟩
theorem aW.unset{i:Nat}(hL:aW K cA U H Z J):aW K cA U H (Z.set i none) (J.set i none):=by
 refine⟨by rw[ni,ni];exact hL.1,λj e h=>?_⟩;by_cases jZ:i=j
 ·subst jZ;by_cases hl:i<J.length
  ·rw[wM hl] at h;cases h
  ·rw[IW (by rw[ni];lia)] at h;cases h
 ·rw[qG jZ] at h;obtain⟨u,a,b⟩:=hL.2 j e h;exact⟨u,by rw[qG jZ];exact a,b⟩
theorem TupAt.jU{a:Addr}{vs:List V}(h:TupAt K U H a vs):f9 K H a vs:=by
 rcases h with ⟨h,_⟩|(h|h)
 ·exact .inl h
 ·rcases h with h|⟨o,h⟩<;>cases h
 ·exact .inr h
theorem LstAt.uL{a:Addr}{vs:List V}(h:LstAt K U H a vs):dj K H a vs:=by
 rcases h with ⟨h,_⟩|(h|h)
 ·exact .inl h
 ·rcases h with h|⟨o,h⟩<;>cases h
 ·exact .inr h
theorem TupAt.new{p:Addr}{vs:List V}(hz:¬U.z p):TupAt K U (upd H p (.tup vs)) p vs:=.inl ⟨.inl jN,hz⟩
theorem LstAt.new{p:Addr}{vs:List V}(hz:¬U.z p):LstAt K U (upd H p (.lst vs)) p vs:=.inl ⟨.inl jN,hz⟩
end
end Mi
namespace Mi
open PySem PySem.Spec PyProof.Rows L2
theorem un{α β γ:Type}{A B C:α->β->γ->Prop}{R:Prop}(h:∃a b c,A a b c/\B a b c/\C a b c)(f:∀a b c,A a b c->B a b c->C a b c->R):R:=by
 obtain⟨a,b,c,x,y,z⟩:=h;exact f a b c x y z
section
variable (K:W.Frag)(cA:Cl)
def Run{α:Type}(m:M α)(U:Ph)(H:Hp)(s:S)(P:α->S->Ph->Hp->Prop)(Ee:Nat->List D->S->Ph->Hp->Prop):Prop:=
 match m s with
 |some (.ok a,s')=>∀U' H',Ext U H U' H'->aC K cA U' H' s'->P a s' U' H'
 |some (.er c f,s')=>∀U' H',Ext U H U' H'->aC K cA U' H' s'->Ee c f s' U' H'
 |none=>False
def jy(U:Ph)(H:Hp)(c:Nat)(fs:List D)(dx:Option Addr):Prop:=
 (cA.f c=[]/\fs=[]/\dx=none)\/∃d vs,dx=some d/\¬U.z d/\H d=some (.xd ((cA.f c).zip vs))/\(cA.f c).length=vs.length/\aB K cA U H fs vs
noncomputable def eX(EX:XS)(Z:L2.St):Nat->List D->S->Ph->Hp->Prop:=λc fs _ U' H'=>∀dx,jy K cA U' H' c fs dx->EX Z (.ref (cA.a c)) dx H'
noncomputable def tE(EX:XS)(m:Vs->M Xv):TE:=λZ H Q=>∃U J s,aW K cA U H Z J/\aC K cA U H s/\Run K cA (m J) U H s (λd _ U' H'=>∀v,bB K cA U' H' d v->Q v H') (eX K cA EX Z)
noncomputable def Qc(EX:XS)(m:Vs->M (List Xv)):TA:=λZ H Q=>∃U J s,aW K cA U H Z J/\aC K cA U H s/\Run K cA (m J) U H s (λd _ U' H'=>∀v,bL K cA U' H' d v->Q v H') (eX K cA EX Z)
noncomputable def zQ(EX:XS)(m:Vs->M Bool):TT:=λZ H Q=>∃U J s,aW K cA U H Z J/\aC K cA U H s/\Run K cA (m J) U H s (λd _ U' H'=>Q d H') (eX K cA EX Z)
def Rv(U:Ph)(H:Hp)(d:D)(v:V):Prop:=match d with
 |.fl xs=>∃a vs,v=.ref a/\dj K H a vs/\aB K cA U H xs vs
 |d=>Rep K cA U H d v
inductive v8 (U:Ph) (H:Hp):List D->List V->Prop where
 |nil:v8 U H [] []
 |cons {d:D} {v:V} {ds:List D} {vs:List V} (h:Rv K cA U H d v) (r:v8 U H ds vs):v8 U H (d::ds) (v::vs)
def bf(U:Ph)(H:Hp)(o:Option Rz)(Q:VK):Prop:=match o with
 |none=>False
 |some (.dat d)=>∀H' v,bD H H'->Rep K cA U H' d v->Q v H'
 |some (.nw xs)=>∀p vs,H p=none->aB K cA U H xs vs->Q (.ref p) (upd H p (.lst vs))
structure Zt(U:Ph)(H:Hp):Prop where
 lz:∀a∈U.l,U.z a
 zt:∀a,U.z a->∃o,H a=some o
def aX(p:Pr)(r:List V->Hp->VK->Prop):Prop:=∀(U:Ph) (H:Hp) (ds:List D) (vs:List V) (Q:VK),Zt U H->v8 K cA U H ds vs->bf K cA U H (prim p ds) Q->r vs H Q
end
section
variable {K:W.Frag}{cA:Cl}{U U':Ph}{H H':Hp}{s:S}{Z:L2.St}{J:Vs}{EX:XS}
theorem aC.zs(h:aC K cA U H s):Zt U H:=⟨h.lz,h.zt⟩
theorem Zt.nz(h:Zt U H)(hp:H p=none):¬U.z p:=λz=>by obtain⟨o,e⟩:=h.zt p z;rw[hp] at e;cases e
theorem Rep.rv{d:D}{v:V}(h:Rep K cA U H d v):Rv K cA U H d v:=by
 cases h with
 |fl h r=>exact⟨_,_,rfl,h.uL,r⟩
 |non=>exact .non
 |bl b=>exact .bl b
 |int b=>exact .int b
 |str b=>exact .str b
 |tup h r=>exact .tup h r
 |fd h n=>exact .fd h n
 |exc h r=>exact .exc h r
 |ob h r=>exact .ob h r
 |any v=>exact .any v
theorem Run.bd{α β:Type}{m:M α}{k:α->M β}{P:β->S->Ph->Hp->Prop}{Ee:Nat->List D->S->Ph->Hp->Prop}(h:Run K cA (M.bd m k) U H s P Ee):Run K cA m U H s (λa s1 U1 H1=>Ext U H U1 H1/\aC K cA U1 H1 s1/\Run K cA (k a) U1 H1 s1 P Ee) Ee:=by
 unfold Run M.bd at *;cases e:m s with
 |none=>rw[e] at h;exact h
 |some r=>
  obtain⟨r,s1⟩:=r;rw[e] at h;cases r with
  |er c f=>exact h
  |ok a=>
   intro U1 H1 x1 r1;refine⟨x1,r1,?_⟩;dsimp only at h ⊢;cases e2:k a s1 with
   |none=>rw[e2] at h;exact h
   |some q=>
    obtain⟨q,s2⟩:=q;rw[e2] at h;cases q with
    |ok b=>exact λU2 H2 x2 r2=>h U2 H2 (x1.trans x2) r2
    |er c f=>exact λU2 H2 x2 r2=>h U2 H2 (x1.trans x2) r2
theorem Run.imp{α:Type}{m:M α}{P P':α->S->Ph->Hp->Prop}{Ee:Nat->List D->S->Ph->Hp->Prop}(h:Run K cA m U H s P Ee)(f:∀a s' U' H',P a s' U' H'->P' a s' U' H'):Run K cA m U H s P' Ee:=by
 unfold Run at *;split at h
 ·exact λU' H' x r=>f _ _ _ _ (h U' H' x r)
 ·exact h
 ·exact h
theorem Run.bF{α:Type}{a:α}{P:α->S->Ph->Hp->Prop}{Ee:Nat->List D->S->Ph->Hp->Prop}(r:aC K cA U H s)(h:Run K cA (M.ret a) U H s P Ee):P a s U H:=h U H Ext.refl r
theorem Run.opt{α:Type}{o:Option α}{P:α->S->Ph->Hp->Prop}{Ee:Nat->List D->S->Ph->Hp->Prop}(r:aC K cA U H s)(h:Run K cA (M.opt o) U H s P Ee):∃a,o=some a/\P a s U H:=by
 cases o with
 |none=>exact h.elim
 |some a=>exact⟨a,rfl,h U H Ext.refl r⟩
theorem Wh(h:Run K cA (M.bd (M.opt o) k) U H s P Ee):∃a,o=some a/\Run K cA (k a) U H s P Ee:=by
 cases o with
 |none=>exact h.elim
 |some a=>exact⟨a,rfl,h⟩
theorem zR{β:Type}{x:Xv}{v:V}{k:Bool->M β}{P:β->S->Ph->Hp->Prop}{Ee:Nat->List D->S->Ph->Hp->Prop}(r:bB K cA U H x v)(h:Run K cA (M.bd (bool x) k) U H s P Ee):∃b,x=.d (.bl b)/\v=.bl b/\Run K cA (k b) U H s P Ee:=by
 cases r with
 |l _=>exact h.elim
 |d r=>cases r with
  |bl b=>exact⟨b,rfl,rfl,h⟩
  |_=>exact h.elim
theorem GX(r:bB K cA U H x v)(h:Run K cA (M.bd (int x) k) U H s P Ee):∃b,x=.d (.int b)/\v=.int b/\Run K cA (k b) U H s P Ee:=by
 cases r with
 |l _=>exact h.elim
 |d r=>cases r with
  |int b=>exact⟨b,rfl,rfl,h⟩
  |_=>exact h.elim
theorem Wi(r:bB K cA U H x v)(h:Run K cA (M.bd (dat x) k) U H s P Ee):∃d,x=.d d/\Rep K cA U H d v/\Run K cA (k d) U H s P Ee:=by
 cases r with
 |l _=>exact h.elim
 |d r=>exact⟨_,rfl,r,h⟩
theorem Qd:∀{xs:List Xv} {vs:List V} {k:List D->M β} {P:β->S->Ph->Hp->Prop} {Ee:Nat->List D->S->Ph->Hp->Prop},bL K cA U H xs vs->Run K cA (M.bd (dR xs) k) U H s P Ee->∃ds,xs=ds.map .d/\aB K cA U H ds vs/\Run K cA (k ds) U H s P Ee:=by
 intro xs
 induction xs with
 |nil=>intro vs k P Ee r h;cases r;exact⟨[],rfl,.nil,h⟩
 |cons x xs ih=>
  intro vs k P Ee r h;cases r with
  |cons a r=>
   cases a with
   |l _=>exact h.elim
   |@d y v a=>
    have h2:Run K cA (M.bd (dR xs) λds=>k (y::ds)) U H s P Ee:=by
     unfold Run M.bd dR dat at h;unfold Run M.bd;simp only[M.bd,M.ret] at h;cases e:dR xs s with
     |none=>simp only[e] at h
     |some q=>
      obtain⟨q,s1⟩:=q;simp only[e] at h;cases q with
      |ok ds=>exact h
      |er c f=>exact h
    obtain⟨ds,e,rs,h3⟩:=ih r h2;exact⟨y::ds,by rw[e];rfl,.cons a rs,h3⟩
theorem J_(hS:aC K cA U H s)(r:bB K cA U H x v)(h:Run K cA (M.bd (rd x) k) U H s P Ee):∃d,Rv K cA U H d v/\Run K cA (k d) U H s P Ee:=by
 cases r with
 |d r=>exact⟨_,r.rv,h⟩
 |@l n a hl=>
  unfold Run M.bd rd at h;dsimp only at h;cases e:s[n]? with
  |none=>rw[e] at h;exact h.elim
  |some o=>
   rw[e] at h;cases o with
   |lst xs=>
    obtain⟨vs,q1,q2⟩:=hS.obj n _ _ e hl;exact⟨.fl xs,⟨a,vs,rfl,dj.of q1,q2⟩,h⟩
   |_=>exact h.elim
theorem iI{α β γ:Type}(m:M α)(f:α->M β)(g:β->M γ):M.bd (M.bd m f) g=M.bd m λx=>M.bd (f x) g:=by
 funext s
 unfold M.bd;cases m s with
 |none=>rfl
 |some r=>
  obtain⟨r,s1⟩:=r;cases r<;>rfl
theorem pD{β:Type}:∀{xs:List Xv} {vs:List V} {k:List D->M β} {P:β->S->Ph->Hp->Prop} {Ee:Nat->List D->S->Ph->Hp->Prop},aC K cA U H s->bL K cA U H xs vs->Run K cA (M.bd (dO xs) k) U H s P Ee->∃ds,v8 K cA U H ds vs/\Run K cA (k ds) U H s P Ee:=by
 intro xs
 induction xs with
 |nil=>intro vs k P Ee hS r h;cases r;exact⟨[],.nil,h⟩
 |cons x xs ih=>
  intro vs k P Ee hS r h;cases r with
  |cons a r=>
   have h2:Run K cA (M.bd (rd x) λd=>M.bd (dO xs) λds=>k (d::ds)) U H s P Ee:=by
    have e:M.bd (dO (x::xs)) k=M.bd (rd x) λd=>M.bd (dO xs) λds=>k (d::ds):=by
     show M.bd (M.bd (rd x) λd=>M.bd (dO xs) λds=>M.ret (d::ds)) k=_;rw[iI]
     congr 1
     funext d
     rw[iI];rfl
    rw[e] at h;exact h
   obtain⟨d,rd,h3⟩:=J_ hS a h2;obtain⟨ds,rs,h4⟩:=ih hS r h3;exact⟨d::ds,.cons rd rs,h4⟩
theorem m5{fz:Bool}{o:Option Rz}{Q:VK}{Ee:Nat->List D->S->Ph->Hp->Prop}(hS:aC K cA U H s)(h:Run K cA (bH fz o) U H s (λx _ U' H'=>∀v,bB K cA U' H' x v->Q v H') Ee):bf K cA U H o Q:=by
 cases o with
 |none=>exact h.elim
 |some z=>
  cases z with
  |dat d=>exact λH' v g r=>h U H' g.ext (hS.grow g) v (.d r)
  |nw xs=>
   intro p vs hp r;cases fz with
   |true=>exact h U _ (bD.new hp).ext (hS.grow (bD.new hp)) _ (.d (.fl (LstAt.new (hS.nz hp)) (r.mono (bD.new hp).ext hS.lz)))
   |false=>exact h (U.add p) _ (Ext.add hp) (hS.add hp r) _ (.l (by show (U.l++[p])[s.length]?=_;rw[<-hS.len];simp))
theorem zgc{fz:Bool}{xs:List D}{Q:VK}{Ee:Nat->List D->S->Ph->Hp->Prop}(hS:aC K cA U H s)(h:Run K cA (newL fz xs) U H s (λx _ U' H'=>∀v,bB K cA U' H' x v->Q v H') Ee):∀p vs,H p=none->aB K cA U H xs vs->Q (.ref p) (upd H p (.lst vs)):=
 m5 (o:=some (.nw xs)) hS h
theorem bx{β:Type}{ma:Vs->M Xv}{k:Xv->M β}{P:β->S->Ph->Hp->Prop}(hL:aW K cA U H Z J)(hS:aC K cA U H s)(h:Run K cA (M.bd (ma J) k) U H s P (eX K cA EX Z)){Q:VK}
  (f:∀x H1 U1 d s1,Ext U H U1 H1->aW K cA U1 H1 Z J->aC K cA U1 H1 s1->bB K cA U1 H1 d x->Run K cA (k d) U1 H1 s1 P (eX K cA EX Z)->Q x H1):tE K cA EX ma Z H Q:=
 ⟨U,J,s,hL,hS,h.bd.imp λd s1 U1 H1 ⟨x1,r1,h1⟩ v rv=>f v H1 U1 d s1 x1 (hL.mono x1 hS.lz) r1 rv h1⟩
theorem qm{β:Type}{ma:Vs->M (List Xv)}{k:List Xv->M β}{P:β->S->Ph->Hp->Prop}(hL:aW K cA U H Z J)(hS:aC K cA U H s)(h:Run K cA (M.bd (ma J) k) U H s P (eX K cA EX Z)){Q:List V->Hp->Prop}
  (f:∀x H1 U1 d s1,Ext U H U1 H1->aW K cA U1 H1 Z J->aC K cA U1 H1 s1->bL K cA U1 H1 d x->Run K cA (k d) U1 H1 s1 P (eX K cA EX Z)->Q x H1):Qc K cA EX ma Z H Q:=
 ⟨U,J,s,hL,hS,h.bd.imp λd s1 U1 H1 ⟨x1,r1,h1⟩ v rv=>f v H1 U1 d s1 x1 (hL.mono x1 hS.lz) r1 rv h1⟩
theorem v9(hL:aW K cA U H Z J)(hS:aC K cA U H s)(h:Run K cA (M.bd (ma J) k) U H s P (eX K cA EX Z))
  (f:∀b H1 U1 s1,Ext U H U1 H1->aW K cA U1 H1 Z J->aC K cA U1 H1 s1->Run K cA (k b) U1 H1 s1 P (eX K cA EX Z)->Q b H1):zQ K cA EX ma Z H Q:=
 ⟨U,J,s,hL,hS,h.bd.imp λd s1 U1 H1 ⟨x1,r1,h1⟩=>f d H1 U1 s1 x1 (hL.mono x1 hS.lz) r1 h1⟩
end
section
variable (X:Cx)(cA:Cl)(ao:Nat->Nat->Bool)(aj:Bool)(F:Fn)(EX:XS)
def SE(e:Expr)(m:E):Prop:=PE X e (tE X.K cA EX (ev ao aj F m))
def SA(es:List Expr)(m:Es):Prop:=PA X es (Qc X.K cA EX (evs ao aj F m))
def ST(e:Expr)(m:E):Prop:=PT X e (zQ X.K cA EX (λJ=>M.bd (ev ao aj F m J) bool))
def SW(e:Expr)(m:E):Prop:=PW X e (zQ X.K cA EX (λJ=>M.bd (ev ao aj F m J) bool))
end
section
variable {X:Cx}{cA:Cl}{ao:Nat->Nat->Bool}{aj:Bool}{F:Fn}{EX:XS}{a b c d e:Expr}{A B C Dd E':E}{pos:Pos}{es:List Expr}{Xs:Es}{fz:Bool}{p:Pr}
theorem PE.weak{t t':TE}(h:PE X e t)(f:∀Z H Q,t' Z H Q->t Z H Q):PE X e t':=λak s Z H Q I q=>h ak s Z H Q I (f Z H Q q)
theorem PT.weak{t t':TT}(h:PT X e t)(f:∀Z H Q,t' Z H Q->t Z H Q):PT X e t':=λak s Z H Q I q=>h ak s Z H Q I (f Z H Q q)
theorem PW.weak{t t':TT}(h:PW X e t)(f:∀Z H Q,t' Z H Q->t Z H Q):PW X e t':=λwh ak s Z H Q I q=>h wh ak s Z H Q I (f Z H Q q)
theorem PA.weak{t t':TA}(h:PA X es t)(f:∀Z H Q,t' Z H Q->t Z H Q):PA X es t':=λp ak s Z H Q I q=>h p ak s Z H Q I (f Z H Q q)
theorem zkg{i j p}:SE X cA ao aj F EX (.Constant (.int i) j p) (.c (.int i)):=PE.weak MP λZ H Q hh=>un hh λU J s hL hS h=>h.bF hS _ (.d (.int i))
theorem zlZ{i j p}:SE X cA ao aj F EX (.Constant (.bool i) j p) (.c (.bl i)):=PE.weak zln λZ H Q hh=>un hh λU J s hL hS h=>h.bF hS _ (.d (.bl i))
theorem zki{j p}:SE X cA ao aj F EX (.Constant .none j p) (.c .non):=PE.weak zj0 λZ H Q hh=>un hh λU J s hL hS h=>h.bF hS _ (.d .non)
theorem zjC{i j p}:SE X cA ao aj F EX (.Constant (.str i) j p) (.c (.str i)):=PE.weak Uy λZ H Q hh=>un hh λU J s hL hS h=>h.bF hS _ (.d (.str i))
theorem Qe{α:Type}{o:Option (Option α)}{x:α}(h:o.join=some x):o=some (some x):=by
 cases o with
 |none=>cases h
 |some y=>cases y with
  |none=>cases h
  |some z=>cases h;rfl
theorem Wj(i:Nat){x:Str}(hN:X.N[i]?=some x:=by rfl)(hv:Mw X.env.scope x:=by first|exact Or.inl rfl|exact Or.inr (Or.inl rfl)|exact Or.inr (Or.inr rfl))(hd:(x==("__debug__" : Str))=false:=by decide)
  (lA:(x==("__classdict__" : Str))=false:=by decide):SE X cA ao aj F EX (.Name x pos) (.v i):=PE.weak (zi5 hN hv hd lA) λZ H Q hh=>un hh λU J s hL hS h=>by
 obtain⟨dd,e1,q⟩:=Run.opt hS h;obtain⟨v,q1,q2⟩:=hL.2 i dd (Qe e1);exact⟨v,q1,q v q2⟩
theorem zhU{x:Str}{i:Int}{t:Tok}(hg:Gl X x)(hm:X.mg x=some (.int i t))(hd:(x==("__debug__" : Str))=false:=by decide):SE X cA ao aj F EX (.Name x pos) (.c (.int i)):=PE.weak (Uz (v:=.int i) hg hm ⟨t,rfl⟩ hd) λZ H Q hh=>un hh λU J s hL hS h=>h.bF hS _ (.d (.int i))
theorem zlb:SA X cA ao aj F EX [] .nil:=PA.weak BX λZ H Q hh=>un hh λU J s hL hS h=>h.bF hS _ .nil
theorem zh1(ha:SE X cA ao aj F EX a A)(hr:SA X cA ao aj F EX es Xs)(hs:starEach (a::es) X.env=(false,eval a X.env)::starEach es X.env:=by rfl):SA X cA ao aj F EX (a::es) (.cons A Xs):=PA.weak (uG ha hr hs) λZ H Q hh=>un hh λU J s hL hS h=>by
 refine bx hL hS h λx H1 U1 d1 s1 x1 hL1 aL r1 h1=>qm hL1 aL h1 λys H2 U2 d2 s2 x2 hL2 aU r2 h2=>h2.bF aU _ (.cons (r1.mono x2 aL.lz) r2)
theorem Ka{U U1 U2:Ph}{H1 H2:Hp}{s1 s2:S}{d1 d2:Xv}{x y:V}{Q:VK}{Ee:Nat->List D->S->Ph->Hp->Prop}(x2:Ext U1 H1 U2 H2)(aL:aC X.K cA U1 H1 s1)(aU:aC X.K cA U2 H2 s2)(r1:bB X.K cA U1 H1 d1 x)(r2:bB X.K cA U2 H2 d2 y)
  (h:Run X.K cA (M.bd (dO [d1,d2]) λds=>bH fz (prim p ds)) U2 H2 s2 (λx _ U' H'=>∀v,bB X.K cA U' H' x v->Q v H') Ee) {r:List V->Hp->VK->Prop} (hp:aX X.K cA p r):r [x,y] H2 Q:=by
 obtain⟨ds,rs,h2⟩:=pD aU (.cons (r1.mono x2 aL.lz) (.cons r2 .nil)) h;exact hp U2 H2 ds _ Q aU.zs rs (m5 aU h2)
noncomputable def r2(r:R2):List V->Hp->VK->Prop:=λvs H Q=>∃x y,vs=[x,y]/\r x y H Q
theorem sS{r:R2}{x y:V}{H:Hp}{Q:VK}(h:r2 r [x,y] H Q):r x y H Q:=by
 obtain⟨_,_,e,q⟩:=h;cases e;exact q
theorem zkW{op:Operator}{r:R2}(ho:cN X (binaryOp op) r)(hp:aX X.K cA p (r2 r))(ha:SE X cA ao aj F EX a A)(hb:SE X cA ao aj F EX b B):SE X cA ao aj F EX (.BinOp a op b pos) (.pr fz p (.cons A (.cons B .nil))):=PE.weak (zlA ho ha hb) λZ H Q hh=>un hh λU J s hL hS h=>by
 have h:Run X.K cA (M.bd (M.bd (ev ao aj F A J) λx=>M.bd (M.bd (ev ao aj F B J) λy=>M.bd (M.ret []) λz=>M.ret (y::z)) λys=>M.ret (x::ys)) λvs=>M.bd (dO vs) λds=>bH fz (prim p ds)) U H s _ _:=h;simp only[iI] at h;refine bx hL hS h λx H1 U1 d1 s1 x1 hL1 aL r1 h1=>bx hL1 aL h1 λy H2 U2 d2 s2 x2 hL2 aU r2' h2=>?_;exact sS (Ka (fz:=fz) (U:=U) x2 aL aU r1 r2' h2 hp)
theorem zjc{op:CmpOp}{r:R2}(ho:cN X (compareOp op) r)(hp:aX X.K cA p (r2 r))(ha:SE X cA ao aj F EX a A)(hb:SE X cA ao aj F EX b B)(hm:behindInMarks op b=false):SE X cA ao aj F EX (.Compare a [op] [b] pos) (.pr true p (.cons A (.cons B .nil))):=PE.weak (zix ho ha hb hm) λZ H Q hh=>un hh λU J s hL hS h=>by
 have h:Run X.K cA (M.bd (M.bd (ev ao aj F A J) λx=>M.bd (M.bd (ev ao aj F B J) λy=>M.bd (M.ret []) λz=>M.ret (y::z)) λys=>M.ret (x::ys)) λvs=>M.bd (dO vs) λds=>bH true (prim p ds)) U H s _ _:=h;simp only[iI] at h;refine bx hL hS h λx H1 U1 d1 s1 x1 hL1 aL r1 h1=>bx hL1 aL h1 λy H2 U2 d2 s2 x2 hL2 aU r2' h2=>?_;exact sS (Ka (fz:=true) (U:=U) x2 aL aU r1 r2' h2 hp)
theorem iT{A B:Prop}(h:A):if true=true then A else B:=by rw[if_pos rfl];exact h
theorem iF{A B:Prop}(h:B):if false=true then A else B:=by rw[if_neg Bool.false_ne_true];exact h
theorem zjj{op:CmpOp}{r:R2}(ho:cN X (compareOp op) r)(hp:aX X.K cA p (r2 r))(ha:SE X cA ao aj F EX a A)(hb:SE X cA ao aj F EX b B)(hm:behindInMarks op b=false):ST X cA ao aj F EX (.Compare a [op] [b] pos) (.pr true p (.cons A (.cons B .nil))):=PT.weak (zhL ho ha hb hm) λZ H Q hh=>un hh λU J s hL hS h=>by
 have h:Run X.K cA (M.bd (M.bd (M.bd (ev ao aj F A J) λx=>M.bd (M.bd (ev ao aj F B J) λy=>M.bd (M.ret []) λz=>M.ret (y::z)) λys=>M.ret (x::ys)) λvs=>M.bd (dO vs) λds=>bH true (prim p ds)) bool) U H s _ _:=h;simp only[iI] at h;refine bx hL hS h λx H1 U1 d1 s1 x1 hL1 aL r1 h1=>bx hL1 aL h1 λy H2 U2 d2 s2 x2 hL2 aU r2' h2=>?_;obtain⟨ds,rs,h3⟩:=pD aU (.cons (r1.mono x2 aL.lz) (.cons r2' .nil)) h2;refine sS (hp U2 H2 ds _ _ aU.zs rs (m5 (Ee:=eX X.K cA EX Z) aU (h3.bd.imp λt s3 U3 H3 ⟨x3,jz,h4⟩ v rv=>?_)));cases rv with
 |l _=>exact h4.elim
 |d rv=>cases rv with
  |bl k=>exact⟨k,rfl,h4 U3 H3 Ext.refl jz⟩
  |_=>exact h4.elim
theorem zjm{op op':CmpOp}{r r':R2}{q:Pr}(ho:cN X (compareOp op) r)(hp:aX X.K cA p (r2 r))(ji:cN X (compareOp op') r')(hp':aX X.K cA q (r2 r'))(ha:SE X cA ao aj F EX a A)(hb:SE X cA ao aj F EX b B)(hc:SE X cA ao aj F EX c C)(hm:lastMarks [op,op'] [b,c]=false:=by with_unfolding_all rfl) :
  SE X cA ao aj F EX (.Compare a [op,op'] [b,c] pos) (.qN p q A B C):=PE.weak (zgW ho ji ha hb hc hm) λZ H Q hh=>un hh λU J s hL hS h=>by
 refine bx hL hS h λx H1 U1 d1 s1 x1 hL1 aL r1 h1=>bx hL1 aL h1 λy H2 U2 d2 s2 x2 hL2 aU r2' h2=>?_;obtain⟨ds,rs,h3⟩:=pD aU (.cons (r1.mono x2 aL.lz) (.cons r2' .nil)) h2;refine sS (hp U2 H2 ds _ _ aU.zs rs (m5 (Ee:=eX X.K cA EX Z) aU (h3.bd.imp λt s3 U3 H3 ⟨x3,jz,h4⟩ v rv=>?_)));obtain⟨k,_,e,h5⟩:=zR rv h4;refine⟨k,e,?_⟩;cases k with
 |false=>exact iF (h5.bF jz _ (.d (.bl _)))
 |true=>
  have sU:=hL2.mono x3 aU.lz;refine iT (bx sU jz h5 λz H4 U4 d4 s4 x4 Qf lX r4 h6=>?_);exact sS (Ka (fz:=true) (U:=U) x4 jz lX (r2'.mono x3 aU.lz) r4 h6 hp')
theorem zjz(ha:SE X cA ao aj F EX a A):SE X cA ao aj F EX (.UnaryOp .Not a pos) (.not A):=PE.weak (zjO ha) λZ H Q hh=>un hh λU J s hL hS h=>by
 refine bx hL hS h λx H1 U1 d1 s1 x1 hL1 aL r1 h1=>?_;obtain⟨i,_,e,h3⟩:=zR r1 h1;exact⟨i,e,h3.bF aL _ (.d (.bl _))⟩
theorem zkN{op}(ha:SE X cA ao aj F EX a A):SE X cA ao aj F EX (.BoolOp op [a] pos) A:=zkH ha
theorem zkA{rest:List Expr}(ha:SE X cA ao aj F EX a A)(hb:SE X cA ao aj F EX (.BoolOp .And (b::rest) pos) B):SE X cA ao aj F EX (.BoolOp .And (a::b::rest) pos) (.and A B):=PE.weak (zj9 ha hb) λZ H Q hh=>un hh λU J s hL hS h=>by
 refine bx hL hS h λx H1 U1 d1 s1 x1 hL1 aL r1 h1=>?_;obtain⟨i,_,e,h3⟩:=zR r1 h1;refine⟨i,e,?_⟩;cases i with
 |true=>exact iT ⟨U1,J,s1,hL1,aL,h3⟩
 |false=>exact iF (h3.bF aL _ (.d (.bl _)))
end
section
variable {X:Cx}{cA:Cl}{ao:Nat->Nat->Bool}{aj:Bool}{F:Fn}{EX:XS}{a b c d e o:Expr}{A B C Dd E' O:E}{pos pp p2 apos:Pos}{es:List Expr}{Xs:Es}{fz:Bool}{p:Pr}{x:Str}
theorem zjT(ha:SE X cA ao aj F EX a A)(he:∀whole,isTrue a X.env whole=(do let v <-whole;standAt a.pos;holding [v] (truthy v)):=by intro _;rfl):ST X cA ao aj F EX a A:=PT.weak (zkv ha he) λZ H Q hh=>un hh λU J s hL hS h=>by
 refine bx hL hS h λx H1 U1 d1 s1 x1 hL1 aL r1 h1=>?_;have h1:Run X.K cA (M.bd (bool d1) M.ret) U1 H1 s1 (λd _ U' H'=>Q d H') (eX X.K cA EX Z):=by
  cases d1 with
  |l n=>exact h1
  |d v=>cases v<;>exact h1
 obtain⟨k,_,e,q⟩:=zR r1 h1;exact⟨k,e,q.bF aL⟩
theorem zgt{m:M Xv}{g:Bool->Bool}:M.bd (M.bd m λx=>M.bd (bool x) λk=>M.ret (Xv.d (.bl (g k)))) bool=M.bd (M.bd m bool) λk=>M.ret (g k):=by
 rw[iI,iI]
 congr 1
 funext x
 rw[iI];rfl
theorem zjS(ha:ST X cA ao aj F EX a A):ST X cA ao aj F EX (.UnaryOp .Not a pos) (.not A):=PT.weak (zku ha) λZ H Q hh=>un hh λU J s hL hS h=>by
 have h:Run X.K cA (M.bd (M.bd (ev ao aj F A J) λx=>M.bd (bool x) λk=>M.ret (Xv.d (.bl (!k)))) bool) U H s _ _:=h;rw[zgt (g:=λk=>!k)] at h;exact v9 hL hS h λk H1 U1 s1 x1 hL1 aL h1=>h1.bF aL
theorem zie(ha:ST X cA ao aj F EX a A):SW X cA ao aj F EX (.BoolOp .And [a] pos) A:=ziS ha
theorem zkt(ha:ST X cA ao aj F EX a A):SW X cA ao aj F EX (.BoolOp .Or [a] pos) A:=zle ha
theorem Wm{m:M Xv}{k:Bool->M Xv}:M.bd (M.bd m λx=>M.bd (bool x) k) bool=M.bd (M.bd m bool) λb=>M.bd (k b) bool:=by
 rw[iI,iI]
 congr 1
 funext x
 rw[iI]
theorem zkP{rest:List Expr}(ha:ST X cA ao aj F EX a A)(hb:SW X cA ao aj F EX (.BoolOp .And (b::rest) pos) B):SW X cA ao aj F EX (.BoolOp .And (a::b::rest) pos) (.and A B):=PW.weak (zjL ha hb) λZ H Q hh=>un hh λU J s hL hS h=>by
 have h:Run X.K cA (M.bd (M.bd (ev ao aj F A J) λx=>M.bd (bool x) λk=>if k=true then ev ao aj F B J else M.ret (Xv.d (.bl false))) bool) U H s _ _:=h;rw[Wm] at h;refine v9 hL hS h λk H1 U1 s1 x1 hL1 aL h3=>?_;cases k with
 |true=>exact iT ⟨U1,J,s1,hL1,aL,h3⟩
 |false=>exact iF (Run.bF aL (a:=false) h3)
theorem zl5{rest:List Expr}(ha:ST X cA ao aj F EX a A)(hb:SW X cA ao aj F EX (.BoolOp .Or (b::rest) pos) B):SW X cA ao aj F EX (.BoolOp .Or (a::b::rest) pos) (.or A B):=PW.weak (zlI ha hb) λZ H Q hh=>un hh λU J s hL hS h=>by
 have h:Run X.K cA (M.bd (M.bd (ev ao aj F A J) λx=>M.bd (bool x) λk=>if k=true then M.ret (Xv.d (.bl true)) else ev ao aj F B J) bool) U H s _ _:=h;rw[Wm] at h;refine v9 hL hS h λk H1 U1 s1 x1 hL1 aL h3=>?_;cases k with
 |true=>exact iT (Run.bF aL (a:=true) h3)
 |false=>exact iF ⟨U1,J,s1,hL1,aL,h3⟩
theorem zmF(h:SW X cA ao aj F EX a A):ST X cA ao aj F EX a A:=Kab h
theorem ziU:(M.bd m λx=>M.bd (bool x) k)=M.bd (M.bd m bool) k:=by rw[iI]
theorem zjJ(hc:ST X cA ao aj F EX c C)(ha:SE X cA ao aj F EX a A)(hb:SE X cA ao aj F EX b B):SE X cA ao aj F EX (.IfExp c a b pos) (.ite C A B):=PE.weak (zgx hc ha hb) λZ H Q hh=>un hh λU J s hL hS h=>by
 have h:Run X.K cA (M.bd (ev ao aj F C J) λx=>M.bd (bool x) λk=>if k=true then ev ao aj F A J else ev ao aj F B J) U H s _ _:=h;rw[ziU] at h;refine v9 hL hS h λk H1 U1 s1 x1 hL1 aL h3=>?_;cases k with
 |true=>exact iT ⟨U1,J,s1,hL1,aL,h3⟩
 |false=>exact iF ⟨U1,J,s1,hL1,aL,h3⟩
theorem Wn:∀(Xs:Es) (J:Vs) (s:S) (ds:List Xv) (s':S),evs ao aj F Xs J s=some (.ok ds,s')->ds.length=Es.len Xs
 |.nil,J,s,ds,s',h=>by cases h;rfl
 |.cons a r,J,s,ds,s',h=>by
  have h:M.bd (ev ao aj F a J) (λx=>M.bd (evs ao aj F r J) λxs=>M.ret (x::xs)) s=some (.ok ds,s'):=h;unfold M.bd at h;cases e1:ev ao aj F a J s with
  |none=>rw[e1] at h;cases h
  |some q=>
   obtain⟨q,s1⟩:=q;rw[e1] at h;cases q with
   |er c f=>cases h
   |ok d=>
    dsimp only at h;cases e2:evs ao aj F r J s1 with
    |none=>rw[e2] at h;cases h
    |some q=>
     obtain⟨q,s2⟩:=q;rw[e2] at h;cases q with
     |er c f=>cases h
     |ok ds'=>
      cases h;rw[iB,Wn r J s1 ds' _ e2];rfl
theorem zT{β:Type}{K:W.Frag}{U:Ph}{H:Hp}{s:S}{Z:L2.St}{J:Vs}{k:List Xv->M β}{P:β->S->Ph->Hp->Prop}(hL:aW K cA U H Z J)(hS:aC K cA U H s)(h:Run K cA (M.bd (evs ao aj F Xs J) k) U H s P (eX K cA EX Z)){Q:List V->Hp->Prop}
  (f:∀x H1 U1 d s1,d.length=Es.len Xs->Ext U H U1 H1->aW K cA U1 H1 Z J->aC K cA U1 H1 s1->bL K cA U1 H1 d x->Run K cA (k d) U1 H1 s1 P (eX K cA EX Z)->Q x H1):Qc K cA EX (evs ao aj F Xs) Z H Q:=by
 refine⟨U,J,s,hL,hS,?_⟩;have h2:=h.bd;unfold Run at h2 ⊢;cases e:evs ao aj F Xs J s with
 |none=>rw[e] at h2;exact h2
 |some r=>
  obtain⟨r,s1⟩:=r;rw[e] at h2;cases r with
  |er c f=>exact h2
  |ok ds=>
   intro U1 H1 x1 r1 v rv;obtain⟨_,_,h3⟩:=h2 U1 H1 x1 r1;exact f v H1 U1 ds s1 (Wn Xs J s ds s1 e) x1 (hL.mono x1 hS.lz) r1 rv h3
theorem zjd{k}(ha:SA X cA ao aj F EX es Xs)(hz:Es.len Xs<=sizeLine):SE X cA ao aj F EX (.Tuple es k pos) (.tup Xs):=PE.weak (zkM ha) λZ H Q hh=>un hh λU J s hL hS h=>by
 refine zT hL hS h λvs H1 U1 xs s1 hl x1 hL1 aL rv h1=>?_;obtain⟨ds,e,rs,h2⟩:=Qd rv h1;refine⟨by rw[<-rv.len,hl];exact hz,λp hp=>?_⟩;exact h2 U1 (upd H1 p (.tup vs)) (bD.new hp).ext (aL.grow (bD.new hp)) _ (.d (.tup (TupAt.new (aL.nz hp)) (rs.mono (bD.new hp).ext aL.lz)))
theorem zka(ha:SA X cA ao aj F EX es Xs)(hz:Es.len Xs<=sizeLine):SE X cA ao aj F EX (.List es pos) (.lst fz Xs):=PE.weak (zjF ha) λZ H Q hh=>un hh λU J s hL hS h=>by
 refine zT hL hS h λvs H1 U1 xs s1 hl x1 hL1 aL rv h1=>?_;obtain⟨ds,e,rs,h2⟩:=Qd rv h1;exact⟨by rw[<-rv.len,hl];exact hz,λp hp=>zgc aL h2 p vs hp rs⟩
theorem Kc{id:String}{r:List V->Hp->VK->Prop}(hc:dw X (.builtin id) r)(hp:aX X.K cA p r)
  (hg:Gl X x) (hm:X.mg x=none) (hv:bootBuiltins x=some (.builtin id)) (ha:SA X cA ao aj F EX (e::es) Xs) (hn:x≠"__name__":=by decide) (lB:(x==("__debug__" : Str))=false:=by decide)
  (he:starEach (e::es) X.env=(false,eval e X.env)::starEach es X.env:=by rfl) (bN:(backTo pos (starEach es X.env)).any (·.1)=false:=by rfl):SE X cA ao aj F EX (.Call (.Name x pp) (e::es) [] pos) (.pr fz p Xs):=PE.weak (Vg hc hg hm hv ha hn lB he bN) λZ H Q hh=>un hh λU J s hL hS h=>
 qm hL hS h λvs H1 U1 ds s1 x1 hL1 aL r1 h1=>by
  obtain⟨ds,rs,h3⟩:=pD aL r1 h1;exact hp U1 H1 ds _ _ aL.zs rs (m5 aL h3)
theorem Ke{id:String}{r:List V->Hp->VK->Prop}(hc:dw X (.type id) r)(hp:aX X.K cA p r)
  (hg:Gl X x) (hm:X.mg x=none) (hv:bootBuiltins x=some (.type id)) (ha:SA X cA ao aj F EX (e::es) Xs) (hn:x≠"__name__":=by decide) (lB:(x==("__debug__" : Str))=false:=by decide)
  (he:starEach (e::es) X.env=(false,eval e X.env)::starEach es X.env:=by rfl) (bN:(backTo pos (starEach es X.env)).any (·.1)=false:=by rfl):SE X cA ao aj F EX (.Call (.Name x pp) (e::es) [] pos) (.pr fz p Xs):=PE.weak (zfg hc hg hm hv ha hn lB he bN) λZ H Q hh=>un hh λU J s hL hS h=>
 qm hL hS h λvs H1 U1 ds s1 x1 hL1 aL r1 h1=>by
  obtain⟨ds,rs,h3⟩:=pD aL r1 h1;exact hp U1 H1 ds _ _ aL.zs rs (m5 aL h3)
theorem zl8(hp:aX X.K cA p (r2 (Ny X.K)))(ha:SE X cA ao aj F EX a A)(hb:SE X cA ao aj F EX b B)(hs:pq b:=by intro _ _;rfl):SE X cA ao aj F EX (.Subscript a b pos) (.pr true p (.cons A (.cons B .nil))):=PE.weak (zlE zjE ha hb hs) λZ H Q hh=>un hh λU J s hL hS h=>by
 have h:Run X.K cA (M.bd (M.bd (ev ao aj F A J) λx=>M.bd (M.bd (ev ao aj F B J) λy=>M.bd (M.ret []) λz=>M.ret (y::z)) λys=>M.ret (x::ys)) λvs=>M.bd (dO vs) λds=>bH true (prim p ds)) U H s _ _:=h;simp only[iI] at h;refine bx hL hS h λx H1 U1 d1 s1 x1 hL1 aL r1 h1=>bx hL1 aL h1 λy H2 U2 d2 s2 x2 hL2 aU r2' h2=>?_;exact sS (Ka (fz:=true) (U:=U) x2 aL aU r1 r2' h2 hp)
theorem zls(ho:Jz X (unaryOp op) r)(hp:aX X.K cA p (λvs H Q=>∃x,vs=[x]/\r x H Q))(ha:SE X cA ao aj F EX a A):SE X cA ao aj F EX (.UnaryOp op a pos) (.pr true p (.cons A .nil)):=PE.weak (U8 ho ha) λZ H Q hh=>un hh λU J s hL hS h=>by
 have h:Run X.K cA (M.bd (M.bd (ev ao aj F A J) λx=>M.bd (M.ret []) λz=>M.ret (x::z)) λvs=>M.bd (dO vs) λds=>bH true (prim p ds)) U H s _ _:=h;simp only[iI] at h;refine bx hL hS h λx H1 U1 d1 s1 x1 hL1 aL r1 h1=>?_;obtain⟨ds,rs,h3⟩:=pD aL (.cons r1 .nil) h1;obtain⟨_,e,q⟩:=hp U1 H1 ds _ _ aL.zs rs (m5 aL h3);cases e;exact q
theorem Wo{K:W.Frag}{U:Ph}{H:Hp}{s:S}{x:Xv}{v:V}{Q:Bool->Hp->Prop}{Ee:Nat->List D->S->Ph->Hp->Prop}(hS:aC K cA U H s)(r:bB K cA U H x v)(h:Run K cA (bool x) U H s (λd _ U' H'=>Q d H') Ee):∃k,v=.bl k/\Q k H:=by
 cases r with
 |l _=>exact h.elim
 |d rv=>cases rv with
  |bl k=>exact⟨k,rfl,h U H Ext.refl hS⟩
  |_=>exact h.elim
theorem Qg{b:Bool}{K:W.Frag}{U:Ph}{H:Hp}{s:S}{Q:Bool->Hp->Prop}{Ee:Nat->List D->S->Ph->Hp->Prop}(hS:aC K cA U H s)(h:Run K cA (M.bd (M.ret (Xv.d (.bl b))) bool) U H s (λd _ U' H'=>Q d H') Ee):Q b H:=h U H Ext.refl hS
theorem zkK{op op':CmpOp}{r r':R2}{q:Pr}(ho:cN X (compareOp op) r)(hp:aX X.K cA p (r2 r))(ji:cN X (compareOp op') r')(hp':aX X.K cA q (r2 r'))(ha:SE X cA ao aj F EX a A)(hb:SE X cA ao aj F EX b B)(hc:SE X cA ao aj F EX c C)(hm:lastMarks [op,op'] [b,c]=false:=by with_unfolding_all rfl) :
  ST X cA ao aj F EX (.Compare a [op,op'] [b,c] pos) (.qN p q A B C):=PT.weak (zgO ho ji ha hb hc hm) λZ H Q hh=>un hh λU J s hL hS h=>by
 have h:Run X.K cA (M.bd (M.bd (ev ao aj F A J) λx=>M.bd (ev ao aj F B J) λy=>M.bd (dO [x,y]) λds=>M.bd (bH true (prim p ds)) λt=>M.bd (bool t) λk=>
   if k=true then M.bd (ev ao aj F C J) λz=>M.bd (dO [y,z]) λds=>bH true (prim q ds) else M.ret (.d (.bl false))) bool) U H s _ _:=h
 simp only[iI] at h;refine bx hL hS h λx H1 U1 d1 s1 x1 hL1 aL r1 h1=>bx hL1 aL h1 λy H2 U2 d2 s2 x2 hL2 aU r2' h2=>?_;obtain⟨ds,rs,h3⟩:=pD aU (.cons (r1.mono x2 aL.lz) (.cons r2' .nil)) h2;refine sS (hp U2 H2 ds _ _ aU.zs rs (m5 (Ee:=eX X.K cA EX Z) aU (h3.bd.imp λt s3 U3 H3 ⟨x3,jz,h4⟩ v rv=>?_)));obtain⟨k,_,e,h5⟩:=zR rv h4;refine⟨k,e,?_⟩;cases k with
 |false=>exact iF ⟨false,rfl,Qg jz h5⟩
 |true=>
  have sU:=hL2.mono x3 aU.lz;rw[if_pos rfl] at h5;simp only[iI] at h5;refine iT (bx sU jz h5 λz H4 U4 d4 s4 x4 Qf lX r4 h6=>?_);obtain⟨ds,rs,h7⟩:=pD lX (.cons ((r2'.mono x3 aU.lz).mono x4 jz.lz) (.cons r4 .nil)) h6;refine sS (hp' U4 H4 ds _ _ lX.zs rs (m5 (Ee:=eX X.K cA EX Z) lX (h7.bd.imp λt s5 U5 H5 ⟨x5,zU,h8⟩ v rv=>?_)));exact Wo zU rv h8
theorem zfh{op op' lM:CmpOp}{r r' r'':R2}{ta tb tc td:TE}(h1:cN X (compareOp op) r)(h2:cN X (compareOp op') r')(h3:cN X (compareOp lM) r'')(ha:PE X a ta)(hb:PE X b tb)(hc:PE X c tc)(hd:PE X d td)
  (hm:lastMarks [op,op',lM] [b,c,d]=false:=by with_unfolding_all rfl):PT X (.Compare a [op,op',lM] [b,c,d] pos) (λZ H Q=>ta Z H λx H1=>tb Z H1 λy H2=>r x y H2 λz H3=>∃k,z=.bl k /\
   (if k=true then tc Z H3 λw' H4=>r' y w' H4 λz2 H5=>∃k2,z2=.bl k2/\(if k2=true then td Z H5 λw2 H6=>r'' w' w2 H6 λz3 H7=>∃k3,z3=.bl k3/\Q k3 H7 else Q false H5) else Q false H3)):=by
 intro ak s Z H Q I h;refine isTrue_chain (aZ (ha ak s Z H _ I h) λv s1 hx=>dG hx λx H1 I1 r1 q1=>test_link (aZ (hb ak s1 Z H1 _ I1 q1) λu s2 hx=>dG hx λy H2 I2 r2 q2=>
  aZ (h1 ak s2 Z H2 x y v u _ I2 r1 r2 q2) λd s3 hx=>wZ hx λz H3 I3 r3 k e q3=>?_)) hm
 subst e;cases r3;refine qX ?_;cases k with
 |false=>exact ite_ff ⟨H3,I3,q3⟩
 |true=>
  refine ite_tt (test_link (aZ (hc ak s3 Z H3 _ I3 q3) λw' s4 hx=>dG hx λz' H4 I4 r4 q4=>aZ (h2 ak s4 Z H4 y z' u w' _ I4 r2 r4 q4) λd' s5 hx=>wZ hx λz2 H5 I5 r5 k2 e2 q5=>?_));subst e2;cases r5;refine qX ?_;cases k2 with
  |false=>exact ite_ff ⟨H5,I5,q5⟩
  |true=>
   refine ite_tt (test_last (aZ (hd ak s5 Z H5 _ I5 q5) λw2 s6 hx=>dG hx λz3 H6 I6 r6 q6=>aZ (h3 ak s6 Z H6 z' z3 w' w2 _ I6 r4 r6 q6) λd'' s7 hx=>wZ hx λz4 H7 I7 r7 k3 e3 q7=>?_));subst e3;cases r7;exact qX ⟨H7,I7,q7⟩
theorem zkr{op op' lM:CmpOp}{r r' r'':R2}{q u:Pr}(h1:cN X (compareOp op) r)(p1:aX X.K cA p (r2 r))(h2:cN X (compareOp op') r')(p2:aX X.K cA q (r2 r'))(h3:cN X (compareOp lM) r'')(p3:aX X.K cA u (r2 r''))(ha:SE X cA ao aj F EX a A)(hb:SE X cA ao aj F EX b B)(hc:SE X cA ao aj F EX c C)(hd:SE X cA ao aj F EX d Dd)
  (hm:lastMarks [op,op',lM] [b,c,d]=false:=by with_unfolding_all rfl):ST X cA ao aj F EX (.Compare a [op,op',lM] [b,c,d] pos) (.zF p q u A B C Dd):=PT.weak (zfh h1 h2 h3 ha hb hc hd hm) λZ H Q hh=>un hh λU J s hL hS h=>by
 have h:Run X.K cA (M.bd (M.bd (ev ao aj F A J) λx=>M.bd (ev ao aj F B J) λy=>M.bd (dO [x,y]) λds=>M.bd (bH true (prim p ds)) λt=>M.bd (bool t) λk=>
   if k=true then M.bd (ev ao aj F C J) λz=>M.bd (dO [y,z]) λds=>M.bd (bH true (prim q ds)) λt=>M.bd (bool t) λk2=>
    if k2=true then M.bd (ev ao aj F Dd J) λw=>M.bd (dO [z,w]) λds=>bH true (prim u ds) else M.ret (.d (.bl false))
   else M.ret (.d (.bl false))) bool) U H s _ _:=h
 simp only[iI] at h;refine bx hL hS h λx H1 U1 d1 s1 x1 hL1 aL r1 h1=>bx hL1 aL h1 λy H2 U2 d2 s2 x2 hL2 aU r2' h2=>?_;obtain⟨ds,rs,h3⟩:=pD aU (.cons (r1.mono x2 aL.lz) (.cons r2' .nil)) h2;refine sS (p1 U2 H2 ds _ _ aU.zs rs (m5 (Ee:=eX X.K cA EX Z) aU (h3.bd.imp λt s3 U3 H3 ⟨x3,jz,h4⟩ v rv=>?_)));obtain⟨k,_,e,h5⟩:=zR rv h4;refine⟨k,e,?_⟩;cases k with
 |false=>exact iF (Qg jz h5)
 |true=>
  have sU:=hL2.mono x3 aU.lz;rw[if_pos rfl] at h5;simp only[iI] at h5;refine iT (bx sU jz h5 λz H4 U4 d4 s4 x4 Qf lX r4 h6=>?_);obtain⟨ds,rs,h7⟩:=pD lX (.cons ((r2'.mono x3 aU.lz).mono x4 jz.lz) (.cons r4 .nil)) h6;refine sS (p2 U4 H4 ds _ _ lX.zs rs (m5 (Ee:=eX X.K cA EX Z) lX (h7.bd.imp λt s5 U5 H5 ⟨x5,zU,h8⟩ v rv=>?_)));obtain⟨k2,_,e,h9⟩:=zR rv h8;refine⟨k2,e,?_⟩;cases k2 with
  |false=>exact iF (Qg zU h9)
  |true=>
   have hL5:=Qf.mono x5 lX.lz;rw[if_pos rfl] at h9;simp only[iI] at h9;refine iT (bx hL5 zU h9 λz H6 U6 d6 s6 x6 hL6 Qh r6 h10=>?_);obtain⟨ds,rs,h11⟩:=pD Qh (.cons ((r4.mono x5 lX.lz).mono x6 zU.lz) (.cons r6 .nil)) h10;refine sS (p3 U6 H6 ds _ _ Qh.zs rs (m5 (Ee:=eX X.K cA EX Z) Qh (h11.bd.imp λt s7 U7 H7 ⟨x7,hS7,h12⟩ v rv=>?_)));exact Wo hS7 rv h12
end
mutual
inductive Is (h:Heap):D->Value->Prop where
 |non:Is h .non .none
 |bl (b:Bool):Is h (.bl b) (.bool b)
 |int (i:Int) (t:Tok):Is h (.int i) (.int i t)
 |str (x:Str) (t:Tok):Is h (.str x) (.str x t)
 |tup {a:Addr} {xs:List D} {its:List Value} (p:h.IsTuple a its.toArray) (r:jH h xs its):Is h (.tup xs) (.ref a)
 |fl {a:Addr} {xs:List D} {its:List Value} (p:h.IsList a its.toArray) (r:jH h xs its):Is h (.fl xs) (.ref a)
 |oth {d:D} {u:Value} (k:kq d=none):Is h d u
inductive jH (h:Heap):List D->List Value->Prop where
 |nil:jH h [] []
 |cons {d:D} {u:Value} {ds:List D} {us:List Value} (a:Is h d u) (r:jH h ds us):jH h (d::ds) (u::us)
end
section
variable {X:Cx}{cA:Cl}{ak:List (Addr×Obj)}{Z:L2.St}{H:Hp}{s:Shared}{U:Ph}{h:Heap}
theorem Qi(I:Inv X ak Z H s){ds:List D}{vs:List V}{us:List Value}(h:aB X.K cA U H ds vs)(r:Vals vs us):jH s.heap ds us:=
 aB.rec (motive_1:=λd v _=>∀{u:Value},RelV v u->Is s.heap d u) (motive_2:=λd v _=>∀{u:List Value},Vals v u->jH s.heap d u) (λr=>by cases r;exact .non) (λb _ r=>by cases r;exact .bl b) (λi _ r=>by obtain⟨t,rfl⟩:=r;exact .int i t) (λi _ r=>by obtain⟨t,rfl⟩:=r;exact .str i t)
 (λh _ ih _ r=>by
  cases r;obtain⟨its,rv,ht,_⟩:=I.tuple h.jU;exact .tup ht (ih rv))
 (λh _ ih _ r=>by
  cases r;obtain⟨its,rv,ht,_⟩:=I.list h.uL;exact .fl ht.isList (ih rv))
 (λ_ _ _ _=>.oth rfl) (λ_ _ _ _ _=>.oth rfl) (λ_ _ _ _ _=>.oth rfl) (λ_ _ _=>.oth rfl)
 (λr=>by cases r;exact .nil)
 (λ_ _ i j _ r=>by
  cases r with
  |cons a b=>exact .cons (i a) (j b)) h r
theorem wg(I:Inv X ak Z H s){d:D}{v:V}{u:Value}(h:Rep X.K cA U H d v)(r:RelV v u):Is s.heap d u:=by
 cases h with
 |non=>cases r;exact .non
 |bl b=>cases r;exact .bl b
 |int i=>obtain⟨t,rfl⟩:=r;exact .int i t
 |str i=>obtain⟨t,rfl⟩:=r;exact .str i t
 |tup h q=>
  cases r;obtain⟨its,rv,ht,_⟩:=I.tuple h.jU;exact .tup ht (Qi I q rv)
 |fl h q=>
  cases r;obtain⟨its,rv,ht,_⟩:=I.list h.uL;exact .fl ht.isList (Qi I q rv)
 |fd _ _=>exact .oth rfl
 |exc _ _=>exact .oth rfl
 |ob _ _=>exact .oth rfl
 |any _=>exact .oth rfl
theorem Cp(I:Inv X ak Z H s){d:D}{v:V}{u:Value}(q:Rv X.K cA U H d v)(r:RelV v u):Is s.heap d u:=by
 cases d with
 |fl xs=>
  obtain⟨a,vs,rfl,sq,rs⟩:=q;cases r;obtain⟨its,rv,ht,_⟩:=I.list sq;exact .fl ht.isList (Qi I rs rv)
 |non=>exact wg I q r
 |bl b=>exact wg I q r
 |int b=>exact wg I q r
 |str b=>exact wg I q r
 |tup b=>exact wg I q r
 |fd b c=>exact wg I q r
 |exc b c=>exact wg I q r
 |ob b c=>exact wg I q r
 |any=>exact wg I q r
theorem jH.len:∀{ds:List D} {us:List Value},jH h ds us->ds.length=us.length
 |_,_,.nil=>rfl
 |_,_,.cons _ r=>by rw[iB,iB,jH.len r]
theorem jH.get:∀{ds:List D} {us:List Value} {i:Nat} {d:D},jH h ds us->ds[i]?=some d->∃u,us[i]?=some u/\Is h d u
 |_,_,_,_,.nil,e=>by simp at e
 |_,_,0,_,.cons h _,e=>by simp at e;subst e;exact⟨_,rfl,h⟩
 |_,_,i+1,d,.cons _ r,e=>by
  obtain⟨v,a,b⟩:=jH.get (i:=i) (d:=d) r (by simpa using e);exact⟨v,by simpa using a,b⟩
theorem Wq{a:Addr}{is js:Array Value}(p:h.IsTuple a is)(q:h.IsTuple a js):is=js:=by
 obtain⟨o,e,c,n,d⟩:=p;obtain⟨o',e',c',n',d'⟩:=q;rw[e] at e';cases e';rw[d] at d';cases d';rfl
theorem Wr{a:Addr}{is js:Array Value}(p:h.IsList a is)(q:h.IsList a js):is=js:=by
 obtain⟨o,e,c,n,d⟩:=p;obtain⟨o',e',c',n',d'⟩:=q;rw[e] at e';cases e';rw[d] at d';cases d';rfl
theorem uM{a:Addr}{is js:Array Value}(p:h.IsList a is)(q:h.IsTuple a js):False:=by
 obtain⟨o,e,c,n,d⟩:=p;obtain⟨o',e',c',n',d'⟩:=q;rw[e] at e';cases e';rw[c] at c';exact absurd c' Zaa
theorem GZ{eq:D->D->Option Bool}:∀{xs ys:List D} {b:Bool},fM eq xs ys=some b->∃e:Nat->Bool,(∀(j:Nat) x y,xs[j]?=some x->ys[j]?=some y->eq x y=some (e j))/\b=((List.range (min xs.length ys.length)).all e&&xs.length==ys.length)
 |[],[],b,h=>by cases h;exact⟨λ_=>true,λj x y q=>by simp at q,by simp⟩
 |[],y::ys,b,h=>by cases h;exact⟨λ_=>true,λj x y q=>by simp at q,by simp⟩
 |x::xs,[],b,h=>by cases h;exact⟨λ_=>true,λj x y q r=>by simp at r,by simp⟩
 |x::xs,y::ys,b,h=>by
  simp only[fM] at h;cases e1:eq x y with
  |none=>rw[e1] at h;cases h
  |some a=>
   cases e2:fM eq xs ys with
   |none=>rw[e1,e2] at h;cases h
   |some c=>
    rw[e1,e2] at h;cases h;obtain⟨e,h1,h2⟩:=GZ e2;refine⟨λj=>match j with|0=>a|j+1=>e j,λj p q r1 r2=>?_,?_⟩
    ·cases j with
     |zero=>
      simp at r1 r2;subst r1 r2;exact e1
     |succ j=>exact h1 j p q (by simpa using r1) (by simpa using r2)
    ·rw[h2];simp only[iB,Nat.succ_min_succ,Lx,mU,List.all_map,Function.comp_def];rw[Bool.and_assoc]
     congr 2
     simp
theorem gZ{n:Nat}{d e:D}(k:kq d=none):cW n d e=none:=by
 cases n<;>cases d<;>first|cases k;done|(cases e<;>rfl)
theorem fV{n:Nat}{d e:D}(k:kq e=none):cW n d e=none:=by
 cases n<;>cases e<;>first|cases k;done|(cases d<;>rfl)
theorem Ws:∀(n:Nat) {d1 d2:D} {u:Value} {b:Bool},Is h d1 u->Is h d2 u->cW n d1 d2=some b->b=true:=by
 intro n;have rows:∀(n:Nat),(∀{d1 d2:D} {u:Value} {b:Bool},Is h d1 u->Is h d2 u->cW n d1 d2=some b->b=true)->∀{xs ys:List D} {is js:List Value} {b:Bool},jH h xs is->jH h ys js->is.toArray=js.toArray->fM (cW n) xs ys=some b->b=true:=by
  intro n ih xs ys is js b q1 q2 e hd;have e:is=js:=by simpa using e
  subst e;obtain⟨e,a1,a2⟩:=GZ (eq:=cW n) hd;rw[a2];have hl:_=_:=q1.len.trans q2.len.symm;rw[cO];refine⟨iM.mpr λj hj=>?_,by rw[hl];simp⟩;have hj:=uw.mp hj;obtain⟨x,hx⟩ : ∃x,_=some x:=⟨_,fQ (fK hj (Nat.min_le_left _ _))⟩;obtain⟨y,hy⟩ : ∃y,_=some y:=⟨_,fQ (fK hj (Nat.min_le_right _ _))⟩;obtain⟨v1,e1,p1⟩:=q1.get hx;obtain⟨v2,e2,p2⟩:=q2.get hy;rw[e1] at e2;cases e2;exact ih p1 p2 (a1 j x y hx hy)
 induction n with
 |zero=>
  intro d1 d2 u b r1 r2 hd;cases r1 with
  |oth k=>rw[gZ k] at hd;cases hd
  |non=>cases r2 with
   |oth k=>rw[fV k] at hd;cases hd
   |non=>cases hd;rfl
  |bl x=>cases r2 with
   |oth k=>rw[fV k] at hd;cases hd
   |bl y=>cases hd;simp
  |int x t=>cases r2 with
   |oth k=>rw[fV k] at hd;cases hd
   |int y=>cases hd;simp
  |str x t=>cases r2 with
   |oth k=>rw[fV k] at hd;cases hd
   |str y=>cases hd;simp
  |tup p q=>cases r2 with
   |oth k=>rw[fV k] at hd;cases hd
   |tup p2 q2=>cases hd
   |fl p2 q2=>exact(uM p2 p).elim
  |fl p q=>cases r2 with
   |oth k=>rw[fV k] at hd;cases hd
   |fl p2 q2=>cases hd
   |tup p2 q2=>exact(uM p p2).elim
 |succ n ih=>
  intro d1 d2 u b r1 r2 hd;cases r1 with
  |oth k=>rw[gZ k] at hd;cases hd
  |non=>cases r2 with
   |oth k=>rw[fV k] at hd;cases hd
   |non=>cases hd;rfl
  |bl x=>cases r2 with
   |oth k=>rw[fV k] at hd;cases hd
   |bl y=>cases hd;simp
  |int x t=>cases r2 with
   |oth k=>rw[fV k] at hd;cases hd
   |int y=>cases hd;simp
  |str x t=>cases r2 with
   |oth k=>rw[fV k] at hd;cases hd
   |str y=>cases hd;simp
  |tup p q=>cases r2 with
   |oth k=>rw[fV k] at hd;cases hd
   |tup p2 q2=>exact rows n ih q q2 (Wq p p2) hd
   |fl p2 q2=>exact(uM p2 p).elim
  |fl p q=>cases r2 with
   |oth k=>rw[fV k] at hd;cases hd
   |fl p2 q2=>exact rows n ih q q2 (Wr p p2) hd
   |tup p2 q2=>exact(uM p p2).elim
theorem parts{n:Nat}{A:Around}{xs ys:List D}{is js:List Value}{b:Bool}(r1:jH s.heap xs is)(r2:jH s.heap ys js)(hd:fM (cW n) xs ys=some b)
  (ih:∀{d1 d2:D} {u1 u2:Value} {b:Bool},Is s.heap d1 u1->Is s.heap d2 u2->cW n d1 d2=some b->SeqAt.EqAt A s u1 u2 b) :
  ∃e:Nat->Bool,(∀j (h1:j<is.toArray.size) (h2:j<js.toArray.size),SeqAt.EqAt A s is.toArray[j] js.toArray[j] (e j))/\b=((List.range (min is.toArray.size js.toArray.size)).all e&&is.toArray.size==js.toArray.size):=by
 obtain⟨e,a1,a2⟩:=GZ hd;have z1:=r1.len;have z2:=r2.len;refine⟨e,λj h1 h2=>?_,by simp only[cU,<-z1,<-z2];exact a2⟩;simp only[cU] at h1 h2;obtain⟨x,hx⟩ : ∃x,xs[j]?=some x:=⟨_,fQ (by rw[z1];exact h1)⟩;obtain⟨y,hy⟩ : ∃y,ys[j]?=some y:=⟨_,fQ (by rw[z2];exact h2)⟩;obtain⟨u,f1,g1⟩:=r1.get hx;obtain⟨u',f2,g2⟩:=r2.get hy;have k1:is.toArray[j]=u:=by
  have:=iK.mp f1;simpa using this.2
 have k2:js.toArray[j]=u':=by
  have:=iK.mp f2;simpa using this.2
 rw[k1,k2];exact ih g1 g2 (a1 j x y hx hy)
theorem Wt{A:Around}{l m:Addr}{is js:Array Value}{e:Nat->Bool}{b:Bool}(p1:s.heap.IsList l is)(p2:s.heap.IsList m js)(hu:A.units<cLine)(he:∀j (h1:j<is.size) (h2:j<js.size),SeqAt.EqAt A.in1 s is[j] js[j] (e j))(hb:b=((List.range (min is.size js.size)).all e&&is.size==js.size)):SeqAt.RcAt A s (.ref l) (.ref m) b:=by
 by_cases hz:is.size=js.size
 ·have:b=(List.range is.size).all e:=by rw[hb,hz];simp
  rw[this];exact SeqAt.RcAt.lists p1 p2 hz hu he
 ·have Qj:(is.size != js.size)=true:=by simpa using hz
  have:b=false:=by rw[hb];simp[hz]
  rw[this];exact SeqAt.RcAt.lists_lengths p1 p2 Qj hu
theorem zeM{A:Around}{l m:Addr}{is js:Array Value}{e:Nat->Bool}{b:Bool}(p1:s.heap.IsList l is)(p2:s.heap.IsList m js)(hu:A.units<cLine)(he:∀j (h1:j<is.size) (h2:j<js.size),SeqAt.EqAt A.in1 s is[j] js[j] (e j))(hb:b=((List.range (min is.size js.size)).all e&&is.size==js.size)):SeqAt.RcNeAt A s (.ref l) (.ref m) (!b):=by
 by_cases hz:is.size=js.size
 ·have:b=(List.range is.size).all e:=by rw[hb,hz];simp
  rw[this];exact SeqAt.RcNeAt.lists p1 p2 hz hu he
 ·have Qj:(is.size != js.size)=true:=by simpa using hz
  have:b=false:=by rw[hb];simp[hz]
  rw[this];exact SeqAt.RcNeAt.lists_lengths p1 p2 Qj hu
open SeqAt in
theorem Qk:∀(n:Nat) {A:Around} {d1 d2:D} {u1 u2:Value} {b:Bool},A.units+n<cLine->Is s.heap d1 u1->Is s.heap d2 u2->cW n d1 d2=some b->SeqAt.EqAt A s u1 u2 b:=by
 intro n
 induction n with
 |zero=>
  intro A d1 d2 u1 u2 b hu r1 r2 hd;have hu:A.units<cLine:=by lia
  cases r1 with
  |oth k=>rw[gZ k] at hd;cases hd
  |non=>cases r2 with
   |oth k=>rw[fV k] at hd;cases hd
   |non=>cases hd;exact EqAt.same _
   |bl y=>cases hd;exact EqAt.none_bool _
   |int y t=>cases hd;exact EqAt.none_int _ _
   |str y t=>cases hd;exact EqAt.none_str _ _
   |tup p q=>cases hd;exact EqAt.none_tuple p hu
   |fl p q=>cases hd;exact EqAt.none_list p hu
  |bl x=>cases r2 with
   |oth k=>rw[fV k] at hd;cases hd
   |non=>cases hd;exact EqAt.bool_none _
   |bl y=>cases hd;exact EqAt.bool_bool _ _
   |int y t=>cases hd;exact EqAt.bool_int _ _ _
   |str y t=>cases hd;exact EqAt.bool_str _ _ _
   |tup p q=>cases hd;exact EqAt.bool_tuple _ p hu
   |fl p q=>cases hd;exact EqAt.bool_list _ p hu
  |int x t=>cases r2 with
   |oth k=>rw[fV k] at hd;cases hd
   |non=>cases hd;exact EqAt.int_none _ _
   |bl y=>cases hd;exact EqAt.int_bool _ _ _
   |int y t=>cases hd;exact EqAt.int_int _ _ _ _
   |str y t=>cases hd;exact EqAt.int_str _ _ _ _
   |tup p q=>cases hd;exact EqAt.int_tuple _ _ p hu
   |fl p q=>cases hd;exact EqAt.int_list _ _ p hu
  |str x t=>cases r2 with
   |oth k=>rw[fV k] at hd;cases hd
   |non=>cases hd;exact EqAt.str_none _ _
   |bl y=>cases hd;exact EqAt.str_bool _ _ _
   |int y t=>cases hd;exact EqAt.str_int _ _ _ _
   |str y t=>cases hd;exact EqAt.str_str _ _ _ _
   |tup p q=>cases hd;exact EqAt.str_tuple _ _ p hu
   |fl p q=>cases hd;exact EqAt.str_list _ _ p hu
  |tup p q=>cases r2 with
   |oth k=>rw[fV k] at hd;cases hd
   |non=>cases hd;exact EqAt.tuple_none p hu
   |bl y=>cases hd;exact EqAt.tuple_bool _ p hu
   |int y t=>cases hd;exact EqAt.tuple_int _ _ p hu
   |str y t=>cases hd;exact EqAt.tuple_str _ _ p hu
   |tup p2 q2=>cases hd
   |fl p2 q2=>cases hd;exact EqAt.tuple_list p p2 hu
  |fl p q=>cases r2 with
   |oth k=>rw[fV k] at hd;cases hd
   |non=>cases hd;exact EqAt.list_none p hu
   |bl y=>cases hd;exact EqAt.list_bool _ p hu
   |int y t=>cases hd;exact EqAt.list_int _ _ p hu
   |str y t=>cases hd;exact EqAt.list_str _ _ p hu
   |tup p2 q2=>cases hd;exact EqAt.list_tuple p p2 hu
   |fl p2 q2=>cases hd
 |succ n ih=>
  intro A d1 d2 u1 u2 b hu0 r1 r2 hd;have hu:A.units<cLine:=by lia
  have iU:A.in1.units+n<cLine:=by show A.units+1+n<cLine;lia
  cases r1 with
  |oth k=>rw[gZ k] at hd;cases hd
  |non=>cases r2 with
   |oth k=>rw[fV k] at hd;cases hd
   |non=>cases hd;exact EqAt.same _
   |bl y=>cases hd;exact EqAt.none_bool _
   |int y t=>cases hd;exact EqAt.none_int _ _
   |str y t=>cases hd;exact EqAt.none_str _ _
   |tup p q=>cases hd;exact EqAt.none_tuple p hu
   |fl p q=>cases hd;exact EqAt.none_list p hu
  |bl x=>cases r2 with
   |oth k=>rw[fV k] at hd;cases hd
   |non=>cases hd;exact EqAt.bool_none _
   |bl y=>cases hd;exact EqAt.bool_bool _ _
   |int y t=>cases hd;exact EqAt.bool_int _ _ _
   |str y t=>cases hd;exact EqAt.bool_str _ _ _
   |tup p q=>cases hd;exact EqAt.bool_tuple _ p hu
   |fl p q=>cases hd;exact EqAt.bool_list _ p hu
  |int x t=>cases r2 with
   |oth k=>rw[fV k] at hd;cases hd
   |non=>cases hd;exact EqAt.int_none _ _
   |bl y=>cases hd;exact EqAt.int_bool _ _ _
   |int y t=>cases hd;exact EqAt.int_int _ _ _ _
   |str y t=>cases hd;exact EqAt.int_str _ _ _ _
   |tup p q=>cases hd;exact EqAt.int_tuple _ _ p hu
   |fl p q=>cases hd;exact EqAt.int_list _ _ p hu
  |str x t=>cases r2 with
   |oth k=>rw[fV k] at hd;cases hd
   |non=>cases hd;exact EqAt.str_none _ _
   |bl y=>cases hd;exact EqAt.str_bool _ _ _
   |int y t=>cases hd;exact EqAt.str_int _ _ _ _
   |str y t=>cases hd;exact EqAt.str_str _ _ _ _
   |tup p q=>cases hd;exact EqAt.str_tuple _ _ p hu
   |fl p q=>cases hd;exact EqAt.str_list _ _ p hu
  |@tup a1 xs is p q=>cases r2 with
   |oth k=>rw[fV k] at hd;cases hd
   |non=>cases hd;exact EqAt.tuple_none p hu
   |bl y=>cases hd;exact EqAt.tuple_bool _ p hu
   |int y t=>cases hd;exact EqAt.tuple_int _ _ p hu
   |str y t=>cases hd;exact EqAt.tuple_str _ _ p hu
   |@tup a2 ys js p2 q2=>
    by_cases ea:a1=a2
    ·subst ea;have:=Ws (n+1) (.tup p q) (.tup p2 q2) hd;subst this;exact EqAt.same _
    ·obtain⟨e,he,hb⟩:=parts (A:=A.in1) q q2 hd λa b c=>ih iU a b c;rw[hb];exact EqAt.of_refs ea (RcAt.tuples p p2 hu he)
   |fl p2 q2=>cases hd;exact EqAt.tuple_list p p2 hu
  |@fl a1 xs is p q=>cases r2 with
   |oth k=>rw[fV k] at hd;cases hd
   |non=>cases hd;exact EqAt.list_none p hu
   |bl y=>cases hd;exact EqAt.list_bool _ p hu
   |int y t=>cases hd;exact EqAt.list_int _ _ p hu
   |str y t=>cases hd;exact EqAt.list_str _ _ p hu
   |tup p2 q2=>cases hd;exact EqAt.list_tuple p p2 hu
   |@fl a2 ys js p2 q2=>
    by_cases ea:a1=a2
    ·subst ea;have:=Ws (n+1) (.fl p q) (.fl p2 q2) hd;subst this;exact EqAt.same _
    ·obtain⟨e,he,hb⟩:=parts (A:=A.in1) q q2 hd λa b c=>ih iU a b c;exact EqAt.of_refs ea (Wt p p2 hu he hb)
end
section
variable {X:Cx}{cA:Cl}{ak:List (Addr×Obj)}{Z:L2.St}{H:Hp}{s:Shared}{U:Ph}{h:Heap}
open SeqAt in
theorem Wu(hu0:A.units+(n+1)<cLine)(r1:Is s.heap d1 u1)(r2:Is s.heap d2 u2)(hd:cW (n+1) d1 d2=some b):RcAt A s u1 u2 b/\RcNeAt A s u1 u2 (!b):=by
 have hu:A.units<cLine:=by lia
 have iU:A.in1.units+n<cLine:=by show A.units+1+n<cLine;lia
 cases r1 with
 |oth k=>rw[gZ k] at hd;cases hd
 |non=>cases r2 with
  |oth k=>rw[fV k] at hd;cases hd
  |non=>cases hd;exact⟨RcAt.none_none,RcNeAt.none_none⟩
  |bl y=>cases hd;exact⟨RcAt.none_bool _,RcNeAt.none_bool _⟩
  |int y t=>cases hd;exact⟨RcAt.none_int _ _,RcNeAt.none_int _ _⟩
  |str y t=>cases hd;exact⟨RcAt.none_str _ _,RcNeAt.none_str _ _⟩
  |tup p q=>cases hd;exact⟨RcAt.none_tuple p hu,RcNeAt.none_tuple p hu⟩
  |fl p q=>cases hd;exact⟨RcAt.none_list p hu,RcNeAt.none_list p hu⟩
 |bl x=>cases r2 with
  |oth k=>rw[fV k] at hd;cases hd
  |non=>cases hd;exact⟨RcAt.bool_none _,RcNeAt.bool_none _⟩
  |bl y=>cases hd;exact⟨RcAt.bool_bool _ _,RcNeAt.bool_bool _ _⟩
  |int y t=>cases hd;exact⟨RcAt.bool_int _ _ _,RcNeAt.bool_int _ _ _⟩
  |str y t=>cases hd;exact⟨RcAt.bool_str _ _ _,RcNeAt.bool_str _ _ _⟩
  |tup p q=>cases hd;exact⟨RcAt.bool_tuple _ p hu,RcNeAt.bool_tuple _ p hu⟩
  |fl p q=>cases hd;exact⟨RcAt.bool_list _ p hu,RcNeAt.bool_list _ p hu⟩
 |int x t=>cases r2 with
  |oth k=>rw[fV k] at hd;cases hd
  |non=>cases hd;exact⟨RcAt.int_none _ _,RcNeAt.int_none _ _⟩
  |bl y=>cases hd;exact⟨RcAt.int_bool _ _ _,RcNeAt.int_bool _ _ _⟩
  |int y t=>cases hd;exact⟨RcAt.int_int _ _ _ _,RcNeAt.int_int _ _ _ _⟩
  |str y t=>cases hd;exact⟨RcAt.int_str _ _ _ _,RcNeAt.int_str _ _ _ _⟩
  |tup p q=>cases hd;exact⟨RcAt.int_tuple _ _ p hu,RcNeAt.int_tuple _ _ p hu⟩
  |fl p q=>cases hd;exact⟨RcAt.int_list _ _ p hu,RcNeAt.int_list _ _ p hu⟩
 |str x t=>cases r2 with
  |oth k=>rw[fV k] at hd;cases hd
  |non=>cases hd;exact⟨RcAt.str_none _ _,RcNeAt.str_none _ _⟩
  |bl y=>cases hd;exact⟨RcAt.str_bool _ _ _,RcNeAt.str_bool _ _ _⟩
  |int y t=>cases hd;exact⟨RcAt.str_int _ _ _ _,RcNeAt.str_int _ _ _ _⟩
  |str y t=>cases hd;exact⟨RcAt.str_str _ _ _ _,RcNeAt.str_str _ _ _ _⟩
  |tup p q=>cases hd;exact⟨RcAt.str_tuple _ _ p hu,RcNeAt.str_tuple _ _ p hu⟩
  |fl p q=>cases hd;exact⟨RcAt.str_list _ _ p hu,RcNeAt.str_list _ _ p hu⟩
 |@tup a1 xs is p q=>cases r2 with
  |oth k=>rw[fV k] at hd;cases hd
  |non=>cases hd;exact⟨RcAt.tuple_none p hu,RcNeAt.tuple_none p hu⟩
  |bl y=>cases hd;exact⟨RcAt.tuple_bool _ p hu,RcNeAt.tuple_bool _ p hu⟩
  |int y t=>cases hd;exact⟨RcAt.tuple_int _ _ p hu,RcNeAt.tuple_int _ _ p hu⟩
  |str y t=>cases hd;exact⟨RcAt.tuple_str _ _ p hu,RcNeAt.tuple_str _ _ p hu⟩
  |@tup a2 ys js p2 q2=>
   obtain⟨e,he,hb⟩:=parts (A:=A.in1) q q2 hd λa b c=>Qk n iU a b c;rw[hb];exact⟨RcAt.tuples p p2 hu he,RcNeAt.tuples p p2 hu he⟩
  |fl p2 q2=>cases hd;exact⟨RcAt.tuple_list p p2 hu,RcNeAt.tuple_list p p2 hu⟩
 |@fl a1 xs is p q=>cases r2 with
  |oth k=>rw[fV k] at hd;cases hd
  |non=>cases hd;exact⟨RcAt.list_none p hu,RcNeAt.list_none p hu⟩
  |bl y=>cases hd;exact⟨RcAt.list_bool _ p hu,RcNeAt.list_bool _ p hu⟩
  |int y t=>cases hd;exact⟨RcAt.list_int _ _ p hu,RcNeAt.list_int _ _ p hu⟩
  |str y t=>cases hd;exact⟨RcAt.list_str _ _ p hu,RcNeAt.list_str _ _ p hu⟩
  |tup p2 q2=>cases hd;exact⟨RcAt.list_tuple p p2 hu,RcNeAt.list_tuple p p2 hu⟩
  |@fl a2 ys js p2 q2=>
   obtain⟨e,he,hb⟩:=parts (A:=A.in1) q q2 hd λa b c=>Qk n iU a b c;exact⟨Wt p p2 hu he hb,zeM p p2 hu he hb⟩
noncomputable def wj(K:W.Frag)(cA:Cl)(f:Bool->Bool):R2:=λx y H Q=>∃U d1 d2 b,Rv K cA U H d1 x/\Rv K cA U H d2 y/\cW 50 d1 d2=some b/\Q (.bl (f b)) H
theorem zkq(hu:X.A.units+60<cLine):cN X (compareOp .Eq) (wj X.K cA id):=by
 intro ak s Z H x y v u Q I rx ry ⟨U,d1,d2,b,r1,r2,hd,q⟩;exact(Wu (n:=49) gV (Cp I r1 rx) (Cp I r2 ry) hd).1 X.prog X.w X.xe _ ⟨.bl b,H,I,rfl,q⟩
theorem zjX(hu:X.A.units+60<cLine):cN X (compareOp .NotEq) (wj X.K cA not):=by
 intro ak s Z H x y v u Q I rx ry ⟨U,d1,d2,b,r1,r2,hd,q⟩;exact(Wu (n:=49) gV (Cp I r1 rx) (Cp I r2 ry) hd).2 X.prog X.w X.xe _ ⟨.bl (!b),H,I,rfl,q⟩
theorem Wv:∀(n:Nat) {d d' x:D} {u:Value} {b b':Bool},Is h d u->Is h d' u->cW n d x=some b->cW n d' x=some b'->b=b':=by
 intro n;have flat:∀{d d' x:D} {u:Value} {b b':Bool},Is h d u->Is h d' u->(∀xs xs',d=.tup xs->d'=.tup xs'->False)->(∀xs xs',d=.fl xs->d'=.fl xs'->False)->cW n d x=some b->cW n d' x=some b'->b=b':=by
  intro d d' x u b b' r1 r2 n1 n2 h1 h2;cases r1 with
  |oth k=>rw[gZ k] at h1;cases h1
  |non=>cases r2 with
   |oth k=>rw[gZ k] at h2;cases h2
   |non=>rw[h1] at h2;exact cI h2
  |bl y=>cases r2 with
   |oth k=>rw[gZ k] at h2;cases h2
   |bl=>rw[h1] at h2;exact cI h2
  |int y=>cases r2 with
   |oth k=>rw[gZ k] at h2;cases h2
   |int=>rw[h1] at h2;exact cI h2
  |str y=>cases r2 with
   |oth k=>rw[gZ k] at h2;cases h2
   |str=>rw[h1] at h2;exact cI h2
  |tup p q=>cases r2 with
   |oth k=>rw[gZ k] at h2;cases h2
   |tup=>exact(n1 _ _ rfl rfl).elim
   |fl p2 q2=>exact(uM p2 p).elim
  |fl p q=>cases r2 with
   |oth k=>rw[gZ k] at h2;cases h2
   |fl=>exact(n2 _ _ rfl rfl).elim
   |tup p2 q2=>exact(uM p p2).elim
 have tn:∀{n:Nat} {xs xs':List D} {x:D},(∀ys,x=.tup ys->False)->cW n (.tup xs) x=cW n (.tup xs') x:=λ{n xs xs' x} hx=>by
  cases n<;>cases x<;>first|rfl|exact(hx _ rfl).elim
 have ln:∀{n:Nat} {xs xs':List D} {x:D},(∀ys,x=.fl ys->False)->cW n (.fl xs) x=cW n (.fl xs') x:=λ{n xs xs' x} hx=>by
  cases n<;>cases x<;>first|rfl|exact(hx _ rfl).elim
 clear flat
 induction n with
 |zero=>
  intro d d' x u b b' r1 r2 h1 h2;cases r1 with
  |oth k=>rw[gZ k] at h1;cases h1
  |non=>cases r2 with
   |oth k=>rw[gZ k] at h2;cases h2
   |non=>rw[h1] at h2;exact cI h2
  |bl y=>cases r2 with
   |oth k=>rw[gZ k] at h2;cases h2
   |bl=>rw[h1] at h2;exact cI h2
  |int y=>cases r2 with
   |oth k=>rw[gZ k] at h2;cases h2
   |int=>rw[h1] at h2;exact cI h2
  |str y=>cases r2 with
   |oth k=>rw[gZ k] at h2;cases h2
   |str=>rw[h1] at h2;exact cI h2
  |tup p q=>cases r2 with
   |oth k=>rw[gZ k] at h2;cases h2
   |tup p2 q2=>
    cases x with
    |tup ys=>cases h1
    |_=>rw[tn (by intro ys z;cases z),h2] at h1;exact(cI h1).symm
   |fl p2 q2=>exact(uM p2 p).elim
  |fl p q=>cases r2 with
   |oth k=>rw[gZ k] at h2;cases h2
   |fl p2 q2=>
    cases x with
    |fl ys=>cases h1
    |_=>rw[ln (by intro ys z;cases z),h2] at h1;exact(cI h1).symm
   |tup p2 q2=>exact(uM p p2).elim
 |succ n ih=>
  intro d d' x u b b' r1 r2 h1 h2;have rows:∀{xs xs' ys:List D} {is js:List Value} {b b':Bool},jH h xs is->jH h xs' js->is.toArray=js.toArray->fM (cW n) xs ys=some b->fM (cW n) xs' ys=some b'->b=b':=by
   intro xs xs' ys is js b b' q1 q2 e h1 h2;have e:is=js:=by simpa using e
   subst e;obtain⟨e1,a1,b1⟩:=GZ h1;obtain⟨e2,a2,b2⟩:=GZ h2;have hl:xs.length=xs'.length:=q1.len.trans q2.len.symm;rw[b1,b2,hl]
   congr 1
   rw[Bool.eq_iff_iff,iM,iM];have key:∀j∈List.range (min xs'.length ys.length),e1 j=e2 j:=λj hj=>by
    have hj:=uw.mp hj;obtain⟨x1,Ww⟩ : ∃x,xs[j]?=some x:=⟨_,fQ (by rw[hl];exact fK hj (Nat.min_le_left _ _))⟩;obtain⟨x2,vQ⟩ : ∃x,xs'[j]?=some x:=⟨_,fQ (fK hj (Nat.min_le_left _ _))⟩;obtain⟨y,hy⟩ : ∃y,ys[j]?=some y:=⟨_,fQ (fK hj (Nat.min_le_right _ _))⟩;obtain⟨v1,f1,p1⟩:=q1.get Ww;obtain⟨v2,f2,p2⟩:=q2.get vQ;rw[f1] at f2;cases f2;exact ih p1 p2 (a1 j x1 y Ww hy) (a2 j x2 y vQ hy)
   exact⟨λz j hj=>by rw[<-key j hj];exact z j hj,λz j hj=>by rw[key j hj];exact z j hj⟩
  cases r1 with
  |oth k=>rw[gZ k] at h1;cases h1
  |non=>cases r2 with
   |oth k=>rw[gZ k] at h2;cases h2
   |non=>rw[h1] at h2;exact cI h2
  |bl y=>cases r2 with
   |oth k=>rw[gZ k] at h2;cases h2
   |bl=>rw[h1] at h2;exact cI h2
  |int y=>cases r2 with
   |oth k=>rw[gZ k] at h2;cases h2
   |int=>rw[h1] at h2;exact cI h2
  |str y=>cases r2 with
   |oth k=>rw[gZ k] at h2;cases h2
   |str=>rw[h1] at h2;exact cI h2
  |tup p q=>cases r2 with
   |oth k=>rw[gZ k] at h2;cases h2
   |tup p2 q2=>
    cases x with
    |tup ys=>exact rows q q2 (Wq p p2) h1 h2
    |_=>rw[tn (by intro ys z;cases z),h2] at h1;exact(cI h1).symm
   |fl p2 q2=>exact(uM p2 p).elim
  |fl p q=>cases r2 with
   |oth k=>rw[gZ k] at h2;cases h2
   |fl p2 q2=>
    cases x with
    |fl ys=>exact rows q q2 (Wr p p2) h1 h2
    |_=>rw[ln (by intro ys z;cases z),h2] at h1;exact(cI h1).symm
   |tup p2 q2=>exact(uM p p2).elim
theorem Ql:∀{xs:List D} {b:Bool},memD x xs=some b->∀d∈xs,∃k,cW 50 d x=some k
 |[],_,_,d,hd=>by cases hd
 |y::xs,b,h,d,hd=>by
  unfold memD at h;cases e1:cW 50 y x with
  |none=>simp only[e1] at h;cases h
  |some a=>
   cases e2:memD x xs with
   |none=>simp only[e1,e2] at h;cases h
   |some c=>
    rcases cV.mp hd with rfl|hd
    ·exact⟨a,e1⟩
    ·exact Ql e2 d hd
theorem zhg:∀{xs:List D} {us:List Value} {b:Bool},memD x xs=some b->jH h xs us->∃e:Value->Bool,(∀u∈us,∃d,Is h d u/\cW 50 d x=some (e u))/\us.any e=b:=by
 intro xs us b hm r;have ex:∀u∈us,∃d k,Is h d u/\cW 50 d x=some k:=by
  intro u hu;obtain⟨i,hi,e⟩:=Dr hu;have hl:=r.len;obtain⟨d,hd⟩ : ∃d,xs[i]?=some d:=⟨_,fQ gV⟩;obtain⟨u',e1,q⟩:=r.get hd;rw[fQ hi,e] at e1;cases e1;obtain⟨k,hk⟩:=Ql hm d (jD hd);exact⟨d,k,q,hk⟩
 refine⟨λu=>by classical exact if z:∃k,∃d,Is h d u/\cW 50 d x=some k then z.choose else false,λu hu=>?_,?_⟩
 ·obtain⟨d,k,q,hk⟩:=ex u hu;have z:∃k,∃d,Is h d u/\cW 50 d x=some k:=⟨k,d,q,hk⟩;dsimp only;rw[dif_pos z];exact z.choose_spec
 ·clear ex;have key:∀(xs:List D) (us:List Value) (b:Bool),memD x xs=some b->jH h xs us->us.any (λu=>by classical exact if z:∃k,∃d,Is h d u/\cW 50 d x=some k then z.choose else false)=b:=by
   intro xs
   induction xs with
   |nil=>intro us b hm r;cases r;cases hm;rfl
   |cons d ds ih=>
    intro us b hm r;cases r with
    |@cons _ u _ us a r=>
     unfold memD at hm;cases e1:cW 50 d x with
     |none=>simp only[e1] at hm;cases hm
     |some k=>
      cases e2:memD x ds with
      |none=>simp only[e1,e2] at hm;cases hm
      |some c=>
       simp only[e1,e2] at hm;cases hm;rw[List.any_cons];have z:∃k,∃d,Is h d u/\cW 50 d x=some k:=⟨k,d,a,e1⟩;have hk:z.choose=k:=by
        obtain⟨d',q,yP⟩:=z.choose_spec;exact Wv 50 q a yP e1
       rw[dif_pos z,hk,ih us c e2 r]
  exact key xs us b hm r
end
end Mi
namespace HT
open PySem PyProof.Rows
section
variable {prog:Program}{w:World}{A:Around}{E:Value->Shared->Prop}{s:Shared}
theorem sV{t b:Addr}{vs ws:List Value}{Q:Value->Shared->Prop}(ht:IsTup s.heap t vs.toArray)(hb:IsTup s.heap b ws.toArray)(hv:vs=[])
  (h1:Q (.ref b) s):wpAny (model prog w) A (binaryOp .Add (.ref t) (.ref b)) Q E s:=by
 obtain⟨⟨cls,dd,data,sl⟩,ho,hc,n,hd⟩:=id ht;obtain⟨⟨cls2,dd2,data2,sl2⟩,nG,rG,n2,hd2⟩:=id hb;simp only at hc hd rG hd2;subst hc hd rG hd2;exact concat_meets ⟨_,ho,rfl⟩ ⟨_,nG,rfl⟩ noFill_tuple_add seq_tuple_add Lw Lq (Lp _ _)
   (tuple_addW0 t b vs.toArray ws.toArray n n2 dd dd2 sl sl2 (by simp[hv])) ⟨ho,nG,h1⟩
theorem fB{t sl:Addr}{items:Array Value}{vl vu:Value}{lo hi:Option Int}{Q:Value->Shared->Prop}(ht:IsTup s.heap t items)(hs:s.heap.IsSliceOf sl vl vu .none)(pl:IsPart vl lo)(pu:IsPart vu hi)
  (hw:bI items.size 0 lo=0/\bI items.size items.size hi=items.size) (h:Q (.ref t) s):wpAny (model prog w) A (getItem (.ref t) (.ref sl)) Q E s:=by
 obtain⟨os,p8,zc,uH⟩:=id hs;have Fg:s.TypeIs (.ref sl) "slice":=⟨os,p8,zc⟩;unfold getItem
 try with_reducible refine jd ?_
 first|refine aq (aG ?_)|skip
 refine aq (wpAny_sequenceKey ht.typeIs R4 ?_);refine aq (wL (name:=Str.ofString "__getitem__") ht.typeIs u5
  (qZ u5 ht.typeIs entry_tuple_getitem ?_ (args_tuple_getitem _ _)))
 show wpAny _ _ (Builtin.Tuple.tupleItemsOf (.ref t) >>= _) _ _ s;refine aq (tupleItemsOf_ ht ?_);refine aq (wV Fg ?_);rw[if_pos R4];refine aq (Vi hs pl pu ?_);have Qm:(((bI items.size 0 lo:Nat):Int)==0&&(1:Int)==1&&(bI items.size items.size hi-bI items.size 0 lo)==items.size)=true:=by
  rw[hw.1,hw.2];simp
 show wpAny _ _ (if (((bI items.size 0 lo:Nat):Int)==0&&(1:Int)==1&&(bI items.size items.size hi-bI items.size 0 lo)==items.size)=true then _ else _) _ _ s;rw[if_pos Qm];refine aq ?_;unfold Builtin.Tuple.tupleIsExact;refine aq (wV ht.typeIs ?_);refine aG ?_;rw[if_pos R4];refine aq (BK ?_);exact aG ⟨_,rfl,aG h⟩
theorem zbN{i:Int}{t:Tok}{Q:Option Int->Shared->Prop}(h:Q (some i) s):wpAny (model prog w) A (Builtin.Slice.slicePartIndex (.int i t)) Q E s:=Nt (.int i t) h
theorem zbm{sl:Addr}{t:Tok}{n:Nat}{Q:Int×Int×Nat->Shared->Prop}(hs:s.heap.IsSliceOf sl .none .none (.int (-1) t))
  (h:Q ((n:Int)-1,-1,n) s):wpAny (model prog w) A (Builtin.Slice.sliceApplied (.ref sl) (pure (n:Int))) Q E s:=by
 obtain⟨os,p8,zc,uH⟩:=id hs;unfold Builtin.Slice.sliceApplied Builtin.Slice.sliceFields;refine aq (aq (jF p8 uH (x:=.none) rfl (aq (jF p8 uH (x:=.none) rfl (aq (jF p8 uH (x:=.int (-1) t) rfl (aG ?_)))))));refine aq (zbN ?_);show wpAny _ _ (if ((-1:Int)==0)=true then _ else _) _ _ s;rw[if_neg R4];refine aq (slicePart_none (aq (slicePart_none (aq (aG ?_)))));show wpAny _ _ (pure ((n:Int)-1,(-1:Int),Builtin.Slice.slicePlaces ((n:Int)-1) (-1) (-1))) _ _ s;have e:Builtin.Slice.slicePlaces ((n:Int)-1) (-1) (-1)=n:=by
  unfold Builtin.Slice.slicePlaces;rw[if_neg R4];by_cases hn:n=0
  ·subst hn;rfl
  ·rw[if_pos gV];have:(-(-1:Int))=1:=rfl;rw[this,Int.ediv_one]
   lia
 rw[e];exact aG h
theorem zgA(xs:Array Value):((List.range xs.size).filterMap λ(m:Nat)=>xs[(((xs.size:Int)-1)+(m:Int) * -1).toNat]?).toArray=xs.toList.reverse.toArray:=by
 have e:∀n,n<=xs.size->(List.range n).filterMap (λ(m:Nat)=>xs[(((xs.size:Int)-1)+(m:Int) * -1).toNat]?)=(xs.toList.reverse).take n:=by
  intro n
  induction n with
  |zero=>intro _;simp
  |succ n ih=>
   intro hn;have hlt:n<xs.toList.reverse.length:=by simp;lia
   rw[List.range_succ,List.filterMap_append,ih gV,List.take_succ_eq_append_getElem hlt]
   congr 1
   have:(((xs.size:Int)-1)+(n:Int) * -1).toNat=xs.size-1-n:=by lia
   simp only[Dq,List.filterMap_nil,this];rw[Dk gV];simp[List.getElem_reverse]
 rw[e xs.size (bT _),List.take_of_length_le Zaa]
theorem gF(ht:IsTup s.heap t items)(hs:s.heap.IsSliceOf sl .none .none (.int (-1) tk))
  (h:Q (.ref s.heap.objs.size) {s with heap:=s.heap.push {cls:=.type "tuple",data:=.seq items.toList.reverse.toArray}})
  (jP:items.size<=sizeLine):wpAny (model prog w) A (getItem (.ref t) (.ref sl)) Q E s:=by
 have gw:sizeOk (.seq items.toList.reverse.toArray):=by
  show items.toList.reverse.toArray.size<=sizeLine;simpa using jP
 obtain⟨os,p8,zc,uH⟩:=id hs;have Fg:s.TypeIs (.ref sl) "slice":=⟨os,p8,zc⟩;unfold getItem
 try with_reducible refine jd ?_
 first|refine aq (aG ?_)|skip
 refine aq (wpAny_sequenceKey ht.typeIs R4 ?_);refine aq (wL (name:=Str.ofString "__getitem__") ht.typeIs u5
  (qZ u5 ht.typeIs entry_tuple_getitem ?_ (args_tuple_getitem _ _)))
 show wpAny _ _ (Builtin.Tuple.tupleItemsOf (.ref t) >>= _) _ _ s;refine aq (tupleItemsOf_ ht ?_);refine aq (wV Fg ?_);rw[if_pos R4];refine aq (zbm hs ?_);show wpAny _ _ (if (((items.size:Int)-1)==0&&(-1:Int)==1&&items.size==items.size)=true then _ else _) _ _ s;rw[if_neg Zaa,zgA]
 first
  |exact aq (m:=Builtin.Tuple.tupleExact _) (mR (aG ⟨_,rfl,aG h⟩) gw)
  |exact aq (m:=Builtin.Tuple.tupleExact _) (mR (aq (aG (aG ⟨_,rfl,aG h⟩))) gw)
  |exact aq (aq (m:=Builtin.Tuple.tupleExact _) (mR (aG (aG ⟨_,rfl,aG h⟩)) gw))
  |exact aq (aq (m:=Builtin.Tuple.tupleExact _) (mR (aG ⟨_,rfl,aG h⟩) gw))
end
end HT
namespace L2
open PySem PySem.Spec PyProof.Rows
section
variable {X:Cx}{e:Expr}{te:TE}{pos p2:Pos}
noncomputable def sW(K:W.Frag):R2:=λx y H Q=>∃a b xs ys,x=.ref a/\y=.ref b/\f9 K H a xs/\f9 K H b ys/\xs.length+ys.length<=sizeLine /\
 (xs=[]->Q (.ref b) H)/\(ys=[]->Q (.ref a) H)/\∀p,H p=none->Q (.ref p) (upd H p (.tup (xs++ys)))
theorem sX:cN X (binaryOp .Add) (sW X.K):=by
 intro ak s Z H x y v u Q I rx ry h;obtain⟨a,b,xs,ys,rfl,rfl,ha,hb,hz,q0,q1,q2⟩:=h;cases rx;cases ry;obtain⟨its,r1,p1,_⟩:=I.tuple ha;obtain⟨its2,r2,p2,_⟩:=I.tuple hb;by_cases hx:xs=[]
 ·exact HT.sV p1 p2 (r1.lD.mpr hx) ⟨.ref b,H,I,rfl,q0 hx⟩
 ·refine HT.vH p1 p2 (λz=>hx (r1.lD.mp z)) (λz=>⟨.ref a,H,I,rfl,q1 (r2.lD.mp z)⟩) (λz=>?_) (by rw[<-r1.length,<-r2.length];exact hz);refine⟨.ref s.heap.objs.size,_,I.laid (t':=s.toks) (o:=.tup (xs++ys)) (λb ob q=>bR _ q) (bT _) ?_,rfl,q2 _ (I.hok.fresh (bT _))⟩;exact⟨by rw[eZ];exact hz,_,r1.append r2,IsTup.new _ _⟩
noncomputable def xX(K:W.Frag):V->Option Int->Option Int->Hp->VK->Prop:=λx lo hi H Q=>∃a xs,x=.ref a/\f9 K H a xs /\
 ((HT.bI xs.length 0 lo=0/\HT.bI xs.length xs.length hi=xs.length)->Q (.ref a) H)/\∀p,H p=none->Q (.ref p) (upd H p (.tup (lC xs lo hi)))
theorem ziP:vK X (xX X.K):=by
 intro ak s Z H x v vl vu lo hi sl Q I rx hs pl pu h;obtain⟨a,xs,rfl,hx,hw,q⟩:=h;by_cases hz:HT.bI xs.length 0 lo=0/\HT.bI xs.length xs.length hi=xs.length
 ·cases rx;obtain⟨its,r,ht,_⟩:=I.tuple hx;have hlen:its.toArray.size=xs.length:=by rw[cU];exact r.length.symm
  refine⟨"tuple",_,u5.lookup,ht.typeIs,?_⟩;exact HT.fB ht hs pl pu (by rw[hlen];exact hz) ⟨.ref a,H,I,rfl,hw hz⟩
 ·exact zk4 ak s Z H (.ref a) v vl vu lo hi sl Q I rx hs pl pu ⟨a,xs,rfl,hx,hz,q⟩
theorem zkl(he:PE X e te):PE X (.Subscript e (.Slice none none (some (.UnaryOp .USub (.Constant (.int 1) j p3) p4)) p2) pos) (λZ H Q=>te Z H λx H1=>∃a xs,x=.ref a/\f9 X.K H1 a xs/\∀p,H1 p=none->Q (.ref p) (upd H1 p (.tup xs.reverse))):=by
 intro ak s Z H Q I h;refine Subscript_ (aZ (he ak s Z H _ I h) λv s1 ⟨x,H1,I1,r1,a,xs,ex,hx,q⟩=>?_);subst ex;cases r1;refine wpAny_Slice ?_;rw[evalPart_none];refine aG (aG ?_);rw[evalPart_some];refine aZ (U8 (r:=rU λi=>.int (-i)) U9 MP ak s1 Z H1 (λv H'=>v=.int (-1)/\H'=H1) I1 ⟨1,rfl,rfl,rfl⟩) λu s2 ⟨z,H2,I2,r2,ez,eH⟩=>?_;subst ez eH;obtain⟨t,rfl⟩:=r2;obtain⟨its,r,ht,hz⟩:=I2.tuple hx;have I4:Inv X ak Z H2 {s2 with heap:=s2.heap.push {cls:=.type "slice",data:=.fields #[.none,.none,.int (-1) t]}}:=I2.kept (t':=s2.toks) λb ob q=>bR _ q;obtain⟨its,r,ht,hz⟩:=I4.tuple hx;have hlen:its.toArray.size=xs.length:=by rw[cU];exact r.length.symm
 show wpAny (model X.prog X.w) X.A (subscriptTail e (.Slice none none (some (.UnaryOp .USub (.Constant (.int 1) j p3) p4)) p2) (.ref a) (.ref s2.heap.objs.size)) (EP X ak Z Q) X.xe {s2 with heap:=s2.heap.push {cls:=.type "slice",data:=.fields #[.none,.none,.int (-1) t]}};refine tail_any (ops:=[.ref a,.ref s2.heap.objs.size]) ht.typeIs u5.lookup (HT.gF ht (Heap.IsSliceOf.new ..) ?_ (by rw[hlen];exact hz)) (by with_unfolding_all rfl);refine⟨.ref _,_,I4.laid (t':=s2.toks) (o:=.tup xs.reverse) (λb ob q=>bR _ q) (bT _) ?_,rfl,q _ (I4.hok.fresh (bT _))⟩;refine⟨by rw[List.length_reverse];exact hz,_,?_,IsTup.new _ _⟩;have rv:∀{xs:List V} {us:List Value},Vals xs us->Vals xs.reverse us.reverse:=λ{xs us} r=>by
  induction r with
  |nil=>exact .nil
  |cons a b ih=>rw[Jc,Jc];exact ih.append (.cons a .nil)
 simpa using rv r
end
section
variable {X:Cx}
noncomputable def xY(K:W.Frag):R2:=λx y H Q=>∃l b xs zs,x=.ref l/\y=.ref b/\dj K H l xs/\dj K H b zs/\xs.length+zs.length<=sizeLine/\∀p,H p=none->Q (.ref p) (upd H p (.lst (xs++zs)))
theorem wk:cN X (binaryOp .Add) (xY X.K):=by
 intro ak s Z H x y v u Q I rx ry h;obtain⟨l,b,xs,zs,rfl,rfl,hH,hB,hz,q⟩:=h;cases rx;cases ry;obtain⟨its,r,pl,_⟩:=I.list hH;obtain⟨its2,r2,pl2,_⟩:=I.list hB;obtain⟨⟨cls,dd,data,sl⟩,ho,hc,n,hd⟩:=pl.isList;obtain⟨⟨cls2,dd2,data2,sl2⟩,nG,rG,n2,hd2⟩:=pl2.isList;simp only at hc hd rG hd2;subst hc hd rG hd2;refine concat_meets ⟨_,ho,rfl⟩ ⟨_,nG,rfl⟩ noFill_list_add seq_list_add PySem.F.slot_list_add PySem.F.entry_list_add (PySem.F.args_list_add_2 _ _) (list_addW l b its.toArray its2.toArray n n2 dd dd2 sl sl2 (by rw[cU,cU,<-r.length,<-r2.length];exact hz)) ⟨ho,nG,?_⟩;have ea:its.toArray++its2.toArray=(its++its2).toArray:=by simp
 rw[ea];exact⟨.ref _,_,I.NQ (t':=s.toks) (r.append r2) (by rw[eZ];omega),rfl,q _ I.fresh⟩
noncomputable def pF(K:W.Frag):R2:=λx y H Q=>pZ (λi j=>.int (i+j)) x y H Q\/xY K x y H Q\/sW K x y H Q\/∃i j,x=.str i/\y=.str j/\i.length+j.length<=sizeLine/\Q (.str (i++j)) H
theorem zfE:cN X (binaryOp .Add) (pF X.K):=yX.or (wk.or (sX.or zeu))
end
end L2
namespace Mi
open PySem PySem.Spec PyProof.Rows L2
section
variable {K:W.Frag}{cA:Cl}{U:Ph}{H:Hp}{Q:VK}{p:Pr}
theorem bf.some'{o:Option Rz}(h:bf K cA U H o Q):∃z,o=some z:=by
 cases o with
 |none=>exact h.elim
 |some z=>exact⟨z,rfl⟩
theorem bf.of{o:Option Rz}{z:Rz}(h:bf K cA U H o Q)(e:o=some z):bf K cA U H (some z) Q:=e▸h
theorem bf.here{d:D}{v:V}(h:bf K cA U H (some (.dat d)) Q)(r:Rep K cA U H d v):Q v H:=h H v bD.refl r
theorem bf.tup{xs:List D}{vs:List V}{a:Addr}(h:bf K cA U H (some (.dat (.tup xs))) Q)(z:Zt U H)(r:aB K cA U H xs vs)(hp:H a=none):Q (.ref a) (upd H a (.tup vs)):=
 h _ _ (bD.new hp) (.tup (TupAt.new (z.nz hp)) (r.mono (bD.new hp).ext z.lz))
theorem v8.two{ds:List D}{vs:List V}{d d':D}(h:v8 K cA U H [d,d'] vs):∃v v',vs=[v,v']/\Rv K cA U H d v/\Rv K cA U H d' v':=by
 cases h with
 |cons a r=>cases r with
  |cons b r=>cases r;exact⟨_,_,rfl,a,b⟩
theorem v8.one(h:v8 K cA U H [d] vs):∃v,vs=[v]/\Rv K cA U H d v:=by
 cases h with
 |cons a r=>cases r;exact⟨_,rfl,a⟩
theorem Rv.int{i:Int}{v:V}(h:Rv K cA U H (.int i) v):v=.int i:=by cases (show Rep K cA U H (.int i) v from h);rfl
theorem Rv.bl{i:Bool}{v:V}(h:Rv K cA U H (.bl i) v):v=.bl i:=by cases (show Rep K cA U H (.bl i) v from h);rfl
theorem Rv.str{i:Str}{v:V}(h:Rv K cA U H (.str i) v):v=.str i:=by cases (show Rep K cA U H (.str i) v from h);rfl
theorem Rv.tup{xs:List D}{v:V}(h:Rv K cA U H (.tup xs) v):∃a vs,v=.ref a/\TupAt K U H a vs/\aB K cA U H xs vs:=by
 cases (show Rep K cA U H (.tup xs) v from h) with
 |tup a r=>exact⟨_,_,rfl,a,r⟩
theorem Rv.sq{d:D}{xs:List D}{v:V}(h:Rv K cA U H d v)(e:nU d=some xs):∃a vs,v=.ref a/\(dj K H a vs\/f9 K H a vs)/\aB K cA U H xs vs:=by
 cases d with
 |tup ys=>
  cases e;obtain⟨a,vs,e,t,r⟩:=Rv.tup h;exact⟨a,vs,e,.inr t.jU,r⟩
 |fl ys=>
  cases e;obtain⟨a,vs,e,l,r⟩:=h;exact⟨a,vs,e,.inl l,r⟩
 |_=>cases e
theorem Wx{f:Int->Int->Option D}{ds:List D}{z:Rz}(h:cL f ds=some z):∃i j d,ds=[.int i,.int j]/\f i j=some d/\z=.dat d:=by
 cases ds with
 |nil=>cases h
 |cons a t=>
 cases a with
 |int i=>
  cases t with
  |nil=>cases h
  |cons b t=>
  cases b with
  |int j=>
   cases t with
   |cons _ _=>cases h
   |nil=>
    obtain⟨d,e1,e2⟩:=m9.mp h;exact⟨_,_,d,rfl,e1,e2.symm⟩
  |_=>cases h
 |_=>cases h
theorem G3{f:Int->Int->Option D}(hp:prim p=cL f){C:Int->Int->Prop}{g:Int->Int->V}(hf:∀i j d,f i j=some d->C i j/\∀U H,Rep K cA U H d (g i j)):aX K cA p (r2 (rI C g)):=by
 intro U H ds vs Q zt rs o;rw[hp] at o;obtain⟨z,e⟩:=o.some';obtain⟨i,j,d,rfl,e1,rfl⟩:=Wx e;obtain⟨c,r⟩:=hf i j d e1;obtain⟨v,v',rfl,r1,r2⟩:=rs.two (ds:=[]);rw[r1.int,r2.int];exact⟨_,_,rfl,i,j,rfl,rfl,c,(o.of e).here (r U H)⟩
theorem Kf{f:Int->Int->D}(hp:prim p=cL λi j=>some (f i j)){g:Int->Int->V}(hf:∀i j U H,Rep K cA U H (f i j) (g i j)):aX K cA p (r2 (pZ g)):=by
 intro U H ds vs Q zt rs o;obtain⟨x,y,e,i,j,a,b,_,q⟩:=G3 (K:=K) (cA:=cA) (C:=λ_ _=>True) hp (λi j d e=>⟨trivial,λU H=>by cases e;exact hf i j U H⟩) U H ds vs Q zt rs o;exact⟨x,y,e,i,j,a,b,q⟩
theorem G4{α:Type}{c:Prop}[Decidable c]{x y:α}(h:(if c then some x else none)=some y):c/\y=x:=by
 split at h
 ·rename_i z;cases h;exact⟨z,rfl⟩
 ·cases h
theorem zkY:aX K cA .ao (r2 (pZ λi j=>.int (i-j))):=Kf (f:=λi j=>.int (i-j)) rfl λi j _ _=>.int _
theorem zjG:aX K cA .mul (r2 (rI vD λi j=>.int (i*j))):=G3 rfl λi j d e=>by obtain⟨c,rfl⟩:=G4 e;exact⟨c,λ_ _=>.int _⟩
theorem zhI:aX K cA .fdiv (r2 (rI vC λi j=>.int (i/j))):=G3 rfl λi j d e=>by obtain⟨c,rfl⟩:=G4 e;exact⟨c,λ_ _=>.int _⟩
theorem zjI:aX K cA .mod (r2 (rI (λ_ j=>0<j) λi j=>.int (i%j))):=G3 rfl λi j d e=>by obtain⟨c,rfl⟩:=G4 e;exact⟨c,λ_ _=>.int _⟩
theorem zjf:aX K cA .pow (r2 (rI Ey λi j=>.int (i^j.toNat))):=G3 rfl λi j d e=>by obtain⟨c,rfl⟩:=G4 e;exact⟨c,λ_ _=>.int _⟩
theorem zl0:aX K cA .le (r2 (pZ λi j=>.bl (decide (i<=j)))):=Kf (f:=λi j=>.bl (decide (i<=j))) rfl λi j _ _=>.bl _
theorem zlU:aX K cA .ge (r2 (pZ λi j=>.bl (decide (j<=i)))):=Kf (f:=λi j=>.bl (decide (j<=i))) rfl λi j _ _=>.bl _
theorem zjW:aX K cA .neg (λvs H Q=>∃x,vs=[x]/\rU (λi=>.int (-i)) x H Q):=by
 intro U H ds vs Q zt rs o;obtain⟨z,e⟩:=o.some';have e:sy (λi=>.int (-i)) ds=some z:=e;cases ds with
 |nil=>cases e
 |cons a t=>
 cases a with
 |int i=>
  cases t with
  |cons _ _=>cases e
  |nil=>
   cases e;obtain⟨v,rfl,r1⟩:=rs.one;exact⟨_,rfl,_,r1.int,bf.here (o.of rfl) (.int _)⟩
 |_=>cases e
theorem zlB:aX K cA .eq (r2 (wj K cA id)):=by
 intro U H ds vs Q zt rs o;obtain⟨z,e⟩:=o.some';have e:Cm id ds=some z:=e;unfold Cm at e;split at e
 ·obtain⟨b,e1,e2⟩:=m9.mp e;obtain⟨v,v',rfl,r1,r2⟩:=rs.two (ds:=[]);subst e2;exact⟨_,_,rfl,U,_,_,b,r1,r2,e1,(o.of e).here (.bl _)⟩
 ·cases e
theorem zlT:aX K cA .ne (r2 (wj K cA not)):=by
 intro U H ds vs Q zt rs o;obtain⟨z,e⟩:=o.some';have e:Cm not ds=some z:=e;unfold Cm at e;split at e
 ·obtain⟨b,e1,e2⟩:=m9.mp e;obtain⟨v,v',rfl,r1,r2⟩:=rs.two (ds:=[]);subst e2;exact⟨_,_,rfl,U,_,_,b,r1,r2,e1,(o.of e).here (.bl _)⟩
 ·cases e
theorem Qn:∀{xs:List D} {ns:List Int} {vs:List V},d9 xs=some ns->aB K cA U H xs vs->vs=ns.map V.int
 |[],ns,vs,h,r=>by cases h;cases r;rfl
 |d::xs,ns,vs,h,r=>by
  cases d with
  |int i=>
   simp only[d9,m9] at h;obtain⟨ns',h1,rfl⟩:=h;cases r with
   |cons a r=>cases a;rw[Qn h1 r];rfl
  |_=>simp[d9] at h
theorem Wy:∀(a b:List Int),ltI a b=HT.lexLt a b
 |_,[]=>by cases ‹List Int›<;>rfl
 |[],_::_=>rfl
 |x::xs,y::ys=>by
  unfold ltI;rw[Wy xs ys,HT.jo]
theorem zlt:aX K cA .lt (r2 λx y H Q=>pZ (λi j=>.bl (decide (i<j))) x y H Q\/Fj K x y H Q):=by
 intro U H ds vs Q zt rs o;obtain⟨z,e⟩:=o.some';have e:Gs ds=some z:=e;unfold Gs at e;split at e
 ·cases e;obtain⟨v,v',rfl,r1,r2⟩:=rs.two (ds:=[]);exact⟨_,_,rfl,.inl ⟨_,_,r1.int,r2.int,bf.here (o.of rfl) (.bl _)⟩⟩
 ·split at e
  ·rename_i a b h1 h2;cases e;obtain⟨v,v',rfl,r1,r2⟩:=rs.two (ds:=[]);obtain⟨p,us,rfl,t1,q1⟩:=r1.tup;obtain⟨p',us',rfl,t2,q2⟩:=r2.tup;have o2:bf K cA U H (some (.dat (.bl (ltI a b)))) Q:=by
    have o3:bf K cA U H (Gs [.tup _,.tup _]) Q:=o;unfold Gs at o3;simp only[h1,h2] at o3;exact o3
   refine⟨_,_,rfl,.inr ⟨p,p',a,b,rfl,rfl,by rw[<-Qn h1 q1];exact t1.jU,by rw[<-Qn h2 q2];exact t2.jU,?_⟩⟩;rw[<-Wy];exact o2.here (.bl _)
  ·cases e
 ·cases e
theorem zlf:aX K cA .add (r2 (pF K)):=by
 intro U H ds vs Q zt rs o;have o:bf K cA U H (zG ds) Q:=o;cases ds with
 |nil=>exact False.elim o
 |cons a t=>
 cases a with
 |int i=>
  cases t with
  |nil=>exact False.elim o
  |cons b t=>
  cases b with
  |int j=>
   cases t with
   |cons _ _=>exact False.elim o
   |nil=>
    obtain⟨v,v',rfl,r1,r2⟩:=rs.two (ds:=[]);exact⟨_,_,rfl,.inl ⟨_,_,r1.int,r2.int,bf.here o (.int _)⟩⟩
  |_=>exact False.elim o
 |tup xs=>
  cases t with
  |nil=>exact False.elim o
  |cons b t=>
  cases b with
  |tup ys=>
   cases t with
   |cons _ _=>exact False.elim o
   |nil=>
    obtain⟨v,v',rfl,r1,r2⟩:=rs.two (ds:=[]);obtain⟨p,us,rfl,t1,q1⟩:=r1.tup;obtain⟨p',us',rfl,t2,q2⟩:=r2.tup;have o:bf K cA U H (if xs.length+ys.length<=sizeLine then some (.dat (.tup (xs++ys))) else none) Q:=o;by_cases hz:xs.length+ys.length<=sizeLine
    ·rw[if_pos hz] at o;refine⟨_,_,rfl,.inr (.inr (.inl ⟨p,p',us,us',rfl,rfl,t1.jU,t2.jU,by rw[<-q1.len,<-q2.len];exact hz,λe=>?_,λe=>?_,λa ha=>o.tup zt (q1.app q2) ha⟩))⟩
     ·subst e;cases q1;exact o.here (.tup t2 q2)
     ·subst e;cases q2;rw[yF] at o;exact o.here (.tup t1 q1)
    ·rw[if_neg hz] at o;exact o.elim
  |_=>exact False.elim o
 |fl xs=>
  cases t with
  |nil=>exact False.elim o
  |cons b t=>
  cases b with
  |fl ys=>
   cases t with
   |cons _ _=>exact False.elim o
   |nil=>
    obtain⟨v,v',rfl,⟨p,us,rfl,t1,q1⟩,⟨p',us',rfl,t2,q2⟩⟩:=rs.two (ds:=[]);have o:bf K cA U H (if xs.length+ys.length<=sizeLine then some (.nw (xs++ys)) else none) Q:=o;by_cases hz:xs.length+ys.length<=sizeLine
    ·rw[if_pos hz] at o;exact⟨_,_,rfl,.inr (.inl ⟨p,p',us,us',rfl,rfl,t1,t2,by rw[<-q1.len,<-q2.len];exact hz,λa ha=>o a _ ha (q1.app q2)⟩)⟩
    ·rw[if_neg hz] at o;exact o.elim
  |_=>exact False.elim o
 |str x=>
  cases t with
  |nil=>exact False.elim o
  |cons b t=>
  cases b with
  |str y=>
   cases t with
   |cons _ _=>exact False.elim o
   |nil=>
    obtain⟨v,v',rfl,r1,r2⟩:=rs.two (ds:=[]);have o:bf K cA U H (if x.length+y.length<=sizeLine then some (.dat (.str (x++y))) else none) Q:=o;by_cases hz:x.length+y.length<=sizeLine
    ·rw[if_pos hz] at o;exact⟨_,_,rfl,.inr (.inr (.inr ⟨_,_,r1.str,r2.str,hz,o.here (.str _)⟩))⟩
    ·rw[if_neg hz] at o;exact o.elim
  |_=>exact False.elim o
 |_=>exact False.elim o
theorem zju:aX K cA .len (λxs H Q=>∃p ys,xs=[.ref p]/\(dj K H p ys\/f9 K H p ys)/\Q (.int ys.length) H):=by
 intro U H ds vs Q zt rs o;have o:bf K cA U H (qj (λxs=>some (.dat (.int xs.length))) ds) Q:=o;unfold qj at o;split at o
 ·obtain⟨v,rfl,r1⟩:=rs.one;obtain⟨z,e⟩:=o.some';obtain⟨xs,e1,e2⟩:=u6.mp e;obtain⟨a,us,rfl,sq,q⟩:=r1.sq e1;cases e2;refine⟨a,us,rfl,sq,?_⟩;rw[<-q.len];exact(o.of e).here (.int _)
 ·exact o.elim
theorem ziC:aX K cA .list (λxs H Q=>∃p ys,xs=[.ref p]/\(dj K H p ys\/f9 K H p ys)/\∀l,H l=none->Q (.ref l) (upd H l (.lst ys))):=by
 intro U H ds vs Q zt rs o;have o:bf K cA U H (qj (λxs=>some (.nw xs)) ds) Q:=o;unfold qj at o;split at o
 ·obtain⟨v,rfl,r1⟩:=rs.one;obtain⟨z,e⟩:=o.some';obtain⟨xs,e1,e2⟩:=u6.mp e;obtain⟨a,us,rfl,sq,q⟩:=r1.sq e1;cases e2;exact⟨a,us,rfl,sq,λl hl=>(o.of e) l us hl q⟩
 ·exact o.elim
theorem zhd:aX K cA .tuple (λxs H Q=>∃p ys,xs=[.ref p]/\((dj K H p ys/\∀l,H l=none->Q (.ref l) (upd H l (.tup ys)))\/(f9 K H p ys/\Q (.ref p) H))):=by
 intro U H ds vs Q zt rs o;have o:bf K cA U H (nY ds) Q:=o;unfold nY at o;split at o
 ·rename_i d _;obtain⟨v,rfl,r1⟩:=rs.one;cases d with
  |tup xs=>
   obtain⟨a,us,rfl,t,q⟩:=r1.tup;exact⟨a,us,rfl,.inr ⟨t.jU,bf.here o (.tup t q)⟩⟩
  |fl xs=>
   obtain⟨a,us,rfl,t,q⟩:=r1;exact⟨a,us,rfl,.inl ⟨t,λl hl=>bf.tup o zt q hl⟩⟩
  |_=>exact o.elim
 ·exact o.elim
theorem zii:aX K cA .vW (λxs H Q=>(∃i,xs=[.int i]/\Q (.int i) H)\/∃k,xs=[.bl k]/\Q (.int (if k then 1 else 0)) H):=by
 intro U H ds vs Q zt rs o;have o:bf K cA U H (Gw ds) Q:=o;cases ds with
 |nil=>exact False.elim o
 |cons a t=>
 cases a with
 |int i=>
  cases t with
  |cons _ _=>exact False.elim o
  |nil=>
   obtain⟨v,rfl,r1⟩:=rs.one;rw[r1.int];exact .inl ⟨_,rfl,bf.here o (.int _)⟩
 |bl k=>
  cases t with
  |cons _ _=>exact False.elim o
  |nil=>
   obtain⟨v,rfl,r1⟩:=rs.one;rw[r1.bl];exact .inr ⟨_,rfl,bf.here o (.int _)⟩
 |_=>exact False.elim o
theorem ziM:aX K cA .max2 (λxs H Q=>∃i j,xs=[.int i,.int j]/\Q (.int (if j>i then j else i)) H):=by
 intro U H ds vs Q zt rs o;obtain⟨x,y,e,i,j,rfl,rfl,q⟩:=Kf (K:=K) (cA:=cA) (p:=.max2) (f:=λi j=>.int (if j>i then j else i)) rfl (λi j _ _=>.int _) U H ds vs Q zt rs o;exact⟨i,j,e,q⟩
theorem zfJ:aX K cA .divmod (λxs H Q=>∃i j,xs=[.int i,.int j]/\vC i j/\∀p,H p=none->Q (.ref p) (upd H p (.tup [.int (i/j),.int (i%j)]))):=by
 intro U H ds vs Q zt rs o;have o:bf K cA U H (cL (λi j=>if 0<j/\j<1073741824 then some (.tup [.int (i/j),.int (i%j)]) else none) ds) Q:=o;obtain⟨z,e⟩:=o.some';obtain⟨i,j,d,rfl,e1,rfl⟩:=Wx e;obtain⟨c,rfl⟩:=G4 e1;obtain⟨v,v',rfl,r1,r2⟩:=rs.two (ds:=[]);rw[r1.int,r2.int];exact⟨i,j,rfl,c,λp hp=>(o.of e).tup zt (.cons (.int _) (.cons (.int _) .nil)) hp⟩
theorem Qo:∀{xs:List D} {bs:List Bool} {vs:List V},gB xs=some bs->aB K cA U H xs vs->vs=bs.map V.bl
 |[],bs,vs,h,r=>by cases h;cases r;rfl
 |d::xs,bs,vs,h,r=>by
  cases d with
  |bl b=>
   simp only[gB,m9] at h;obtain⟨bs',h1,rfl⟩:=h;cases r with
   |cons q r=>cases q;rw[Qo h1 r];rfl
  |_=>simp[gB] at h
theorem zlp:aX K cA .ix (r2 (Ny K)):=by
 intro U H ds vs Q zt rs o;have o:bf K cA U H (Py ds) Q:=o;unfold Py at o;split at o
 ·rename_i d i _;obtain⟨v,v',rfl,r1,r2⟩:=rs.two (ds:=[]);obtain⟨z,e⟩:=o.some';obtain⟨y,e1,e2⟩:=m9.mp e;obtain⟨xs,e3,e4⟩:=u6.mp e1;obtain⟨a,us,rfl,sq,q⟩:=r1.sq e3;have key:∃w,L2.rJ us i=some w/\Rep K cA U H y w:=by
   unfold L2.rJ at *;rw[<-q.len];obtain⟨j,h1,h2⟩:=u6.mp e4;obtain⟨w,h3,h4⟩:=q.get h2;exact⟨w,by rw[h1];exact h3,h4⟩
  obtain⟨w,hw,nD⟩:=key;subst e2;have q':=(o.of e).here nD;rcases sq with sq|sq
  ·exact⟨_,_,rfl,.inl ⟨a,us,i,w,rfl,r2.int,sq,hw,q'⟩⟩
  ·exact⟨_,_,rfl,.inr (.inl ⟨a,us,i,w,rfl,r2.int,sq,hw,q'⟩)⟩
 ·exact o.elim
noncomputable def Wz(K:W.Frag):V->Option Int->Option Int->Hp->VK->Prop:=λx lo hi H Q=>Fv K x lo hi H Q\/xX K x lo hi H Q
theorem zjN:vK X (Wz X.K):=vO.or ziP
theorem ziG{d:D}{lo hi:Option Int}{v:V}(zt:Zt U H)(r:Rv K cA U H d v)(o:bf K cA U H (cutD d lo hi) Q):Wz K v lo hi H Q:=by
 cases d with
 |tup xs=>
  obtain⟨a,us,rfl,t,q⟩:=r.tup;refine .inr ⟨a,us,rfl,t.jU,λe=>?_,λp hp=>bf.tup o zt q.cut hp⟩;have hc:cut xs lo hi=xs:=by
   unfold cut;rw[q.len,e.1,e.2,List.drop_zero,Nat.sub_zero,<-q.len,List.take_length]
  have o:bf K cA U H (some (.dat (.tup (cut xs lo hi)))) Q:=o;rw[hc] at o;exact o.here (.tup t q)
 |fl xs=>
  obtain⟨a,us,rfl,t,q⟩:=r;exact .inl ⟨a,us,rfl,t,λp hp=>o p _ hp q.cut⟩
 |_=>exact o.elim
end
end Mi
namespace L2
open PySem PySem.Spec PyProof.Rows
section
variable {κ:Type}[DecidableEq κ]
noncomputable def putK(kvs:List (κ×V))(k:κ)(v:V):List (κ×V):=
 if (kvs.any λkv=>decide (kv.1=k))=true then kvs.map (λkv=>if kv.1=k then (kv.1,v) else kv) else kvs++[(k,v)]
theorem zda(kvs:List (κ×V))(k:κ)(v:V):(putK kvs k v).length<=kvs.length+1:=by
 unfold putK
 split
 ·rw[cg];lia
 ·rw[eZ,iB,q_];lia
theorem KV.any(r:KV kvs vs)(k:κ):(kvs.any λkv=>decide (kv.1=k))=vs.any λkv=>decide (kv.1=k):=by
 unfold KV at r
 induction r with
 |nil=>rfl
 |cons h t ih=>rw[List.any_cons,List.any_cons,ih,h.1]
theorem KV.repl(r:KV kvs vs)(k:κ)(ry:RelV y u) :
  KV (kvs.map λkv=>if kv.1=k then (kv.1,y) else kv) (vs.map λkv=>if kv.1=k then (kv.1,u) else kv):=by
 unfold KV at r ⊢
 induction r with
 |nil=>exact .nil
 |@cons p q ps qs h t ih=>
  rw[jE,jE];refine .cons ?_ ih;obtain⟨h1,h2⟩:=h;by_cases e:p.1=k
  ·rw[if_pos e,if_pos (h1.symm.trans e)];exact⟨h1,ry⟩
  ·rw[if_neg e,if_neg (λz=>e (h1.trans z))];exact⟨h1,h2⟩
theorem KV.put(r:KV kvs vs)(k:κ)(ry:RelV y u):KV (putK kvs k y) (stored vs k u):=by
 unfold putK stored;rw[r.any k];by_cases e:(vs.any λkv=>decide (kv.1=k))=true
 ·rw[if_pos e,if_pos e];exact r.repl k ry
 ·rw[if_neg e,if_neg e];exact Paired.snoc r ⟨rfl,ry⟩
end
theorem zlW(r:RelV (kV k) u):(bZ P w).is k u=true:=by
 cases k with
 |inl i=>obtain⟨t,e⟩:=(show ∃t,u=Value.int i t from r);subst e;exact zc3 P w i t
 |inr x=>obtain⟨t,e⟩:=(show ∃t,u=Value.str x t from r);subst e;exact zde P w x t
section
variable {P:Program}{w:World}{H:Hp}{h:Heap}{a:Addr}
theorem zl6(ok:fU P w H h)(e:Rd H a u):aR P w H h a u:=e.ok ok
theorem zlP(ok:fU P w H h)(e:Rd H a (.dK kvs)):kvs.length<=sizeLine/\(a==sysModules)=false/\∃vs,KV kvs vs/\h.DictOf (bZ P w) a vs:=
 show aR P w H h a (.dK kvs) from zl6 ok e
theorem zlX(ok:fU P w H h)(e:H a=some (.dK kvs)):kvs.length<=sizeLine/\(a==sysModules)=false/\∃vs,KV kvs vs/\h.DictOf (bZ P w) a vs:=zlP ok (.inl e)
end
section
variable {X:Cx}{ak:List (Addr×Obj)}{Z:St}{H:Hp}{s:Shared}{a:Addr}{y v:V}{u r:Value}{o:Option V}{A:Around}{E:Value->Shared->Prop}
theorem Inv.big(I:Inv X ak Z H s):sysModules<s.heap.objs.size:=by
 have h:mainGlobals<s.heap.objs.size:=(I.mod.glob.keeps I.bk).lt;exact Nat.lt_trans R4 h
theorem ziR(I:Inv X ak Z H s)(mu:DW (H a))(hs:Heap.SameBut a s.heap h')(he:∃q,h'.get? a=some q)(new:aR X.prog X.w (upd H a ob) h' a ob) :
  Inv X ak Z (upd H a ob) {s with heap:=h',toks:=t'}:=
 I.write (x:=a) (e:=a) mu (.inl rfl) (λb q hb z=>(hs.2 b hb).trans z) he new
theorem zjY(z:kvs.length<=sizeLine)(hd:(a==sysModules)=false)(rel:KV kvs vs)(dd:h'.DictOf (bZ P w) a vs) :
  aR P w H' h' a (.dK kvs):=⟨z,hd,vs,rel,dd⟩
end
theorem zgD(h:Heap)(hb:sysModules<h.objs.size):aR P w H (h.push {cls:=.type "dict",data:=.dict #[]}) h.objs.size (.dK []):=
 ⟨nj _,beq_eq_false_iff_ne.mpr (Ne.symm (cP hb)),[],.nil,Heap.DictOf.new h⟩
noncomputable def oA:List (TE×TE)->St->Hp->(List (V×V)->Hp->Prop)->Prop
 |[],_,H,Q=>Q [] H
 |(tk,tv)::r,Z,H,Q=>tk Z H λx H1=>tv Z H1 λy H2=>oA r Z H2 λps H3=>Q ((x,y)::ps) H3
noncomputable abbrev VV:List (V×V)->List (Value×Value)->Prop:=Paired λp q=>RelV p.1 q.1/\RelV p.2 q.2
def Kg(X:Cx)(pos:Pos)(keys:List (Option Expr))(values:List Expr)(zV:List (TE×TE)):Prop:=
 ∀(ak:List (Addr×Obj)) (s:Shared) (Z:St) (H:Hp) (Q:List (V×V)->Hp->Prop),Inv X ak Z H s->oA zV Z H Q->
  wpAny (model X.prog X.w) X.A (evalPairs (pairTrees keys values X.env pos)) (λvs s'=>∃ps H',Inv X ak Z H' s'/\VV ps vs/\Q ps H') X.xe s
theorem zhS:Kg X pos [] [] []:=λak s Z H Q I h=>pairTrees_nil_walk ⟨[],H,I,.nil,h⟩
theorem zgm(hk:PE X k tk)(hv:PE X v tv)(hr:Kg X pos ks vs zV) :
  Kg X pos (some k::ks) (v::vs) ((tk,tv)::zV):=λak s Z H Q I h=>
 pairTrees_cons_walk (aZ (hk ak s Z H _ I h) λu s1 hx=>dG hx λx H1 I1 rx q1=>aZ (hv ak s1 Z H1 _ I1 q1) λw2 s2 hx=>dG hx λy H2 I2 ry q2=>
  aZ (hr ak s2 Z H2 _ I2 q2) λws s3 hx=>dG hx λps H3 I3 rel q3=>⟨(x,y)::ps,H3,I3,.cons ⟨rx,ry⟩ rel,q3⟩)
noncomputable def jA(kvs more:List (Key×V)):List (Key×V):=more.foldl (λacc kv=>putK acc kv.1 kv.2) kvs
theorem KV.merge:∀{more:List (Key×V)} {rs:List (Key×Value)} {kvs:List (Key×V)} {vs:List (Key×Value)},KV more rs->KV kvs vs->KV (jA kvs more) (merged vs rs):=by
 intro more rs kvs vs r;unfold KV at r
 induction r generalizing kvs vs with
 |nil=>intro q;exact q
 |@cons p q ps qs h t ih=>
  intro r0;have e:KV (putK kvs p.1 p.2) (stored vs q.1 q.2):=by
   have:=r0.put p.1 h.2;rw[<-h.1];exact this
  exact ih e
theorem WD:∀(more kvs:List (Key×V)),(jA kvs more).length<=kvs.length+more.length
 |[],kvs=>by show kvs.length<=kvs.length+0;lia
 |p::r,kvs=>by
  have h1:=WD r (putK kvs p.1 p.2);have h2:=zda kvs p.1 p.2;show (jA (putK kvs p.1 p.2) r).length<=_;rw[iB];lia
theorem WK:∀{kvs:List (Key×V)} {ws:List (Value×Value)},VV (kvs.map λkv=>(kV kv.1,kv.2)) ws->∃rs,Carries (bZ P w) ws rs/\KV kvs rs
 |[],_,r=>by rw[List.map_nil] at r;cases r;exact⟨[],True.intro,.nil⟩
 |p::kvs,_,r=>by
  rw[jE] at r;cases r with
  |@cons a b as bs h t=>
   obtain⟨rs,c,q⟩:=WK (P:=P) (w:=w) t;obtain⟨b1,b2⟩:=b;exact⟨(p.1,b2)::rs,⟨zlW h.1,rfl,c⟩,.cons ⟨rfl,h.2⟩ q⟩
noncomputable def G5(zV:List (TE×TE)):TE:=λZ H Q=>∀p,H p=none->oA zV Z (upd H p (.dK [])) λps H2=>H2 p=some (.dK [])/\∃kvs:List (Key×V),ps=kvs.map (λkv=>(kV kv.1,kv.2))/\kvs.length<=15/\Q (.ref p) (upd H2 p (.dK (jA [] kvs)))
theorem zhC(h:Kg X pos keys values zV)(jQ:keys.all (·.isSome)=true)(hl:keys.length=values.length)(h0:keys≠[])
  (h15:keys.length<=15):PE X (.Dict keys values pos) (G5 zV):=by
 intro ak s Z H Q I q;have hn:=I.hok.fresh (bT s.heap.objs.size);have I1:=I.laid (a:=s.heap.objs.size) (o:=.dK []) (h':=s.heap.push {cls:=.type "dict",data:=.dict #[]}) (t':=s.toks) (λ_ _ q=>bR _ q) (bT _) (zgD s.heap I.big);refine wpAny_Dict_walk (knd:=bZ X.prog X.w) jQ hl h0 h15 (aZ (h ak _ Z _ _ I1 (q _ hn)) λws s2 ⟨ps,H2,I2,rel,e,kvs,ep,lk,q2⟩=>?_);subst ep;obtain⟨rs,c,rk⟩:=WK (P:=X.prog) (w:=X.w) rel;obtain⟨z,hd,vs0,r0,dd⟩:=zlX I2.hok e;cases r0;refine⟨rs,c,dd,λh' N_ hs=>⟨.ref s.heap.objs.size,_,?_,rfl,q2⟩⟩;have hz:(jA [] kvs).length<=sizeLine:=by
  have h1:=WD kvs [];rw[q_] at h1;rw[pR];lia
 have he:∃q,h'.get? s.heap.objs.size=some q:=let ⟨q,_,_,hq,_⟩:=N_;⟨q,hq⟩;exact ziR I2 (by rw[e];exact True.intro) hs he (zjY hz hd (rk.merge .nil) N_)
end L2
namespace Mi
open PySem PySem.Spec PyProof.Rows L2
section
variable {X:Cx}{cA:Cl}{ao:Nat->Nat->Bool}{aj:Bool}{F:Fn}{EX:XS}{a b c d e o:Expr}{A B C Dd E' O:E}{pos pp p2 apos cpos:Pos}{es:List Expr}{Xs:Es}{fz:Bool}{p:Pr}{x:Str}{U:Ph}{H:Hp}{s:S}{lo hi:Option Expr}{Lo Hi:Eo}
def G6(X:Cx)(cA:Cl)(ao:Nat->Nat->Bool)(aj:Bool)(F:Fn)(EX:XS)(oe:Option Expr)(m:Eo):Prop:=
 PO X oe (λZ H Q=>∃U J s,aW X.K cA U H Z J/\aC X.K cA U H s/\Run X.K cA (v7 ao aj F m J) U H s (λi _ U' H'=>Q i H') (eX X.K cA EX Z))
theorem PO.weak{oe:Option Expr}{t t':TO}(h:PO X oe t)(f:∀Z H Q,t' Z H Q->t Z H Q):PO X oe t':=by
 intro ak s Z H Q I q;exact h ak s Z H Q I (f Z H Q q)
theorem zlK:G6 X cA ao aj F EX none .no:=PO.weak ziw λZ H Q hh=>un hh λU J s hL hS h=>h.bF hS
theorem zjl(ha:SE X cA ao aj F EX a A):G6 X cA ao aj F EX (some a) (.yes A):=PO.weak (ziX ha) λZ H Q hh=>un hh λU J s hL hS h=>by
 refine bx hL hS h λx H1 U1 d1 s1 x1 hL1 aL r1 h1=>?_;obtain⟨i,_,e,h3⟩:=GX r1 h1;exact⟨i,e,h3.bF aL⟩
theorem G7{β:Type}{Z:L2.St}{J:Vs}{m:Eo}{k:Option Int->M β}{P:β->S->Ph->Hp->Prop}(hL:aW X.K cA U H Z J)(hS:aC X.K cA U H s)(h:Run X.K cA (M.bd (v7 ao aj F m J) k) U H s P (eX X.K cA EX Z)){Q:Option Int->Hp->Prop}
  (f:∀i H1 U1 s1,Ext U H U1 H1->aW X.K cA U1 H1 Z J->aC X.K cA U1 H1 s1->Run X.K cA (k i) U1 H1 s1 P (eX X.K cA EX Z)->Q i H1) :
  ∃U J s,aW X.K cA U H Z J/\aC X.K cA U H s/\Run X.K cA (v7 ao aj F m J) U H s (λi _ U' H'=>Q i H') (eX X.K cA EX Z):=
 ⟨U,J,s,hL,hS,h.bd.imp λi s1 U1 H1 ⟨x1,r1,h1⟩=>f i H1 U1 s1 x1 (hL.mono x1 hS.lz) r1 h1⟩
theorem zlC(ha:SE X cA ao aj F EX a A)(hl:G6 X cA ao aj F EX lo Lo)(hh:G6 X cA ao aj F EX hi Hi):SE X cA ao aj F EX (.Subscript a (.Slice lo hi none p2) pos) (.sl fz A Lo Hi):=PE.weak (zgs zjN ha hl hh) λZ H Q hh=>un hh λU J s hL hS h=>by
 refine bx hL hS h λx H1 U1 d1 s1 x1 hL1 aL r1 h1=>G7 hL1 aL h1 λl H2 U2 s2 x2 hL2 aU h2=>G7 hL2 aU h2 λu H3 U3 s3 x3 sU jz h3=>?_;obtain⟨dd,rv,h4⟩:=J_ jz ((r1.mono x2 aL.lz).mono x3 aU.lz) h3;exact ziG jz.zs rv (m5 jz h4)
theorem zjK(ha:SE X cA ao aj F EX a A):SE X cA ao aj F EX (.Subscript a (.Slice none none (some (.UnaryOp .USub (.Constant (.int 1) j p3) p4)) p2) pos) (.pr true .rev (.cons A .nil)):=PE.weak (zkl ha) λZ H Q hh=>un hh λU J s hL hS h=>by
 have h:Run X.K cA (M.bd (M.bd (ev ao aj F A J) λx=>M.bd (M.ret []) λz=>M.ret (x::z)) λvs=>M.bd (dO vs) λds=>bH true (prim .rev ds)) U H s _ _:=h;simp only[iI] at h;refine bx hL hS h λx H1 U1 d1 s1 x1 hL1 aL r1 h1=>?_;obtain⟨ds,rs,h3⟩:=pD aL (.cons r1 .nil) h1;have o:bf X.K cA U1 H1 (zL ds) Q:=m5 aL h3;unfold zL at o;split at o
 ·obtain⟨v,e,r⟩:=rs.one;cases e;obtain⟨ad,us,e2,t,q⟩:=r.tup;subst e2;exact⟨ad,us,rfl,t.jU,λp hp=>bf.tup o aL.zs q.rev hp⟩
 ·exact o.elim
theorem WL:∀bs:List Bool,(List.range bs.length).all (λi=>(bs[i]?).getD false)=bs.all id
 |[]=>rfl
 |b::r=>by
  rw[iB,Lx,mU,List.all_map,mU];have:=WL r;simp only[Function.comp_def,List.getElem?_cons_succ,List.getElem?_cons_zero,Option.getD_some,id];rw[this]
theorem zfA(hc:X.aj=true):dw X (.builtin "all") (λxs H Q=>∃(p:Addr) (bs:List Bool),xs=[.ref p]/\dj X.K H p (bs.map V.bl)/\Q (.bl (bs.all id)) H):=by
 intro ak s Z H xs us Q I r ⟨p,bs,e,hp,q⟩;subst e;obtain⟨u,rfl,ru⟩:=Vals.one r;cases (show u=Value.ref p from ru);obtain⟨its,rv,pl,hz⟩:=I.list hp;have hl:s.heap.IsList p its.toArray:=pl.isList;have hpn:p≠s.heap.objs.size:=by
  obtain⟨o,hg,_⟩:=hl;exact cP (bK hg)
 refine call_all_walk (wpAny_pyIter_list hl ?_);refine⟨_,_,_,_,_,_,λi=>(bs[i]?).getD false,rfl,Walks.list (A:=X.A.in1) (I.ok.hd hc) _ p hpn its.toArray,⟨⟨_,fW _ rfl,rfl,rfl⟩,hl.push _⟩,?_,λh' tk hk=>?_⟩
 ·intro i v s' Q' E' hP hQ;have hi:its[i]?=some v:=by simpa using hP
  have hb:∃b,bs[i]?=some b:=by
   have hlt:i<its.length:=(iK.mp hi).1;have z:=rv.length;rw[cg] at z;exact⟨_,fQ gV⟩
  obtain⟨b,hb⟩:=hb;obtain⟨u,e1,e2⟩:=rv.get (i:=i) (x:=V.bl b) (by rw[kY,hb];rfl);rw[hi] at e1;cases e1;cases (show v=Value.bool b from e2);have hQ:Q' ((bs[i]?).getD false) s':=hQ;rw[hb] at hQ;exact qX hQ
 ·have ez:(List.range its.toArray.size).all (λi=>(bs[i]?).getD false)=bs.all id:=by
   have z:=rv.length;rw[cg] at z;rw[cU,<-z];exact WL bs
  rw[ez];refine⟨.bl (bs.all id),H,I.kept (h':=h') (t':=tk) (old_kept hk),rfl,q⟩
theorem zj1{K:W.Frag}:aX K cA .all (λxs H Q=>∃(p:Addr) (bs:List Bool),xs=[.ref p]/\dj K H p (bs.map V.bl)/\Q (.bl (bs.all id)) H):=by
 intro U H ds vs Q zt rs o;have o:bf K cA U H (zJ ds) Q:=o;unfold zJ at o;split at o
 ·obtain⟨v,rfl,⟨ad,us,rfl,l,q⟩⟩:=rs.one;obtain⟨z,e⟩:=o.some';obtain⟨bs,e1,e2⟩:=m9.mp e;subst e2;exact⟨ad,bs,rfl,by rw[<-Qo e1 q];exact l,(o.of e).here (.bl _)⟩
 ·exact o.elim
noncomputable def Cq(k:Bool):Value->Bool
 |.bool c=>c==k
 |_=>false
theorem zjb{A:Around}{sh:Shared}{k:Bool}{bs:List Bool}{its:List Value}(rv:Vals (bs.map V.bl) its):∀y,y∈its.toArray->SeqAt.EqAt A sh y (.bool k) (Cq k y):=λy hy=>by
 have hy:y∈its:=by simpa using hy
 obtain⟨i,hi,e⟩:=Dr hy;have hl:=rv.length;rw[cg] at hl;obtain⟨u,e1,e2⟩:=rv.get (i:=i) (x:=V.bl (bs[i]' gV)) (by rw[kY,fQ gV];rfl);rw[fQ hi,e] at e1;cases e1;cases e2;exact SeqAt.EqAt.bool_bool _ _
theorem zgg{h:Heap}{x:D}{e:Value->Bool}:∀{xs:List D} {us:List Value},jH h xs us->(∀u∈us,∃d,Is h d u/\cW 50 d x=some (e u))->(∀d∈xs,∃k,cW 50 d x=some k)->us.countP e=qg x xs:=by
 intro xs
 induction xs with
 |nil=>intro us r _ _;cases r;rfl
 |cons d ds ih=>
  intro us r he hk;cases r with
  |@cons _ u _ us a r=>
   rw[List.countP_cons,ih r (λu hu=>he u (dF _ hu)) λd hd=>hk d (dF _ hd)];obtain⟨d',q,yP⟩:=he u dM;obtain⟨k,xZ⟩:=hk d dM;have:=Wv 50 q a yP xZ;show _+_=qg x ds+(if cW 50 d x=some true then 1 else 0);rw[xZ,this];cases k<;>rfl
def G8(K:W.Frag)(cA:Cl)(x:V)(xs:List V)(H:Hp)(Q:VK):Prop:=∃U ds d v b,xs=[v]/\Rv K cA U H (.fl ds) x/\Rv K cA U H d v/\memD d ds=some b/\Q (.int (qg d ds:Nat)) H
theorem zeW(hu:X.A.units+60<cLine):JV X "list.count" (G8 X.K cA):=by
 intro ak sh Z H x xs v us Q I rx r ⟨U,ds,d,y,b,e2,r1,r2,hm,q⟩;subst e2;obtain⟨u,rfl,ru⟩:=Vals.one r;have iU:X.A.in1.units+50<cLine:=by show X.A.units+1+50<cLine;lia
 have i1:=Cp I r2 ru;cases Cp I r1 rx with
 |@fl l _ its p rr=>
  obtain⟨e,he,_⟩:=zhg hm rr;obtain⟨⟨cls,dd,data,sl⟩,hg,hc,n,hd⟩:=p;simp only at hc hd;subst hc hd;refine call_meets PySem.F.slot_list_count ⟨_,hg,rfl⟩ PySem.F.entry_list_count (PySem.F.args_list_count_2 _ _) (SeqAt.list_countAt l _ n dd sl u e) ⟨hg,λw hw=>?_,?_⟩
  ·obtain⟨d',q1,q2⟩:=he w (by simpa using hw);exact Qk 50 iU q1 i1 q2
  ·refine⟨.int (qg d ds:Nat),H,I.tok _,?_,q⟩;rw[<-zgg rr he (Ql hm)];exact⟨_,rfl⟩
 |oth k=>cases k
theorem WM:∀{bs:List Bool} {its:List Value} {j:Nat},Vals (bs.map V.bl) its->bs.idxOf? k=some j->∃hj:j<its.length,Cq k its[j]=true/\∀m (hm:m<its.length),m<j->Cq k its[m]=false
 |[],_,j,.nil,h=>by simp at h
 |b::bs,_,j,.cons r t,h=>by
  cases r;rw[List.idxOf?_cons] at h;by_cases hb:b=k
  ·subst hb;simp at h;subst h;exact⟨Je _,by simp[Cq],λm hm z=>absurd z (Nat.not_lt_zero _)⟩
  ·have hb':(b==k)=false:=by simpa using hb
   rw[hb'] at h;simp at h;obtain⟨j',h1,h2⟩:=h;subst h2;obtain⟨hj,a1,a2⟩:=WM t h1;refine⟨by simpa using hj,by simpa using a1,λm hm z=>?_⟩;cases m with
   |zero=>simp[Cq,hb']
   |succ m=>simpa using a2 m (by simpa using hm) gV
theorem zft:JV X "list.index" (λx xs H Q=>∃(l:Addr) (bs:List Bool) (b:Bool) (j:Nat),x=.ref l/\xs=[.bl b]/\dj X.K H l (bs.map V.bl)/\bs.idxOf? b=some j/\Q (.int j) H):=by
 intro ak sh Z H x xs v us Q I rx r ⟨l,bs,b,j,e1,e2,hl,hj,q⟩;subst e1 e2;cases (show v=Value.ref l from rx);obtain⟨u,rfl,ru⟩:=Vals.one r;cases (show u=Value.bool b from ru);obtain⟨its,rv,pl,hz⟩:=I.list hl;obtain⟨⟨cls,dd,data,sl⟩,hg,hc,n,hd⟩:=pl.isList;simp only at hc hd;subst hc hd;obtain⟨hlt,h1,h2⟩:=WM rv hj;have hs:(j:Int)<2^63-1:=by
  have z:=rv.length;rw[pR] at hz
  lia
 refine call_meets PySem.F.slot_list_index ⟨_,hg,rfl⟩ PySem.F.entry_list_index (PySem.F.args_list_index_2 _ _) (SeqAt.list_indexAt l its.toArray n dd sl (.bool b) (Cq b) j (by simpa using hlt) hs (by simpa using h1) (λm hm z=>by simpa using h2 m (by simpa using hm) z)) ⟨hg,zjb rv,?_⟩;exact⟨.int j,H,I.tok _,⟨_,rfl⟩,q⟩
def Qp(K:W.Frag)(cA:Cl)(p:Pr)(r:V->List V->Hp->VK->Prop):Prop:=aX K cA p (λvs H Q=>∃x xs,vs=x::xs/\r x xs H Q)
theorem zgM{K:W.Frag}:Qp K cA .count (G8 K cA):=by
 intro U H ds vs Q zt rs o;have o:bf K cA U H (nZ ds) Q:=o;unfold nZ at o;split at o
 ·obtain⟨v,v',rfl,r1,r2⟩:=rs.two (ds:=[]);obtain⟨z,e⟩:=o.some';obtain⟨b,e1,e2⟩:=m9.mp e;subst e2;exact⟨_,_,rfl,U,_,_,_,b,rfl,r1,r2,e1,(o.of e).here (.int _)⟩
 ·exact o.elim
theorem zgl{K:W.Frag}:Qp K cA .index (λx xs H Q=>∃(l:Addr) (bs:List Bool) (b:Bool) (j:Nat),x=.ref l/\xs=[.bl b]/\dj K H l (bs.map V.bl)/\bs.idxOf? b=some j/\Q (.int j) H):=by
 intro U H ds vs Q zt rs o;have o:bf K cA U H (n8 ds) Q:=o;unfold n8 at o;split at o
 ·obtain⟨v,v',rfl,⟨ad,us,rfl,l,q⟩,r2⟩:=rs.two (ds:=[]);obtain⟨z,e⟩:=o.some';obtain⟨j,e1,e2⟩:=m9.mp e;obtain⟨bs,e3,e4⟩:=u6.mp e1;subst e2;exact⟨_,_,rfl,ad,bs,_,j,rfl,by rw[r2.bl],by rw[<-Qo e3 q];exact l,e4,(o.of e).here (.int _)⟩
 ·exact o.elim
noncomputable def kdT:Kd->String
 |.list=>"list"
 |.str=>"str"
 |_=>"dict"
theorem zhO{K:W.Frag}{k:Kd}{dd:D}{v:V}(h:nW k dd=true)(r:Rv K cA U H dd v):Nz K (kdT k) v H:=by
 cases k<;>cases dd<;>first
  |(cases h;done)
  |(obtain⟨a,vs,rfl,l,_⟩:=r;exact .inl ⟨rfl,vs,l⟩)
  |(rw[r.str];exact rfl)
  |(cases (show Rep K cA U H (.fd _ _) v from r) with|@fd _ _ _ q n=>exact .inr (.inr (.inl ⟨rfl,.inl ⟨_,q⟩⟩)))
theorem WQ{k:Kd}{id:String}{name:Str}{r:V->List V->Hp->VK->Prop}(pa:PlainAttrs (kdT k))(slot:Slot (kdT k) name id)(NK:typeOf (.builtin id)=pure (.type "method_descriptor"))(hm:JV X id r)(hr:Qp X.K cA p r)
  (ho:SE X cA ao aj F EX o O) (ha:SA X cA ao aj F EX (e::es) Xs)
  (dz:attributeBase o name X.env (eval o X.env)=eval o X.env:=by rfl)
  (nJ:((backTo cpos (starEach (e::es) X.env)).all (λx=>!x.1)&&(backToKw cpos (keywordEach [] X.env)).all (λx=>x.1.isSome)
  &&decide ((e::es).length+([]:List Keyword).length+(if ([]:List Keyword).isEmpty then 0 else 1)<30))=true:=by rfl)
  (jq:(apos.endLine==cpos.line)=true:=by rfl) (hs:starEach (e::es) X.env=(false,eval e X.env)::starEach es X.env:=by rfl) (cJ:(backTo cpos (starEach es X.env)).any (·.1)=false:=by rfl) :
  SE X cA ao aj F EX (.Call (.Attribute o name apos) (e::es) [] cpos) (.meth fz p k O Xs):=PE.weak (zlV pa slot NK hm ho ha dz nJ jq hs cJ) λZ H Q hh=>un hh λU J s hL hS h=>by
 refine bx hL hS h λx H1 U1 d1 s1 x1 hL1 aL r1 h1=>?_;obtain⟨dd,rv,h2⟩:=J_ aL r1 h1;by_cases hk:nW k dd=true
 ·rw[if_pos hk] at h2;refine⟨zhO hk rv,qm hL1 aL h2 λys H2 U2 ds s2 x2 hL2 aU r2 h3=>?_⟩;obtain⟨ds,rs,h4⟩:=pD aU (.cons (r1.mono x2 aL.lz) r2) h3;obtain⟨_,_,e,q⟩:=hr U2 H2 ds _ _ aU.zs rs (m5 aU h4);cases e;exact q
 ·rw[if_neg hk] at h2;exact h2.elim
noncomputable def Kh:Kd->String->Bool
 |.int,"int"=>true
 |.int,"bool"=>true
 |.bool,"bool"=>true
 |.str,"str"=>true
 |.tuple,"tuple"=>true
 |.list,"list"=>true
 |.dict,"dict"=>true
 |_,_=>false
noncomputable def uN:Kd->Option Value
 |.int=>some (.type "int")
 |.bool=>some (.type "bool")
 |.str=>some (.type "str")
 |.tuple=>some (.type "tuple")
 |.list=>some (.type "list")
 |.dict=>some (.type "dict")
 |_=>none
theorem zjB{K:W.Frag}{k:Kd}{cu:Value}(h:uN k=some cu){T:String}(hT:T∈["NoneType","bool","int","str","tuple","list","dict"]):PySem.W.kitOne K (.type T) cu=some (Kh k T):=by
 simp only[cV,List.mem_nil_iff,oX] at hT;cases k<;>simp only[uN] at h<;>cases h<;>rcases hT with rfl|rfl|rfl|rfl|rfl|rfl|rfl<;>rfl
structure sY(K:W.Frag)(cA:Cl)(ao:Nat->Nat->Bool):Prop where
 xc:∀c,XC K (cA.a c)
 ao:∀c e,PySem.W.kitOne K (.ref (cA.a c)) (.ref (cA.a e))=some (ao c e)
 nR:∀c,PySem.W.kitOne K (.ref (cA.a c)) (.type "ValueError")=some true
noncomputable def Cr(cA:Cl):Kd->V
 |.cls e=>.ref (cA.a e)
 |.nR=>.ty "ValueError"
 |.int=>.ty "int"
 |.bool=>.ty "bool"
 |.str=>.ty "str"
 |.tuple=>.ty "tuple"
 |.list=>.ty "list"
 |.dict=>.ty "dict"
theorem zgn(Cs:uN k=none->sY X.K cA ao) :
  dw X (.builtin "isinstance") (λxs H Q=>∃U d v bb,xs=[v,Cr cA k]/\Rv X.K cA U H d v/\j8 ao d k=some bb/\Q (.bl bb) H):=by
 intro ak sh Z H xs us Q I r ⟨U,d,v,bb,e,rd,hi,q⟩;subst e;obtain⟨u,w,rfl,ru,Qq⟩:=Vals.two r;have sZ:∀tk,EP X ak Z Q (.bool bb) {sh with toks:=tk}:=λtk=>⟨.bl bb,H,I.tok tk,rfl,q⟩;have bt:∀{T:String} {Hh:Heap->Prop},PySem.W.KitX X.K u (.type T) Hh->Hh sh.heap->T∈["NoneType","bool","int","str","tuple","list","dict"]->u≠Value.builtin "__main__.__loader__#opaque"->(∃cu,uN k=some cu/\w=cu/\Kh k T=bb)->wpAny (model X.prog X.w) X.A (PySem.call (.builtin "isinstance") [u,w]) (EP X ak Z Q) X.xe sh:=λ{T Hh} zzZ hh hT hx ⟨cu,h1,h2,h3⟩=>by
  subst h2 h3;exact PySem.W.kia_one zzZ I.o8 hh (zjB h1 hT) hx sZ
 have wv:∀cu,uN k=some cu->w=cu:=λcu h=>by
  cases k<;>simp only[uN] at h<;>cases h<;>exact Qq
 have fin:∀T,j8 ao d k=(match uN k with|some _=>some (Kh k T)|none=>none)->∃cu,uN k=some cu/\w=cu/\Kh k T=bb:=λT h=>by
  rw[hi] at h;cases z:uN k with
  |none=>rw[z] at h;cases h
  |some cu=>rw[z] at h;cases h;exact⟨cu,rfl,wv cu z,rfl⟩
 cases d with
 |non=>
  cases (show Rep X.K cA U H .non v from rd);cases (show u=Value.none from ru);exact bt PySem.W.kitx_none trivial Zaa (λz=>nomatch z) (fin "NoneType" (by cases k<;>rfl))
 |bl b=>
  cases rd.bl;cases (show u=Value.bool b from ru);exact bt PySem.W.kitx_bool trivial Zaa (λz=>nomatch z) (fin "bool" (by cases k<;>rfl))
 |int i=>
  cases rd.int;obtain⟨t,z⟩:=(show ∃t,u=Value.int i t from ru);cases z;exact bt PySem.W.kitx_int trivial Zaa (λz=>nomatch z) (fin "int" (by cases k<;>rfl))
 |str y=>
  cases rd.str;obtain⟨t,z⟩:=(show ∃t,u=Value.str y t from ru);cases z;exact bt PySem.W.kitx_str trivial Zaa (λz=>nomatch z) (fin "str" (by cases k<;>rfl))
 |tup xs=>
  obtain⟨ad,vs,rfl,h1,h2⟩:=rd.tup;cases (show u=Value.ref ad from ru);obtain⟨its,_,ht,_⟩:=I.tuple h1.jU;obtain⟨o,q1,q2,_⟩:=ht;exact bt PySem.W.kitx_tuple ⟨o,q1,q2⟩ Zaa (λz=>nomatch z) (fin "tuple" (by cases k<;>rfl))
 |fl xs=>
  obtain⟨ad,vs,rfl,h1,h2⟩:=rd;cases (show u=Value.ref ad from ru);obtain⟨its,_,ht,_⟩:=I.list h1;obtain⟨o,q1,q2,_⟩:=ht.isList;exact bt PySem.W.kitx_list ⟨o,q1,q2⟩ Zaa (λz=>nomatch z) (fin "list" (by cases k<;>rfl))
 |fd ks vs=>
  cases (show Rep X.K cA U H (.fd ks vs) v from rd) with
  |@fd ad kk ii q1 n=>
   cases (show u=Value.ref ad from ru);obtain⟨_,_,vs,_,o,es',ep,g1,g2,_⟩:=(show aR X.prog X.w H sh.heap ad (.dK [(.inr kk,.int ii)]) from I.hok ad _ q1);exact bt PySem.W.kitx_dict ⟨o,g1,g2.1⟩ Zaa (λz=>nomatch z) (fin "dict" (by cases k<;>rfl))
 |ob c fs=>cases k<;>cases hi
 |any=>cases k<;>cases hi
 |exc c fs=>
  cases (show Rep X.K cA U H (.exc c fs) v from rd) with
  |@exc ad _ _ vs hx rs=>
   cases (show u=Value.ref ad from ru);have hI:∃ox od,PySem.W.InstAt sh.heap ad ox (cA.a c) od:=by
    obtain⟨_,⟨_,_,hx⟩|⟨dx,hx,_,hd,_⟩⟩:=hx
    ·obtain⟨⟨oe,vs,g1,g2,g3,g4⟩,_⟩:=(show aR X.prog X.w H sh.heap ad (gM ad (cA.a c) none) from I.hok ad _ hx);exact⟨oe,none,g1,g2,by unfold PySem.W.notCls;rw[g4],by rw[g3];trivial⟩
    ·obtain⟨⟨oe,vs,g1,g2,g3,g4⟩,_⟩:=(show aR X.prog X.w H sh.heap ad (gM ad (cA.a c) (some dx)) from I.hok ad _ hx);obtain⟨mA,⟨od,es,ep,e1,c1⟩,_⟩:=(show aR X.prog X.w H sh.heap dx (.xd _) from I.hok dx _ hd);exact⟨oe,some od,g1,g2,by unfold PySem.W.notCls;rw[g4],by rw[g3];exact e1⟩
   cases k with
   |cls e=>
    cases (show w=Value.ref (cA.a e) from Qq);have z:some (ao c e)=some bb:=hi;cases z;exact PySem.W.kia_one (Vz ((Cs rfl).xc c)) I.o8 hI ((Cs rfl).ao c e) (λz=>nomatch z) sZ
   |nR=>
    cases (show w=Value.type "ValueError" from Qq);have z:some true=some bb:=hi;cases z;exact PySem.W.kia_one (Vz ((Cs rfl).xc c)) I.o8 hI ((Cs rfl).nR c) (λz=>nomatch z) sZ
   |_=>cases hi
theorem zkw(Cs:uN k=none->sY X.K cA ao)(hg:Gl X "isinstance")(hm:X.mg "isinstance"=none)(ha:SE X cA ao aj F EX a A)(hk:PE X kx (tC (Cr cA k)))(h1:starEach [a,kx] X.env=(false,eval a X.env)::starEach [kx] X.env:=by rfl)(h2:starEach [kx] X.env=(false,eval kx X.env)::starEach [] X.env:=by rfl)
  (bN:(backTo pos (starEach [kx] X.env)).any (·.1)=false:=by rfl):SE X cA ao aj F EX (.Call (.Name "isinstance" pp) [a,kx] [] pos) (.fL A k):=PE.weak (Vg (zgn (cA:=cA) (k:=k) Cs) hg hm PyProof.Rows.boot_isinstance (uG ha (uG hk BX h2) h1) R4 R4 h1 bN) λZ H Q hh=>un hh λU J s hL hS h=>
 bx hL hS h λv H1 U1 d s1 x1 hL1 aL r1 h1=>by
  show ∃U d' v' bb,[v,Cr cA k]=[v',Cr cA k]/\_;obtain⟨dd,rv,h2⟩:=J_ aL r1 h1;obtain⟨bb,e,h3⟩:=Wh h2;exact⟨U1,dd,v,bb,rfl,rv,e,h3.bF aL _ (.d (.bl bb))⟩
theorem zh2{j p1 j2 p3}:SE X cA ao aj F EX (.Dict [some (.Constant (.str k) j p1)] [.Constant (.int i) j2 p3] pos) (.su k i):=PE.weak (zhC (zgm Uy MP zhS) rfl rfl Zaa (Ly rfl)) λZ H Q hh=>un hh λU J s hL hS h=>by
 intro p hp;refine⟨jN,[(.inr k,.int i)],rfl,Ly rfl,?_⟩;rw[Ur];exact h U _ (bD.new hp).ext (hS.grow (bD.new hp)) _ (.d (.fd jN (hS.nz hp)))
end
section
variable {K:W.Frag}{cA:Cl}{U U':Ph}{H H':Hp}{s:S}
theorem TupAt.jJ(e:∀a,U'.z a->U.z a){a:Addr}{vs:List V}(h:TupAt K U H a vs):TupAt K U' H a vs:=h.imp (λ⟨p,n⟩=>⟨p,λz=>n (e a z)⟩) id
theorem LstAt.jJ(e:∀a,U'.z a->U.z a){a:Addr}{vs:List V}(h:LstAt K U H a vs):LstAt K U' H a vs:=h.imp (λ⟨p,n⟩=>⟨p,λz=>n (e a z)⟩) id
theorem ExcAt.jJ(e:∀a,U'.z a->U.z a){a:Addr}{c:Nat}{vs:List V}(h:ExcAt cA U H a c vs):ExcAt cA U' H a c vs:=
 ⟨λz=>h.1 (e a z),h.2.imp id λ⟨dx,p,n,q,l⟩=>⟨dx,p,λz=>n (e dx z),q,l⟩⟩
theorem ou.jJ(e:∀a,U'.z a->U.z a){a:Addr}{c:Nat}{vs:List V}(h:ou cA U H a c vs):ou cA U' H a c vs:=⟨λz=>h.1 (e a z),h.2⟩
theorem Rep.jJ(e:∀a,U'.z a->U.z a){d:D}{v:V}(h:Rep K cA U H d v):Rep K cA U' H d v:=
 Rep.rec (motive_1:=λd v _=>Rep K cA U' H d v) (motive_2:=λd v _=>aB K cA U' H d v) .non .bl .int .str (λh _ i=>.tup (h.jJ e) i) (λh _ i=>.fl (h.jJ e) i) (λh n=>.fd h (λz=>n (e _ z))) (λh _ i=>.exc (h.jJ e) i) (λh _ i=>.ob (h.jJ e) i) .any .nil (λ_ _ i j=>.cons i j) h
theorem aB.jJ(e:∀a,U'.z a->U.z a){d:List D}{v:List V}(h:aB K cA U H d v):aB K cA U' H d v:=
 aB.rec (motive_1:=λd v _=>Rep K cA U' H d v) (motive_2:=λd v _=>aB K cA U' H d v) .non .bl .int .str (λh _ i=>.tup (h.jJ e) i) (λh _ i=>.fl (h.jJ e) i) (λh n=>.fd h (λz=>n (e _ z))) (λh _ i=>.exc (h.jJ e) i) (λh _ i=>.ob (h.jJ e) i) .any .nil (λ_ _ i j=>.cons i j) h
theorem jG.jJ(e:∀a,U'.z a->U.z a){a:Addr}{o:SO}(h:jG K cA U H a o):jG K cA U' H a o:=h.map (λ_ q=>q) λ_ _ r=>r.jJ e
theorem Rep.zl{d:D}{v:V}(h:Rep K cA U H d v)(l:List Addr):Rep K cA ⟨U.z,l⟩ H d v:=Rep.jJ (U:=U) (U':=⟨U.z,l⟩) (λ_ z=>z) h
theorem aB.zl{d:List D}{v:List V}(h:aB K cA U H d v)(l:List Addr):aB K cA ⟨U.z,l⟩ H d v:=aB.jJ (U:=U) (U':=⟨U.z,l⟩) (λ_ z=>z) h
theorem jG.zl{a:Addr}{o:SO}(h:jG K cA U H a o)(l:List Addr):jG K cA ⟨U.z,l⟩ H a o:=jG.jJ (U:=U) (U':=⟨U.z,l⟩) (λ_ z=>z) h
noncomputable def adr(l:List Addr):List Nat->List Addr
 |[]=>[]
 |n::r=>match l[n]? with
  |some a=>a::adr l r
  |none=>adr l r
theorem Cu{l:List Addr}:∀{ns:List Nat} {a:Addr},a∈adr l ns->∃n∈ns,l[n]?=some a
 |[],a,h=>by cases h
 |n::r,a,h=>by
  unfold adr at h;cases e:l[n]? with
  |none=>
   simp only[e] at h;obtain⟨m,h1,h2⟩:=Cu h;exact⟨m,dF _ h1,h2⟩
  |some b=>
   simp only[e] at h;rcases cV.mp h with rfl|h
   ·exact⟨n,dM,e⟩
   ·obtain⟨m,h1,h2⟩:=Cu h;exact⟨m,dF _ h1,h2⟩
theorem WT{s:S}:∀{ns:List Nat} {s0:S} {i n:Nat},gQ s ns=some s0->ns[i]?=some n->s0[i]?=s[n]?/\∃o,s[n]?=some o
 |[],s0,i,n,h,e=>by simp at e
 |m::r,s0,i,n,h,e=>by
  unfold gQ at h;cases e1:s[m]? with
  |none=>simp only[e1] at h;cases h
  |some o=>
   cases e2:gQ s r with
   |none=>simp only[e1,e2] at h;cases h
   |some q=>
    simp only[e1,e2] at h;cases h;cases i with
    |zero=>simp at e;subst e;exact⟨by simp[e1],o,e1⟩
    |succ i=>simpa using WT e2 (by simpa using e)
theorem WW{s:S}:∀{ns:List Nat} {s0:S},gQ s ns=some s0->s0.length=ns.length
 |[],s0,h=>by cases h;rfl
 |m::r,s0,h=>by
  unfold gQ at h;cases e1:s[m]? with
  |none=>simp only[e1] at h;cases h
  |some o=>
   cases e2:gQ s r with
   |none=>simp only[e1,e2] at h;cases h
   |some q=>
    simp only[e1,e2] at h;cases h;rw[iB,iB,WW e2]
theorem G9{l:List Addr}:∀{ns:List Nat} {i n:Nat},(∀n∈ns,∃a,l[n]?=some a)->ns[i]?=some n->(adr l ns)[i]?=l[n]?
 |[],i,n,_,e=>by simp at e
 |m::r,i,n,h,e=>by
  obtain⟨a,ha⟩:=h m dM;unfold adr;simp only[ha];cases i with
  |zero=>simp at e;subst e;simp[ha]
  |succ i=>simpa using G9 (λn hn=>h n (dF _ hn)) (by simpa using e)
theorem G_{l:List Addr}:∀{ns:List Nat},(∀n∈ns,∃a,l[n]?=some a)->(adr l ns).length=ns.length
 |[],_=>rfl
 |m::r,h=>by
  obtain⟨a,ha⟩:=h m dM;unfold adr;simp only[ha];rw[iB,iB,G_ (λn hn=>h n (dF _ hn))]
theorem WX{l:List Addr}(hl:l.Nodup):∀{ns:List Nat},ns.Nodup->(∀n∈ns,∃a,l[n]?=some a)->(adr l ns).Nodup
 |[],_,_=>Bu
 |m::r,hn,h=>by
  obtain⟨a,ha⟩:=h m dM;unfold adr;simp only[ha];obtain⟨h1,h2⟩:=qI.mp hn;refine qI.mpr ⟨λz=>?_,WX hl h2 (λn hn=>h n (dF _ hn))⟩;obtain⟨n,q1,q2⟩:=Cu z;have:m=n:=(Ml (iK.mp ha).1 hl).mp (ha.trans q2.symm);exact h1 (this▸q1)
theorem Cv{s:S}:∀{ns:List Nat} {s1:S},(cD s ns s1).length=s.length
 |[],s1=>by cases s1<;>rfl
 |n::r,[]=>rfl
 |n::r,o::q=>by
  show (cD (s.set n o) r q).length=_;rw[Cv,ni]
theorem Qs{s:S}:∀{ns:List Nat} {s1:S} {m:Nat},m∉ns->(cD s ns s1)[m]?=s[m]?
 |[],s1,m,_=>by cases s1<;>rfl
 |n::r,[],m,_=>rfl
 |n::r,o::q,m,h=>by
  show (cD (s.set n o) r q)[m]?=_;rw[Qs (λz=>h (dF _ z)),qG (λz=>h (by rw[z];exact dM))]
theorem WY{s:S}:∀{ns:List Nat} {s1:S} {i m:Nat} {o:SO},ns.Nodup->ns[i]?=some m->s1[i]?=some o->m<s.length->(cD s ns s1)[m]?=some o
 |[],s1,i,m,o,_,e,_,_=>by simp at e
 |n::r,[],i,m,o,_,_,e,_=>by simp at e
 |n::r,q::qs,i,m,o,hn,e1,e2,hm=>by
  show (cD (s.set n q) r qs)[m]?=_;obtain⟨h1,h2⟩:=qI.mp hn;cases i with
  |zero=>
   simp at e1 e2;subst e1 e2;rw[Qs h1,wM hm]
  |succ i=>exact WY h2 (by simpa using e1) (by simpa using e2) (by rw[ni];exact hm)
theorem zfy:∀{xs:List Xv} {vs:List V} (l0:List Addr) (z:Addr->Prop) (k:Nat),bL K cA U H xs vs->U.z=z->(∀i n,(locs xs)[i]?=some n->l0[k+i]?=U.l[n]?)->bL K cA ⟨z,l0⟩ H (cR k xs) vs
 :=by
 intro xs vs l0 z k r0
 induction r0 generalizing k with
 |nil=>exact λ_ _=>.nil
 |@cons x v xs vs a q ih=>
  intro ez h;cases a with
  |d a=>exact .cons (.d (a.jJ λb hb=>by rw[ez];exact hb)) (ih k ez h)
  |@l n a' a=>
   refine .cons (.l ?_) (ih (k+1) ez λi m e=>?_)
   ·have:=h 0 n rfl;rw[Nat.add_zero] at this;show l0[k]?=_;rw[this];exact a
   ·have:=h (i+1) m (by simpa [locs] using e);rw[<-this]
    congr 1
    lia
theorem zed:∀{xs:List Xv} {vs:List V},bL K cA U H xs vs->∀n∈locs xs,∃a,U.l[n]?=some a
 :=by
 intro xs vs r0
 induction r0 with
 |nil=>exact λn h=>by cases h
 |cons a q ih=>
  intro n h;cases a with
  |d a=>exact ih n h
  |l a=>
   rcases cV.mp h with rfl|h
   ·exact⟨_,a⟩
   ·exact ih n h
theorem W0{xs:List Xv}{U1:Ph}{s0 s1:S}(hS:aC K cA U H s)(hn:(locs xs).Nodup)(ht:∀n∈locs xs,∃a,U.l[n]?=some a)(x:Ext ⟨U.z,adr U.l (locs xs)⟩ H U1 H')(r1:aC K cA U1 H' s1) :
  Ext U H ⟨U1.z,U.l⟩ H'/\aC K cA ⟨U1.z,U.l⟩ H' (cD s (locs xs) s1):=by
 have ao:∀a∈adr U.l (locs xs),a∈U.l:=λa ha=>by obtain⟨n,_,q⟩:=Cu ha;exact jD q
 obtain⟨r,er,hr⟩:=x.more;have er:U1.l=adr U.l (locs xs)++r:=er;refine⟨⟨⟨[],by simp,by simp⟩,λa h=>x.uK a h,λa h=>x.mH a h,λa o h n=>x.frame a o h λz=>n (ao a z),x.stay⟩,?_⟩;refine⟨by rw[Cv];exact hS.len,λn o a e1 e2=>?_,hS.uniq,λa ha=>x.uK a (hS.lz a ha),r1.zt⟩;have e2:U.l[n]?=some a:=e2;by_cases iU:n∈locs xs
 ·obtain⟨i,hi,ei⟩:=Dr iU;have ei:(locs xs)[i]?=some n:=by rw[fQ hi,ei]
  have ha:(adr U.l (locs xs))[i]?=some a:=by rw[G9 ht ei];exact e2
  have tu:U1.l[i]?=some a:=by rw[er,oU (iK.mp ha).1];exact ha
  have hlt:i<s1.length:=by rw[<-r1.len];exact(iK.mp tu).1
  have hb:=WY (s:=s) (s1:=s1) hn ei (fQ hlt) (by rw[<-hS.len];exact(iK.mp e2).1);rw[hb] at e1;cases e1;exact jG.zl (r1.obj i _ a (fQ hlt) tu) _
 ·rw[Qs iU] at e1;have Qt:a∉adr U.l (locs xs):=λz=>by
   obtain⟨m,q1,q2⟩:=Cu z;have:n=m:=(Ml (iK.mp e2).1 hS.uniq).mp (e2.trans q2.symm);exact iU (this▸q1)
  exact(hS.obj n o a e1 e2).map (λ_ q=>x.frame a _ q Qt) λ_ _ r=>Rep.zl ((Rep.zl r _).mono x λa ha=>hS.lz a (ao a ha)) _
theorem zgG{F:List Xv->M Xv}{xs:List Xv}{vs:List V}{Q:VK}{EE:Nat->List D->Ph->Hp->Prop}(hS:aC K cA U H s)(r:bL K cA U H xs vs)
  (hE:∀c fs U1 U2 H',U1.z=U2.z->EE c fs U1 H'->EE c fs U2 H')
  (h:Run K cA (bY F xs) U H s (λx _ U' H'=>∀v,bB K cA U' H' x v->Q v H') (λc fs _ U' H'=>EE c fs U' H')) :
  ∃U0 s0,bL K cA U0 H (cR 0 xs) vs/\aC K cA U0 H s0/\Run K cA (F (cR 0 xs)) U0 H s0 (λx _ U' H'=>∀v,bB K cA U' H' x v->Q v H') (λc fs _ U' H'=>EE c fs U' H'):=by
 unfold Run bY at h;by_cases hn:(locs xs).Nodup
 ·simp only[if_pos hn] at h;have ht:=zed r;have ao:∀a∈adr U.l (locs xs),a∈U.l:=λa ha=>by obtain⟨n,_,q⟩:=Cu ha;exact jD q
  cases e0:gQ s (locs xs) with
  |none=>simp only[e0] at h
  |some s0=>
   simp only[e0] at h;refine⟨⟨U.z,adr U.l (locs xs)⟩,s0,zfy _ _ 0 r rfl (λi n e=>by rw[Nat.zero_add];exact G9 ht e),?_,?_⟩
   ·refine⟨by rw[WW e0];exact G_ ht,λi o a e1 e2=>?_,WX hS.uniq hn ht,λa ha=>hS.lz a (ao a ha),hS.zt⟩;have e2:(adr U.l (locs xs))[i]?=some a:=e2;have hi:i<(locs xs).length:=by rw[<-G_ ht];exact(iK.mp e2).1
    have ei:(locs xs)[i]?=some ((locs xs)[i]):=fQ hi;rw[G9 ht ei] at e2;rw[(WT e0 ei).1] at e1;exact jG.zl (hS.obj _ o a e1 e2) _
   ·unfold Run;cases e1:F (cR 0 xs) s0 with
    |none=>simp only[e1] at h
    |some q=>
     obtain⟨q,s1⟩:=q;simp only[e1] at h;cases q with
     |er c fs=>
      intro U1 H' x r1;obtain⟨x2,r2⟩:=W0 (s0:=s0) hS hn ht x r1;exact hE c fs ⟨U1.z,U.l⟩ U1 H' rfl (h ⟨U1.z,U.l⟩ H' x2 r2)
     |ok y=>
      intro U1 H' x r1 v rv;obtain⟨x2,r2⟩:=W0 (s0:=s0) hS hn ht x r1;cases y with
      |d w=>
       cases rv with
       |d rv=>exact h ⟨U1.z,U.l⟩ H' x2 r2 v (.d (Rep.zl rv _))
      |l n=>
       cases rv with
       |@l _ a hl=>
        obtain⟨rr,er,hr⟩:=x.more;have er:U1.l=adr U.l (locs xs)++rr:=er;cases em:(locs xs)[n]? with
        |some m=>
         simp only[em] at h;refine h _ H' x2 r2 _ (.l ?_);show U.l[m]?=some a;have ha:(adr U.l (locs xs))[n]?=U.l[m]?:=G9 ht em;have hlt:n<(adr U.l (locs xs)).length:=by rw[G_ ht];exact(iK.mp em).1
         rw[er,oU hlt] at hl;rw[<-ha];exact hl
        |none=>
         simp only[em] at h;have hge:(adr U.l (locs xs)).length<=n:=by rw[G_ ht];exact oV.mp em
         have J6:a∈rr:=by
          rw[er,m8 hge] at hl;exact jD hl
         have Qt:a∉U.l:=λz=>by
          obtain⟨o,eo⟩:=hS.zt a (hS.lz a z);rw[hr a J6] at eo;cases eo
         cases eo:s1[n]? with
         |none=>simp only[eo] at h
         |some o=>
          simp only[eo] at h;have ho:=r1.obj n o a eo hl;refine h ⟨U1.z,U.l++[a]⟩ H' ⟨⟨[a],rfl,by simpa using hr a J6⟩,x2.uK,x2.mH,x2.frame,x2.stay⟩ ?_ _ (.l (by show (U.l++[a])[s.length]?=_;rw[<-hS.len];simp));refine⟨by show (U.l++[a]).length=_;rw[eZ,eZ,Cv,hS.len];rfl,λm o' a' e1 e2=>?_,?_,λb hb=>?_,r1.zt⟩
          ·have e2:(U.l++[a])[m]?=some a':=e2;by_cases hm:m<s.length
           ·rw[oU (by rw[Cv];exact hm)] at e1;rw[oU (by rw[hS.len];exact hm)] at e2;exact jG.zl (r2.obj m o' a' e1 e2) _
           ·have rN:m=s.length:=by
             have z:=(iK.mp e2).1;rw[eZ,hS.len] at z;simp at z
             lia
            subst rN;rw[m8 (by rw[Cv];exact bT _)] at e1;rw[m8 (by rw[hS.len];exact bT _)] at e2;simp[Cv] at e1;simp[hS.len] at e2;subst e1 e2;exact jG.zl ho _
          ·show (U.l++[a]).Nodup;rw[Jd];refine⟨hS.uniq,by simp,λb hb c hc e=>?_⟩;simp at hc;subst hc e;exact Qt hb
          ·have hb:b∈U.l++[a]:=hb;rcases fX.mp hb with z|z
           ·exact x2.uK b (hS.lz b z)
           ·simp at z;subst z;exact r1.lz _ (jD hl)
 ·simp only[if_neg hn] at h
end
section
variable {X:Cx}{cA:Cl}{ao:Nat->Nat->Bool}{aj:Bool}{F:Fn}{EX:XS}{a b c d e o:Expr}{A B C Dd E' O:E}{pos pp p2 apos cpos:Pos}{es:List Expr}{Xs:Es}{fz:Bool}{p:Pr}{x:Str}{U:Ph}{H:Hp}{s:S}
theorem zf8{K:W.Frag}{β:Type}{x:Xv}{v:V}{k:Nat×List D->M β}{P:β->S->Ph->Hp->Prop}{Ee:Nat->List D->S->Ph->Hp->Prop}(hS:aC K cA U H s)(r:bB K cA U H x v)(h:Run K cA (M.bd (cC x) k) U H s P Ee) :
  ∃n ad xs vs,x=.l n/\v=.ref ad/\s[n]?=some (.lst xs)/\U.l[n]?=some ad/\H ad=some (.lst vs)/\aB K cA U H xs vs/\Run K cA (k (n,xs)) U H s P Ee:=by
 cases r with
 |d _=>exact h.elim
 |@l n ad hl=>
  unfold Run M.bd cC at h;dsimp only at h;cases e:s[n]? with
  |none=>rw[e] at h;exact h.elim
  |some o=>
   rw[e] at h;cases o with
   |lst xs=>
    obtain⟨vs,q1,q2⟩:=hS.obj n _ _ e hl;exact⟨n,ad,xs,vs,rfl,rfl,e,hl,q1,q2,h⟩
   |_=>exact h.elim
noncomputable def tD(K:W.Frag)(cA:Cl)(m:List Xv->M Xv):Sp:=λvs H Q E=>∃U xs s,bL K cA U H xs vs/\aC K cA U H s/\Run K cA (m xs) U H s (λd _ U' H'=>∀v,bB K cA U' H' d v->Q v H') (λc fs _ U' H'=>∀dx,jy K cA U' H' c fs dx->E (.ref (cA.a c)) dx H')
theorem ziI{K:W.Frag}{U1 U2:Ph}{c:Nat}{fs:List D}{dx:Option Addr}(e:U1.z=U2.z)(h:jy K cA U2 H c fs dx):jy K cA U1 H c fs dx:=h.imp id λ⟨d,vs,a,b,c,l,r⟩=>⟨d,vs,a,by rw[e];exact b,c,l,r.jJ λ_ z=>by rw[<-e];exact z⟩
theorem zh0{cm:Bool}{k f:Nat}{fa:Addr}{fd:FuncData}{ps:List Str}(Fo:dN X.prog X.w X.K X.mg X.base (jR X.prog X.w) cm k fa fd ps (tD X.K cA (F f)))(p7:cm=true->X.aj=true)(hr:bO k X.A)(hg:Gl X x)(hm:X.mg x=some (.ref fa))(hk:PySem.W.keepIn X.K (.ref fa)=true)(hb:Binds X.K fd ps [])(R:Raises X EX)
  (ha:SA X cA ao aj F EX (e::es) Xs) (lB:(x==("__debug__" : Str))=false:=by decide) (he:starEach (e::es) X.env=(false,eval e X.env)::starEach es X.env:=by rfl) (bN:(backTo pos (starEach es X.env)).any (·.1)=false:=by rfl) :
  SE X cA ao aj F EX (.Call (.Name x pp) (e::es) [] pos) (.call f Xs):=PE.weak (zgU Fo p7 hr hg hm hk hb R ha lB he bN) λZ H Q hh=>un hh λU J s hL hS h=>
 qm hL hS h λvs H1 U1 ds s1 x1 hL1 aL r1 h1=>by
  obtain⟨U0,s0,a1,a2,a3⟩:=zgG (EE:=λc fs U' H'=>∀dx,jy X.K cA U' H' c fs dx->EX Z (.ref (cA.a c)) dx H') aL r1 (λc fs U1 U2 H' ez z dx q=>z dx (ziI ez q)) h1;exact⟨U0,_,s0,a1,a2,a3⟩
end
section
variable {K:W.Frag}{cA:Cl}{U U':Ph}{H H':Hp}{s:S}
def dU(U:Ph)(H H':Hp):Prop:=∀a o,H a=some o->¬U.z a->H' a=some o
mutual
theorem Rep.out(x:dU U H H'):∀{d:D} {v:V},Rep K cA U H d v->Rep K cA U H' d v
 |_,_,.non=>.non
 |_,_,.bl b=>.bl b
 |_,_,.int i=>.int i
 |_,_,.str z=>.str z
 |_,_,.tup h r=>.tup (h.imp (λ⟨p,n⟩=>⟨p.imp (λq=>x _ _ q n) λ⟨o,q⟩=>⟨o,x _ _ q n⟩,n⟩) id) (aB.out x r)
 |_,_,.fl h r=>.fl (h.imp (λ⟨p,n⟩=>⟨p.imp (λq=>x _ _ q n) λ⟨o,q⟩=>⟨o,x _ _ q n⟩,n⟩) id) (aB.out x r)
 |_,_,.fd h n=>.fd (x _ _ h n) n
 |_,_,.exc h r=>.exc ⟨h.1,h.2.imp (λ⟨a,b,q⟩=>⟨a,b,x _ _ q h.1⟩) λ⟨dx,p,n,q,l⟩=>⟨dx,x _ _ p h.1,n,x _ _ q n,l⟩⟩ (aB.out x r)
 |_,_,.any v=>.any v
 |_,_,.ob h r=>.ob ⟨h.1,let ⟨dx,p,l⟩:=h.2;⟨dx,x _ _ p h.1,l⟩⟩ (aB.out x r)
theorem aB.out(x:dU U H H'):∀{ds:List D} {vs:List V},aB K cA U H ds vs->aB K cA U H' ds vs
 |_,_,.nil=>.nil
 |_,_,.cons h r=>.cons (Rep.out x h) (aB.out x r)
end
theorem dU.refl:dU U H H:=λa o e _=>e
structure mJ(K:W.Frag)(cA:Cl)(c:Src)(U:Ph)(H:Hp)(bU:L2.It):Prop where
 stop:∀U' H₁ H' s' i,Ext U H U' H₁->dU U' H₁ H'->aC K cA U' H' s'->c.at i s'=some none->bU.stop i H'
 go:∀U' H₁ H' s' i x,Ext U H U' H₁->dU U' H₁ H'->aC K cA U' H' s'->c.at i s'=some (some x)->bU.go i H'
 yU:∀U' H₁ H' s' i x v H2,Ext U H U' H₁->dU U' H₁ H'->aC K cA U' H' s'->c.at i s'=some (some x)->bU.yU i H' v H2->bD H' H2/\Rep K cA U' H2 x v
theorem LstAt.later(hz:∀a∈U.l,U.z a)(h:LstAt K U H a vs)(x:Ext U H U' H₁)(o:dU U' H₁ H'):LstAt K U' H' a vs:=
 (h.mono x hz).imp (λ⟨p,n⟩=>⟨p.imp (λq=>o _ _ q n) λ⟨w,q⟩=>⟨w,o _ _ q n⟩,n⟩) id
theorem TupAt.later(hz:∀a∈U.l,U.z a)(h:TupAt K U H a vs)(x:Ext U H U' H₁)(o:dU U' H₁ H'):TupAt K U' H' a vs:=
 (h.mono x hz).imp (λ⟨p,n⟩=>⟨p.imp (λq=>o _ _ q n) λ⟨w,q⟩=>⟨w,o _ _ q n⟩,n⟩) id
theorem mJ.list(hz:∀a∈U.l,U.z a)(h:LstAt K U H a vs)(r:aB K cA U H xs vs):mJ K cA (.fix xs) U H (Jw K a):=by
 refine⟨λU' H₁ H' s' i x o hS e=>⟨vs,(h.later hz x o).uL,?_⟩,λU' H₁ H' s' i d x o hS e=>?_,λU' H₁ H' s' i d v H2 x o hS e y=>?_⟩
 ·have e:xs[i]?=none:=cI e;exact oV.mp ((r.mono x hz).none e)
 ·have e:xs[i]?=some d:=cI e;obtain⟨v,q,_⟩:=r.get e;exact⟨vs,v,(h.later hz x o).uL,q⟩
 ·have e:xs[i]?=some d:=cI e;obtain⟨rfl,y⟩:=y;obtain⟨w,q,nD⟩:=((r.mono x hz).out o).get e;have:=y vs (h.later hz x o).uL;rw[q] at this;cases this;exact⟨bD.refl,nD⟩
theorem mJ.tuple(hz:∀a∈U.l,U.z a)(h:TupAt K U H a vs)(r:aB K cA U H xs vs):mJ K cA (.fix xs) U H (Ng K a):=by
 refine⟨λU' H₁ H' s' i x o hS e=>⟨vs,(h.later hz x o).jU,?_⟩,λU' H₁ H' s' i d x o hS e=>?_,λU' H₁ H' s' i d v H2 x o hS e y=>?_⟩
 ·have e:xs[i]?=none:=cI e;exact oV.mp ((r.mono x hz).none e)
 ·have e:xs[i]?=some d:=cI e;obtain⟨v,q,_⟩:=r.get e;exact⟨vs,v,(h.later hz x o).jU,q⟩
 ·have e:xs[i]?=some d:=cI e;obtain⟨rfl,y⟩:=y;obtain⟨w,q,nD⟩:=((r.mono x hz).out o).get e;have:=y vs (h.later hz x o).jU;rw[q] at this;cases this;exact⟨bD.refl,nD⟩
theorem Qu(h:(Src.live n).at i s=some o):∃xs,s[n]?=some (.lst xs)/\xs[i]?=o:=by
 unfold Src.at at h;dsimp only at h;cases e:s[n]? with
 |none=>rw[e] at h;cases h
 |some ob=>
  rw[e] at h;cases ob with
  |lst xs=>exact⟨xs,rfl,cI h⟩
  |_=>cases h
theorem mJ.live(h:U.l[n]?=some a):mJ K cA (.live n) U H (Jw K a):=by
 refine⟨λU' H₁ H' s' i x o hS e=>?_,λU' H₁ H' s' i d x o hS e=>?_,λU' H₁ H' s' i d v H2 x o hS e y=>?_⟩
 ·obtain⟨xs,e1,e2⟩:=Qu e;obtain⟨vs,q1,q2⟩:=hS.obj n _ a e1 (x.get h);exact⟨vs,dj.of q1,oV.mp (q2.none e2)⟩
 ·obtain⟨xs,e1,e2⟩:=Qu e;obtain⟨vs,q1,q2⟩:=hS.obj n _ a e1 (x.get h);obtain⟨v,q3,_⟩:=q2.get e2;exact⟨vs,v,dj.of q1,q3⟩
 ·obtain⟨xs,e1,e2⟩:=Qu e;obtain⟨vs,q1,q2⟩:=hS.obj n _ a e1 (x.get h);obtain⟨w,q3,nD⟩:=q2.get e2;obtain⟨rfl,y⟩:=y;have:=y vs (dj.of q1);rw[q3] at this;cases this;exact⟨bD.refl,nD⟩
theorem Qv:(iH a b)[i]?=if i<(b-a).toNat then some (.int (a+i)) else none:=by
 unfold iH;rw[kY,List.getElem?_range']
where
 List.getElem?_range' {n i:Nat}:Option.map (λ(i:Nat)=>D.int (a+i)) (List.range n)[i]?=if i<n then some (.int (a+i)) else none:=by
  by_cases h:i<n
  ·rw[if_pos h,List.getElem?_range h];rfl
  ·rw[if_neg h,IW (by simp;lia)];rfl
theorem mJ.range{a b:Int}:mJ K cA (.fix (iH a b)) U H (Ep a (b-a).toNat):=by
 refine⟨λU' H₁ H' s' i x o hS e=>?_,λU' H₁ H' s' i d x o hS e=>?_,λU' H₁ H' s' i d v H2 x o hS e y=>?_⟩
 ·have e:(iH a b)[i]?=none:=cI e;rw[Qv] at e;split at e
  ·cases e
  ·exact Dw (by assumption)
 ·have e:(iH a b)[i]?=some d:=cI e;rw[Qv] at e;split at e
  ·assumption
  ·cases e
 ·have e:(iH a b)[i]?=some d:=cI e;rw[Qv] at e;split at e
  ·cases e;obtain⟨rfl,rfl⟩:=y;exact⟨bD.refl,.int _⟩
  ·cases e
end
noncomputable def Qw(K:W.Frag)(te:TE):TI:=λZ H R=>te Z H λv H1=>∃a,v=.ref a/\(((∃xs,dj K H1 a xs)/\R (Jw K a) H1)\/((∃xs,f9 K H1 a xs)/\R (Ng K a) H1))
theorem zko(he:PE X l te):PI X tg l (Qw X.K te):=by
 intro ak s Z H R I h;refine aZ (he ak s Z H _ I h) λv s1 hx=>wZ hx λx H1 I1 r1 a e q=>?_;subst e;cases r1;rcases q with ⟨⟨xs,hq⟩,q⟩|⟨⟨xs,hq⟩,q⟩
 ·obtain⟨its,rv,p,hz⟩:=I1.list hq;refine wpAny_pyIter_list p.isList ?_;refine⟨s1.heap.objs.size,[s1.heap.objs.size],_,_,H1,rfl,I1.kept (t':=s1.toks) λb o e=>bR _ e,ze6 a _,⟨_,fW _ rfl,rfl,rfl⟩,λb hb=>?_,q⟩;have e:b=s1.heap.objs.size:=by simpa using hb
  subst e;exact I1.vB (bT _) (I1.hok.fresh (bT _))
 ·obtain⟨its,rv,p,hz⟩:=I1.tuple hq;refine wpAny_pyIter_tuple (show s1.heap.IsTuple a its.toArray from p) ?_;refine⟨s1.heap.objs.size,[s1.heap.objs.size],_,_,H1,rfl,I1.kept (t':=s1.toks) λb o e=>bR _ e,zeD a _,⟨_,fW _ rfl,rfl,rfl⟩,λb hb=>?_,q⟩;have e:b=s1.heap.objs.size:=by simpa using hb
  subst e;exact I1.vB (bT _) (I1.hok.fresh (bT _))
section
variable {X:Cx}{cA:Cl}{ao:Nat->Nat->Bool}{aj:Bool}{F:Fn}{EX:XS}{a b tg:Expr}{A B:E}{pos pp:Pos}
noncomputable def tI(K:W.Frag)(cA:Cl)(EX:XS)(m:Vs->M (Src×Nat)):TI:=λZ H R=>∃U J s,aW K cA U H Z J/\aC K cA U H s/\Run K cA (m J) U H s (λcn _ U1 H1=>∀bU,mJ K cA cn.1 U1 H1 bU->R bU H1) (eX K cA EX Z)
def SI(X:Cx)(cA:Cl)(ao:Nat->Nat->Bool)(aj:Bool)(F:Fn)(EX:XS)(tg iter:Expr)(w:Wk):Prop:=PI X tg iter (tI X.K cA EX (mY ao aj F w))
theorem PI.weak{iter:Expr}{t t':TI}(h:PI X tg iter t)(f:∀Z H Q,t' Z H Q->t Z H Q):PI X tg iter t':=λak s Z H Q I q=>h ak s Z H Q I (f Z H Q q)
theorem zk8(ha:SE X cA ao aj F EX a A):SI X cA ao aj F EX tg a (.seq A):=PI.weak (zko ha) λZ H R hh=>un hh λU J s hL hS h=>by
 refine bx hL hS h λv H1 U1 d s1 x1 hL1 aL r1 h1=>?_;cases r1 with
 |@l n ad hl=>
  unfold Run src at h1;dsimp only at h1;cases e:s1[n]? with
  |none=>rw[e] at h1;exact h1.elim
  |some o=>
   rw[e] at h1;cases o with
   |lst xs=>
    obtain⟨vs,q1,q2⟩:=aL.obj n _ _ e hl;exact⟨ad,rfl,.inl ⟨⟨vs,dj.of q1⟩,h1 U1 H1 Ext.refl aL _ (mJ.live hl)⟩⟩
   |_=>exact h1.elim
 |d r1=>
  cases r1 with
  |tup q r=>exact⟨_,rfl,.inr ⟨⟨_,q.jU⟩,h1 U1 H1 Ext.refl aL _ (mJ.tuple aL.lz q r)⟩⟩
  |fl q r=>exact⟨_,rfl,.inl ⟨⟨_,q.uL⟩,h1 U1 H1 Ext.refl aL _ (mJ.list aL.lz q r)⟩⟩
  |_=>exact h1.elim
theorem W2{i:Int}(h:eE i=true) : -(2^62)<=i/\i<2^62:=by
 unfold eE at h;rw[cO,Du,Du] at h;exact⟨by lia,h.2⟩
theorem W3{K:W.Frag}{U:Ph}{H:Hp}{s:S}{i j:Int}{P:Src×Nat->S->Ph->Hp->Prop}{Ee:Nat->List D->S->Ph->Hp->Prop}(hS:aC K cA U H s)(h:Run K cA (if (eE i&&eE j)=true then M.ret (Src.fix (iH i j),(iH i j).length) else M.no) U H s P Ee):(-(2^62)<=i/\i<2^62/\-(2^62)<=j/\j<2^62)/\P (.fix (iH i j),(iH i j).length) s U H:=by
 by_cases hk:(eE i&&eE j)=true
 ·rw[if_pos hk] at h;rw[cO] at hk;obtain⟨a,b⟩:=W2 hk.1;obtain⟨c,d⟩:=W2 hk.2;exact⟨⟨a,b,c,d⟩,h.bF hS⟩
 ·rw[if_neg hk] at h;exact h.elim
theorem zll(tG:Gl X "range")(hmg:X.mg "range"=none)(ha:SE X cA ao aj F EX a A)(hb:SE X cA ao aj F EX b B)(h1:starEach [a,b] X.env=(false,eval a X.env)::starEach [b] X.env)(h2:starEach [b] X.env=(false,eval b X.env)::starEach [] X.env) :
  SI X cA ao aj F EX tg (.Call (.Name "range" pp) [a,b] [] pos) (.rg A B):=PI.weak (zfz tG hmg (uG ha (uG hb BX h2) h1) (by rw[h1,h2];rfl) (by rw[h2];rfl)) λZ H R hh=>un hh λU J s hL hS h=>by
 refine bx hL hS h λx H1 U1 d1 s1 x1 hL1 aL r1 h1=>bx hL1 aL h1 λy H2 U2 d2 s2 x2 hL2 aU r2 h2=>?_;obtain⟨i,_,e1,h3⟩:=GX (r1.mono x2 aL.lz) h2;obtain⟨j,_,e2,h4⟩:=GX r2 h3;obtain⟨hz,q⟩:=W3 aU h4;subst e1 e2;exact⟨i,j,rfl,hz,q _ mJ.range⟩
theorem zkh(tG:Gl X "range")(hmg:X.mg "range"=none)(hb:SE X cA ao aj F EX b B)(h2:starEach [b] X.env=(false,eval b X.env)::starEach [] X.env) :
  SI X cA ao aj F EX tg (.Call (.Name "range" pp) [b] [] pos) (.rg (.c (.int 0)) B):=PI.weak (zfv tG hmg (uG hb BX h2) (by rw[h2];rfl)) λZ H R hh=>un hh λU J s hL hS h=>by
 have h:Run X.K cA (M.bd (ev ao aj F B J) λy=>M.bd (int (.d (.int 0))) λi=>M.bd (int y) λj=>if (eE i&&eE j)=true then M.ret (Src.fix (iH i j),(iH i j).length) else M.no) U H s _ _:=h;refine bx hL hS h λy H2 U2 d2 s2 x2 hL2 aU r2 h2=>?_;obtain⟨j,_,e2,h4⟩:=GX r2 (show Run X.K cA (M.bd (int d2) λj=>if (eE 0&&eE j)=true then M.ret (Src.fix (iH 0 j),(iH 0 j).length) else M.no) U2 H2 s2 _ _ from h2);obtain⟨hz,q⟩:=W3 aU h4;subst e2;refine⟨j,rfl,hz.2.2.1,hz.2.2.2,q _ ?_⟩;have:=mJ.range (K:=X.K) (cA:=cA) (U:=U2) (H:=H2) (a:=0) (b:=j);rw[Int.sub_zero] at this;exact this
end
section
variable {K:W.Frag}{cA:Cl}{U U' U0:Ph}{H H' H0:Hp}{s:S}
theorem Run.bd0(x:Ext U0 H0 U H)(h:Run K cA (M.bd m k) U0 H0 s P Ee) :
  Run K cA m U H s (λa s1 U1 H1=>Ext U H U1 H1/\aC K cA U1 H1 s1/\Run K cA (k a) U0 H0 s1 P Ee) Ee:=by
 unfold Run M.bd at *;cases e:m s with
 |none=>rw[e] at h;exact h
 |some r=>
  obtain⟨r,s1⟩:=r;rw[e] at h;cases r with
  |er c f=>exact λU1 H1 x1 r1=>h U1 H1 (x.trans x1) r1
  |ok a=>exact λU1 H1 x1 r1=>⟨x1,r1,h⟩
theorem W4{α β:Type}{m:M α}{k:α->M β}{P:β->S->Ph->Hp->Prop}{Ee Ee':Nat->List D->S->Ph->Hp->Prop}(x:Ext U0 H0 U H)(h:Run K cA (M.bd (M.qt m) k) U0 H0 s P Ee) :
  Run K cA m U H s (λa s1 U1 H1=>Ext U H U1 H1/\aC K cA U1 H1 s1/\Run K cA (k a) U0 H0 s1 P Ee) Ee':=by
 have h2:=h.bd0 x;unfold Run at h2 ⊢;unfold M.qt at h2;cases e:m s with
 |none=>rw[e] at h2;exact h2
 |some r=>
  obtain⟨r,s1⟩:=r;rw[e] at h2;cases r with
  |ok a=>exact h2
  |er c f=>exact h2.elim
theorem zkL{α β:Type}{m m':M α}{k:α->M β}{P:β->S->Ph->Hp->Prop}{Ee:Nat->List D->S->Ph->Hp->Prop}(e:m s=m' s)(h:Run K cA (M.bd m k) U H s P Ee):Run K cA (M.bd m' k) U H s P Ee:=by
 unfold Run M.bd at *;rw[<-e];exact h
end
section
variable {X:Cx}{cA:Cl}{ao:Nat->Nat->Bool}{aj:Bool}{F:Fn}{EX:XS}{elt iter tg:Expr}{A B:E}{pos p:Pos}{ifs:List Expr}{scope:Scope}{N:List Str}{cond:Eo}{fr fC:List Nat}{many:Nat}{fz:Bool}{w:Wk}
def Kl(X:Cx)(cA:Cl)(ao:Nat->Nat->Bool)(aj:Bool)(F:Fn)(EX:XS)(ifs:List Expr)(m:Eo):Prop:=J1 X ifs (zQ X.K cA EX (sO ao aj F m))
theorem zkO:Kl X cA ao aj F EX [] .no:=λak s Z H Q I ⟨U,J,st,hL,hS,h⟩=>zh8 ak s Z H Q I (h.bF hS)
theorem ziT(h:ST X cA ao aj F EX c C):Kl X cA ao aj F EX [c] (.yes C):=ziD h
structure qp(K:W.Frag)(cA:Cl)(g:TG)(fC:List Nat):Prop where
 run:∀(U:Ph) (H:Hp) (s:S) (Z:L2.St) (J J':Vs) (d:D) (v:V) (Q:L2.St->Hp->Prop),aW K cA U H Z J->aC K cA U H s->Rep K cA U H d v->jx fC d J=some J'->
  (∀Z',aW K cA U H Z' J'->Z'.length=Z.length->(∀i,i∉fC->Z'[i]?=Z[i]?)->Q Z' H)->g v Z H Q
theorem Cw{K:W.Frag}(i:Nat):qp K cA (dI i) [i] where
 run:=λU H s Z J J' d v Q hL hS r e k=>by
  cases e;exact k _ (hL.set (.d r)) (ni ..) λj hj=>qG (by simpa using λz=>hj (by simp[z]))
theorem W5{K:W.Frag}(i j:Nat):qp K cA (rD K 2 (gb (dI i) (gb (dI j) rC))) [i,j] where
 run:=λU H s Z J J' d v Q hL hS r e k=>by
  have e:(j9 d).bind (λds=>fO [i,j] (ds.map Xv.d) J)=some J':=e;obtain⟨ds,e1,e2⟩:=u6.mp e;cases r with
  |@tup ad xs vs h1 h2=>
   have e1:xs=ds:=cI e1;subst e1;cases h2 with
   |nil=>cases e2
   |cons r1 t1=>
    cases t1 with
    |nil=>cases e2
    |cons r2 t2=>
     cases t2 with
     |nil=>
      have e2:=cI e2;subst e2;refine⟨ad,_,rfl,h1.jU,rfl,_,_,rfl,_,_,rfl,rfl,k _ ((hL.set (.d r1)).set (.d r2)) (by rw[ni,ni]) λm hm=>?_⟩;rw[qG (λz=>hm (by simp[z])),qG (λz=>hm (by simp[z]))]
     |cons r3 t3=>cases e2
  |_=>cases e1
noncomputable def cY(many:Nat)(fr:List Nat)(Z:L2.St):L2.St:=List.replicate many none++fr.map λj=>(Z[j]?).join
theorem ziz{U:Ph}{H:Hp}{Z:L2.St}{J:Vs}(hL:aW X.K cA U H Z J){Z':L2.St}(hl:Z'.length=many+fr.length)(hf:∀(i:Nat) j v,fr[i]?=some j->Z[j]?=some (some v)->Z'[many+i]?=some (some v)):aW X.K cA U H Z' (blk many fr J):=by
 refine⟨by unfold blk;simp[hl],λi d e=>?_⟩;unfold blk at e;by_cases hi:i<many
 ·rw[oU (by simpa using hi),Iz,if_pos hi] at e;cases e
 ·rw[m8 (by simpa using Dw hi),IK,kY] at e;cases z:fr[i-many]? with
  |none=>rw[z] at e;cases e
  |some j=>
   rw[z] at e;have e3:J[j]?.join=some d:=by simpa using e
   obtain⟨v,q1,q2⟩:=hL.2 j d (Qe e3);refine⟨v,?_,q2⟩;have:=hf (i-many) j v z q1;rw[show many+(i-many)=i by omega] at this;exact this
structure g8(U:Ph)(H:Hp)(Dd:Addr)(o:HO):Prop where
 at_:H Dd=some o
 nl:Dd∉U.l
 z:U.z Dd
abbrev Keep(U:Ph)(H:Hp)(Dd:Addr)(vs:List V):Prop:=g8 U H Dd (.lst vs)
theorem g8.mono{U U':Ph}{H H':Hp}{Dd:Addr}{o:HO}(x:Ext U H U' H')(k:g8 U H Dd o):g8 U' H' Dd o:=by
 refine⟨x.frame _ _ k.at_ k.nl,λz=>?_,x.uK _ k.z⟩;obtain⟨r,er,hr⟩:=x.more;rw[er] at z;rcases fX.mp z with z|z
 ·exact k.nl z
 ·have:=hr _ z;rw[k.at_] at this;cases this
theorem g8.ext{U:Ph}{H:Hp}{Dd:Addr}{o u:HO}(k:g8 U H Dd o):(∀a o,H a=some o->¬U.z a->(upd H Dd u) a=some o)/\g8 U (upd H Dd u) Dd u:=
 ⟨λa o e n=>by rw[cQ (λz=>n (by rw[z];exact k.z))];exact e,jN,k.nl,k.z⟩
end
section
variable {K:W.Frag}{cA:Cl}{U U':Ph}{H H':Hp}
theorem aC.keep{s:S}{Dd:Addr}{o u:HO}(h:aC K cA U H s)(k:g8 U H Dd o):aC K cA U (upd H Dd u) s:=by
 have x:dU U H (upd H Dd u):=k.ext.1;refine⟨h.len,λn o a e1 e2=>?_,h.uniq,h.lz,λa z=>?_⟩
 ·have na:a≠Dd:=λy=>k.nl (by rw[<-y];exact jD e2);exact(h.obj n o a e1 e2).map (λ_ q=>by rw[cQ na];exact q) λ_ _ r=>r.out x
 ·by_cases e:a=Dd
  ·subst e;exact⟨_,jN⟩
  ·obtain⟨o,q⟩:=h.zt a z;exact⟨o,by rw[cQ e];exact q⟩
theorem Ext.keep{U1:Ph}{H1:Hp}{Dd:Addr}{vs:List V}{u:HO}(x:Ext U1 H1 U H)(hD:H1 Dd=none):Ext U1 H1 U (upd H Dd u):=by
 refine⟨x.more,x.uK,x.mH,λa o h n=>?_,λa o h=>?_⟩
 ·rw[cQ (λz=>by rw[z,hD] at h;cases h)];exact x.frame a o h n
 ·rw[cQ (λz=>by rw[z,hD] at h;cases h)];exact x.stay a o h
theorem zeQ{U1:Ph}{H1:Hp}{s':S}{fz:Bool}{acc:List D}{vs:List V}{Dd:Addr}{Q:VK}{Ee:Nat->List D->S->Ph->Hp->Prop}(h:Run K cA (newL fz acc) U1 H1 s' (λd _ U' H'=>∀v,bB K cA U' H' d v->Q v H') Ee)
  (x2:Ext U1 H1 U' H') (hD:H1 Dd=none) (nz:¬U1.z Dd) (aU:aC K cA U' H' s') (k:Keep U' H' Dd vs) (yc:aB K cA U' H' acc vs):Q (.ref Dd) H':=by
 cases fz with
 |true=>
  have zq:∀a,(λa=>U'.z a/\a≠Dd) a->U'.z a:=λa z=>z.1;refine h ⟨λa=>U'.z a/\a≠Dd,U'.l⟩ H' ⟨x2.more,λa z=>⟨x2.uK a z,λe=>nz (by rw[<-e];exact z)⟩,λa z=>x2.mH a z.1,x2.frame,x2.stay⟩ ?_ _ (.d (.fl (.inl ⟨.inl k.at_,λz=>z.2 rfl⟩) (aB.jJ (U:=U') zq yc)));refine⟨aU.len,λn o a e1 e2=>jG.jJ (U:=U') zq (aU.obj n o a e1 e2),aU.uniq,λa ha=>⟨aU.lz a ha,λe=>k.nl (by rw[<-e];exact ha)⟩,λa z=>aU.zt a z.1⟩
 |false=>
  obtain⟨r,er,hr⟩:=x2.more;refine h ⟨U'.z,U'.l++[Dd]⟩ H' ⟨⟨r++[Dd],by show U'.l++[Dd]=_;rw[er,Br],λb hb=>?_⟩,x2.uK,x2.mH,x2.frame,x2.stay⟩ ?_ _ (.l (by show (U'.l++[Dd])[s'.length]?=_;rw[<-aU.len];simp))
  ·rcases fX.mp hb with z|z
   ·exact hr b z
   ·simp at z;subst z;exact hD
  ·refine⟨by show (U'.l++[Dd]).length=_;rw[eZ,eZ,aU.len];rfl,λm o' a' e1 e2=>?_,?_,λb hb=>?_,aU.zt⟩
   ·have e2:(U'.l++[Dd])[m]?=some a':=e2;by_cases hm:m<s'.length
    ·rw[oU hm] at e1;rw[oU (by rw[aU.len];exact hm)] at e2;exact jG.zl (aU.obj m o' a' e1 e2) _
    ·have rN:m=s'.length:=by
      have z:=(iK.mp e2).1;rw[eZ,aU.len] at z;simp at z;omega
     subst rN;rw[m8 (bT _)] at e1;rw[m8 (by rw[aU.len];exact bT _)] at e2;simp at e1;simp[aU.len] at e2;subst e1 e2;exact⟨vs,k.at_,aB.zl yc _⟩
   ·show (U'.l++[Dd]).Nodup;rw[Jd];refine⟨aU.uniq,by simp,λb hb c hc e=>?_⟩;simp at hc;subst hc e;exact k.nl hb
   ·have hb:b∈U'.l++[Dd]:=hb;rcases fX.mp hb with z|z
    ·exact aU.lz b z
    ·simp at z;subst z;exact k.z
noncomputable def Ph.mark(U:Ph)(p:Addr):Ph:=⟨λa=>U.z a\/a=p,U.l⟩
theorem zem{s:S}{p:Addr}(hS:aC K cA U H s)(hp:H p=none):Ext U H (U.mark p) (upd H p (.lst []))/\aC K cA (U.mark p) (upd H p (.lst [])) s/\Keep (U.mark p) (upd H p (.lst [])) p []:=by
 have g:=bD.new (o:=.lst []) hp;have nz:=hS.nz hp;refine⟨⟨⟨[],by simp[Ph.mark],by simp⟩,λa z=>.inl z,λa z=>z.imp id λe=>by rw[e];exact hp,λa o h _=>g a o h,λa o h=>⟨o,g a o h⟩⟩,⟨hS.len,λn o a e1 e2=>?_,hS.uniq,λa ha=>.inl (hS.lz a ha),λa z=>?_⟩,jN,λz=>nz (hS.lz p z),.inr rfl⟩
 ·have x:Ext U H (U.mark p) (upd H p (.lst [])):=⟨⟨[],by simp[Ph.mark],by simp⟩,λa z=>.inl z,λa z=>z.imp id λe=>by rw[e];exact hp,λa o h _=>g a o h,λa o h=>⟨o,g a o h⟩⟩;exact(hS.obj n o a e1 e2).map (g _) λ_ _ r=>r.mono x hS.lz
 ·rcases z with z|z
  ·obtain⟨o,e⟩:=hS.zt a z;exact⟨o,g _ _ e⟩
  ·subst z;exact⟨_,jN⟩
end
section
variable {X:Cx}{cA:Cl}{ao:Nat->Nat->Bool}{aj:Bool}{F:Fn}{EX:XS}{elt iter tg:Expr}{A B:E}{pos p:Pos}{ifs:List Expr}{scope:Scope}{N:List Str}{cond:Eo}{fr fC:List Nat}{many:Nat}{fz:Bool}{w:Wk}
noncomputable abbrev fG(ao:Nat->Nat->Bool)(aj:Bool)(F:Fn)(B:E)(cond:Eo)(fC:List Nat)(Jb:Vs):D->List D->M (List D):=λd acc=>M.bd (M.opt (jx fC d Jb)) λJ'=>M.bd (M.qt (sO ao aj F cond J')) λok=>
    if ok=true then M.bd (M.qt (ev ao aj F B J')) λy=>M.bd (dat y) λe=>if acc.length<sizeLine then M.ret (acc++[e]) else M.no else M.ret acc
theorem W6{H:Hp}{a:Addr}{o:HO}(h:H a=some o):upd H a o=H:=funext λb=>by
 by_cases z:b=a
 ·subst z;rw[jN,h]
 ·rw[cQ z]
theorem zhf{K:W.Frag}{g:TG}{U1 U':Ph}{H1 H2:Hp}{s':S}{Z':L2.St}{Jb:Vs}{Dd:Addr}{acc:List D}{vs:List V}{xi:D}{v:V}{β:Type}{kk:List D->M β}{P:β->S->Ph->Hp->Prop}{Ee:Nat->List D->S->Ph->Hp->Prop}(hT:qp K cA g fC)(iU:∀i∈fC,i<many)
  (hD:H1 Dd=none) (x2:Ext U1 H1 U' H2) (hL2:aW K cA U' H2 Z' Jb) (aU:aC K cA U' H2 s') (kp:Keep U' H2 Dd vs) (yc:aB K cA U' H2 acc vs) (rx:Rep K cA U' H2 xi v)
  (h:Run K cA (M.bd (fG ao aj F B cond fC Jb xi acc) kk) U1 H1 s' P Ee) {Nn:L2.St->Hp->Prop}
  (hN:∀Z3 H3 U3 s3 wu Km,Z3.length=Z'.length->(∀i,many<=i->Z3[i]?=Z'[i]?)->Ext U1 H1 U3 H3->Ext U' H2 U3 (upd H3 Dd (.lst vs))->aC K cA U3 H3 s3->Keep U3 H3 Dd Km->aB K cA U3 H3 wu Km->Run K cA (kk wu) U1 H1 s3 P Ee->Nn Z3 H3) :
  g v Z' H2 λZ3 H3=>zQ K cA (λ_ _ _ _=>False) (sO ao aj F cond) Z3 H3 λok H4=>
   if ok=true then tE K cA (λ_ _ _ _=>False) (ev ao aj F B) Z3 H4 λy H5=>∃ys,H5 Dd=some (.lst ys)/\ys.length<sizeLine/\Nn Z3 (upd H5 Dd (.lst (ys++[y]))) else Nn Z3 H4:=by
 unfold fG at h;rw[iI] at h;obtain⟨J',e1,h1⟩:=Wh h;refine hT.run U' H2 s' Z' Jb J' xi v _ hL2 aU rx e1 λZ3 sU W7 hf3=>?_;rw[iI] at h1;have kf:∀i,many<=i->Z3[i]?=Z'[i]?:=λi hi=>hf3 i λz=>absurd (iU i z) (DK.mpr hi);refine⟨U',J',s',sU,aU,(W4 x2 h1).imp λok s4 U4 H4 ⟨x4,lX,h6⟩=>?_⟩;cases ok with
 |false=>
  refine iF (hN Z3 H4 U4 s4 acc vs W7 kf (x2.trans x4) (by rw[W6 (kp.mono x4).at_];exact x4) lX (kp.mono x4) (yc.mono x4 aU.lz) ?_);rw[if_neg R4] at h6;exact h6
 |true=>
  rw[if_pos rfl,iI] at h6;refine iT ⟨U4,J',s4,sU.mono x4 aU.lz,lX,(W4 (x2.trans x4) h6).imp λy s5 U5 H5 ⟨x5,zU,h7⟩ u ru=>?_⟩;rw[iI] at h7;have k5:=(kp.mono x4).mono x5;have r5:=(yc.mono x4 aU.lz).mono x5 lX.lz;have x15:=(x2.trans x4).trans x5;obtain⟨dd,ey,rd,h8⟩ : ∃d,y=.d d/\Rep K cA U5 H5 d u/\Run K cA (M.bd (if acc.length<sizeLine then M.ret (acc++[d]) else M.no) kk) U1 H1 s5 P Ee:=by
   cases ru with
   |l _=>exact h7.elim
   |d r=>exact⟨_,rfl,r,h7⟩
  by_cases hz:acc.length<sizeLine
  ·rw[if_pos hz] at h8;refine⟨vs,k5.at_,by rw[<-r5.len];exact hz,?_⟩;have ox:dU U5 H5 (upd H5 Dd (.lst (vs++[u]))):=k5.ext.1;exact hN Z3 _ U5 s5 (acc++[dd]) (vs++[u]) W7 kf (Ext.keep (vs:=vs) x15 hD) (by rw[Ur,W6 k5.at_];exact x4.trans x5) (zU.keep k5) k5.ext.2 ((r5.app (.cons rd .nil)).out ox) h8
  ·rw[if_neg hz] at h8;exact h8.elim
theorem zeN{g:TG}{iter':Expr}(hT:qp X.K cA g fC)(iU:∀i∈fC,i<many){Z:L2.St}{H:Hp}{Q:VK}(hh:tE X.K cA EX (ev ao aj F (.comp fz B fC w fr many cond)) Z H Q) :
  xJ (tI X.K cA EX (mY ao aj F w)) (cY many fr) g (zQ X.K cA (λ_ _ _ _=>False) (sO ao aj F cond)) (tE X.K cA (λ_ _ _ _=>False) (ev ao aj F B)) Z H Q:=un hh λU J s hL hS h=>by
 by_cases cF:aj=true
 ·have h:Run X.K cA (if aj=true then M.bd (mY ao aj F w J) λcn=>M.bd (walk cn.1 (fG ao aj F B cond fC (blk many fr J)) (cn.2+1) 0 []) λxs=>newL fz xs else M.no) U H s (λd _ U' H'=>∀v,bB X.K cA U' H' d v->Q v H') (eX X.K cA EX Z):=h;rw[if_pos cF] at h;refine⟨U,J,s,hL,hS,h.bd.imp λcn s1 U1 H1 ⟨x1,aL,h1⟩ bU hJ=>?_⟩;have hL1:=hL.mono x1 hS.lz;obtain⟨c,n⟩:=cn;dsimp only at h1 hJ;intro Dd hD;obtain⟨x0,Qx,k0⟩:=zem aL hD;have Qy:∀{Z':L2.St},(Z'.length=many+fr.length/\∀i,many<=i->Z'[i]?=(cY many fr Z)[i]?)->∀{U' H'},Ext U1 H1 U' H'->aW X.K cA U' H' Z' (blk many fr J):=λ{Z'} hZ {U' H'} x=>ziz (hL1.mono x aL.lz) hZ.1 λi j v e1 e2=>by
   rw[hZ.2 _ (by omega)];unfold cY;rw[m8 Zaa,IK,kY,show many+i-many=i by omega,e1];simp[e2]
  refine⟨λi m Z' H'=>m=n+1-i/\(Z'.length=many+fr.length/\∀i,many<=i->Z'[i]?=(cY many fr Z)[i]?)/\∃U' s' acc vs,Ext U1 H1 U' H'/\aC X.K cA U' H' s'/\Keep U' H' Dd vs/\aB X.K cA U' H' acc vs /\
   Run X.K cA (M.bd (walk c (fG ao aj F B cond fC (blk many fr J)) (n+1-i) i acc) λxs=>newL fz xs) U1 H1 s' (λd _ U' H'=>∀v,bB X.K cA U' H' d v->Q v H') (eX X.K cA EX Z),⟨n+1,rfl,⟨by simp[cY],λi _=>rfl⟩,U1.mark Dd,s1,[],[],x0,Qx,k0,.nil,h1⟩,?_⟩
  rintro i m Z' H' ⟨rfl,hZ,U',s',acc,vs,x2,aU,kp,yc,h3⟩;have hL2:=Qy hZ x2;cases ek:n+1-i with
  |zero=>rw[ek] at h3;exact h3.elim
  |succ k=>
   rw[ek] at h3;cases ei:c.at i s' with
   |none=>
    exfalso
    unfold Run M.bd walk at h3;simp only[ei] at h3
   |some oi=>
    cases oi with
    |none=>
     refine .inl ⟨hJ.stop U' H' H' s' i x2 dU.refl aU ei,?_⟩;have h4:Run X.K cA (newL fz acc) U1 H1 s' (λd _ U' H'=>∀v,bB X.K cA U' H' d v->Q v H') (eX X.K cA EX Z):=by
      unfold Run M.bd walk at h3;simp only[ei] at h3;exact h3
     exact zeQ h4 x2 hD (aL.nz hD) aU kp yc
    |some xi=>
     refine .inr ⟨hJ.go U' H' H' s' i xi x2 dU.refl aU ei,λZ2 H2=>(Z2.length=many+fr.length/\∀i,many<=i->Z2[i]?=(cY many fr Z)[i]?)/\∃U' s' acc vs,Ext U1 H1 U' H2/\aC X.K cA U' H2 s'/\Keep U' H2 Dd vs/\aB X.K cA U' H2 acc vs /\
      Run X.K cA (M.bd (walk c (fG ao aj F B cond fC (blk many fr J)) k (i+1) acc) λxs=>newL fz xs) U1 H1 s' (λd _ U' H'=>∀v,bB X.K cA U' H' d v->Q v H') (eX X.K cA EX Z),λZ2 H2 hn=>⟨k,by omega,by omega,hn.1,?_⟩,λv H2 hy=>?_⟩
     ·have:n+1-(i+1)=k:=by omega
      rw[this];exact hn.2
     ·obtain⟨gr,rx⟩:=hJ.yU U' H' H' s' i xi v H2 x2 dU.refl aU ei hy;have h4:Run X.K cA (M.bd (fG ao aj F B cond fC (blk many fr J) xi acc) λacc'=>M.bd (walk c (fG ao aj F B cond fC (blk many fr J)) k (i+1) acc') λxs=>newL fz xs) U1 H1 s' (λd _ U' H'=>∀v,bB X.K cA U' H' d v->Q v H') (eX X.K cA EX Z):=by
       have h5:=zkL (m':=M.bd (fG ao aj F B cond fC (blk many fr J) xi acc) λacc'=>walk c (fG ao aj F B cond fC (blk many fr J)) k (i+1) acc') (by rw[walk];simp only[ei]) h3;rw[iI] at h5;exact h5
      exact zhf hT iU hD (x2.trans gr.ext) (hL2.mono gr.ext aU.lz) (aU.grow gr) (kp.mono gr.ext) (yc.mono gr.ext aU.lz) rx h4 λZ3 H3 U3 s3 wu Km l3 f3 x3 _ jz k3 r3 h6=>⟨⟨l3.trans hZ.1,λi hi=>(f3 i hi).trans (hZ.2 i hi)⟩,U3,s3,wu,Km,x3,jz,k3,r3,h6⟩
 ·have h:Run X.K cA (if aj=true then M.bd (mY ao aj F w J) λcn=>M.bd (walk cn.1 (fG ao aj F B cond fC (blk many fr J)) (cn.2+1) 0 []) λxs=>newL fz xs else M.no) U H s (λd _ U' H'=>∀v,bB X.K cA U' H' d v->Q v H') (eX X.K cA EX Z):=h;rw[if_neg cF] at h;exact h.elim
theorem zgp{XN:List Str}(hfr:∀(i:Nat) (y:Str) (j:Nat),N[many+i]?=some y->fr[i]?=some j->scope.names.lookup y=some .free/\XN[j]?=some y)(Z:L2.St)(i:Nat)(x:Str)(v:V)(e1:N[i]?=some x)(e2:(cY many fr Z)[i]?=some (some v)):scope.names.lookup x=some .free/\∃j:Nat,XN[j]?=some x/\Z[j]?=some (some v):=by
 unfold cY at e2;by_cases hi:i<many
 ·rw[oU (by simpa using hi),Iz,if_pos hi] at e2;cases e2
 ·rw[m8 (by simpa using Dw hi),IK,kY] at e2;cases z:fr[i-many]? with
  |none=>rw[z] at e2;cases e2
  |some j=>
   rw[z] at e2;have e3:(Z[j]?).join=some v:=by simpa using e2
   obtain⟨a1,a2⟩:=hfr (i-many) x j (by rw[show many+(i-many)=i by omega];exact e1) z;exact⟨a1,j,a2,Qe e3⟩
theorem ziL{g:TG}(hc:X.aj=true)(B':gY X.env.scope scope)(hi:SI X cA ao aj F EX tg iter w)(hN:N.length=many+fr.length)
  (hfr:∀(i:Nat) (y:Str) (j:Nat),N[many+i]?=some y->fr[i]?=some j->scope.names.lookup y=some .free/\X.N[j]?=some y)
  (hg:∀cl C s3 H3 fp ak,PG (X.blk scope cl N C s3 H3 fp ak) tg g) (hT:qp X.K cA g fC) (iU:∀i∈fC,i<many)
  (ht:∀cl C s3 H3 fp ak,Kl (X.blk scope cl N C s3 H3 fp ak) cA ao aj F (λ_ _ _ _=>False) ifs cond) (he:∀cl C s3 H3 fp ak,SE (X.blk scope cl N C s3 H3 fp ak) cA ao aj F (λ_ _ _ _=>False) elt B)
  (hs:∀x,foldedSetIterable iter X.env x=pure x:=by intro _;rfl):SE X cA ao aj F EX (.ListComp elt [⟨tg,iter,ifs,0⟩] scope pos) (.comp fz B fC w fr many cond):=
 PE.weak (zif hc B' hi (⟨hg,ht,he⟩ : Parts X elt tg ifs scope N g (zQ X.K cA (λ_ _ _ _=>False) (sO ao aj F cond)) (tE X.K cA (λ_ _ _ _=>False) (ev ao aj F B))) (ZY:=cY many fr) (λZ=>by simp[cY,hN]) (λZ i x v e1 e2=>zgp hfr Z i x v e1 e2) hs) λZ H Q hh=>zeN (iter':=iter) hT iU hh
end
section
variable (K:W.Frag)(cA:Cl)
def aN(m:MS)(U:Ph)(H:Hp)(s:S)(D:Ends)(EX:XS):Prop:=match m s with
 |some (.nx J,s')=>∀U' H' Z',Ext U H U' H'->aC K cA U' H' s'->aW K cA U' H' Z' J->D.nx Z' H'
 |some (.bk J,s')=>∀U' H' Z',Ext U H U' H'->aC K cA U' H' s'->aW K cA U' H' Z' J->D.bk Z' H'
 |some (.ct J,s')=>∀U' H' Z',Ext U H U' H'->aC K cA U' H' s'->aW K cA U' H' Z' J->D.ct Z' H'
 |some (.rt d,s')=>∀U' H' v,Ext U H U' H'->aC K cA U' H' s'->bB K cA U' H' d v->D.rt v H'
 |some (.er c fs J,s')=>∀U' H' Z',Ext U H U' H'->aC K cA U' H' s'->aW K cA U' H' Z' J->∀dx,jy K cA U' H' c fs dx->EX Z' (.ref (cA.a c)) dx H'
 |none=>False
noncomputable def tS(EX:XS)(m:Vs->MS):TS:=λD Z H=>∃U J s,aW K cA U H Z J/\aC K cA U H s/\aN K cA (m J) U H s D EX
end
section
variable {K:W.Frag}{cA:Cl}{U U':Ph}{H H':Hp}{s:S}{Z:L2.St}{J:Vs}{EX:XS}{D:Ends}
theorem aN.ext{m:MS}(x:Ext U H U' H')(h:aN K cA m U H s D EX):aN K cA m U' H' s D EX:=by
 unfold aN at *;split at h<;>first
  |exact λU2 H2 a y r l=>h U2 H2 a (x.trans y) r l
  |exact h.elim
theorem aN.ofM{α:Type}{m:M α}{k:α->MS}(hL:aW K cA U H Z J)(hz:∀a∈U.l,U.z a)(h:aN K cA (ofM m J k) U H s D EX):Run K cA m U H s (λa s1 U1 H1=>Ext U H U1 H1/\aC K cA U1 H1 s1/\aN K cA (k a) U1 H1 s1 D EX) (eX K cA EX Z):=by
 unfold aN Mi.ofM at h;unfold Run;cases e:m s with
 |none=>rw[e] at h;exact h
 |some r=>
  obtain⟨r,s1⟩:=r;rw[e] at h;cases r with
  |er c fs=>exact λU1 H1 x r=>h U1 H1 Z x r (hL.mono x hz)
  |ok a=>
   intro U1 H1 x r;refine⟨x,r,?_⟩;have h2:aN K cA (k a) U H s1 D EX:=h;exact h2.ext x
theorem aN.then_(h:aN K cA (b_ m k) U H s D EX):aN K cA m U H s {D with nx:=λZ' H'=>∃U' J' s',aW K cA U' H' Z' J'/\aC K cA U' H' s'/\aN K cA (k J') U' H' s' D EX} EX:=by
 unfold aN b_ at h;unfold aN;cases e:m s with
 |none=>rw[e] at h;exact h
 |some r=>
  obtain⟨r,s1⟩:=r;rw[e] at h;cases r with
  |nx J=>
   intro U1 H1 Z1 x r l;have h2:aN K cA (k J) U H s1 D EX:=h;exact⟨U1,J,s1,l,r,h2.ext x⟩
  |bk J=>exact h
  |ct J=>exact h
  |rt d=>exact h
  |er c fs J=>exact h
end
section
variable (X:Cx)(cA:Cl)(ao:Nat->Nat->Bool)(aj:Bool)(F:Bool->Fn)(EX:XS)
def SS(st:Stmt)(m:St):Prop:=PS X st (tS X.K cA EX (ex ao aj F m))
def tH(st:List Stmt)(m:bw):Prop:=nA X st (tS X.K cA EX (exs ao aj F m))
end
section
variable {X:Cx}{cA:Cl}{ao:Nat->Nat->Bool}{aj:Bool}{F:Bool->Fn}{EX:XS}{a b c d e:Expr}{A B C:E}{pos p p2:Pos}{st:Stmt}{sts body orelse:List Stmt}{m:St}{ms mb me mh:bw}{es:List Expr}{Xs:Es}{x y n:Str}{i j:Nat}
theorem PS.weak{t t':TS}(h:PS X st t)(f:∀D Z H,t' D Z H->t D Z H):PS X st t':=λak s Z H D I q=>h ak s Z H D I (f D Z H q)
theorem nA.weak{t t':TS}(h:nA X sts t)(f:∀D Z H,t' D Z H->t D Z H):nA X sts t':=λak s Z H D I q=>h ak s Z H D I (f D Z H q)
theorem zlo:SS X cA ao aj F EX st .no:=λ_ _ _ _ _ _ ⟨_,_,_,_,_,h⟩=>h.elim
theorem zh7:tH X cA ao aj F EX [] .nil:=nA.weak ziQ λD Z H hh=>un hh λU J s hL hS h=>h U H Z Ext.refl hS hL
theorem zgv(h1:SS X cA ao aj F EX st m)(h2:tH X cA ao aj F EX sts ms):tH X cA ao aj F EX (st::sts) (.cons m ms):=nA.weak (zgS h1 h2) λD Z H hh=>un hh λU J s hL hS h=>by
 have h:aN X.K cA (b_ (ex ao aj F m J) λJ'=>exs ao aj F ms J') U H s D EX:=h;exact⟨U,J,s,hL,hS,h.then_⟩
theorem zlR(ha:SE X cA ao aj (F aj) EX a A)(hs:swapsWith a none pos.line X.env=pure false:=by rfl):SS X cA ao aj F EX (.Expr a pos) (.ex A):=PS.weak (zh6 ha hs) λD Z H hh=>un hh λU J s hL hS h=>
 ⟨U,J,s,hL,hS,(aN.ofM hL hS.lz h).imp λd s1 U1 H1 ⟨x1,aL,h1⟩ v rv=>h1 U1 H1 Z Ext.refl aL (hL.mono x1 hS.lz)⟩
theorem zkF(ha:SE X cA ao aj (F aj) EX a A):SS X cA ao aj F EX (.Return (some a) pos) (.ret A):=PS.weak (zi7 ha) λD Z H hh=>un hh λU J s hL hS h=>
 ⟨U,J,s,hL,hS,(aN.ofM hL hS.lz h).imp λd s1 U1 H1 ⟨x1,aL,h1⟩ v rv=>h1 U1 H1 v Ext.refl aL rv⟩
theorem zjx(hN:X.N.Nodup)(hi:X.N[i]?=some x)(hx:Loc X.env.scope x)(ha:SE X cA ao aj (F aj) EX a A)(hs:swapsWith a (some (.Name x p)) pos.line X.env=pure false:=by rfl)(hf:X.fn x=true\/X.env.scope.names.lookup x=some .local:=by first|exact .inl rfl|exact .inr rfl) :
  SS X cA ao aj F EX (.Assign [.Name x p] a pos) (.asg (.nm i) A):=PS.weak (zjw hN hi hx ha hs hf) λD Z H hh=>un hh λU J s hL hS h=>
 ⟨U,J,s,hL,hS,(aN.ofM hL hS.lz h).imp λd s1 U1 H1 ⟨x1,aL,h1⟩ v rv=>h1 U1 H1 _ Ext.refl aL ((hL.mono x1 hS.lz).set rv)⟩
theorem W8{k}(hc:X.aj=true)(hN:X.N.Nodup)(hi:X.N[i]?=some x)(hj:X.N[j]?=some y)(hx:Loc X.env.scope x)(hy:Loc X.env.scope y)(Hf:X.fn x=true\/X.env.scope.names.lookup x=some .local)(Hg:X.fn y=true\/X.env.scope.names.lookup y=some .local) :
  PG X (.Tuple [.Name x px,.Name y py] k pos) (rD X.K 2 (gb (dI i) (gb (dI j) rC))):=zjU hc (UG (Jv hN hi hx Hf) (UG (Jv hN hj hy Hg) zio))
theorem zgb{K:W.Frag}{U:Ph}{H:Hp}{s:S}{J:Vs}{Z:L2.St}{D:Ends}{d:Xv}{v:V}(cF:aj=true)(hL:aW K cA U H Z J)(hS:aC K cA U H s)(rv:bB K cA U H d v)(h:aN K cA (store ao aj (F aj) (.tp [i,j]) d J) U H s D EX):rD K 2 (gb (dI i) (gb (dI j) rC)) v Z H D.nx:=by
 have h:aN K cA (if aj=true then ofM (M.bd (dat d) λd=>M.opt ((j9 d).bind λds=>fO [i,j] (ds.map Xv.d) J)) J (λJ' s=>some (Out.nx J',s)) else λ_=>none) U H s D EX:=h;rw[if_pos cF] at h;obtain⟨dd,e0,rd,h1⟩:=Wi rv (aN.ofM hL hS.lz h);obtain⟨J',e,_,aL,h2⟩:=Run.opt hS h1;refine(W5 i j).run U H s Z J J' dd v _ hL hS rd e λZ' hL' _ _=>h2 U H Z' Ext.refl hS hL'
theorem ziu{k}(hc:X.aj=true)(cF:aj=true)(hN:X.N.Nodup)(hi:X.N[i]?=some x)(hj:X.N[j]?=some y)(hx:Loc X.env.scope x)(hy:Loc X.env.scope y)(Hf:X.fn x=true\/X.env.scope.names.lookup x=some .local)(Hg:X.fn y=true\/X.env.scope.names.lookup y=some .local)(ha:SE X cA ao aj (F aj) EX a A)
  (hs:swapsWithSole [.Tuple [.Name x px,.Name y py] k pt] a pos.line X.env=pure false:=by rfl) (hw:swappedStores [.Tuple [.Name x px,.Name y py] k pt] a X.env=pure none:=by rfl)
  (h1:(assignEach [.Tuple [.Name x px,.Name y py] k pt] X.env).map (·.2)=[assign (.Tuple [.Name x px,.Name y py] k pt) X.env]:=by rfl) :
  SS X cA ao aj F EX (.Assign [.Tuple [.Name x px,.Name y py] k pt] a pos) (.asg (.tp [i,j]) A):=PS.weak (UJ ha (W8 hc hN hi hj hx hy Hf Hg) hs hw h1) λD Z H hh=>un hh λU J s hL hS h=>
 ⟨U,J,s,hL,hS,(aN.ofM hL hS.lz h).imp λd s1 U1 H1 ⟨x1,aL,h1⟩ v rv=>zgb cF (hL.mono x1 hS.lz) aL rv h1⟩
theorem zkT(hO:SE X cA ao aj (F aj) EX oo O)(hI:SE X cA ao aj (F aj) EX ii I')(ha:SE X cA ao aj (F aj) EX a A)
  (zW:∀v,assign (.Subscript oo ii p) X.env v=(do
   let ov <-holding [v] (eval oo X.env)
   let iv <-holding [v,ov] (eval ii X.env)
   standAt p
   holding [v,ov,iv] (setItem ov iv v)
   release [v,ov,iv] []):=by intro _;rfl) (hs:swapsWithSole [.Subscript oo ii p] a pos.line X.env=pure false:=by rfl) (hw:swappedStores [.Subscript oo ii p] a X.env=pure none:=by rfl)
  (h1:(assignEach [.Subscript oo ii p] X.env).map (·.2)=[assign (.Subscript oo ii p) X.env]:=by rfl) :
  SS X cA ao aj F EX (.Assign [.Subscript oo ii p] a pos) (.asg (.ao O I') A):=PS.weak (UJ ha (zk3 hO hI zgE zW) hs hw h1) λD Z H hh=>un hh λU J s hL hS h=>by
 refine⟨U,J,s,hL,hS,(aN.ofM hL hS.lz h).imp λd s1 U1 H1 ⟨x1,aL,h1⟩ v rv=>?_⟩;obtain⟨dd,e0,rd,h2⟩:=Wi rv (aN.ofM (hL.mono x1 hS.lz) aL.lz h1);refine bx (hL.mono x1 hS.lz) aL h2 λxo H2 U2 d2 s2 x2 hL2 aU r2 h3=>bx hL2 aU h3 λyi H3 U3 d3 s3 x3 sU jz r3 h4=>?_;obtain⟨k,_,ek,h5⟩:=GX r3 h4;obtain⟨n,ad,xs,vs,_,ea,e1,f1,g1,q1,h6⟩:=zf8 jz (r2.mono x3 aU.lz) h5;subst ek ea;cases ej:L2.vL xs.length k with
 |none=>simp only[ej] at h6;exact h6.elim
 |some jj=>
  simp only[ej] at h6;refine⟨ad,vs,k,jj,rfl,rfl,g1,by rw[<-q1.len];exact ej,?_⟩;have rv3:=(rd.mono x2 aL.lz).mono x3 aU.lz;have lX:=jz.write e1 f1 (q1.set rv3 jj);have x4:Ext U3 H3 U3 (upd H3 ad (.lst (vs.set jj v))):=Ext.write f1 ⟨_,g1⟩;obtain⟨_,_,h8⟩:=h6 U3 _ x4 lX;exact h8 U3 _ Z Ext.refl lX (sU.mono x4 jz.lz)
theorem zj8{kt k2 rE}(hc:X.aj=true)(cF:aj=true)(hN:X.N.Nodup)(hi:X.N[i]?=some x)(hj:X.N[j]?=some y)(jZ:i≠j)(hx:X.env.scope.names.lookup x=some .local)(hy:X.env.scope.names.lookup y=some .local)
  (ha:SE X cA ao aj (F aj) EX a A) (hb:SE X cA ao aj (F aj) EX b B) (h1:starEach [a,b] X.env=(false,eval a X.env)::starEach [b] X.env) (h2:starEach [b] X.env=(false,eval b X.env)::starEach [] X.env)
  (hw:swappedStores [.Tuple [.Name x px,.Name y py] kt pt] (.Tuple [a,b] k2 rE) X.env=pure (some [x,y]))
  (hs:swapsWithSole [.Tuple [.Name x px,.Name y py] kt pt] (.Tuple [a,b] k2 rE) pos.line X.env=pure false:=by rfl) :
  SS X cA ao aj F EX (.Assign [.Tuple [.Name x px,.Name y py] kt pt] (.Tuple [a,b] k2 rE) pos) (.par i j A B):=PS.weak (zi6 hc hN hi hj jZ hx hy (uG ha (uG hb BX h2) h1) hw hs) λD Z H hh=>un hh λU J s hL hS h=>by
 have h:aN X.K cA (if aj=true then ofM (M.bd (ev ao aj (F aj) A J) λx=>M.bd (ev ao aj (F aj) B J) λy=>M.ret (x,y)) J (λxy s=>some (.nx ((J.set i (some xy.1)).set j (some xy.2)),s)) else λ_=>none) U H s D EX:=h;rw[if_pos cF] at h;refine bx hL hS (aN.ofM hL hS.lz h) λx H1 U1 d1 s1 x1 hL1 aL r1 h1=>bx hL1 aL h1 λy H2 U2 d2 s2 x2 hL2 aU r2 h2=>?_;obtain⟨_,_,h3⟩:=h2.bF aU;exact⟨x,y,rfl,h3 U2 H2 _ Ext.refl aU ((hL2.set (r1.mono x2 aL.lz)).set r2)⟩
theorem zlJ(hc:ST X cA ao aj (F aj) EX c C)(ht:tH X cA ao aj F EX body mb)(he:tH X cA ao aj F EX orelse me):SS X cA ao aj F EX (.If c body orelse pos) (.iff C mb me):=PS.weak (zlO hc ht he) λD Z H hh=>un hh λU J s hL hS h=>by
 refine⟨U,J,s,hL,hS,(aN.ofM hL hS.lz h).imp λk s1 U1 H1 ⟨x1,aL,h1⟩=>?_⟩;cases k with
 |true=>exact iT ⟨U1,J,s1,hL.mono x1 hS.lz,aL,h1⟩
 |false=>exact iF ⟨U1,J,s1,hL.mono x1 hS.lz,aL,h1⟩
noncomputable def pG(m:MS)(kN:Vs->MS):MS:=λs=>match m s with
 |some (.nx J',s')=>kN J' s'
 |some (.ct J',s')=>kN J' s'
 |some (.bk J',s')=>some (.nx J',s')
 |r=>r
theorem Kae{K:W.Frag}{U:Ph}{H:Hp}{s:S}{D:Ends}{m:MS}{kN:Vs->MS}{N:L2.St->Hp->Prop}(hN:∀U' J' s' Z' H',Ext U H U' H'->aW K cA U' H' Z' J'->aC K cA U' H' s'->aN K cA (kN J') U' H' s' D EX->N Z' H')(h:aN K cA (pG m kN) U H s D EX) :
  aN K cA m U H s {D with nx:=N,ct:=N,bk:=D.nx} EX:=by
 unfold aN pG at h;unfold aN;cases e:m s with
 |none=>rw[e] at h;exact h
 |some r=>
  obtain⟨r,s1⟩:=r;rw[e] at h;cases r with
  |nx J'=>
   intro U1 H1 Z1 x r l;have h2:aN K cA (kN J') U H s1 D EX:=h;exact hN U1 J' s1 Z1 H1 x l r (h2.ext x)
  |ct J'=>
   intro U1 H1 Z1 x r l;have h2:aN K cA (kN J') U H s1 D EX:=h;exact hN U1 J' s1 Z1 H1 x l r (h2.ext x)
  |bk J'=>exact h
  |rt d=>exact h
  |er c fs J'=>exact h
def SG(X:Cx)(cA:Cl)(ao:Nat->Nat->Bool)(aj:Bool)(F:Bool->Fn)(EX:XS)(tg:Expr)(t:Tg):Prop:=∃g:TG,PG X tg g/\∀(U:Ph) (H:Hp) (s:S) (Z:L2.St) (J:Vs) (d:Xv) (v:V) (D:Ends),aW X.K cA U H Z J->aC X.K cA U H s->bB X.K cA U H d v->
 aN X.K cA (store ao aj (F aj) t d J) U H s D EX->g v Z H D.nx
theorem zhF(hN:X.N.Nodup)(hi:X.N[i]?=some x)(hx:Loc X.env.scope x)(hf:X.fn x=true\/X.env.scope.names.lookup x=some .local:=by first|exact .inl rfl|exact .inr rfl):SG X cA ao aj F EX (.Name x pos) (.nm i):=
 ⟨_,Jv hN hi hx hf,λU H s Z J d v D hL hS r h=>h U H _ Ext.refl hS (hL.set r)⟩
theorem zkn(hp:PassesOwn (model X.prog X.w) X.A X.env X.xe)(hc:X.aj=true)(cF:aj=true)(ha:SI X cA ao aj (F aj) EX tg a w)(hg:SG X cA ao aj F EX tg t)(hb:tH X cA ao aj F EX body mb)
  (hs:∀x,foldedSetIterable a X.env x=pure x:=by intro _;rfl):SS X cA ao aj F EX (.For tg a body [] pos) (.fr t w mb):=by
 obtain⟨g,hG,hg⟩:=hg;refine PS.weak (zkD hp hc ha hG hb hs) λD Z H hh=>un hh λU J s hL hS h=>?_;have h:aN X.K cA (if aj=true then ofM (mY ao aj (F aj) w J) J λcn=>cX cn.1 (λd J=>b_ (store ao aj (F aj) t (.d d) J) λJ'=>exs ao aj F mb J') (cn.2+1) 0 J else λ_=>none) U H s D EX:=h;rw[if_pos cF] at h;refine⟨U,J,s,hL,hS,(aN.ofM hL hS.lz h).imp λcn s1 U1 H1 ⟨x1,aL,h1⟩ bU hJ=>?_⟩;have hL1:=hL.mono x1 hS.lz;obtain⟨c,n⟩:=cn;dsimp only at h1 hJ;refine⟨λi m Z' H'=>∃U' J' s',Ext U1 H1 U' H'/\aW X.K cA U' H' Z' J'/\aC X.K cA U' H' s'/\aN X.K cA (cX c (λd J=>b_ (store ao aj (F aj) t (.d d) J) λJ'=>exs ao aj F mb J') m i J') U' H' s' D EX,⟨n+1,U1,J,s1,Ext.refl,hL1,aL,h1⟩,?_⟩;rintro i m Z' H' ⟨U',J',s',x2,hL2,aU,h4⟩;cases m with
 |zero=>exact h4.elim
 |succ m=>
  cases ei:c.at i s' with
  |none=>
   exfalso
   unfold aN cX at h4;simp only[ei] at h4
  |some oi=>
   cases oi with
   |none=>
    refine .inl ⟨hJ.stop U' H' H' s' i x2 dU.refl aU ei,?_⟩;unfold aN cX at h4;simp only[ei] at h4;exact h4 U' H' Z' Ext.refl aU hL2
   |some xi=>
    refine .inr ⟨hJ.go U' H' H' s' i xi x2 dU.refl aU ei,_,λZ3 H3 z=>⟨m,Nat.lt_succ_self m,z⟩,λv H3 hy=>?_⟩;obtain⟨gr,rx⟩:=hJ.yU U' H' H' s' i xi v H3 x2 dU.refl aU ei hy;have h5:aN X.K cA (pG (b_ (store ao aj (F aj) t (.d xi) J') λJ'=>exs ao aj F mb J') (cX c (λd J=>b_ (store ao aj (F aj) t (.d d) J) λJ'=>exs ao aj F mb J') m (i+1))) U' H' s' D EX:=by
     unfold aN at h4 ⊢;have e:cX c (λd J=>b_ (store ao aj (F aj) t (.d d) J) λJ'=>exs ao aj F mb J') (m+1) i J' s'=pG (b_ (store ao aj (F aj) t (.d xi) J') λJ'=>exs ao aj F mb J') (cX c (λd J=>b_ (store ao aj (F aj) t (.d d) J) λJ'=>exs ao aj F mb J') m (i+1)) s':=by
      rw[cX];simp only[ei];rfl
     rw[e] at h4;exact h4
    exact hg U' H3 s' Z' J' (.d xi) v _ (hL2.mono gr.ext aU.lz) (aU.grow gr) (.d rx) (aN.then_ (Kae (λU4 J4 s4 Z4 H4 x4 l4 r4 q4=>⟨U4,J4,s4,(x2.trans gr.ext).trans x4,l4,r4,q4⟩) (h5.ext gr.ext)))
theorem zkj(cF:aj=true)(hex:X.ex=[])(o_:X.stack=X.env::X.outer/\X.env.frame=some X.env.locals)(hg:Gl X x)(hm:X.mg x=some (.ref (cA.a dc)))(hN:X.N.Nodup)(hi:X.N[i]?=some n)(hl:X.env.scope.names.lookup n=some .local)
  (hsub:∀c,ao c dc=true->subIn X.K (cA.a c) (cA.a dc)=true)
  (hb:∀(pn:List (Addr×Obj)) (E':Value->Shared->Prop) (qM:XS),Raises (X.seen X.A X.aj pn E') qM->PassesOwn (model X.prog X.w) X.A X.env E'->tH (X.seen X.A X.aj pn E') cA ao aj F qM body mb)
  (hh:∀e:Value,tH (X.seen (X.A.mark (some e)) false X.pn (λ_ _=>False)) cA ao false F (λ_ _ _ _=>False) (b₀::suite) mh) (lB:(x==("__debug__" : Str))=false:=by decide) :
  SS X cA ao aj F EX (.Try body [.ExceptHandler (some (.Name x np)) (some n) (b₀::suite) rP] [] [] pos) (.qe mb dc i mh):=by
 refine PS.weak (zla (tb:=λqM=>tS X.K cA qM (exs ao aj F mb)) (th:=tS X.K cA (λ_ _ _ _=>False) (exs ao false F mh)) hex o_ hg hm hN hi hl hb hh lB) λD Z H hh=>un hh λU J s hL hS h=>?_;refine⟨U,J,s,hL,hS,?_⟩;have h:aN X.K cA (if aj=true then λs=>match exs ao aj F mb J s with
   |some (.er c fs J',s')=>if ao c dc=true then (match exs ao false F mh (J'.set i (some (.d (.exc c fs)))) s' with
    |some (r,s'')=>(match r with
     |.er _ _ _=>none
     |r=>some (goes i r,s''))
    |none=>none) else none
   |r=>r
  else λ_=>none) U H s D EX:=h
 rw[if_pos cF] at h;unfold aN at h ⊢;cases e:exs ao aj F mb J s with
 |none=>simp only[e] at h
 |some r=>
  obtain⟨r,s1⟩:=r;simp only[e] at h;cases r with
  |nx J'=>exact h
  |ct J'=>exact h
  |bk J'=>exact h
  |rt d=>exact h
  |er c fs J'=>
   intro U1 H1 Z1 x1 r1 l1 dx xH;by_cases yd:ao c dc=true
   ·simp only[if_pos yd] at h;refine⟨cA.a c,rfl,hsub c yd,λad hn=>?_⟩;have gr:bD H1 (upd H1 ad (gM ad (cA.a c) dx)):=bD.new hn;have xe:Ext U1 H1 U1 (upd H1 ad (gM ad (cA.a c) dx)):=gr.ext;have rx:Rep X.K cA U1 (upd H1 ad (gM ad (cA.a c) dx)) (.exc c fs) (.ref ad):=by
     rcases xH with ⟨e1,e2,e3⟩|⟨d,vs,e3,nz,hd,hl,rs⟩
     ·subst e2 e3;exact .exc ⟨r1.nz hn,.inl ⟨e1,rfl,jN⟩⟩ .nil
     ·subst e3;exact .exc ⟨r1.nz hn,.inr ⟨d,jN,nz,gr _ _ hd,hl⟩⟩ (rs.mono xe r1.lz)
    refine⟨U1,J'.set i (some (.d (.exc c fs))),s1,(l1.mono xe r1.lz).set (.d rx),r1.grow gr,?_⟩;unfold aN;cases e2:exs ao false F mh (J'.set i (some (.d (.exc c fs)))) s1 with
    |none=>rw[e2] at h;exact h
    |some q=>
     obtain⟨q,s2⟩:=q;rw[e2] at h;cases q with
     |er c2 f2 J2=>exact h.elim
     |nx J2=>exact λU2 H2 Z2 x2 r2 l2=>h U2 H2 _ ((x1.trans xe).trans x2) r2 l2.unset
     |bk J2=>exact λU2 H2 Z2 x2 r2 l2=>h U2 H2 _ ((x1.trans xe).trans x2) r2 l2.unset
     |ct J2=>exact λU2 H2 Z2 x2 r2 l2=>h U2 H2 _ ((x1.trans xe).trans x2) r2 l2.unset
     |rt dd=>exact λU2 H2 v x2 r2 rv=>h U2 H2 v ((x1.trans xe).trans x2) r2 rv
   ·simp only[if_neg yd] at h
end
end Mi
namespace L2
open PySem PySem.Spec PyProof.Rows
structure uO(K:W.Frag)(x qual:Str)(st:Stmt)(f:Addr)(fd:FuncData):Prop where
 ex:∃(oc:Value) (od:Option Addr) (kV doc pm:Value) (an:Option Addr) (cdv ct:Value) (osl:Array (Option Value)),
  fd=PySem.W.fnOf x qual (aQ st) (aK st) (aA st) .none kV doc pm an cdv ct/\K.lookup f=some ⟨oc,od,.func fd,osl⟩/\PySem.W.codeIn K cdv qual=true
 kp:PySem.W.keepIn K (.ref f)=true
end L2
namespace Mi
open PySem PySem.Spec PyProof.Rows L2
section
variable {P:Program}{w:World}{K:W.Frag}{mg:Str->Option Value}{base:Heap}{cA:Cl}{ao:Nat->Nat->Bool}{T:Nat->Option Df}
theorem zeg{U:Ph}{H:Hp}{N:List Str}{ds:List Xv}{vs:List V}{m p:Nat}(r:bL K cA U H ds vs)(hp:p=ds.length)(hm:m=N.length):aW K cA U H (L2.start N vs) (ds.map some++List.replicate (m-p) none):=by
 subst hp hm;unfold L2.start;have hl:=r.len;refine⟨by simp[hl],λi d e=>?_⟩;by_cases hi:i<ds.length
 ·rw[oU (by simpa using hi),kY] at e;cases z:ds[i]? with
  |none=>rw[z] at e;cases e
  |some x=>
   rw[z] at e;cases e;obtain⟨v,a,b⟩:=r.get z;exact⟨v,by rw[oU (by simp;lia),kY,a];rfl,b⟩
 ·rw[m8 (by simpa using hi),Iz] at e;split at e<;>cases e
theorem W9{U:Ph}{H:Hp}{s:S}{ds:List Xv}{k n:Nat}{cm:Bool}{df:Df}{Q:VK}{E:XK}(hT:T n=some df)
  (h:Run K cA (call ao T (k+1) cm n ds) U H s (λd _ U' H'=>∀v,bB K cA U' H' d v->Q v H') (λc fs _ U' H'=>∀dx,jy K cA U' H' c fs dx->E (.ref (cA.a c)) dx H')) :
  ds.length=df.gD/\aN K cA (exs ao cm (λc=>call ao T k c) df.body (ds.map some++List.replicate (df.many-df.gD) none)) U H s {nx:=λ_ H'=>Q .non H',rt:=Q} (λ_ C dx H'=>E C dx H'):=by
 unfold call at h;simp only[hT] at h;by_cases hl:ds.length=df.gD
 ·refine⟨hl,?_⟩;rw[if_pos hl] at h;unfold Run at h;unfold aN;cases e:exs ao cm (λc=>call ao T k c) df.body (ds.map some++List.replicate (df.many-df.gD) none) s with
  |none=>simp only[e] at h
  |some r=>
   obtain⟨r,s1⟩:=r;simp only[e] at h;cases r with
   |nx J=>exact λU' H' Z' x r l=>h U' H' x r _ (.d .non)
   |rt d=>exact λU' H' v x r rv=>h U' H' x r v rv
   |er c fs J=>exact λU' H' Z' x r l=>h U' H' x r
   |bk J=>exact h.elim
   |ct J=>exact h.elim
 ·rw[if_neg hl] at h;exact h.elim
theorem fu:dN P w K mg base (jR P w) cm 0 f fd ps (tD K cA (call ao T 0 cm n)):=
 ⟨λvs H Q E ⟨_,_,_,_,_,h⟩=>h.elim,λA outer s H args us vs Q E _ _ _ _ _ ⟨_,_,_,_,_,h⟩=>h.elim⟩
theorem zkb{x qual:Str}{st:Stmt}{f:Addr}{fd:FuncData}{N ps:List Str}{k n:Nat}{cm:Bool}{df:Df}(F:uO K x qual st f fd)(S:fj N ps (aA st))(hT:T n=some df)(hp:df.gD=ps.length)(hm:df.many=N.length)
  (hb:∀(cdv:Value) (A:Around) (outer:List Env) (s:Shared) (H:Hp) (E:XK),bO (k+1) A->
   tH (gK (jR P w) P w K mg base N qual (aA st) f cdv A outer s H E cm) cA ao cm (λc=>call ao T k c) (λ_ C dx H'=>E C dx H') (aK st) df.body) :
  dN P w K mg base (jR P w) cm (k+1) f fd ps (tD K cA (call ao T (k+1) cm n)):=by
 obtain⟨oc,od,kV,doc,pm,an,cdv,ct,osl,rfl,lk,lA⟩:=F.ex;refine zl2 lk lA S (λvs H Q E ⟨U,ds,s,r,hS,h⟩=>?_) λA outer s H vs Q E hr ⟨U,ds,st',r,hS,h⟩=>?_
 ·rw[<-r.len,(W9 hT h).1,hp]
 ·obtain⟨hl,h2⟩:=W9 hT h;exact⟨_,hb cdv A outer s H E hr,U,_,st',zeg r hl.symm hm,hS,h2⟩
theorem zjM{x qual:Str}{st:Stmt}{f:Addr}{fd:FuncData}{N ps:List Str}{k n:Nat}{cm:Bool}{df:Df}(F:uO K x qual st f fd)(S:fj N ps (aA st))(hT:T n=some df)(hp:df.gD=ps.length)(hm:df.many=N.length)
  (hb:∀(cdv:Value) (A:Around) (outer:List Env) (s:Shared) (H:Hp) (E:XK),bO k (A.deeper (envOfC qual (aA st) s.heap.objs.size f cdv))->
   tH (gK (jR P w) P w K mg base N qual (aA st) f cdv A outer s H E cm) cA ao cm (λc=>call ao T k c) (λ_ C dx H'=>E C dx H') (aK st) df.body) :
  dN P w K mg base (jR P w) cm (k+1) f fd ps (tD K cA (call ao T (k+1) cm n)):=zkb F S hT hp hm λcdv A outer s H E hr=>hb cdv A outer s H E (hr.deeper _)
end
theorem zkC{K:W.Frag}{cA:Cl}{m:List Xv->M Xv}{H:Hp}{a:Addr}{ns:List Int}(hq:dj K H a (ns.map V.int))(hm:∃s',m [.d (.fl (ns.map D.int))] []=some (.ok (.d (.bl true)),s')) :
  tD K cA m [.ref a] H (λv _=>v=.bl true) λ_ _ _=>False:=by
 have rs:∀(l:List Int) U,aB K cA U H (l.map D.int) (l.map V.int):=λl U=>by
  induction l with
  |nil=>exact .nil
  |cons i l ih=>exact .cons (.int i) ih
 have hl:LstAt K ⟨λ_=>False,[]⟩ H a (ns.map V.int):=by
  rcases hq with h|h
  ·exact .inl ⟨h,λz=>z⟩
  ·exact .inr (.inr h)
 refine⟨⟨λ_=>False,[]⟩,[.d (.fl (ns.map D.int))],[],.cons (.d (.fl hl (rs ns _))) .nil,⟨rfl,(λn o b e1 e2=>by simp at e1),Bu,(λb hb=>by cases hb),(λb z=>False.elim z)⟩,?_⟩;obtain⟨s',e⟩:=hm;unfold Run;rw[e];intro U' H' _ _ v rv;cases rv with
 |d rv=>cases rv;rfl
theorem zfW:Raises X (λ_ _ _ _=>False):=λ_ _ _ _ _ _ _ _ _ _ _ _ _ z=>z.elim
theorem yg(r:bO k A):bO k (A.mark o):=⟨r.dp,r.un,r.gd⟩
theorem zX(r:bO k A):A.units+60<cLine:=by have:=r.un;lia
noncomputable def aD:Expr->Bool
 |.Starred _ _=>false
 |_=>true
theorem bC(h:aD e=true):starEach (e::es) env=(false,eval e env)::starEach es env:=by
 cases e<;>first|rfl|cases h
theorem bA:∀{es:List Expr} {env:Env} {pos:Pos},es.all aD=true->(backTo pos (starEach es env)).any (·.1)=false
 |[],_,_,_=>rfl
 |e::es,env,pos,h=>by
  rw[mU,cO] at h;rw[bC h.1];show (false||(backTo pos (starEach es env)).any (·.1))=false;rw[bA h.2];rfl
theorem pH:∀{es:List Expr} {env:Env} {pos:Pos},es.all aD=true->(backTo pos (starEach es env)).all (λx=>!x.1)=true
 |[],_,_,_=>rfl
 |e::es,env,pos,h=>by
  rw[mU,cO] at h;rw[bC h.1];show (true&&(backTo pos (starEach es env)).all (λx=>!x.1))=true;rw[pH h.2];rfl
theorem pI(h1:aD e=true)(h2:es.all aD=true)(h3:decide (es.length<28)=true):((backTo pos (starEach (e::es) env)).all (λx=>!x.1)&&(backToKw pos (keywordEach [] env)).all (λx=>x.1.isSome)&&decide ((e::es).length+([]:List Keyword).length+(if ([]:List Keyword).isEmpty then 0 else 1)<30))=true:=by
 rw[pH (es:=e::es) (by rw[mU,h1,h2];rfl)];have:=oW h3;have z:(e::es).length+([]:List Keyword).length+(if ([]:List Keyword).isEmpty then 0 else 1)<30:=by
  show es.length+1+0+0<30
  lia
 rw[i_ z];rfl
noncomputable def zY(sc scope:Scope):Bool:=(match scope.kind with|.function=>true|_=>false)&&scope.names.all λy=>match y.2 with
 |.cell=>(match scope.names.lookup y.1 with|some .cell=>true|_=>false)
 |.free=>(match sc.names.lookup y.1 with|some .cell=>true|some .free=>true|_=>false)
 |.local=>(match scope.names.lookup y.1 with|some .local=>true|_=>false)
 |_=>true
theorem gY.of(h:zY sc scope=true):gY sc scope:=by
 unfold zY at h;rw[cO,iM] at h;obtain⟨h1,h2⟩:=h;refine⟨?_,λy hy z=>?_,λy hy z=>?_,λy hy z=>?_⟩
 ·split at h1
  ·assumption
  ·cases h1
 ·have:=h2 y hy;rw[z] at this;dsimp only at this;split at this
  ·assumption
  ·cases this
 ·have:=h2 y hy;rw[z] at this;dsimp only at this;split at this
  ·exact .inl (by assumption)
  ·exact .inr (by assumption)
  ·cases this
 ·have:=h2 y hy;rw[z] at this;dsimp only at this;split at this
  ·assumption
  ·cases this
noncomputable def frB(scope:Scope)(XN:List Str):List Str->List Nat->Bool
 |y::N,j::fr=>(match scope.names.lookup y with|some .free=>true|_=>false)&&decide (XN[j]?=some y)&&frB scope XN N fr
 |[],[]=>true
 |_,_=>false
theorem W_:∀{N:List Str} {fr:List Nat},frB scope XN N fr=true->N.length=fr.length/\∀(i:Nat) (y:Str) (j:Nat),N[i]?=some y->fr[i]?=some j->scope.names.lookup y=some .free/\XN[j]?=some y
 |[],[],_=>⟨rfl,λi y j h=>by simp at h⟩
 |[],_::_,h=>by cases h
 |_::_,[],h=>by cases h
 |y::N,j::fr,h=>by
  unfold frB at h;rw[cO,cO,Du] at h;obtain⟨⟨h1,h2⟩,h3⟩:=h;obtain⟨l,q⟩:=W_ h3;refine⟨by simp[l],λi z m e1 e2=>?_⟩;cases i with
  |zero=>
   simp at e1 e2;subst e1 e2;refine⟨?_,h2⟩;split at h1
   ·assumption
   ·cases h1
  |succ i=>exact q i z m (by simpa using e1) (by simpa using e2)
noncomputable def okN(x:Str):Bool:=!(x==("__debug__" : Str)) && !(x==("__classdict__" : Str)) && !decide (x="__name__")
theorem tK(h:okN x=true):(x==("__debug__" : Str))=false/\(x==("__classdict__" : Str))=false/\x≠"__name__":=by
 unfold okN at h;simp only[cO,Mj,Lr] at h;exact⟨h.1.1,h.1.2,h.2⟩
theorem Qz{env:Env}{k:NameKind}(hk:k≠.free):∀{names:List (Str×NameKind)} {x:Str},names.lookup x=some k->
  (names.map λ(n,k)=>if (k==NameKind.free&&env.scope.kind==.function&&env.kindOf n==some .cell) then (n,NameKind.cell) else (n,k)).lookup x=some k
 |[],x,h=>by simp at h
 |(n,q)::r,x,h=>by
  rw[lW] at h;rw[jE,lW];have hd:∀c:Bool,(if c=true then (n,NameKind.cell) else (n,q)).1=n:=λc=>by cases c<;>rfl
  rw[hd];by_cases z:x=n
  ·subst z;simp only[wQ] at h ⊢;cases h
   split
   ·rename_i y;simp only[cO,iD] at y;exact absurd y.1.1 hk
   ·rfl
  ·have z':(x==n)=false:=by simpa using z
   simp only[z'] at h ⊢;exact Qz hk h
theorem zkc{K:W.Frag}{C:Addr}(h:Jk K C=true):XC K C:=by
 unfold Jk at h;simp only[cO,iD] at h;obtain⟨⟨⟨⟨⟨⟨⟨h1,h2⟩,h3⟩,h4⟩,h5⟩,h6⟩,h7⟩,h8⟩:=h;exact⟨h1,h2,h3,h4,h5,h6,h7,h8⟩
theorem QB{n c:Nat}(hn:0<n):mW n c<n:=by unfold mW;split<;>lia
theorem QC{n c:Nat}(hn:0<n):mW n (mW n c)=mW n c:=by unfold mW;split<;>simp_all
theorem zhJ{n c e:Nat}(hn:0<n):jf n (mW n c) (mW n e)=jf n c e:=by unfold jf;rw[QC hn,QC hn]
theorem zib{K:W.Frag}{L:List Addr}{f g:Nat->List Str}{b:Nat->Addr}(hL:0<L.length)(h:oY K L=true):sY K ⟨dh L,f,b,g⟩ (jf L.length):=by
 unfold oY at h;rw[iM] at h;have key:∀c,Jk K (dh L c)=true/\PySem.W.kitOne K (.ref (dh L c)) (.type "ValueError")=some true/\∀e,PySem.W.kitOne K (.ref (dh L c)) (.ref (dh L e))=some (jf L.length c e):=λc=>by
  have z:=h (mW L.length c) (uw.mpr (QB hL));simp only[cO,iD,iM] at z;obtain⟨⟨z1,z2⟩,z3⟩:=z;refine⟨z1,z2,λe=>?_⟩;have y:=z3 (mW L.length e) (uw.mpr (QB hL));rw[zhJ hL] at y;exact y
 exact⟨λc=>zkc (key c).1,λc e=>(key c).2.2 e,λc=>(key c).2.1⟩
theorem ziE{K:W.Frag}{L:List Addr}{d:Nat}(hL:0<L.length)(h:subB K L d=true):∀c,jf L.length c d=true->L2.subIn K (dh L c) (dh L d)=true:=λc hc=>by
 unfold subB at h;rw[iM] at h;have z:=h (mW L.length c) (uw.mpr (QB hL));have y:jf L.length (mW L.length c) d=true:=by
  unfold jf at hc ⊢;rw[QC hL];exact hc
 rw[y] at z;exact z
noncomputable def tL(K:W.Frag):Sp:=λvs H Q _=>∃(a:Addr) (ns:List Int),vs=[.ref a]/\dj K H a (ns.map V.int)/\ns.length<=63/\Only H/\∀H',Q (.bl true) H'
theorem zhW{K:W.Frag}{cA:Cl}{m:List Xv->M Xv}(hm:∀ns:List Int,ns.length<=63->∃s',m [.d (.fl (ns.map D.int))] []=some (.ok (.d (.bl true)),s'))(vs:List V)(H:Hp)(Q:VK)(E:XK)(h:tL K vs H Q E):tD K cA m vs H Q E:=by
 obtain⟨a,ns,rfl,hq,hl,hO,k⟩:=h;obtain⟨U,ds,s,r1,r2,h⟩:=zkC (cA:=cA) (m:=m) hq (hm ns hl);refine⟨U,ds,s,r1,r2,?_⟩;unfold Run at h ⊢;split at h
 ·intro U' H' x r v rv;rw[h U' H' x r v rv];exact k H'
 ·exact λU' H' x r dx q=>(h U' H' x r dx q).elim
 ·exact h
theorem zZ{K:W.Frag}{fd:FuncData}{p:Str}(h:∀a,bindArgs fd ⟨[a],[]⟩=pure [(p,a)]):Binds K fd [p] []:=.all λus hl=>by
 cases us with
 |nil=>cases hl
 |cons a r=>cases r with
  |nil=>exact h a
  |cons b r=>cases hl
theorem z_{K:W.Frag}{fd:FuncData}{p q:Str}(h:∀a b,bindArgs fd ⟨[a,b],[]⟩=pure [(p,a),(q,b)]):Binds K fd [p,q] []:=.all λus hl=>by
 cases us with
 |nil=>cases hl
 |cons a r=>cases r with
  |nil=>cases hl
  |cons b r=>cases r with
   |nil=>exact h a b
   |cons c r=>cases hl
theorem Aa{K:W.Frag}{fd:FuncData}{p q t:Str}(h:∀a b c,bindArgs fd ⟨[a,b,c],[]⟩=pure [(p,a),(q,b),(t,c)]):Binds K fd [p,q,t] []:=.all λus hl=>by
 cases us with
 |nil=>cases hl
 |cons a r=>cases r with
  |nil=>cases hl
  |cons b r=>cases r with
   |nil=>cases hl
   |cons c r=>cases r with
    |nil=>exact h a b c
    |cons d r=>cases hl
theorem Ab{K:W.Frag}{fd:FuncData}{p q t u:Str}(h:∀a b c d,bindArgs fd ⟨[a,b,c,d],[]⟩=pure [(p,a),(q,b),(t,c),(u,d)]):Binds K fd [p,q,t,u] []:=.all λus hl=>by
 cases us with
 |nil=>cases hl
 |cons a r=>cases r with
  |nil=>cases hl
  |cons b r=>cases r with
   |nil=>cases hl
   |cons c r=>cases r with
    |nil=>cases hl
    |cons d r=>cases r with
     |nil=>exact h a b c d
     |cons e r=>cases hl
theorem QD:bootBuiltins "int"=some (.type "int"):=by decide +kernel
theorem QF:bootBuiltins "bool"=some (.type "bool"):=by decide +kernel
theorem Cy:bootBuiltins "tuple"=some (.type "tuple"):=by decide +kernel
theorem zhE:bootBuiltins "list"=some (.type "list"):=by decide +kernel
theorem zcd:bootBuiltins "ValueError"=some (.type "ValueError"):=by decide +kernel
structure JE(X:Cx)(cA:Cl)(ao:Nat->Nat->Bool)(aj:Bool)(F:Fn)(EX:XS)(e:Expr)(m:E):Prop where
 o:SE X cA ao aj F EX e m
structure JA(X:Cx)(cA:Cl)(ao:Nat->Nat->Bool)(aj:Bool)(F:Fn)(EX:XS)(e:List Expr)(m:Es):Prop where
 o:SA X cA ao aj F EX e m
structure JT(X:Cx)(cA:Cl)(ao:Nat->Nat->Bool)(aj:Bool)(F:Fn)(EX:XS)(e:Expr)(m:E):Prop where
 o:ST X cA ao aj F EX e m
structure JW(X:Cx)(cA:Cl)(ao:Nat->Nat->Bool)(aj:Bool)(F:Fn)(EX:XS)(e:Expr)(m:E):Prop where
 o:SW X cA ao aj F EX e m
structure JC(X:Cx)(cA:Cl)(ao:Nat->Nat->Bool)(aj:Bool)(F:Fn)(EX:XS)(e:List Expr)(m:Eo):Prop where
 o:Kl X cA ao aj F EX e m
structure JO(X:Cx)(cA:Cl)(ao:Nat->Nat->Bool)(aj:Bool)(F:Fn)(EX:XS)(e:Option Expr)(m:Eo):Prop where
 o:G6 X cA ao aj F EX e m
structure JI(X:Cx)(cA:Cl)(ao:Nat->Nat->Bool)(aj:Bool)(F:Fn)(EX:XS)(tg e:Expr)(m:Wk):Prop where
 o:SI X cA ao aj F EX tg e m
structure JG(X:Cx)(cA:Cl)(ao:Nat->Nat->Bool)(aj:Bool)(F:Bool->Fn)(EX:XS)(e:Expr)(m:Tg):Prop where
 o:SG X cA ao aj F EX e m
structure JS(X:Cx)(cA:Cl)(ao:Nat->Nat->Bool)(aj:Bool)(F:Bool->Fn)(EX:XS)(e:Stmt)(m:St):Prop where
 o:SS X cA ao aj F EX e m
structure JB(X:Cx)(cA:Cl)(ao:Nat->Nat->Bool)(aj:Bool)(F:Bool->Fn)(EX:XS)(e:List Stmt)(m:bw):Prop where
 o:tH X cA ao aj F EX e m
structure JK(X:Cx)(x:Str)(k:NameKind):Prop where
 o:X.env.scope.names.lookup x=some k
structure JP(X:Cx)(cA:Cl)(op:CmpOp)(p:Pr):Prop where
 o:∃r,cN X (compareOp op) r/\aX X.K cA p (r2 r)
structure JQ(X:Cx)(cA:Cl)(op:Operator)(p:Pr):Prop where
 o:∃r,cN X (binaryOp op) r/\aX X.K cA p (r2 r)
structure JN(X:Cx)(cA:Cl)(kx:Expr)(k:Kd):Prop where
 o:PE X kx (tC (Cr cA k))
structure JR(X:Cx)(EX:XS):Prop where
 o:Raises X EX
structure JH(X:Cx):Prop where
 o:PassesOwn (model X.prog X.w) X.A X.env X.xe
structure JY(X:Cx)(tg:Expr)(g:TG):Prop where
 o:PG X tg g
noncomputable def tM:NameKind->Bool
 |.local=>true
 |.cell=>true
 |_=>false
noncomputable def Ac:NameKind->Bool
 |.local=>true
 |.cell=>true
 |.free=>true
 |_=>false
section
variable {X:Cx}{cA:Cl}{ao:Nat->Nat->Bool}{aj:Bool}{F:Fn}{EX:XS}{a b c d e:Expr}{A B C Dd E':E}{pos p p2 apos:Pos}{es:List Expr}{Xs:Es}{x y:Str}{k k':NameKind}{q q1 q2 q3:Pr}{fz:Bool}
theorem Xa(h:scope.names.lookup x=some k)(hk:(match k with|.free=>false|_=>true)=true):JK (X.blk scope cl N Cc s3 H3 fp ak) x k:=
 ⟨Qz (by intro z;subst z;cases hk) h⟩
theorem Xb(i:Nat)(hN:X.N[i]?=some x)(h:JK X x k)(hv:Ac k=true)(hd:okN x=true):JE X cA ao aj F EX (.Name x pos) (.v i):=
 ⟨Wj i hN (by cases k<;>first|exact .inl h.o|exact .inr (.inl h.o)|exact .inr (.inr h.o)|cases hv) (tK hd).1 (tK hd).2.1⟩
theorem zmG(i:Nat)(hN:N[i]?=some x)(h:scope.names.lookup x=some .free)(hd:okN x=true):JE (X.blk scope cl N Cc s3 H3 fp ak) cA ao aj F EX (.Name x pos) (.v i):=
 ⟨Wj i hN (.inr (Og h)) (tK hd).1 (tK hd).2.1⟩
theorem aM{i j p}:JE X cA ao aj F EX (.Constant (.int i) j p) (.c (.int i)):=⟨zkg⟩
theorem kh{i j p}:JE X cA ao aj F EX (.Constant (.bool i) j p) (.c (.bl i)):=⟨zlZ⟩
theorem oE{j p}:JE X cA ao aj F EX (.Constant .none j p) (.c .non):=⟨zki⟩
theorem jK{i j p}:JE X cA ao aj F EX (.Constant (.str i) j p) (.c (.str i)):=⟨zjC⟩
theorem zmA(h:∃t,X.mg x=some (.int i t))(hg:JK X x .globalImplicit)(hd:okN x=true):JE X cA ao aj F EX (.Name x pos) (.c (.int i)):=by
 obtain⟨t,h⟩:=h;exact⟨zhU hg.o h (tK hd).1⟩
theorem jB:JQ X cA .Add .add:=⟨_,zfE,zlf⟩
theorem QG:JQ X cA .Sub .ao:=⟨_,zi9,zkY⟩
theorem QJ:JQ X cA .Mult .mul:=⟨_,zj3,zjG⟩
theorem zkk:JQ X cA .FloorDiv .fdiv:=⟨_,ziB,zhI⟩
theorem Hj:JQ X cA .Mod .mod:=⟨_,zkV,zjI⟩
theorem Xc:JQ X cA .Pow .pow:=⟨_,zkz,zjf⟩
theorem dB(h:JQ X cA op q)(ha:JE X cA ao aj F EX a A)(hb:JE X cA ao aj F EX b B):JE X cA ao aj F EX (.BinOp a op b pos) (.pr fz q (.cons A (.cons B .nil))):=by
 obtain⟨r,h1,h2⟩:=h.o;exact⟨zkW h1 h2 ha.o hb.o⟩
theorem Cz(ha:JE X cA ao aj F EX a A):JE X cA ao aj F EX (.UnaryOp .USub a pos) (.pr true .neg (.cons A .nil)):=⟨zls U9 zjW ha.o⟩
theorem QK(ha:JE X cA ao aj F EX a A):JE X cA ao aj F EX (.UnaryOp .Not a pos) (.not A):=⟨zjz ha.o⟩
theorem CG{op}(ha:JE X cA ao aj F EX a A):JE X cA ao aj F EX (.BoolOp op [a] pos) A:=⟨zkN ha.o⟩
theorem Ad{rest:List Expr}(ha:JE X cA ao aj F EX a A)(hb:JE X cA ao aj F EX (.BoolOp .And (b::rest) pos) B):JE X cA ao aj F EX (.BoolOp .And (a::b::rest) pos) (.and A B):=⟨zkA ha.o hb.o⟩
theorem qu{k:Nat}(hr:bO k X.A):JP X cA .Eq .eq:=⟨_,zkq (zX hr),zlB⟩
theorem CJ{k:Nat}(hr:bO k X.A):JP X cA .NotEq .ne:=⟨_,zjX (zX hr),zlT⟩
theorem CK{k:Nat}(hr:bO k X.A):JP X cA .Lt .lt:=⟨_,Ez.or (zjy (by have:=zX hr;lia)),zlt⟩
theorem Hl:JP X cA .LtE .le:=⟨_,zlj,zl0⟩
theorem zmJ:JP X cA .GtE .ge:=⟨_,zlv,zlU⟩
noncomputable def kj:Expr->Bool
 |.Set _ _ _=>false
 |_=>true
theorem tO(h:kj b=true):behindInMarks op b=false:=by cases b<;>first|rfl|cases h
theorem Ho(ho:JP X cA op q)(ha:JE X cA ao aj F EX a A)(hb:JE X cA ao aj F EX b B)(h1:kj b=true:=by rfl):JE X cA ao aj F EX (.Compare a [op] [b] pos) (.pr true q (.cons A (.cons B .nil))):=by
 obtain⟨r,h2,h3⟩:=ho.o;exact⟨zjc h2 h3 ha.o hb.o (tO h1)⟩
theorem lN(ho:JP X cA op q)(ha:JE X cA ao aj F EX a A)(hb:JE X cA ao aj F EX b B)(h1:kj b=true:=by rfl):JT X cA ao aj F EX (.Compare a [op] [b] pos) (.pr true q (.cons A (.cons B .nil))):=by
 obtain⟨r,h2,h3⟩:=ho.o;exact⟨zjj h2 h3 ha.o hb.o (tO h1)⟩
theorem zlG(h1:JP X cA op q1)(h2:JP X cA op' q2)(ha:JE X cA ao aj F EX a A)(hb:JE X cA ao aj F EX b B)(hc:JE X cA ao aj F EX c C)(hm:kj c=true:=by rfl):JE X cA ao aj F EX (.Compare a [op,op'] [b,c] pos) (.qN q1 q2 A B C):=by
 obtain⟨r,h3,h4⟩:=h1.o;obtain⟨r',h5,h6⟩:=h2.o;exact⟨zjm h3 h4 h5 h6 ha.o hb.o hc.o (tO hm)⟩
theorem zlN(h1:JP X cA op q1)(h2:JP X cA op' q2)(ha:JE X cA ao aj F EX a A)(hb:JE X cA ao aj F EX b B)(hc:JE X cA ao aj F EX c C)(hm:kj c=true:=by rfl):JT X cA ao aj F EX (.Compare a [op,op'] [b,c] pos) (.qN q1 q2 A B C):=by
 obtain⟨r,h3,h4⟩:=h1.o;obtain⟨r',h5,h6⟩:=h2.o;exact⟨zkK h3 h4 h5 h6 ha.o hb.o hc.o (tO hm)⟩
theorem zlw(h1:JP X cA op q1)(h2:JP X cA op' q2)(h3:JP X cA lM q3)(ha:JE X cA ao aj F EX a A)(hb:JE X cA ao aj F EX b B)(hc:JE X cA ao aj F EX c C)(hd:JE X cA ao aj F EX d Dd)(hm:kj d=true:=by rfl) :
  JT X cA ao aj F EX (.Compare a [op,op',lM] [b,c,d] pos) (.zF q1 q2 q3 A B C Dd):=by
 obtain⟨r,h4,h5⟩:=h1.o;obtain⟨r',h6,h7⟩:=h2.o;obtain⟨r'',h8,h9⟩:=h3.o;exact⟨zkr h4 h5 h6 h7 h8 h9 ha.o hb.o hc.o hd.o (tO hm)⟩
noncomputable def Hq:Expr->Bool
 |.Call _ _ _ _=>true
 |.Name _ _=>true
 |.Subscript _ _ _=>true
 |.Attribute _ _ _=>true
 |_=>false
theorem oF(ha:JE X cA ao aj F EX a A)(he:Hq a=true:=by rfl):JT X cA ao aj F EX a A:=⟨zjT ha.o (by cases a<;>first|(intro _;rfl)|cases he)⟩
theorem oG(ha:JT X cA ao aj F EX a A):JT X cA ao aj F EX (.UnaryOp .Not a pos) (.not A):=⟨zjS ha.o⟩
theorem Xd(ha:JT X cA ao aj F EX a A):JW X cA ao aj F EX (.BoolOp .And [a] pos) A:=⟨zie ha.o⟩
theorem Ko(ha:JT X cA ao aj F EX a A):JW X cA ao aj F EX (.BoolOp .Or [a] pos) A:=⟨zkt ha.o⟩
theorem Xe{rest:List Expr}(ha:JT X cA ao aj F EX a A)(hb:JW X cA ao aj F EX (.BoolOp .And (b::rest) pos) B):JW X cA ao aj F EX (.BoolOp .And (a::b::rest) pos) (.and A B):=⟨zkP ha.o hb.o⟩
theorem Ae{rest:List Expr}(ha:JT X cA ao aj F EX a A)(hb:JW X cA ao aj F EX (.BoolOp .Or (b::rest) pos) B):JW X cA ao aj F EX (.BoolOp .Or (a::b::rest) pos) (.or A B):=⟨zl5 ha.o hb.o⟩
theorem CP(h:JW X cA ao aj F EX a A):JT X cA ao aj F EX a A:=⟨zmF h.o⟩
theorem Xf(hc:JT X cA ao aj F EX c C)(ha:JE X cA ao aj F EX a A)(hb:JE X cA ao aj F EX b B):JE X cA ao aj F EX (.IfExp c a b pos) (.ite C A B):=⟨zjJ hc.o ha.o hb.o⟩
theorem aH:JA X cA ao aj F EX [] .nil:=⟨zlb⟩
theorem au(ha:JE X cA ao aj F EX a A)(hr:JA X cA ao aj F EX es Xs)(hs:aD a=true:=by rfl):JA X cA ao aj F EX (a::es) (.cons A Xs):=⟨zh1 ha.o hr.o (bC hs)⟩
theorem cZ{k}(ha:JA X cA ao aj F EX es Xs)(hz:decide (Es.len Xs<=sizeLine)=true:=by rfl):JE X cA ao aj F EX (.Tuple es k pos) (.tup Xs):=⟨zjd ha.o (oW hz)⟩
theorem iV(ha:JA X cA ao aj F EX es Xs)(hz:decide (Es.len Xs<=sizeLine)=true:=by rfl):JE X cA ao aj F EX (.List es pos) (.lst fz Xs):=⟨zka ha.o (oW hz)⟩
theorem zkd{j p1 j2 p3}{k:Str}{i:Int}:JE X cA ao aj F EX (.Dict [some (.Constant (.str k) j p1)] [.Constant (.int i) j2 p3] pos) (.su k i):=⟨zh2⟩
noncomputable def tQ:Expr->Bool
 |.Constant _ _ _=>true
 |.Name _ _=>true
 |.Call _ _ _ _=>true
 |.BinOp _ _ _ _=>true
 |.UnaryOp _ _ _=>true
 |.Subscript _ _ _=>true
 |.IfExp _ _ _ _=>true
 |.Attribute _ _ _=>true
 |.Compare _ _ _ _=>true
 |.BoolOp _ _ _=>true
 |_=>false
theorem jV(ha:JE X cA ao aj F EX a A)(hb:JE X cA ao aj F EX b B)(hs:tQ b=true:=by rfl):JE X cA ao aj F EX (.Subscript a b pos) (.pr true .ix (.cons A (.cons B .nil))):=⟨zl8 zlp ha.o hb.o (by cases b<;>first|(intro _ _;rfl)|cases hs)⟩
theorem Af:JO X cA ao aj F EX none .no:=⟨zlK⟩
theorem wz(ha:JE X cA ao aj F EX a A):JO X cA ao aj F EX (some a) (.yes A):=⟨zjl ha.o⟩
theorem yh{lo hi:Option Expr}{Lo Hi:Eo}(ha:JE X cA ao aj F EX a A)(hl:JO X cA ao aj F EX lo Lo)(hh:JO X cA ao aj F EX hi Hi):JE X cA ao aj F EX (.Subscript a (.Slice lo hi none p2) pos) (.sl fz A Lo Hi):=⟨zlC ha.o hl.o hh.o⟩
theorem zlH(ha:JE X cA ao aj F EX a A):JE X cA ao aj F EX (.Subscript a (.Slice none none (some (.UnaryOp .USub (.Constant (.int 1) j p3) p4)) p2) pos) (.pr true .rev (.cons A .nil)):=⟨zjK ha.o⟩
theorem zjn(f:Nat){cm:Bool}{k:Nat}{fa:Addr}{fd:FuncData}{ps:List Str}(Fo:dN X.prog X.w X.K X.mg X.base (jR X.prog X.w) cm k fa fd ps (tD X.K cA (F f)))(p7:cm=true->X.aj=true)(hr:bO k X.A)(hm:X.mg x=some (.ref fa))(hk:PySem.W.keepIn X.K (.ref fa)=true)(hb:Binds X.K fd ps [])(R:JR X EX)(hg:JK X x .globalImplicit)
  (ha:JA X cA ao aj F EX (e::es) Xs) (hd:okN x=true) (he:aD e=true:=by rfl) (bN:es.all aD=true:=by rfl) :
  JE X cA ao aj F EX (.Call (.Name x p) (e::es) [] pos) (.call f Xs):=⟨zh0 Fo p7 hr hg.o hm hk hb R.o ha.o (tK hd).1 (bC he) (bA bN)⟩
theorem tR{c:Nat}(hm:X.mg x=some (.ref (cA.a c)))(hg:JK X x .globalImplicit)(hd:okN x=true):JN X cA (.Name x pos) (.cls c):=⟨Uz hg.o hm rfl (tK hd).1⟩
theorem qO(hv:Cr cA kd=.ty T)(hm:X.mg x=none)(hb:bootBuiltins x=some (.type T))(hg:JK X x .globalImplicit)(hd:okN x=true):JN X cA (.Name x pos) kd:=⟨λak s Z H Q I h=>by
 rw[hv] at h;exact xu I hg.o hm hb ⟨.ty T,H,I,rfl,h⟩ (tK hd).2.2 (tK hd).1⟩
theorem jC(Cs:sY X.K cA ao)(hm:X.mg "isinstance"=none)(hg:JK X "isinstance" .globalImplicit)(ha:JE X cA ao aj F EX a A)(hk:JN X cA kx kd)(h1:aD a=true:=by rfl)(h2:aD kx=true:=by rfl):JE X cA ao aj F EX (.Call (.Name "isinstance" p) [a,kx] [] pos) (.fL A kd):=
 ⟨zkw (λ_=>Cs) hg.o hm ha.o hk.o (bC h1) (bC h2) (bA (by rw[mU,h2];rfl))⟩
theorem Hr(hm:X.mg "len"=none)(hg:JK X "len" .globalImplicit)(ha:JA X cA ao aj F EX (e::es) Xs)(he:aD e=true:=by rfl)(bN:es.all aD=true:=by rfl):JE X cA ao aj F EX (.Call (.Name "len" p) (e::es) [] pos) (.pr fz .len Xs):=⟨Kc zcD zju hg.o hm PySem.boot_len ha.o R4 R4 (bC he) (bA bN)⟩
theorem zjR(hc:X.aj=true)(hm:X.mg "max"=none)(hg:JK X "max" .globalImplicit)(ha:JA X cA ao aj F EX (e::es) Xs)(he:aD e=true:=by rfl)(bN:es.all aD=true:=by rfl):JE X cA ao aj F EX (.Call (.Name "max" p) (e::es) [] pos) (.pr fz .max2 Xs):=⟨Kc (zfo hc) ziM hg.o hm PyProof.Rows.boot_max ha.o R4 R4 (bC he) (bA bN)⟩
theorem zje(hm:X.mg "int"=none)(hg:JK X "int" .globalImplicit)(ha:JA X cA ao aj F EX (e::es) Xs)(he:aD e=true:=by rfl)(bN:es.all aD=true:=by rfl):JE X cA ao aj F EX (.Call (.Name "int" p) (e::es) [] pos) (.pr fz .vW Xs):=⟨Ke zeI zii hg.o hm PyProof.Rows.boot_int ha.o R4 R4 (bC he) (bA bN)⟩
theorem zgz(hm:X.mg "divmod"=none)(hg:JK X "divmod" .globalImplicit)(ha:JA X cA ao aj F EX (e::es) Xs)(he:aD e=true:=by rfl)(bN:es.all aD=true:=by rfl):JE X cA ao aj F EX (.Call (.Name "divmod" p) (e::es) [] pos) (.pr fz .divmod Xs):=⟨Kc zc7 zfJ hg.o hm PyProof.Rows.boot_divmod ha.o R4 R4 (bC he) (bA bN)⟩
theorem QL(hc:X.aj=true)(hm:X.mg "all"=none)(hg:JK X "all" .globalImplicit)(ha:JA X cA ao aj F EX (e::es) Xs)(he:aD e=true:=by rfl)(bN:es.all aD=true:=by rfl):JE X cA ao aj F EX (.Call (.Name "all" p) (e::es) [] pos) (.pr fz .all Xs):=⟨Kc (zfA hc) zj1 hg.o hm PyProof.Rows.boot_all ha.o R4 R4 (bC he) (bA bN)⟩
theorem Xg(hm:X.mg "list"=none)(hg:JK X "list" .globalImplicit)(ha:JA X cA ao aj F EX (e::es) Xs)(he:aD e=true:=by rfl)(bN:es.all aD=true:=by rfl):JE X cA ao aj F EX (.Call (.Name "list" p) (e::es) [] pos) (.pr fz .list Xs):=⟨Ke zcV ziC hg.o hm zhE ha.o R4 R4 (bC he) (bA bN)⟩
theorem zig(hm:X.mg "tuple"=none)(hg:JK X "tuple" .globalImplicit)(ha:JA X cA ao aj F EX (e::es) Xs)(he:aD e=true:=by rfl)(bN:es.all aD=true:=by rfl):JE X cA ao aj F EX (.Call (.Name "tuple" p) (e::es) [] pos) (.pr fz .tuple Xs):=⟨Ke zcg zhd hg.o hm Cy ha.o R4 R4 (bC he) (bA bN)⟩
theorem ziq{k:Nat}(hr:bO k X.A)(ho:JE X cA ao aj F EX a A)(ha:JA X cA ao aj F EX (e::es) Xs)(dz:attributeBase a "count" X.env (eval a X.env)=eval a X.env:=by rfl)(nJ:decide (es.length<28)=true:=by rfl)(jq:(apos.endLine==pos.line)=true:=by rfl)(hs:aD e=true:=by rfl)(cJ:es.all aD=true:=by rfl) :
  JE X cA ao aj F EX (.Call (.Attribute a "count" apos) (e::es) [] pos) (.meth true .count .list A Xs):=⟨WQ (k:=.list) PySem.F.plainAttrs_list PySem.F.slot_list_count PySem.F.type_list_count (zeW (by have:=hr.un;lia)) zgM ho.o ha.o dz (pI hs cJ nJ) jq (bC hs) (bA cJ)⟩
theorem zil(ho:JE X cA ao aj F EX a A)(ha:JA X cA ao aj F EX (e::es) Xs)(dz:attributeBase a "index" X.env (eval a X.env)=eval a X.env:=by rfl)(nJ:decide (es.length<28)=true:=by rfl)(jq:(apos.endLine==pos.line)=true:=by rfl)(hs:aD e=true:=by rfl)(cJ:es.all aD=true:=by rfl) :
  JE X cA ao aj F EX (.Call (.Attribute a "index" apos) (e::es) [] pos) (.meth true .index .list A Xs):=⟨WQ (k:=.list) PySem.F.plainAttrs_list PySem.F.slot_list_index PySem.F.type_list_index zft zgl ho.o ha.o dz (pI hs cJ nJ) jq (bC hs) (bA cJ)⟩
theorem CQ:JC X cA ao aj F EX [] .no:=⟨zkO⟩
theorem zlk(h:JT X cA ao aj F EX c C):JC X cA ao aj F EX [c] (.yes C):=⟨ziT h.o⟩
theorem Hs(ha:JE X cA ao aj F EX a A):JI X cA ao aj F EX tg a (.seq A):=⟨zk8 ha.o⟩
theorem zmD(hmg:X.mg "range"=none)(tG:JK X "range" .globalImplicit)(ha:JE X cA ao aj F EX a A)(hb:JE X cA ao aj F EX b B)(h1:aD a=true:=by rfl)(h2:aD b=true:=by rfl):JI X cA ao aj F EX tg (.Call (.Name "range" p) [a,b] [] pos) (.rg A B):=⟨zll tG.o hmg ha.o hb.o (bC h1) (bC h2)⟩
theorem Kp(hmg:X.mg "range"=none)(tG:JK X "range" .globalImplicit)(hb:JE X cA ao aj F EX b B)(h2:aD b=true:=by rfl):JI X cA ao aj F EX tg (.Call (.Name "range" p) [b] [] pos) (.rg (.c (.int 0)) B):=⟨zkh tG.o hmg hb.o (bC h2)⟩
noncomputable def Ht(scope:Scope)(x:Str):Bool:=match scope.names.lookup x with
 |some .local=>true
 |some .cell=>true
 |_=>false
theorem CT(h:Ht scope x=true):Loc (X.blk scope cl N Cc s3 H3 fp ak).env.scope x/\((X.blk scope cl N Cc s3 H3 fp ak).fn x=true\/(X.blk scope cl N Cc s3 H3 fp ak).env.scope.names.lookup x=some .local):=by
 unfold Ht at h;split at h
 ·rename_i z;exact⟨.inl (lookup_relabel_local z),.inr (lookup_relabel_local z)⟩
 ·rename_i z;exact⟨.inr (Qz (by intro y;cases y) z),.inl (by show (scope.names.lookup x==some NameKind.cell)=true;rw[z];rfl)⟩
 ·cases h
theorem CV(i:Nat)(uI:N.Nodup)(hi:N[i]?=some x)(hl:Ht scope x=true):JY (X.blk scope cl N Cc s3 H3 fp ak) (.Name x tp) (dI i):=
 ⟨Jv uI hi (CT hl).1 (CT hl).2⟩
theorem zmE(i j:Nat)(hc:X.aj=true)(uI:N.Nodup)(hi:N[i]?=some x)(hj:N[j]?=some y)(hl:Ht scope x=true)(rN:Ht scope y=true):JY (X.blk scope cl N Cc s3 H3 fp ak) (.Tuple [.Name x px,.Name y py] kt tp) (rD X.K 2 (gb (dI i) (gb (dI j) rC))):=
 ⟨W8 (X:=X.blk scope cl N Cc s3 H3 fp ak) hc uI hi hj (CT hl).1 (CT rN).1 (CT hl).2 (CT rN).2⟩
theorem Xh{scope:Scope}{XN:List Str}{M0 N:List Str}{fr:List Nat}(h:frB scope XN N fr=true):(M0++N).length=M0.length+fr.length/\∀(i:Nat) (y:Str) (j:Nat),(M0++N)[M0.length+i]?=some y->fr[i]?=some j->scope.names.lookup y=some .free/\XN[j]?=some y:=by
 obtain⟨l,q⟩:=W_ h;refine⟨by rw[eZ,l],λi y j e1 e2=>q i y j ?_ e2⟩;rw[m8 gV] at e1;rw[show M0.length+i-M0.length=i by lia] at e1;exact e1
theorem Ag{elt iter tg:Expr}{ifs:List Expr}{scope:Scope}{cond:Eo}{fC:List Nat}{g:TG}{w:Wk}(sc:Scope)(XN M0 N:List Str)(fr:List Nat)(hc:X.aj=true)(hsc:X.env.scope=sc)(Xi:X.N=XN)(hB:zY sc scope=true)(hf:frB scope XN N fr=true)(hT:qp X.K cA g fC)(iU:fC.all (λi=>decide (i<M0.length))=true)
  (hi:JI X cA ao aj F EX tg iter w) (hg:∀cl C s3 H3 fp ak,JY (X.blk scope cl (M0++N) C s3 H3 fp ak) tg g)
  (ht:∀cl C s3 H3 fp ak,JC (X.blk scope cl (M0++N) C s3 H3 fp ak) cA ao aj F (λ_ _ _ _=>False) ifs cond) (he:∀cl C s3 H3 fp ak,JE (X.blk scope cl (M0++N) C s3 H3 fp ak) cA ao aj F (λ_ _ _ _=>False) elt B)
  (hs:∀x,foldedSetIterable iter X.env x=pure x:=by intro _;rfl):JE X cA ao aj F EX (.ListComp elt [⟨tg,iter,ifs,0⟩] scope pos) (.comp fz B fC w fr M0.length cond):=
 ⟨ziL hc (gY.of (hsc▸hB)) hi.o (Xh (Xi▸hf)).1 (Xh (Xi▸hf)).2 (λa b c d e f=>(hg a b c d e f).o) hT (λi hi=>oW (iM.mp iU i hi)) (λa b c d e f=>(ht a b c d e f).o) (λa b c d e f=>(he a b c d e f).o) hs⟩
theorem qP:JR X (λ_ _ _ _=>False):=⟨zfW⟩
theorem cG{P:Program}{w:World}{K:W.Frag}{mg:Str->Option Value}{base:Heap}{N:List Str}{qual:Str}{scope:Scope}{f:Addr}{cd:Value}{A:Around}{outer:List Env}{s:Shared}{H:Hp}{E:XK}{cm:Bool} :
  JR (gK (jR P w) P w K mg base N qual scope f cd A outer s H E cm) (λ_ C dx H'=>E C dx H'):=⟨zen⟩
theorem Kq{CX:qL}{P:Program}{w:World}{K:W.Frag}{mg:Str->Option Value}{base:Heap}{N:List Str}{qual:Str}{scope:Scope}{f:Addr}{cd:Value}{A:Around}{outer:List Env}{s:Shared}{H:Hp}{E:XK}{cm:Bool} :
  JH (gK CX P w K mg base N qual scope f cd A outer s H E cm):=⟨PassesOwn.leaving⟩
end
section
variable {X:Cx}{cA:Cl}{ao:Nat->Nat->Bool}{aj:Bool}{F:Bool->Fn}{EX:XS}{a b c d e:Expr}{A B C:E}{pos p p2:Pos}{st:Stmt}{sts body orelse:List Stmt}{m:St}{ms mb me mh:bw}{es:List Expr}{Xs:Es}{x y n:Str}{k k':NameKind}
theorem Kr(h:JK X x k)(hv:tM k=true):Loc X.env.scope x:=by cases k<;>first|exact .inl h.o|exact .inr h.o|cases hv
theorem Ks(h:JK X x k)(hv:X.fn x=true\/k=.local):X.fn x=true\/X.env.scope.names.lookup x=some .local:=by
 rcases hv with hv|hv
 ·exact .inl hv
 ·subst hv;exact .inr h.o
theorem aV:JB X cA ao aj F EX [] .nil:=⟨zh7⟩
theorem aJ(h1:JS X cA ao aj F EX st m)(h2:JB X cA ao aj F EX sts ms):JB X cA ao aj F EX (st::sts) (.cons m ms):=⟨zgv h1.o h2.o⟩
theorem g_:JS X cA ao aj F EX st .no:=⟨zlo⟩
theorem jL(ha:JE X cA ao aj (F aj) EX a A)(hs:swapsWith a none pos.line X.env=pure false:=by rfl):JS X cA ao aj F EX (.Expr a pos) (.ex A):=⟨zlR ha.o hs⟩
theorem dJ(ha:JE X cA ao aj (F aj) EX a A):JS X cA ao aj F EX (.Return (some a) pos) (.ret A):=⟨zkF ha.o⟩
theorem jM(i:Nat)(hN:X.N.Nodup)(hi:X.N[i]?=some x)(hx:JK X x k)(hl:tM k=true)(ha:JE X cA ao aj (F aj) EX a A)(hs:swapsWith a (some (.Name x p)) pos.line X.env=pure false:=by rfl)(hf:X.fn x=true\/k=.local:=by first|exact .inl rfl|exact .inr rfl):JS X cA ao aj F EX (.Assign [.Name x p] a pos) (.asg (.nm i) A):=
 ⟨zjx hN hi (Kr hx hl) ha.o hs (Ks hx hf)⟩
theorem Ku(i j:Nat){k0}(hc:X.aj=true)(cF:aj=true)(hN:X.N.Nodup)(hi:X.N[i]?=some x)(hj:X.N[j]?=some y)(hx:JK X x k)(hy:JK X y k')(hlx:tM k=true)(hly:tM k'=true)(ha:JE X cA ao aj (F aj) EX a A)
  (Hf:X.fn x=true\/k=.local:=by first|exact .inl rfl|exact .inr rfl) (Hg:X.fn y=true\/k'=.local:=by first|exact .inl rfl|exact .inr rfl)
  (hs:swapsWithSole [.Tuple [.Name x px,.Name y py] k0 pt] a pos.line X.env=pure false:=by rfl) (hw:swappedStores [.Tuple [.Name x px,.Name y py] k0 pt] a X.env=pure none:=by rfl) (h1:(assignEach [.Tuple [.Name x px,.Name y py] k0 pt] X.env).map (·.2)=[assign (.Tuple [.Name x px,.Name y py] k0 pt) X.env]:=by rfl) :
  JS X cA ao aj F EX (.Assign [.Tuple [.Name x px,.Name y py] k0 pt] a pos) (.asg (.tp [i,j]) A):=⟨ziu hc cF hN hi hj (Kr hx hlx) (Kr hy hly) (Ks hx Hf) (Ks hy Hg) ha.o hs hw h1⟩
theorem Xj(hO:JE X cA ao aj (F aj) EX oo O)(hI:JE X cA ao aj (F aj) EX ii I')(ha:JE X cA ao aj (F aj) EX a A)
  (zW:∀v,assign (.Subscript oo ii p) X.env v=(do
   let obj <-holding [v] (eval oo X.env)
   let at_ <-holding [v,obj] (eval ii X.env)
   standAt p
   holding [v,obj,at_] (setItem obj at_ v)
   release [v,obj,at_] []):=by intro _;rfl) (hs:swapsWithSole [.Subscript oo ii p] a pos.line X.env=pure false:=by rfl) (hw:swappedStores [.Subscript oo ii p] a X.env=pure none:=by rfl)
  (h1:(assignEach [.Subscript oo ii p] X.env).map (·.2)=[assign (.Subscript oo ii p) X.env]:=by rfl):JS X cA ao aj F EX (.Assign [.Subscript oo ii p] a pos) (.asg (.ao O I') A):=⟨zkT hO.o hI.o ha.o zW hs hw h1⟩
theorem zl4(i j:Nat){kt k2 rE}(hc:X.aj=true)(cF:aj=true)(hN:X.N.Nodup)(hi:X.N[i]?=some x)(hj:X.N[j]?=some y)(jZ:i≠j)(hx:JK X x .local)(hy:JK X y .local)
  (ha:JE X cA ao aj (F aj) EX a A) (hb:JE X cA ao aj (F aj) EX b B) (hw:swappedStores [.Tuple [.Name x px,.Name y py] kt pt] (.Tuple [a,b] k2 rE) X.env=pure (some [x,y])) (h1:aD a=true:=by rfl) (h2:aD b=true:=by rfl)
  (hs:swapsWithSole [.Tuple [.Name x px,.Name y py] kt pt] (.Tuple [a,b] k2 rE) pos.line X.env=pure false:=by rfl):JS X cA ao aj F EX (.Assign [.Tuple [.Name x px,.Name y py] kt pt] (.Tuple [a,b] k2 rE) pos) (.par i j A B):=
 ⟨zj8 hc cF hN hi hj jZ hx.o hy.o ha.o hb.o (bC h1) (bC h2) hw hs⟩
theorem iW(hc:JT X cA ao aj (F aj) EX c C)(ht:JB X cA ao aj F EX body mb)(he:JB X cA ao aj F EX orelse me):JS X cA ao aj F EX (.If c body orelse pos) (.iff C mb me):=⟨zlJ hc.o ht.o he.o⟩
theorem Kv(i:Nat)(hN:X.N.Nodup)(hi:X.N[i]?=some x)(hx:JK X x k)(hl:tM k=true)(hf:X.fn x=true\/k=.local:=by first|exact .inl rfl|exact .inr rfl):JG X cA ao aj F EX (.Name x pos) (.nm i):=⟨zhF hN hi (Kr hx hl) (Ks hx hf)⟩
theorem Kw(hp:JH X)(hc:X.aj=true)(cF:aj=true)(ha:JI X cA ao aj (F aj) EX tg a w)(hg:JG X cA ao aj F EX tg t)(hb:JB X cA ao aj F EX body mb)(hs:∀x,foldedSetIterable a X.env x=pure x:=by intro _;rfl):JS X cA ao aj F EX (.For tg a body [] pos) (.fr t w mb):=
 ⟨zkn hp.o hc cF ha.o hg.o hb.o hs⟩
theorem Xk(i:Nat)(cF:aj=true)(hex:X.ex=[])(o_:X.stack=X.env::X.outer/\X.env.frame=some X.env.locals)(hg:JK X x .globalImplicit)(hm:X.mg x=some (.ref (cA.a dc)))(hN:X.N.Nodup)(hi:X.N[i]?=some n)(hl:JK X n .local)
  (hsub:∀c,ao c dc=true->subIn X.K (cA.a c) (cA.a dc)=true)
  (hb:∀(pn:List (Addr×Obj)) (E':Value->Shared->Prop) (qM:XS),JR (X.seen X.A X.aj pn E') qM->JH (X.seen X.A X.aj pn E')->JB (X.seen X.A X.aj pn E') cA ao aj F qM body mb)
  (hh:∀e:Value,JB (X.seen (X.A.mark (some e)) false X.pn (λ_ _=>False)) cA ao false F (λ_ _ _ _=>False) (b₀::suite) mh) (hd:okN x=true) :
  JS X cA ao aj F EX (.Try body [.ExceptHandler (some (.Name x np)) (some n) (b₀::suite) rP] [] [] pos) (.qe mb dc i mh):=
 ⟨zkj cF hex o_ hg.o hm hN hi hl.o hsub (λpn E' qM R H=>(hb pn E' qM ⟨R⟩ ⟨H⟩).o) (λe=>(hh e).o) (tK hd).1⟩
end
theorem zi8{P:Program}{w:World}{K:W.Frag}{mg:Str->Option Value}{base:Heap}{cA:Cl}{ao:Nat->Nat->Bool}{T:Nat->Option Df}{x qual:Str}{st:Stmt}{f:Addr}{fd:FuncData}{N ps:List Str}{k n:Nat}{cm:Bool}{df:Df}(F:uO K x qual st f fd)(S:fj N ps (aA st))(hT:T n=some df)(hp:df.gD=ps.length)(hm:df.many=N.length)
  (hb:∀(cdv:Value) (A:Around) (outer:List Env) (s:Shared) (H:Hp) (E:XK),bO k (A.deeper (envOfC qual (aA st) s.heap.objs.size f cdv))->
   JB (gK (jR P w) P w K mg base N qual (aA st) f cdv A outer s H E cm) cA ao cm (λc=>call ao T k c) (λ_ C dx H'=>E C dx H') (aK st) df.body) :
  dN P w K mg base (jR P w) cm (k+1) f fd ps (tD K cA (call ao T (k+1) cm n)):=zjM F S hT hp hm λcdv A outer s H E hr=>(hb cdv A outer s H E hr).o
end Mi
namespace Mi
open PySem PySem.Spec PyProof.Rows L2 PySem.W
theorem zjk{fd:FuncData}{x:Str}{st:Stmt}(h:qK fd=uD x st):fd=fnOf x x (aQ st) (aK st) (aA st) .none fd.kwdefaults fd.doc fd.pyModule fd.annotations fd.code fd.closureTuple:=by
 cases fd;unfold qK uD at h;cases h;rfl
noncomputable def iJ(K:Frag)(x:Str):Addr:=match yI K x with
 |some p=>p.1
 |none=>0
noncomputable def fdOf(K:Frag)(x:Str)(st:Stmt):FuncData:=match yI K x with
 |some p=>p.2
 |none=>uD x st
structure FnAt(K:Frag)(x:Str)(st:Stmt):Prop where
 ns:nsIn K mainGlobals x=some (some (.ref (iJ K x)))
 fn:uO K x x st (iJ K x) (fdOf K x st)
theorem zli{K:Frag}{x:Str}{st:Stmt}(h:(yI K x).map (λp=>qK p.2)=some (uD x st)):FnAt K x st:=by
 cases e:yI K x with
 |none=>rw[e] at h;cases h
 |some p=>
  rw[e] at h;have hp:qK p.2=uD x st:=cI h;have h1:iJ K x=p.1:=by unfold iJ;rw[e]
  have h2:fdOf K x st=p.2:=by unfold fdOf;rw[e]
  unfold yI at e;split at e
  ·rename_i f hf;split at e
   ·rename_i oc od fd sl hl;split at e
    ·rename_i hc;cases e;rw[cO] at hc;refine⟨by rw[h1];exact hf,?_⟩;rw[h1,h2];exact⟨⟨oc,od,_,_,_,_,_,_,sl,zjk hp,hl,hc.1⟩,hc.2⟩
    ·cases e
   ·cases e
  ·cases e
theorem FnAt.m{K:Frag}{x:Str}{st:Stmt}(F:FnAt K x st){h:Heap}{mg:Str->Option Value}(X:K.In h)(G:h.Ns mainGlobals mg):mg x=some (.ref (iJ K x)):=mg_of X G F.ns
theorem qQ{K:Frag}{x:Str}(h:vf K x=true){hp:Heap}{mg:Str->Option Value}(X:K.In hp)(G:hp.Ns mainGlobals mg):mg x=some (.ref (yJ K x)):=by
 refine mg_of X G ?_;unfold vf at h;unfold yJ;split at h
 ·rename_i C e;rw[e]
 ·cases h
theorem QM{K:Frag}{x:Str}{i:Int}(h:kZ K (x,i)=true){hp:Heap}{mg:Str->Option Value}(X:K.In hp)(G:hp.Ns mainGlobals mg):∃t,mg x=some (.int i t):=by
 unfold kZ at h;split at h
 ·rename_i j t e;rw[Du] at h;subst h;exact⟨t,mg_of X G e⟩
 ·cases h
theorem oH{K:Frag}{x:Str}(h:oZ K x=true){hp:Heap}{mg:Str->Option Value}(X:K.In hp)(G:hp.Ns mainGlobals mg):mg x=none:=by
 refine mg_none_of X G ?_;unfold oZ at h;split at h
 ·rename_i e;exact e
 ·cases h
structure yj(l:Lk)(K:Frag):Prop where
 cl:∀x∈l.DP,vf K x=true
 cs:l.DP.isEmpty=true\/oY K (l.L K)=true
 ra:∀k∈l.Ui,DN K (dh (l.L K) k)=true
 ca:∀k∈l.Uj,subB K (l.L K) k=true
 it:∀p∈l.yK,kZ K p=true
 no:∀x∈l.Uh,oZ K x=true
theorem Kaa{l:Lk}{K:Frag}(h:l.good K=true):yj l K:=by
 unfold Lk.good at h;simp only[cO,Bool.or_eq_true,iM] at h;obtain⟨⟨⟨⟨⟨h1,h2⟩,h3⟩,h4⟩,h5⟩,h6⟩:=h;exact⟨h1,h2,h3,h4,h5,h6⟩
theorem wA{K:Frag}{x:Str}{st:Stmt}{f:Addr}{fd:FuncData}{p:Str}(F:uO K x x st f fd)(h:∀(kV doc pm:Value) (an:Option Addr) (cdv ct a:Value),bindArgs (fnOf x x (aQ st) (aK st) (aA st) .none kV doc pm an cdv ct) ⟨[a],[]⟩=pure [(p,a)]):Binds K fd [p] []:=by
 obtain⟨oc,od,kV,doc,pm,an,cdv,ct,osl,rfl,lk,lA⟩:=F.ex;exact zZ (h kV doc pm an cdv ct)
theorem wB{K:Frag}{x:Str}{st:Stmt}{f:Addr}{fd:FuncData}{p q:Str}(F:uO K x x st f fd)(h:∀(kV doc pm:Value) (an:Option Addr) (cdv ct a b:Value),bindArgs (fnOf x x (aQ st) (aK st) (aA st) .none kV doc pm an cdv ct) ⟨[a,b],[]⟩=pure [(p,a),(q,b)]):Binds K fd [p,q] []:=by
 obtain⟨oc,od,kV,doc,pm,an,cdv,ct,osl,rfl,lk,lA⟩:=F.ex;exact z_ (h kV doc pm an cdv ct)
theorem wC{K:Frag}{x:Str}{st:Stmt}{f:Addr}{fd:FuncData}{p q t:Str}(F:uO K x x st f fd)(h:∀(kV doc pm:Value) (an:Option Addr) (cdv ct a b c:Value),bindArgs (fnOf x x (aQ st) (aK st) (aA st) .none kV doc pm an cdv ct) ⟨[a,b,c],[]⟩=pure [(p,a),(q,b),(t,c)]):Binds K fd [p,q,t] []:=by
 obtain⟨oc,od,kV,doc,pm,an,cdv,ct,osl,rfl,lk,lA⟩:=F.ex;exact Aa (h kV doc pm an cdv ct)
theorem wD{K:Frag}{x:Str}{st:Stmt}{f:Addr}{fd:FuncData}{p q t u:Str}(F:uO K x x st f fd)(h:∀(kV doc pm:Value) (an:Option Addr) (cdv ct a b c d:Value),bindArgs (fnOf x x (aQ st) (aK st) (aA st) .none kV doc pm an cdv ct) ⟨[a,b,c,d],[]⟩=pure [(p,a),(q,b),(t,c),(u,d)]):Binds K fd [p,q,t,u] []:=by
 obtain⟨oc,od,kV,doc,pm,an,cdv,ct,osl,rfl,lk,lA⟩:=F.ex;exact Ab (h kV doc pm an cdv ct)
theorem Ah{K:Frag}{x:Str}{st:Stmt}{f:Addr}{fd:FuncData}{p:Str}(F:uO K x x st f fd)(h:∀(kV doc pm:Value) (an:Option Addr) (cdv ct a:Value),bindArgs (fnOf x x (aQ st) (aK st) (aA st) .none kV doc pm an cdv ct) ⟨[a],[]⟩=pure [(p,a)]):∀(s:Shared) (u:Value),BindsTo s fd ⟨[u],[]⟩ [(p,u)]:=by
 obtain⟨oc,od,kV,doc,pm,an,cdv,ct,osl,rfl,lk,lA⟩:=F.ex;exact λs u=>.of_eq (h kV doc pm an cdv ct u)
end Mi
namespace Mi
open PySem PySem.Spec PyProof.Rows L2
section
variable {K:W.Frag}{cA:Cl}{U:Ph}{H:Hp}
theorem aB.Hu(r:aB K cA U H xs ys):∀l:List Nat,aB K cA U H (l.map λi=>xs.getD i .non) (l.map λi=>ys.getD i .non)
 |[]=>.nil
 |i::l=>by
  refine .cons ?_ (aB.Hu r l);show Rep K cA U H (xs.getD i .non) (ys.getD i .non);cases e:xs[i]? with
  |some x=>
   obtain⟨u,e1,e2⟩:=r.get e;rw[kW,kW,e,e1];exact e2
  |none=>
   have e1:ys[i]?=Option.none:=r.none e;rw[kW,kW,e,e1];exact .non
end
section
variable {X:Cx}{cA:Cl}{ao:Nat->Nat->Bool}{aj:Bool}{F:Fn}{EX:XS}{e:Expr}{pos p:Pos}{es:List Expr}{Xs:Es}{fz:Bool}
theorem zdb:bootBuiltins "sorted"=some (.builtin "sorted"):=by decide +kernel
end
section
variable {X:Cx}{cA:Cl}{ao:Nat->Nat->Bool}{aj:Bool}{F:Fn}{EX:XS}{a b:Expr}{A B:E}{pos pp tpos:Pos}{elts:List Expr}{kk:Nat}
noncomputable def Ai(f:Nat->List Str)(cs:List Nat)(i:Nat)(x:Str):Bool:=cs.all λc=>(f c)[i]?==some x
theorem Xl:∀(ns:List Str) (vs:List V),((ns.zip vs).map (·.1)).Sublist ns
 |[],vs=>by simp
 |n::ns,[]=>by simp
 |n::ns,v::vs=>by
  rw[Bl,jE];exact(Xl ns vs).cons₂ n
theorem zef:∀{ns:List Str} {vs:List V} {i:Nat} {x:Str} {v:V},ns.Nodup->ns[i]?=some x->vs[i]?=some v->(ns.zip vs).lookup x=some v
 |ns,vs,i,x,v,hn,h1,h2=>by
  refine O7 ?_ (VR h1 h2);exact List.Sublist.nodup (Xl ns vs) hn
theorem zk5(hf:Ai cA.f cs i x=true)(hn:∀c∈cs,(cA.f c).Nodup)(hX:∀c∈cs,XF X.K (cA.a c) x)(ha:SE X cA ao aj F EX a A)(hb:attributeBase a x X.env (eval a X.env)=eval a X.env) :
  SE X cA ao aj F EX (.Attribute a x pos) (.fld A cs i):=PE.weak (zl3 ha hb) λZ H Q hh=>un hh λU J s hL hS h=>by
 refine bx hL hS h λy H2 U2 d2 s2 x2 hL2 aU r2 h2=>?_;cases r2 with
 |l _=>exact h2.elim
 |d r2=>
  cases r2 with
  |@exc ad c xs vs q r=>
   by_cases hc:cs.contains c=true
   ·have hm:c∈cs:=List.contains_iff_mem.mp hc;have h3:Run X.K cA (M.opt (xs[i]?.map Xv.d)) U2 H2 s2 (λd x U' H'=>∀(v:V),bB X.K cA U' H' d v->Q v H') (eX X.K cA EX Z):=by
     have h2':=h2;dsimp only at h2';rw[if_pos hc] at h2';exact h2'
    cases ex:xs[i]? with
    |none=>rw[ex] at h3;exact h3.elim
    |some dd=>
     rw[ex] at h3;obtain⟨v,e1,rv⟩:=r.get ex;unfold Ai at hf;rw[iM] at hf;have e2:(cA.f c)[i]?=some x:=by simpa using hf c hm
     rcases q.2 with ⟨z,_,_⟩|⟨dx,q1,q2,q3,q4⟩
     ·rw[z] at e2;cases e2
     ·exact⟨ad,_,dx,_,v,rfl,q1,q3,hX c hm,zef (hn c hm) e2 e1,(h3.bF aU) v (.d rv)⟩
   ·have h2':=h2;dsimp only at h2';rw[if_neg hc] at h2';exact h2'.elim
  |_=>exact h2.elim
end
section
variable {X:Cx}{cA:Cl}{ao:Nat->Nat->Bool}{aj:Bool}{F:Bool->Fn}{EX:XS}{e:Expr}{es:List Expr}{Xs:Es}{pos p:Pos}{x:Str}
theorem zeH{k cc:Nat}{ar:Arguments}{bd:List Stmt}{sc:Scope}{apos:Pos}(hr:bO k X.A)(hc:X.aj=true)(cF:aj=true)(IO:ju X.K (cA.a cc) ar bd sc (cA.f cc))(hl:Es.len Xs=(cA.f cc).length)(hg:Gl X x)(hm:X.mg x=some (.ref (cA.a cc)))
  (R:Raises X EX) (ha:SA X cA ao aj (F aj) EX (e::es) Xs) (hz:Es.len Xs<=sizeLine) (lB:(x==("__debug__" : Str))=false:=by decide) (he:starEach (e::es) X.env=(false,eval e X.env)::starEach es X.env:=by rfl) (bN:(backTo apos (starEach es X.env)).any (·.1)=false:=by rfl) :
  SS X cA ao aj F EX (.Raise (some (.Call (.Name x p) (e::es) [] apos)) none pos) (.rise cc true Xs):=PS.weak (zf1 hr hc IO hg hm R ha lB he bN) λD Z H hh=>un hh λU J s hL hS h=>by
 have h:aN X.K cA (if aj=true then ofM (M.bd (evs ao aj (F aj) Xs J) dR) J (λds s=>some (.er cc (if true=true then ds else []) J,s)) else λ_=>none) U H s D EX:=h;rw[if_pos cF] at h;refine zT hL hS (aN.ofM hL hS.lz h) λvs H1 U1 xs s1 Hv x1 hL1 aL rv h1=>?_;have h1:Run X.K cA (M.bd (dR xs) M.ret) U1 H1 s1 (λa s1 U1 H1=>Ext U H U1 H1/\aC X.K cA U1 H1 s1/\aN X.K cA (λs=>some (.er cc (if true=true then a else []) J,s)) U1 H1 s1 D EX) (eX X.K cA EX Z):=by
  unfold Run at h1 ⊢;unfold M.bd;cases e1:dR xs s1 with
  |none=>rw[e1] at h1;exact h1
  |some r=>
   obtain⟨r,s2⟩:=r;rw[e1] at h1;cases r with
   |er c f=>exact h1
   |ok ds=>exact h1
 obtain⟨ds,e1,rs,h2⟩:=Qd rv h1;obtain⟨_,_,h3⟩:=h2.bF aL;have Xm:vs.length=(cA.f cc).length:=by rw[<-rv.len,Hv];exact hl
 refine⟨Xm,by rw[<-rv.len,Hv];exact hz,λd hd=>?_⟩;have g:bD H1 (upd H1 d (.xd ((cA.f cc).zip vs))):=bD.new hd;exact h3 U1 _ Z g.ext (aL.grow g) (hL1.mono g.ext aL.lz) (some d) (.inr ⟨d,vs,rfl,aL.nz hd,jN,Xm.symm,rs.mono g.ext aL.lz⟩)
theorem zgy{k cc:Nat}{kk:NameKind}{ar:Arguments}{bd:List Stmt}{sc:Scope}{apos:Pos}(hr:bO k X.A)(hc:X.aj=true)(cF:aj=true)(IO:ju X.K (cA.a cc) ar bd sc (cA.f cc))(hm:X.mg x=some (.ref (cA.a cc)))(hg:JK X x .globalImplicit)
  (R:JR X EX) (ha:JA X cA ao aj (F aj) EX (e::es) Xs) (hd:okN x=true) (hl:decide (Es.len Xs=(cA.f cc).length)=true:=by rfl) (hz:decide (Es.len Xs<=sizeLine)=true:=by rfl) (he:aD e=true:=by rfl) (bN:es.all aD=true:=by rfl) :
  JS X cA ao aj F EX (.Raise (some (.Call (.Name x p) (e::es) [] apos)) none pos) (.rise cc true Xs):=⟨zeH hr hc cF IO (oW hl) hg.o hm R.o ha.o (oW hz) (tK hd).1 (bC he) (bA bN)⟩
end
section
variable {X:Cx}{cA:Cl}{ao:Nat->Nat->Bool}{aj:Bool}{F:Fn}{EX:XS}{a b:Expr}{A B:E}{pos p tpos:Pos}{elts:List Expr}{kk:Nat}
theorem Ky(hX:∀c∈cs,XF X.K (cA.a c) x/\(cA.f c).Nodup)(ha:JE X cA ao aj F EX a A)(hf:Ai cA.f cs i x=true:=by decide +kernel)(hb:attributeBase a x X.env (eval a X.env)=eval a X.env:=by rfl) :
  JE X cA ao aj F EX (.Attribute a x pos) (.fld A cs i):=⟨zk5 hf (λc hc=>(hX c hc).2) (λc hc=>(hX c hc).1) ha.o hb⟩
end
end Mi
namespace Mi
open PySem PySem.Spec PyProof.Rows L2 PySem.W
theorem zih{fd:FuncData}{q:Str}{st:Stmt}(h:qK fd=yL q st):fd=fnOf "__init__" q (aQ st) (aK st) (aA st) .none fd.kwdefaults fd.doc fd.pyModule fd.annotations fd.code fd.closureTuple:=by
 cases fd;unfold qK yL at h;cases h;rfl
structure Aj(K:Frag)(C:Addr)(q:Str)(st:Stmt):Prop where
 ex:∃(fI:Addr) (od:Option Addr) (kV doc pm:Value) (an:Option Addr) (cdv ct:Value) (osl:Array (Option Value)) (cd:ClassData),
  K.lookup fI=some ⟨.type "function",od,.func (fnOf "__init__" q (aQ st) (aK st) (aA st) .none kV doc pm an cdv ct),osl⟩/\codeIn K cdv q=true/\je K C fI=true/\clsIn K C=some cd/\aY cd.mro=true/\cd.hasDict=true
theorem zly{K:Frag}{C:Addr}{q:Str}{st:Stmt}(h:(DQ K C).map qK=some (yL q st)):Aj K C q st:=by
 cases e:DQ K C with
 |none=>rw[e] at h;cases h
 |some fd=>
  rw[e] at h;have hp:qK fd=yL q st:=cI h;unfold DQ at e;split at e
  ·rename_i cd lA;split at e
   ·rename_i f hf;split at e
    ·rename_i od fd' sl hl;split at e
     ·rename_i hc;cases e;simp only[cO] at hc;obtain⟨⟨⟨c1,c2⟩,c3⟩,c4⟩:=hc;have eq:=zih hp;have qn:fd.qualname=q:=by rw[eq]
      refine⟨⟨f,od,fd.kwdefaults,fd.doc,fd.pyModule,fd.annotations,fd.code,fd.closureTuple,sl,cd,?_,by rw[<-qn];exact c1,c2,lA,c3,c4⟩⟩;rw[<-eq];exact hl
     ·cases e
    ·cases e
   ·cases e
  ·cases e
structure tU(q:Str)(st:Stmt)(fs:List Str):Prop where
 bind:∀(kV doc pm:Value) (an:Option Addr) (cdv ct:Value) (us:List Value),us.length=fs.length+1->bindArgs (fnOf "__init__" q (aQ st) (aK st) (aA st) .none kV doc pm an cdv ct) ⟨us,[]⟩=pure (((("self" : Str))::fs).zip us)
 nd:(("self" : Str)::fs).Nodup
 ne:fs≠[]
 few:fs.length<=900
 body:gA "self" (aK st) fs=true
 nP:∀x∈(aA st).names,x.2≠.cell
 loc:∀f∈(("self" : Str)::fs),(aA st).names.lookup f=some .local/\(f==("__debug__" : Str))=false
 co:(aA st).isCoroutine=false
 gen:(aA st).isGenerator=false
 kind:(aA st).kind=.function
noncomputable def Xn(sc:Scope)(fs:List Str):Bool:=sc.names.all (λx=>match x.2 with|.cell=>false|_=>true)&&(("self" : Str)::fs).all (λf=>(match sc.names.lookup f with|some .local=>true|_=>false) && !(f==("__debug__" : Str)))
theorem tU.of{q:Str}{st:Stmt}{fs:List Str}(bind:∀(kV doc pm:Value) (an:Option Addr) (cdv ct:Value) (us:List Value),us.length=fs.length+1->bindArgs (fnOf "__init__" q (aQ st) (aK st) (aA st) .none kV doc pm an cdv ct) ⟨us,[]⟩=pure (((("self" : Str))::fs).zip us))(nd:(("self" : Str)::fs).Nodup)(ne:fs≠[])(few:fs.length<=900)(body:gA "self" (aK st) fs=true)
  (sc:Xn (aA st) fs=true) (co:(aA st).isCoroutine=false) (gen:(aA st).isGenerator=false) (kind:(aA st).kind=.function):tU q st fs:=by
 unfold Xn at sc;rw[cO,iM,iM] at sc;refine⟨bind,nd,ne,few,body,λx hx z=>?_,λf hf=>?_,co,gen,kind⟩
 ·have:=sc.1 x hx;rw[z] at this;cases this
 ·have:=sc.2 f hf;rw[cO,Mj] at this;refine⟨?_,this.2⟩;have h1:=this.1;split at h1
  ·assumption
  ·cases h1
theorem ziW{K:Frag}{C:Addr}{q:Str}{st:Stmt}{fs:List Str}(a:Aj K C q st)(t:tU q st fs)(s:setB K C fs=true):ju K C (aQ st) (aK st) (aA st) fs:=by
 obtain⟨fI,od,kV,doc,pm,an,cdv,ct,osl,cd,h1,h2,h3,h4,h5,h6⟩:=a.ex;unfold setB at s;rw[cO,iD,iM] at s;exact⟨⟨fI,od,kV,doc,pm,an,cdv,ct,osl,q,cd,h1,h2,h3,h4,h5,h6,λus hl=>t.bind kV doc pm an cdv ct us hl⟩,s.1,t.nd,t.ne,t.few,t.body,t.nP,t.loc,λf hf=>iD.mp (s.2 f hf),t.co,t.gen,t.kind⟩
theorem zlY{K:Frag}{C:Addr}{f:Str}(h:Jl K C f=true):XF K C f:=by
 unfold Jl at h;simp only[cO,iD] at h;obtain⟨⟨⟨⟨h1,h2⟩,h3⟩,h4⟩,h5⟩:=h;exact⟨h1,h2,h3,h4,h5⟩
structure h_(fs:List (Str×Stmt))(ms:List vh)(xs:List (Nat×Str))(l:Lk)(K:Frag):Prop where
 fn:∀p∈fs,FnAt K p.1 p.2
 gd:yj l K
 mi:∀m∈ms,Aj K (dh (l.L K) m.c) m.q m.st
 se:∀m∈ms,setB K (dh (l.L K) m.c) m.fs=true
 xf:∀x∈xs,XF K (dh (l.L K) x.1) x.2
theorem QS{a:Nat}{o:Obj}:∀{l:List Obj} {i:Nat},((a:Addr),o)∈DR i l->i<=a/\l[a-i]?=some o/\o.isFreed=false
 |[],i,h=>by cases h
 |p::r,i,h=>by
  unfold DR at h;split at h
  ·obtain⟨h1,h2,h3⟩:=QS h;refine⟨by lia,?_,h3⟩;rw[show a-i=(a-(i+1))+1 by lia];exact h2
  ·rename_i hf;rcases cV.mp h with e|h
   ·cases e;exact⟨bT _,by simp,hf⟩
   ·obtain⟨h1,h2,h3⟩:=QS h;refine⟨by lia,?_,h3⟩;rw[show a-i=(a-(i+1))+1 by lia];exact h2
theorem Xo:∀{K:Frag},K.lookup a=some o->(a,o)∈K
 |[],h=>by cases h
 |(b,p)::r,h=>by
  rw[lW] at h;by_cases e:a=b
  ·subst e;simp only[wQ] at h;cases h;exact dM
  ·rw[show (a==b)=false by simpa using e] at h;exact dF _ (Xo h)
theorem zgj:(bV h).In h:=λa o e=>by
 have hm:=Xo e;unfold bV at hm;rcases fX.mp hm with z|z
 ·unfold o7 at z;split at z
  ·rename_i p hp;rcases cV.mp z with e|z
   ·cases e;exact hp
   ·cases z
  ·cases z
 ·obtain⟨_,h2,h3⟩:=QS (List.mem_reverse.mp z);rw[Heap.get?_some_iff];refine⟨?_,h3⟩;have:h.objs.toList[a]?=some o:=by simpa using h2
  simpa using this
noncomputable def kE(fs:List (Str×Stmt))(ms:List vh)(xs:List (Nat×Str))(l:Lk):Hook where
 α:=List (Option FuncData)×List (Option FuncData)×Bool
 obs:=pX fs ms xs l
 val:=rm fs ms
 says:=λ_ h=>∃K:Frag,K.In h/\h_ fs ms xs l K
 of:=λw s e=>by
  have e3:(_&&_&&_)=true:=pU (λx=>x.2.2) e;rw[cO,cO,iM,iM] at e3;refine⟨bV s.heap,zgj,⟨λp hp=>?_,Kaa e3.1.1,λm hm=>?_,e3.1.2,λx hx=>zlY (e3.2 x hx)⟩⟩
  ·have e1:=pU Prod.fst e;exact zli (List.map_inj_left.mp e1 p hp)
  ·have e1:=pU (λx=>x.2.1) e;exact zly (List.map_inj_left.mp e1 m hm)
 keeps:=λw h h' ⟨K,X,Y⟩ k=>⟨K,X.keeps k,Y⟩
theorem Hw{l:OpenLaw}{k:Nat}{q:Program}{loose:List Str}{XP:(Str->Option Value)->Heap->Prop}{fs:List (Str×Stmt)}{ms:List vh}{xs:List (Nat×Str)}{lk:Lk}{d:DefRec}{x:Str}(hn:l.most=some 63)(N5:d.params.defaults=[])(hr:bO k callerA)
  (F:∀(w:World) (K:Frag) (mg:Str->Option Value) (fa:Addr) (h:Heap),h_ fs ms xs lk K->K.In h->h.Ns mainGlobals mg->mg d.name=some (.ref fa)->
   ∃fd:FuncData,(∀(s:Shared) (u:Value),BindsTo s fd ⟨[u],[]⟩ [(x,u)])/\∀base:Heap,K.In base->base.Ns mainGlobals mg->dN l.prog w K mg base (jR l.prog w) true k fa fd [x] (tL K)) :
  WalkO q loose XP (kE fs ms xs lk).says l.row.toRowW d [] (λf vs=>PySem.call f vs):=by
 refine Vm.mz hn N5 λw s₀ s₁ mg mb fa o pm cd doc a vs ns G Y ho hd lA hmg zp hints hlen hg=>?_;obtain⟨K,KX,SY⟩:=Y;obtain⟨fd,hb,hF⟩:=F w K mg fa _ SY KX G.T.g hmg;exact zgH KX G.T.g G.T.b G.T.builtins G.T.nolimit hg zp hints (mV hlen R4) hr hF hb (λH hO hS=>⟨a,ns,rfl,hS,hlen,hO,λ_=>rfl⟩) λH e s' h=>by
  obtain⟨_,_,_,_,_,_,_,_,_,_,z⟩:=h;exact z
theorem bind1{f:List Value->Sem (List (Str×Value))}{a b:Str}(h:∀x y,f [x,y]=pure [(a,x),(b,y)])(us:List Value)(hl:us.length=[b].length+1):f us=pure ([a,b].zip us):=by
 cases us with
 |nil=>cases hl
 |cons x t=>
  cases t with
  |nil=>cases hl
  |cons y t=>
   cases t with
   |nil=>exact h x y
   |cons z t=>cases hl
end Mi
namespace Mi
open PySem PySem.Spec PyProof.Rows L2
section
variable {K:W.Frag}{cA:Cl}{U:Ph}{H:Hp}
noncomputable def iu(K:W.Frag)(U:Ph)(H:Hp):Bool->Addr->List V->Prop
 |true,a,vs=>LstAt K U H a vs
 |false,a,vs=>TupAt K U H a vs
theorem iu.sk{kd:Bool}{a:Addr}{vs:List V}(h:iu K U H kd a vs):Sk kd K H a vs:=by
 cases kd
 ·exact TupAt.jU h
 ·exact LstAt.uL h
theorem iu.later{kd:Bool}{a:Addr}{vs:List V}{U':Ph}{H₁ H':Hp}(hz:∀a∈U.l,U.z a)(h:iu K U H kd a vs)(x:Ext U H U' H₁)(o:dU U' H₁ H'):iu K U' H' kd a vs:=by
 cases kd
 ·exact TupAt.later hz h x o
 ·exact LstAt.later hz h x o
theorem QT{xs ys:List D}{i:Nat}:(List.zipWith (λp q=>D.tup [p,q]) xs ys)[i]?=match xs[i]?,ys[i]? with
  |some p,some q=>some (.tup [p,q])
  |_,_=>none:=by
 rw[List.getElem?_zipWith];cases xs[i]?<;>cases ys[i]?<;>rfl
theorem mJ.zip{k1 k2:Bool}{l1 l2:Addr}{xs ys:List D}{us vs:List V}(hz:∀a∈U.l,U.z a)(h1:iu K U H k1 l1 us)(h2:iu K U H k2 l2 vs)(r1:aB K cA U H xs us)(r2:aB K cA U H ys vs):mJ K cA (.fix (List.zipWith (λp q=>D.tup [p,q]) xs ys)) U H (Pg K k1 k2 l1 l2):=by
 refine⟨λU' H₁ H' s' i x o hS e=>?_,λU' H₁ H' s' i d x o hS e=>?_,λU' H₁ H' s' i d v H2 x o hS e y=>?_⟩
 ·have e:(List.zipWith (λp q=>D.tup [p,q]) xs ys)[i]?=none:=cI e;rw[QT] at e;refine⟨us,vs,(h1.later hz x o).sk,(h2.later hz x o).sk,?_⟩;cases ex:xs[i]? with
  |none=>exact .inl (oV.mp (r1.none ex))
  |some p=>
   cases ey:ys[i]? with
   |none=>exact .inr (oV.mp (r2.none ey))
   |some q=>rw[ex,ey] at e;cases e
 ·have e:(List.zipWith (λp q=>D.tup [p,q]) xs ys)[i]?=some d:=cI e;rw[QT] at e;cases ex:xs[i]? with
  |none=>rw[ex] at e;cases e
  |some p=>
   cases ey:ys[i]? with
   |none=>rw[ex,ey] at e;cases e
   |some q=>
    obtain⟨u,q1,_⟩:=r1.get ex;obtain⟨v,q2,_⟩:=r2.get ey;exact⟨us,vs,u,v,(h1.later hz x o).sk,(h2.later hz x o).sk,q1,q2⟩
 ·have e:(List.zipWith (λp q=>D.tup [p,q]) xs ys)[i]?=some d:=cI e;rw[QT] at e;cases ex:xs[i]? with
  |none=>rw[ex] at e;cases e
  |some p=>
   cases ey:ys[i]? with
   |none=>rw[ex,ey] at e;cases e
   |some q=>
    rw[ex,ey] at e;cases e;obtain⟨a,u,w,hn,rfl,rfl,hu,hw⟩:=y;obtain⟨u',q1,ru⟩:=((r1.mono x hz).out o).get ex;obtain⟨w',q2,nD⟩:=((r2.mono x hz).out o).get ey;have e1:=hu us (h1.later hz x o).sk;have e2:=hw vs (h2.later hz x o).sk;rw[q1] at e1;rw[q2] at e2;cases e1;cases e2;have g:bD H' (upd H' a (.tup [u,w])):=bD.new hn;exact⟨g,.tup (.inl ⟨.inl jN,hS.nz hn⟩) (.cons (ru.mono g.ext hS.lz) (.cons (nD.mono g.ext hS.lz) .nil))⟩
theorem Xp(r:bB K cA U H x v)(h:Run K cA (M.bd (n_ x) k) U H s P Ee) :
  ∃xs kd a vs,v=.ref a/\iu K U H kd a vs/\aB K cA U H xs vs/\Run K cA (k xs) U H s P Ee:=by
 cases r with
 |l _=>exact h.elim
 |d r=>
  cases r with
  |tup q r=>exact⟨_,false,_,_,rfl,q,r,h⟩
  |fl q r=>exact⟨_,true,_,_,rfl,q,r,h⟩
  |_=>exact h.elim
end
section
variable {X:Cx}{cA:Cl}{ao:Nat->Nat->Bool}{aj:Bool}{F:Fn}{EX:XS}{a b:Expr}{A B:E}{pos pp tpos:Pos}{elts:List Expr}{kk:Nat}
theorem zjH(tG:Gl X "zip")(hmg:X.mg "zip"=none)(ha:SE X cA ao aj F EX a A)(hb:SE X cA ao aj F EX b B)(h1:starEach [a,b] X.env=(false,eval a X.env)::starEach [b] X.env)(h2:starEach [b] X.env=(false,eval b X.env)::starEach [] X.env) :
  SI X cA ao aj F EX (.Tuple elts kk tpos) (.Call (.Name "zip" pp) [a,b] [] pos) (.zip A B):=PI.weak (zjg tG hmg (uG ha (uG hb BX h2) h1) (by rw[h1,h2];rfl) (by rw[h2];rfl)) λZ H R hh=>un hh λU J s hL hS h=>by
 refine bx hL hS h λx H1 U1 d1 s1 x1 hL1 aL r1 h1=>bx hL1 aL h1 λy H2 U2 d2 s2 x2 hL2 aU r2 h2=>?_;obtain⟨xs,k1,l1,us,e1,q1,p1,h3⟩:=Xp (r1.mono x2 aL.lz) h2;obtain⟨ys,k2,l2,vs,e2,q2,p2,h4⟩:=Xp r2 h3;subst e1 e2;exact⟨k1,k2,l1,l2,us,vs,rfl,q1.sk,q2.sk,(h4.bF aU) _ (mJ.zip aU.lz q1 q2 p1 p2)⟩
theorem zlS(hmg:X.mg "zip"=none)(tG:JK X "zip" .globalImplicit)(ha:JE X cA ao aj F EX a A)(hb:JE X cA ao aj F EX b B)(h1:aD a=true:=by rfl)(h2:aD b=true:=by rfl):JI X cA ao aj F EX (.Tuple elts kk tpos) (.Call (.Name "zip" p) [a,b] [] pos) (.zip A B):=⟨zjH tG.o hmg ha.o hb.o (bC h1) (bC h2)⟩
end
end Mi
namespace Mi
open PySem PySem.Spec PyProof.Rows L2 PySem.W
structure D3(K:Frag)(mg:Str->Option Value)(x:Str)(st:Stmt)(ps:List Str):Prop where
 f:uO K x x st (iJ K x) (fdOf K x st)
 m:mg x=some (.ref (iJ K x))
 b:Binds K (fdOf K x st) ps []
theorem dk{p:Prop}(h:p:=by decide +kernel):p:=h
section
variable {fs:List (Str×Stmt)}{ms:List vh}{xs:List (Nat×Str)}{lk:Lk}{K:Frag}{h:Heap}{mg:Str->Option Value}{x:Str}{st:Stmt}
theorem oJ(S:h_ fs ms xs lk K)(X:K.In h)(G:h.Ns mainGlobals mg)(j:Nat)(hj:fs[j]?=some (x,st):=by rfl)(hb:∀(kV doc pm:Value) (an:Option Addr) (cdv ct a:Value),bindArgs (fnOf x x (aQ st) (aK st) (aA st) .none kV doc pm an cdv ct) ⟨[a],[]⟩=pure [(p,a)]:=by intros;rfl):D3 K mg x st [p]:=have F:=S.fn (x,st) (jD hj);⟨F.fn,F.m X G,wA F.fn hb⟩
theorem qw(S:h_ fs ms xs lk K)(X:K.In h)(G:h.Ns mainGlobals mg)(j:Nat)(hj:fs[j]?=some (x,st):=by rfl)(hb:∀(kV doc pm:Value) (an:Option Addr) (cdv ct a b:Value),bindArgs (fnOf x x (aQ st) (aK st) (aA st) .none kV doc pm an cdv ct) ⟨[a,b],[]⟩=pure [(p,a),(q,b)]:=by intros;rfl):D3 K mg x st [p,q]:=have F:=S.fn (x,st) (jD hj);⟨F.fn,F.m X G,wB F.fn hb⟩
theorem Kz(S:h_ fs ms xs lk K)(X:K.In h)(G:h.Ns mainGlobals mg)(j:Nat)(hj:fs[j]?=some (x,st):=by rfl)(hb:∀(kV doc pm:Value) (an:Option Addr) (cdv ct a b c:Value),bindArgs (fnOf x x (aQ st) (aK st) (aA st) .none kV doc pm an cdv ct) ⟨[a,b,c],[]⟩=pure [(p,a),(q,b),(t,c)]:=by intros;rfl):D3 K mg x st [p,q,t]:=have F:=S.fn (x,st) (jD hj);⟨F.fn,F.m X G,wC F.fn hb⟩
theorem zmI(S:h_ fs ms xs lk K)(X:K.In h)(G:h.Ns mainGlobals mg)(j:Nat)(hj:fs[j]?=some (x,st):=by rfl)(hb:∀(kV doc pm:Value) (an:Option Addr) (cdv ct a b c d:Value),bindArgs (fnOf x x (aQ st) (aK st) (aA st) .none kV doc pm an cdv ct) ⟨[a,b,c,d],[]⟩=pure [(p,a),(q,b),(t,c),(u,d)]:=by intros;rfl):D3 K mg x st [p,q,t,u]:=have F:=S.fn (x,st) (jD hj);⟨F.fn,F.m X G,wD F.fn hb⟩
theorem mG{α:Type}{l:List α}{a:α}(j:Nat)(h:l[j]?=some a:=by rfl):a∈l:=jD h
end
end Mi
namespace Mi
open PySem PySem.Spec PyProof.Rows L2
section
variable {X:Cx}{cA:Cl}
theorem zfU:dw X (.type "str") (λxs H Q=>∃i:Int,xs=[.int i]/\i.natAbs<2^62/\Q (.str (Str.ofString (toString i))) H):=by
 intro ak s Z H xs us Q I r ⟨i,e,hi,q⟩;subst e;obtain⟨u,rfl,t,rfl⟩:=vals1 r;exact str_of_int_fit (N:=4611686018427387904) (by split<;>lia) (Int.le_refl _) λ_=>⟨.str (Str.ofString (toString i)),H,I.tok _,⟨_,rfl⟩,q⟩
theorem zhY:aX X.K cA .str1 (λxs H Q=>∃i:Int,xs=[.int i]/\i.natAbs<2^62/\Q (.str (Str.ofString (toString i))) H):=by
 intro U H ds vs Q zt rs o;have o:bf X.K cA U H (zM ds) Q:=o;unfold zM at o;split at o
 ·rename_i i _;obtain⟨v,rfl,r1⟩:=rs.one;cases r1;by_cases hk:i.natAbs<2^62
  ·rw[if_pos hk] at o;exact⟨i,rfl,hk,(o.of rfl).here (.str _)⟩
  ·rw[if_neg hk] at o;exact o.elim
 ·exact o.elim
end
section
variable {X:Cx}{cA:Cl}{ao:Nat->Nat->Bool}{aj:Bool}{F:Fn}{EX:XS}{e:Expr}{pos p:Pos}{es:List Expr}{Xs:Es}{fz:Bool}
theorem zkf(hm:X.mg "str"=none)(hg:JK X "str" .globalImplicit)(ha:JA X cA ao aj F EX (e::es) Xs)(he:aD e=true:=by rfl)(bN:es.all aD=true:=by rfl):JE X cA ao aj F EX (.Call (.Name "str" p) (e::es) [] pos) (.pr fz .str1 Xs):=⟨Ke zfU zhY hg.o hm PyProof.Rows.boot_str ha.o R4 R4 (bC he) (bA bN)⟩
end
end Mi
namespace Mi
open PySem
def W{α:Type}(m:M α)(s:S)(P:α->S->Prop):Prop:=∃a s',m s=some (.ok a,s')/\P a s'
def WS(m:MS)(s:S)(Q:Out->S->Prop):Prop:=∃o s',m s=some (o,s')/\Q o s'
section
variable {α β:Type}{m:M α}{k:α->M β}{s:S}{P:α->S->Prop}{R:β->S->Prop}
theorem W.bd(h:W m s λa s'=>W (k a) s' R):W (M.bd m k) s R:=by
 obtain⟨a,s',e,b,s2,e2,r⟩:=h;exact⟨b,s2,by unfold M.bd;rw[e];exact e2,r⟩
theorem W.ret{a:α}(h:P a s):W (M.ret a) s P:=⟨a,s,rfl,h⟩
theorem W.qt(h:W m s P):W (M.qt m) s P:=by
 obtain⟨a,s',e,p⟩:=h;exact⟨a,s',by unfold M.qt;rw[e],p⟩
theorem W.opt(e:o=some a)(h:P a s):W (M.opt o) s P:=by subst e;exact⟨a,s,rfl,h⟩
theorem W.imp{P':α->S->Prop}(h:W m s P)(f:∀a s',P a s'->P' a s'):W m s P':=let ⟨a,s',e,p⟩:=h;⟨a,s',e,f a s' p⟩
theorem W.eq(e:m s=some (.ok a,s'))(p:P a s'):W m s P:=⟨a,s',e,p⟩
theorem KaU{d:D}{P:D->S->Prop}(h:P d s):W (rd (.d d)) s P:=⟨d,s,rfl,h⟩
theorem Xq{n:Nat}{xs:List D}{P:D->S->Prop}(e:s[n]?=some (.lst xs))(h:P (.fl xs) s):W (rd (.l n)) s P:=⟨.fl xs,s,by unfold rd;simp only[e],h⟩
theorem KaX{P:List D->S->Prop}(h:P [] s):W (dO []) s P:=⟨[],s,rfl,h⟩
theorem KaW{x:Xv}{r:List Xv}{P:List D->S->Prop}(h:W (rd x) s λd s1=>W (dO r) s1 λds s2=>P (d::ds) s2):W (dO (x::r)) s P:=W.bd (h.imp λd s1 h1=>W.bd (h1.imp λds s2 h2=>W.ret h2))
theorem Kar{P:List D->S->Prop}(h:P [] s):W (dR []) s P:=⟨[],s,rfl,h⟩
theorem Kaq{d:D}{r:List Xv}{P:List D->S->Prop}(h:W (dR r) s λds s2=>P (d::ds) s2):W (dR (.d d::r)) s P:=W.bd (W.ret (W.bd (h.imp λds s2 h2=>W.ret h2)))
theorem W.dat{x:D}{P:D->S->Prop}(h:P x s):W (dat (.d x)) s P:=⟨x,s,rfl,h⟩
theorem W.bool{b:Bool}{P:Bool->S->Prop}(h:P b s):W (bool (.d (.bl b))) s P:=⟨b,s,rfl,h⟩
theorem W.int{b:Int}{P:Int->S->Prop}(h:P b s):W (int (.d (.int b))) s P:=⟨b,s,rfl,h⟩
theorem jW{fz:Bool}{o:Option Rz}{d:D}{P:Xv->S->Prop}(e:o=some (.dat d))(h:P (.d d) s):W (bH fz o) s P:=by subst e;exact⟨_,s,rfl,h⟩
theorem KC{o:Option Rz}{xs:List D}{P:Xv->S->Prop}(e:o=some (.nw xs))(h:P (.d (.fl xs)) s):W (bH true o) s P:=by subst e;exact⟨_,s,rfl,h⟩
theorem KaL{xs:List D}{P:Xv->S->Prop}(h:P (.d (.fl xs)) s):W (newL true xs) s P:=⟨_,s,rfl,h⟩
theorem KaK{xs:List D}{P:Xv->S->Prop}(h:P (.l s.length) (s++[.lst xs])):W (newL false xs) s P:=⟨_,_,rfl,h⟩
theorem W.aO{F:List Xv->M Xv}{xs:List Xv}{P:Xv->S->Prop}(hl:locs xs=[])(h:W (F (cR 0 xs)) [] λv _=>∃d,v=.d d/\P (.d d) s):W (bY F xs) s P:=by
 obtain⟨v,s1,e,d,rfl,p⟩:=h;refine⟨.d d,s,?_,p⟩;unfold bY;rw[hl,if_pos Bu];simp only[gQ,e,cD]
theorem Kal{F:List Xv->M Xv}{xs:List Xv}{P:Xv->S->Prop}(hl:locs xs=[])(h:W (F (cR 0 xs)) [] λv s1=>∃n o,v=.l n/\s1[n]?=some o/\P (.l s.length) (s++[o])):W (bY F xs) s P:=by
 obtain⟨v,s1,e,n,o,rfl,eo,p⟩:=h;refine⟨.l s.length,s++[o],?_,p⟩;unfold bY;rw[hl,if_pos Bu];simp only[gQ,e,cD,List.getElem?_nil,eo]
theorem Xr{F:List Xv->M Xv}{xs:List Xv}{n:Nat}{o:SO}{P:Xv->S->Prop}(hl:locs xs=[n])(ho:s[n]?=some o)(h:W (F (cR 0 xs)) [o] λv s1=>∃d o',v=.d d/\s1=[o']/\P (.d d) (s.set n o')):W (bY F xs) s P:=by
 obtain⟨v,s1,e,d,o',rfl,rfl,p⟩:=h;refine⟨.d d,s.set n o',?_,p⟩;unfold bY;rw[hl,if_pos Zaa];simp only[gQ,ho,e,cD]
end
section
variable {s:S}{Q:Out->S->Prop}
theorem WS.ofM(h:W m s λa s'=>WS (k a) s' Q):WS (Mi.ofM m J k) s Q:=by
 obtain⟨a,s',e,o,s2,e2,q⟩:=h;exact⟨o,s2,by unfold Mi.ofM;rw[e];exact e2,q⟩
theorem WS.nx(h:Q (.nx J) s):WS (λs=>some (.nx J,s)) s Q:=⟨_,s,rfl,h⟩
theorem WS.rt(h:Q (.rt x) s):WS (λs=>some (.rt x,s)) s Q:=⟨_,s,rfl,h⟩
theorem WS.imp(h:WS m s Q)(f:∀o s',Q o s'->Q' o s'):WS m s Q':=let ⟨a,s',e,p⟩:=h;⟨a,s',e,f a s' p⟩
end
theorem W.call(hT:T f=some d)(hl:xs.length=d.gD)
  (h:WS (exs ao aj (λc=>Mi.call ao T k c) d.body (xs.map some++List.replicate (d.many-d.gD) none)) s λo s'=>match o with|.nx _=>P (.d .non) s'|.rt v=>P v s'|_=>False):W (Mi.call ao T (k+1) aj f xs) s P:=by
 obtain⟨o,s',e,q⟩:=h;unfold Mi.call;simp only[hT,if_pos hl];unfold W;simp only[e];cases o with
 |nx J=>exact⟨_,_,rfl,q⟩
 |rt v=>exact⟨_,_,rfl,q⟩
 |bk J=>exact q.elim
 |ct J=>exact q.elim
 |er c fs J=>exact q.elim
theorem QV(I:Nat->Vs->S->Prop)(h0:I 0 J s)(hb:∀i x J s,c[i]?=some x->I i J s->WS (b x J) s λo s'=>∃J',o=.nx J'/\I (i+1) J' s')
  (he:∀J s,I c.length J s->Q (.nx J) s):WS (cX (.fix c) b (c.length+1) 0 J) s Q:=by
 have key:∀n i J s,i+n=c.length->I i J s->WS (cX (.fix c) b (n+1) i J) s Q:=by
  intro n
  induction n with
  |zero=>
   intro i J s hi hI;have e:c[i]?=none:=by rw[oV];lia
   have:i=c.length:=by lia
   subst this;refine⟨_,s,?_,he J s hI⟩;unfold cX;simp only[Src.at,e]
  |succ n ih=>
   intro i J s hi hI;have hlt:i<c.length:=by lia
   have e:c[i]?=some c[i]:=fQ hlt;obtain⟨o,s',eb,J',rfl,Hx⟩:=hb i c[i] J s e hI;obtain⟨o2,s2,e2,q⟩:=ih (i+1) J' s' gV Hx;refine⟨o2,s2,?_,q⟩;unfold cX;simp only[Src.at,e,eb];exact e2
 exact key c.length 0 J s gV h0
theorem zlL{i j:Int}(h:(-(2^64)<i/\i<2^64)\/(-(2^64)<j/\j<2^64)):prim .mul [.int i,.int j]=some (.dat (.int (i*j))):=by
 show Option.map _ (if _ then _ else _)=_;rw[if_pos h];rfl
theorem zlx{i j:Int}(h:0<j):prim .mod [.int i,.int j]=some (.dat (.int (i%j))):=by
 show Option.map _ (if _ then _ else _)=_;rw[if_pos h];rfl
theorem zjD{i j:Int}(h:0<j/\j<1073741824):prim .fdiv [.int i,.int j]=some (.dat (.int (i/j))):=by
 show Option.map _ (if _ then _ else _)=_;rw[if_pos h];rfl
theorem zgq{i j:Int}(h:0<j/\j<1073741824):prim .divmod [.int i,.int j]=some (.dat (.tup [.int (i/j),.int (i%j)])):=by
 show Option.map _ (if _ then _ else _)=_;rw[if_pos h];rfl
theorem zl7{i j:Int}(h:0<=j/\j<=1000000/\i.natAbs<2^64):prim .pow [.int i,.int j]=some (.dat (.int (i^j.toNat))):=by
 show Option.map _ (if _ then _ else _)=_;rw[if_pos h];rfl
theorem Hy{xs:List D}{i:Nat}{x:D}(h:xs[i]?=some x):prim .ix [.fl xs,.int i]=some (.dat x):=by
 show Option.map Rz.dat (L2.rJ xs i)=_;have:L2.rJ xs (i:Int)=some x:=by
  unfold L2.rJ L2.vL;have hl:i<xs.length:=(iK.mp h).1;simp[hl];exact(iK.mp h).2
 rw[this];rfl
theorem Xu(h:xs.length+ys.length<=sizeLine):prim .add [.fl xs,.fl ys]=some (.nw (xs++ys)):=by
 show (if _ then _ else _)=_;rw[if_pos h]
theorem W.ite[Decidable c](h1:c->W m1 s P)(h2:¬c->W m2 s P):W (if c then m1 else m2) s P:=by
 by_cases h:c
 ·rw[if_pos h];exact h1 h
 ·rw[if_neg h];exact h2 h
theorem WS.ite[Decidable c](h1:c->WS m1 s P)(h2:¬c->WS m2 s P):WS (if c then m1 else m2) s P:=by
 by_cases h:c
 ·rw[if_pos h];exact h1 h
 ·rw[if_neg h];exact h2 h
theorem QW{n:Nat}{xs:List D}{s:S}{P:Unit->S->Prop}(h:P () (s.set n (.lst xs))):W (putL n xs) s P:=⟨_,_,rfl,h⟩
theorem W.cC{n:Nat}{xs:List D}{s:S}{P:Nat×List D->S->Prop}(e:s[n]?=some (.lst xs))(h:P (n,xs) s):W (cC (.l n)) s P:=⟨_,s,by unfold Mi.cC;simp only[e],h⟩
theorem KaZ{xs:List D}{s:S}{P:Src×Nat->S->Prop}(h:P (.fix xs,xs.length) s):W (src (.d (.tup xs))) s P:=⟨_,s,rfl,h⟩
theorem KaY{xs:List D}{s:S}{P:Src×Nat->S->Prop}(h:P (.fix xs,xs.length) s):W (src (.d (.fl xs))) s P:=⟨_,s,rfl,h⟩
theorem WS.nil{ao:Nat->Nat->Bool}{aj:Bool}{F:Bool->Fn}{J:Vs}{s:S}{Q:Out->S->Prop}(h:Q (.nx J) s):WS (exs ao aj F .nil J) s Q:=⟨_,s,rfl,h⟩
theorem WS.cons{ao:Nat->Nat->Bool}{aj:Bool}{F:Bool->Fn}{a:St}{r:bw}{J:Vs}{s:S}{Q:Out->S->Prop}(h:WS (ex ao aj F a J) s λo s'=>match o with|.nx J'=>WS (exs ao aj F r J') s' Q|.rt x=>Q (.rt x) s'|_=>False):WS (exs ao aj F (.cons a r) J) s Q:=by
 obtain⟨o,s',e,q⟩:=h;unfold WS exs Mi.b_;rw[e];cases o with
 |nx J'=>exact q
 |rt x=>exact⟨_,_,rfl,q⟩
 |bk _=>exact q.elim
 |ct _=>exact q.elim
 |er _ _ _=>exact q.elim
def wF{α:Type}(o:Option α)(P:α->Prop):Prop:=∃a,o=some a/\P a
theorem wF.mk{α:Type}{o:Option α}{P:α->Prop}{a:α}(e:o=some a)(h:P a):wF o P:=⟨a,e,h⟩
section
variable {ao:Nat->Nat->Bool}{aj:Bool}{F:Fn}{J:Vs}{s:S}{P:Xv->S->Prop}
theorem W.eC{d:D}(h:P (.d d) s):W (ev ao aj F (.c d) J) s P:=W.ret h
theorem W.eV{i:Nat}{x:Xv}(e:J[i]?.join=some x)(h:P x s):W (ev ao aj F (.v i) J) s P:=W.opt e h
theorem Xw{fz:Bool}{p:Pr}{xs:Es}(h:W (evs ao aj F xs J) s λvs s1=>W (dO vs) s1 λds s2=>W (bH fz (prim p ds)) s2 P):W (ev ao aj F (.pr fz p xs) J) s P:=W.bd (h.imp λ_ _ h=>W.bd h)
theorem Kat{a b:E}(h:W (ev ao aj F a J) s λx s1=>W (Mi.bool x) s1 λk s2=>W (if k=true then ev ao aj F b J else M.ret (.d (.bl false))) s2 P):W (ev ao aj F (.and a b) J) s P:=W.bd (h.imp λ_ _ h=>W.bd h)
theorem KaB{a b:E}(h:W (ev ao aj F a J) s λx s1=>W (Mi.bool x) s1 λk s2=>W (if k=true then M.ret (.d (.bl true)) else ev ao aj F b J) s2 P):W (ev ao aj F (.or a b) J) s P:=W.bd (h.imp λ_ _ h=>W.bd h)
theorem KaA{a:E}(h:W (ev ao aj F a J) s λx s1=>W (Mi.bool x) s1 λk s2=>P (.d (.bl (!k))) s2):W (ev ao aj F (.not a) J) s P:=W.bd (h.imp λ_ _ h=>W.bd (h.imp λ_ _ h=>W.ret h))
theorem KaE{xs:Es}(h:W (evs ao aj F xs J) s λvs s1=>W (dR vs) s1 λds s2=>P (.d (.tup ds)) s2):W (ev ao aj F (.tup xs) J) s P:=W.bd (h.imp λ_ _ h=>W.bd (h.imp λ_ _ h=>W.ret h))
theorem Kaz{fz:Bool}{xs:Es}(h:W (evs ao aj F xs J) s λvs s1=>W (dR vs) s1 λds s2=>W (newL fz ds) s2 P):W (ev ao aj F (.lst fz xs) J) s P:=W.bd (h.imp λ_ _ h=>W.bd h)
theorem Kaw{k:Str}{i:Int}(h:P (.d (.fd [.str k] [.int i])) s):W (ev ao aj F (.su k i) J) s P:=W.ret h
theorem Xx{f:Nat}{xs:Es}(h:W (evs ao aj F xs J) s λvs s1=>W (bY (F f) vs) s1 P):W (ev ao aj F (.call f xs) J) s P:=W.bd h
theorem KaD{fz:Bool}{a:E}{lo hi:Eo}(h:W (ev ao aj F a J) s λx s1=>W (v7 ao aj F lo J) s1 λl s2=>W (v7 ao aj F hi J) s2 λu s3=>W (rd x) s3 λd s4=>W (bH fz (cutD d l u)) s4 P):W (ev ao aj F (.sl fz a lo hi) J) s P:=W.bd (h.imp λ_ _ h=>W.bd (h.imp λ_ _ h=>W.bd (h.imp λ_ _ h=>W.bd h)))
theorem KaM{P:Option Int->S->Prop}(h:P none s):W (v7 ao aj F .no J) s P:=W.ret h
theorem KaN{a:E}{P:Option Int->S->Prop}(h:W (ev ao aj F a J) s λx s1=>W (Mi.int x) s1 λi s2=>P (some i) s2):W (v7 ao aj F (.yes a) J) s P:=W.bd (h.imp λ_ _ h=>W.bd (h.imp λ_ _ h=>W.ret h))
theorem Kai{P:List Xv->S->Prop}(h:P [] s):W (evs ao aj F .nil J) s P:=W.ret h
theorem Kah{a:E}{r:Es}{P:List Xv->S->Prop}(h:W (ev ao aj F a J) s λx s1=>W (evs ao aj F r J) s1 λxs s2=>P (x::xs) s2):W (evs ao aj F (.cons a r) J) s P:=W.bd (h.imp λ_ _ h=>W.bd (h.imp λ_ _ h=>W.ret h))
theorem KaI{a:E}{P:Src×Nat->S->Prop}(h:W (ev ao aj F a J) s λx s1=>W (src x) s1 P):W (mY ao aj F (.seq a) J) s P:=W.bd h
end
section
variable {ao:Nat->Nat->Bool}{aj:Bool}{F:Bool->Fn}{J:Vs}{s:S}{Q:Out->S->Prop}
theorem WS.QX{b:Bool}{m1 m2:MS}(e:b=true)(h:WS m1 s Q):WS (if b=true then m1 else m2) s Q:=by rw[if_pos e];exact h
theorem WS.QZ{b:Bool}{m1 m2:MS}(e:b=false)(h:WS m2 s Q):WS (if b=true then m1 else m2) s Q:=by rw[if_neg (by rw[e];decide)];exact h
theorem WS.uP{m1 m2:MS}(h:WS m1 s Q):WS (if true=true then m1 else m2) s Q:=by rw[if_pos rfl];exact h
theorem WS.KD{m1 m2:MS}(h:WS m2 s Q):WS (if false=true then m1 else m2) s Q:=by rw[if_neg R4];exact h
theorem Ka9{e:E}(h:W (ev ao aj (F aj) e J) s λ_ s1=>Q (.nx J) s1):WS (ex ao aj F (.ex e) J) s Q:=WS.ofM (h.imp λ_ _ h=>WS.nx h)
theorem Xy{i:Nat}{e:E}(h:W (ev ao aj (F aj) e J) s λx s1=>Q (.nx (J.set i (some x))) s1):WS (ex ao aj F (.asg (.nm i) e) J) s Q:=WS.ofM (h.imp λ_ _ h=>WS.nx h)
theorem Kbh{is:List Nat}{e:E}(h:W (ev ao true (F true) e J) s λx s1=>W (dat x) s1 λd s2=>wF ((j9 d).bind λds=>fO is (ds.map .d) J) λJ'=>Q (.nx J') s2):WS (ex ao true F (.asg (.tp is) e) J) s Q:=by
 refine WS.ofM (h.imp λx s1 h=>?_);exact WS.uP (m2:=λ_=>none) (WS.ofM (W.bd (h.imp λd s2 ⟨J',e,q⟩=>W.opt e (WS.nx q))))
theorem Kbg{o i e:E}(h:W (ev ao aj (F aj) e J) s λx s1=>W (dat x) s1 λd s2=>W (ev ao aj (F aj) o J) s2 λy s3=>W (ev ao aj (F aj) i J) s3 λz s4=>W (Mi.int z) s4 λj s5=>W (cC y) s5 λnx s6=>wF (L2.vL nx.2.length j) λq=>Q (.nx J) (s6.set nx.1 (.lst (nx.2.set q d)))):WS (ex ao aj F (.asg (.ao o i) e) J) s Q:=by
 refine WS.ofM (h.imp λx s1 h=>WS.ofM (W.bd (h.imp λd s2 h=>W.bd (h.imp λy s3 h=>W.bd (h.imp λz s4 h=>W.bd (h.imp λj s5 h=>W.bd (h.imp λnx s6 h=>?_)))))));obtain⟨q,e,h⟩:=h;simp only[e];exact QW (WS.nx h)
theorem Kbd{i j:Nat}{a b:E}(h:W (ev ao true (F true) a J) s λx s1=>W (ev ao true (F true) b J) s1 λy s2=>Q (.nx ((J.set i (some x)).set j (some y))) s2):WS (ex ao true F (.par i j a b) J) s Q:=by
 exact WS.uP (m2:=λ_=>none) (WS.ofM (W.bd (h.imp λx s1 h=>W.bd (h.imp λy s2 h=>W.ret (WS.nx h)))))
theorem Xz{e:E}(h:W (ev ao aj (F aj) e J) s λx s1=>Q (.rt x) s1):WS (ex ao aj F (.ret e) J) s Q:=WS.ofM (h.imp λ_ _ h=>WS.rt h)
theorem KH{c:E}{t e:bw}(h:W (ev ao aj (F aj) c J) s λx s1=>W (Mi.bool x) s1 λb s2=>WS (if b=true then exs ao aj F t J else exs ao aj F e J) s2 Q):WS (ex ao aj F (.iff c t e) J) s Q:=WS.ofM (W.bd h)
theorem Kba{t:Tg}{w:Wk}{b:bw}(h:W (mY ao true (F true) w J) s λcn s1=>WS (cX cn.1 (λd J=>Mi.b_ (store ao true (F true) t (.d d) J) λJ'=>exs ao true F b J') (cn.2+1) 0 J) s1 Q):WS (ex ao true F (.fr t w b) J) s Q:=by
 exact WS.uP (m2:=λ_=>none) (WS.ofM h)
end
theorem W.QX{α:Type}{b:Bool}{m1 m2:M α}{s:S}{P:α->S->Prop}(e:b=true)(h:W m1 s P):W (if b=true then m1 else m2) s P:=by rw[if_pos e];exact h
theorem W.QZ{α:Type}{b:Bool}{m1 m2:M α}{s:S}{P:α->S->Prop}(e:b=false)(h:W m2 s P):W (if b=true then m1 else m2) s P:=by rw[if_neg (by rw[e];decide)];exact h
theorem W.uP{α:Type}{m1 m2:M α}{s:S}{P:α->S->Prop}(h:W m1 s P):W (if true=true then m1 else m2) s P:=by rw[if_pos rfl];exact h
theorem W.KD{α:Type}{m1 m2:M α}{s:S}{P:α->S->Prop}(h:W m2 s P):W (if false=true then m1 else m2) s P:=by rw[if_neg R4];exact h
structure Bx(R:Prop):Prop where
 o:R
end Mi
namespace Mi
open PySem PySem.W PyProof.Rows L2
abbrev bW(n:Nat)(p:Array Nat):Prop:=p.Perm (List.range n).toArray
theorem bW.lt(h:bW n p)(hn:0<n)(i:Nat):p.getD i 0<n:=by
 by_cases hi:i<p.size
 ·have e:p.getD i 0=p[i]:=by simp[Array.getD,hi]
  rw[e];have hm:p[i]∈(List.range n).toArray:=h.mem_iff.mp (Array.getElem_mem hi);simpa using hm
 ·have e:p.getD i 0=0:=by simp[Array.getD,hi]
  rw[e];exact hn
theorem bW.rev(h:bW n p)(i j:Nat):bW n (kas_rev p i j):=(mirror_perm p i j _).trans h
theorem bW.bub(h:bW n p)(i j:Nat):bW n (bubble p i j):=(bubble_perm p i j).trans h
def iY{α:Type}(lt:Nat->Nat->Option Bool)(t:KasT α)(P:α->Prop):Prop:=∃a,bQ lt t=some a/\P a
section
variable {α β:Type}{lt:Nat->Nat->Option Bool}{n:Nat}
theorem iY.ret(h:P a):iY lt (.ret a) P:=⟨a,rfl,h⟩
theorem iY.bind(hf:∀a,P a->iY lt (f a) R):∀{t:KasT α},iY lt t P->iY lt (t.bind f) R
 |.ret a,⟨a',e,h⟩=>by cases e;exact hf _ h
 |.ask i j k,⟨a',e,h⟩=>by
  unfold bQ at e;cases el:lt i j with
  |none=>rw[el] at e;cases e
  |some b=>
   rw[el] at e;obtain⟨c,e1,h1⟩:=iY.bind hf (t:=k b) ⟨a',e,h⟩;refine⟨c,?_,h1⟩;show bQ lt (.ask i j λb=>(k b).bind f)=some c;unfold bQ;rw[el];exact e1
def Tot(n:Nat)(lt:Nat->Nat->Option Bool):Prop:=∀i j,i<n->j<n->∃b,lt i j=some b
variable (ht:Tot n lt)(hn:0<n)
include ht hn
end
noncomputable def eF(p:Int×Int):D:=.tup [.int p.1,.int p.2]
end Mi
namespace Mi
open PySem
theorem W.walk{c:List D}{f:D->List D->M (List D)}{s:S}{acc:List D}{P:List D->S->Prop}(I:Nat->List D->S->Prop)(h0:I 0 acc s)(hb:∀i x acc s,c[i]?=some x->I i acc s->W (f x acc) s λa s'=>I (i+1) a s')
  (he:∀acc s,I c.length acc s->P acc s):W (Mi.walk (.fix c) f (c.length+1) 0 acc) s P:=by
 have key:∀n i acc s,i+n=c.length->I i acc s->W (Mi.walk (.fix c) f (n+1) i acc) s P:=by
  intro n
  induction n with
  |zero=>
   intro i acc s hi hI;have e:c[i]?=none:=by rw[oV];lia
   have:i=c.length:=by lia
   subst this;refine⟨acc,s,?_,he acc s hI⟩;unfold Mi.walk;simp only[Src.at,e]
  |succ n ih=>
   intro i acc s hi hI;have hlt:i<c.length:=by lia
   have e:c[i]?=some c[i]:=fQ hlt;obtain⟨a,s',eb,Hx⟩:=hb i c[i] acc s e hI;obtain⟨a2,s2,e2,q⟩:=ih (i+1) a s' gV Hx;refine⟨a2,s2,?_,q⟩;unfold Mi.walk;simp only[Src.at,e,M.bd,eb];exact e2
 exact key c.length 0 acc s gV h0
section
variable {ao:Nat->Nat->Bool}{aj:Bool}{F:Fn}{J:Vs}{s:S}{P:Xv->S->Prop}
theorem Kax(h:W (ev ao aj F a J) s λx s1=>W (rd x) s1 λd s2=>∃b,j8 ao d k=some b/\P (.d (.bl b)) s2):W (ev ao aj F (.fL a k) J) s P:=
 W.bd (h.imp λ_ _ h=>W.bd (h.imp λ_ _ ⟨_,e,h⟩=>W.bd (W.opt e (W.ret h))))
theorem Kav(h:W (ev ao aj F a J) s λx s1=>W (ev ao aj F b J) s1 λy s2=>W (dO [x,y]) s2 λds s3=>W (bH true (prim p ds)) s3 λt s4=>W (Mi.bool t) s4 λk s5=>
  W (if k=true then M.bd (ev ao aj F c J) λz=>M.bd (dO [y,z]) λds=>bH true (prim q ds) else M.ret (.d (.bl false))) s5 P):W (ev ao aj F (.qN p q a b c) J) s P:=
 W.bd (h.imp λ_ _ h=>W.bd (h.imp λ_ _ h=>W.bd (h.imp λ_ _ h=>W.bd (h.imp λ_ _ h=>W.bd h))))
end
noncomputable def Hz(fz:Bool):Option Rz->Option Xv
 |some (.dat d)=>some (.d d)
 |some (.nw ys)=>match fz with
  |true=>some (.d (.fl ys))
  |false=>none
 |none=>none
noncomputable def addQ:D->D->Option Rz
 |.int i,.int j=>some (.dat (.int (i+j)))
 |_,_=>none
noncomputable def yp:List D->Option Rz
 |a::r=>match r with
  |b::r=>match r with
   |[]=>addQ a b
   |_::_=>none
  |[]=>none
 |[]=>none
noncomputable def quick:Pr->Bool
 |.Gn=>false|.V9=>false|.mul=>false|.fdiv=>false|.mod=>false|.pow=>false|.divmod=>false|.sorted=>false|.dD=>false|.nQ=>false|.mult=>false|.xP=>false|.repr=>false|.str1=>false|.V_=>false|.Gk=>false|.Gm=>false
 |_=>true
noncomputable def pJ(p:Pr)(ds:List D):Option Rz:=match p with
 |.add=>yp ds
 |p=>match quick p with
  |true=>prim p ds
  |false=>none
theorem HB{ds:List D}{r:Rz}(h:yp ds=some r):zG ds=some r:=by
 cases ds with
 |nil=>cases h
 |cons a t=>cases t with
  |nil=>cases h
  |cons b t=>cases t with
   |cons _ _=>cases h
   |nil=>cases a with
    |int i=>cases b with
     |int j=>exact h
     |_=>cases h
    |_=>cases h
theorem Ak{p:Pr}{ds:List D}{r:Rz}(h:pJ p ds=some r):prim p ds=some r:=by
 cases p with
 |add=>exact HB h
 |_=>first|exact h|cases h
noncomputable def Q0(fz:Bool)(ds:List D):Option Xv:=match fz with
 |true=>some (.d (.fl ds))
 |false=>none
noncomputable def HD:Xv->Option D
 |.d x=>some x
 |.l _=>none
noncomputable def obP(c:Nat):Xv->Option (List D)
 |.d (.ob e fs)=>if e=c then some fs else none
 |_=>none
noncomputable def notP:Xv->Option Xv
 |.d (.bl b)=>some (.d (.bl (!b)))
 |_=>none
noncomputable def Q5(r:Option Xv):Xv->Option Xv
 |.d (.bl true)=>r
 |.d (.bl false)=>some (.d (.bl false))
 |_=>none
noncomputable def orP(r:Option Xv):Xv->Option Xv
 |.d (.bl true)=>some (.d (.bl true))
 |.d (.bl false)=>r
 |_=>none
section
variable (ao:Nat->Nat->Bool)
mutual
noncomputable def eG:E->Vs->Option Xv
 |.c d,_=>some (.d d)
 |.v i,J=>J[i]?.join
 |.pr fz p xs,J=>(oK xs J).bind λds=>Hz fz (pJ p ds)
 |.tup xs,J=>(oK xs J).bind λds=>some (.d (.tup ds))
 |.lst fz xs,J=>(oK xs J).bind λds=>Q0 fz ds
 |.not a,J=>(eG a J).bind notP
 |.and a b,J=>(eG a J).bind (Q5 (eG b J))
 |.or a b,J=>(eG a J).bind (orP (eG b J))
 |.fL a k,J=>(eG a J).bind λx=>(HD x).bind λd=>(j8 ao d k).bind λb=>some (.d (.bl b))
 |.of o c i,J=>(eG o J).bind λx=>(obP c x).bind λfs=>fs[i]?.map .d
 |_,_=>none
noncomputable def oK:Es->Vs->Option (List D)
 |.nil,_=>some []
 |.cons a r,J=>(eG a J).bind λx=>(HD x).bind λd=>(oK r J).bind λds=>some (d::ds)
end
noncomputable def pK:Es->Vs->Option (List Xv)
 |.nil,_=>some []
 |.cons a r,J=>(eG ao a J).bind λx=>(pK r J).bind λxs=>some (x::xs)
end
theorem lO{α β:Type}{o:Option α}{f:α->Option β}{b:β}(h:o.bind f=some b):∃a,o=some a/\f a=some b:=u6.mp h
theorem iw{α β:Type}{m:M α}{k:α->M β}{s s':S}{a:α}(e:m s=some (.ok a,s')):M.bd m k s=k a s':=by
 show (match m s with|some (.ok a,s')=>k a s'|some (.er c f,s')=>some (.er c f,s')|none=>none)=_;rw[e]
theorem Al(s:S):∀ds:List D,dO (ds.map .d) s=some (.ok ds,s)
 |[]=>rfl
 |d::r=>(iw (s':=s) (a:=d) rfl).trans ((iw (Al s r)).trans rfl)
theorem tV(s:S):∀ds:List D,dR (ds.map .d) s=some (.ok ds,s)
 |[]=>rfl
 |d::r=>(iw (s':=s) (a:=d) rfl).trans ((iw (tV s r)).trans rfl)
theorem Q6{fz:Bool}{p:Pr}{ds:List D}{x:Xv}{s:S}(h:Hz fz (pJ p ds)=some x):bH fz (prim p ds) s=some (.ok x,s):=by
 cases o:pJ p ds with
 |none=>rw[o] at h;cases h
 |some r=>
  rw[o] at h;rw[Ak o];cases r with
  |dat d=>cases h;rfl
  |nw ys=>cases fz with
   |true=>cases h;rfl
   |false=>cases h
section
variable {ao:Nat->Nat->Bool}{aj:Bool}{F:Fn}{J:Vs}{s:S}
theorem tW(e:E):∀x:Xv,eG ao e J=some x->ev ao aj F e J s=some (.ok x,s):=by
 refine E.rec (motive_1:=λe=>∀x:Xv,eG ao e J=some x->ev ao aj F e J s=some (.ok x,s)) (motive_2:=λ_=>True) (motive_3:=λxs=>∀ds:List D,oK ao xs J=some ds->evs ao aj F xs J s=some (.ok (ds.map .d),s)) (motive_4:=λ_=>True)
  ?c ?v ?pr (λ_ _ _ _ _ _ _ _ _ h=>nomatch h) (λ_ _ _ _ _ _ _ _ _ _ _ _ h=>nomatch h) ?and ?or ?not (λ_ _ _ _ _ _ _ h=>nomatch h) ?tup ?lst (λ_ _ _ h=>nomatch h) (λ_ _ _ _ h=>nomatch h) ?fL (λ_ _ _ _ _ _ _ _ h=>nomatch h) (λ_ _ _ _ _ _ _ _ h=>nomatch h) (λ_ _ _ _ _ h=>nomatch h) (λ_ _ _ h=>nomatch h)
  (λ_ _ _ _ _ _ _ _ _ _ _ h=>nomatch h) (λ_ _ _ _ _ _ _ _ _ _ _ _ _ _ h=>nomatch h) (λ_ _ _ _ _ h=>nomatch h) ?of (λ_ _ _ _ _ h=>nomatch h) (λ_ _ _ _ _ _ _ h=>nomatch h) (λ_ h=>nomatch h) (λ_ _ _ _ _ _ h=>nomatch h) (λ_ _ _ _ _ h=>nomatch h) (λ_ _ _ h=>nomatch h) (λ_ _ _ _ _ _ h=>nomatch h) (λ_ _ _ _ _ h=>nomatch h) (λ_ _ _ _ _ _ _ h=>nomatch h) (λ_ h=>nomatch h)
  (λ_ _=>trivial) (λ_ _ _ _=>trivial) (λ_ _ _ _=>trivial) (λ_ _=>trivial) (λ_ _=>trivial) ?nil ?cons trivial (λ_ _=>trivial) e
 case c=>intro d x h;cases h;rfl
 case v=>intro i x h;exact(show M.opt (J[i]?.join) s=_ from by rw[show J[i]?.join=some x from h];rfl)
 case pr=>
  intro fz p xs ih x h;obtain⟨ds,e1,e2⟩:=lO h;exact(iw (ih _ e1)).trans ((iw (Al s ds)).trans (Q6 e2))
 case tup=>
  intro xs ih x h;obtain⟨ds,e1,e2⟩:=lO h;cases e2;exact(iw (ih _ e1)).trans ((iw (tV s ds)).trans rfl)
 case lst=>
  intro fz xs ih x h;obtain⟨ds,e1,e2⟩:=lO h;cases fz with
  |false=>cases e2
  |true=>cases e2;exact(iw (ih _ e1)).trans ((iw (tV s ds)).trans rfl)
 case not=>
  intro a ih x h;obtain⟨y,e1,e2⟩:=lO h;cases y with
  |l n=>cases e2
  |d y=>cases y with
   |bl b=>cases e2;exact(iw (ih _ e1)).trans rfl
   |_=>cases e2
 case and=>
  intro a b ih ih2 x h;obtain⟨y,e1,e2⟩:=lO h;cases y with
  |l n=>cases e2
  |d y=>cases y with
   |bl b=>cases b with
    |true=>exact(iw (ih _ e1)).trans (ih2 _ e2)
    |false=>cases e2;exact(iw (ih _ e1)).trans rfl
   |_=>cases e2
 case or=>
  intro a b ih ih2 x h;obtain⟨y,e1,e2⟩:=lO h;cases y with
  |l n=>cases e2
  |d y=>cases y with
   |bl b=>cases b with
    |true=>cases e2;exact(iw (ih _ e1)).trans rfl
    |false=>exact(iw (ih _ e1)).trans (ih2 _ e2)
   |_=>cases e2
 case fL=>
  intro a k ih x h;obtain⟨y,e1,e2⟩:=lO h;cases y with
  |l n=>cases e2
  |d y=>
   obtain⟨d,e3,e4⟩:=lO e2;cases e3;obtain⟨b,e5,e6⟩:=lO e4;cases e6;refine(iw (ih _ e1)).trans ((iw (s':=s) (a:=y) rfl).trans ((iw (s':=s) (a:=b) ?_).trans rfl));rw[e5];rfl
 case of=>
  intro o c i ih x h;obtain⟨y,e1,e2⟩:=lO h;obtain⟨fs,e3,e4⟩:=lO e2;refine(iw (ih _ e1)).trans ((iw (s':=s) (a:=fs) ?_).trans ?_)
  ·cases y with
   |l n=>cases e3
   |d y=>cases y with
    |ob e gs=>
     have e3:(if e=c then some gs else none)=some fs:=e3;show (if e=c then M.ret gs else M.no) s=_;split at e3
     ·rename_i h;cases e3;rw[if_pos h];rfl
     ·cases e3
    |_=>cases e3
  ·show M.opt (fs[i]?.map Xv.d) s=_;rw[e4];rfl
 case nil=>intro ds h;cases h;rfl
 case cons=>
  intro a r ih ih2 ds h;obtain⟨y,e1,e2⟩:=lO h;cases y with
  |l n=>cases e2
  |d y=>
   obtain⟨d,e3,e4⟩:=lO e2;cases e3;obtain⟨rs,e5,e6⟩:=lO e4;cases e6;exact(iw (ih _ e1)).trans ((iw (ih2 _ e5)).trans rfl)
theorem tX:∀(xs:Es) (ds:List D),oK ao xs J=some ds->evs ao aj F xs J s=some (.ok (ds.map .d),s)
 |.nil,ds,h=>by cases h;rfl
 |.cons a r,ds,h=>by
  obtain⟨y,e1,e2⟩:=lO h;cases y with
  |l n=>cases e2
  |d y=>
   obtain⟨d,e3,e4⟩:=lO e2;cases e3;obtain⟨rs,e5,e6⟩:=lO e4;cases e6;exact(iw (tW a _ e1)).trans ((iw (tX r _ e5)).trans rfl)
theorem lQ:∀(xs:Es) {vs:List Xv},pK ao xs J=some vs->evs ao aj F xs J s=some (.ok vs,s)
 |.nil,vs,h=>by cases h;rfl
 |.cons a r,vs,h=>by
  obtain⟨y,e1,e2⟩:=lO h;obtain⟨ys,e3,e4⟩:=lO e2;cases e4;exact(iw (tW a _ e1)).trans ((iw (lQ r e3)).trans rfl)
variable {P:Xv->S->Prop}
theorem W.pv{e:E}{x:Xv}(h:eG ao e J=some x)(k:P x s):W (ev ao aj F e J) s P:=W.eq (tW e _ h) k
theorem KaS{f:Nat}{xs:Es}{vs:List Xv}(h:pK ao xs J=some vs)(k:W (bY (F f) vs) s P):W (ev ao aj F (.call f xs) J) s P:=Xx (W.eq (lQ xs h) k)
theorem KaT{fz:Bool}{p:Pr}{xs:Es}{ds:List D}(h:oK ao xs J=some ds)(k:W (bH fz (prim p ds)) s P):W (ev ao aj F (.pr fz p xs) J) s P:=Xw (W.eq (tX xs _ h) (W.eq (Al s ds) k))
theorem KaR{xs:Es}{vs:List Xv}{P:List Xv->S->Prop}(h:pK ao xs J=some vs)(k:P vs s):W (evs ao aj F xs J) s P:=W.eq (lQ xs h) k
end
section
variable {ao:Nat->Nat->Bool}{aj:Bool}{F:Bool->Fn}{J:Vs}{s:S}{Q:Out->S->Prop}{e:E}{r:bw}
theorem Ka7{i:Nat}{x:Xv}(h:eG ao e J=some x)(k:WS (exs ao aj F r (J.set i (some x))) s Q):WS (exs ao aj F (.cons (.asg (.nm i) e) r) J) s Q:=WS.cons (Xy (W.pv h k))
theorem Ka8{x:Xv}(h:eG ao e J=some x)(k:Q (.rt x) s):WS (exs ao aj F (.cons (.ret e) r) J) s Q:=WS.cons (Xz (W.pv h k))
theorem Ka6{b:Bool}{t u:bw}(h:eG ao e J=some (.d (.bl b)))(k:WS (if b=true then exs ao aj F t J else exs ao aj F u J) s λo s'=>match o with|.nx J'=>WS (exs ao aj F r J') s' Q|.rt x=>Q (.rt x) s'|_=>False):WS (exs ao aj F (.cons (.iff e t u) r) J) s Q:=WS.cons (KH (W.pv h (W.bool k)))
end
def WR{α:Type}(m:M α)(s:S)(c:Nat)(fs:List D):Prop:=∃s',m s=some (.er c fs,s')
section
variable {α β:Type}{m:M α}{k:α->M β}{s:S}{c:Nat}{fs:List D}
theorem mK(h:W m s λa s'=>WR (k a) s' c fs):WR (M.bd m k) s c fs:=by
 obtain⟨a,s',e,s2,e2⟩:=h;exact⟨s2,by unfold M.bd;rw[e];exact e2⟩
theorem WR.aO(hl:locs xs=[])(h:WR (F (cR 0 xs)) [] c fs):WR (bY F xs) s c fs:=by
 obtain⟨s1,e⟩:=h;refine⟨s,?_⟩;unfold bY;rw[hl,if_pos Bu];simp only[gQ,e,cD]
end
theorem WR.call(hT:T f=some d)(hl:xs.length=d.gD)
  (h:WS (exs ao aj (λc=>Mi.call ao T k c) d.body (xs.map some++List.replicate (d.many-d.gD) none)) s λo _=>∃J,o=.er c fs J):WR (Mi.call ao T (k+1) aj f xs) s c fs:=by
 obtain⟨o,s',e,J,rfl⟩:=h;unfold Mi.call;simp only[hT,if_pos hl];unfold WR;simp only[e];exact⟨_,rfl⟩
section
variable {ao:Nat->Nat->Bool}{aj:Bool}{F:Bool->Fn}{J:Vs}{s:S}{Q:Out->S->Prop}{c:Nat}{fs:List D}
theorem XD(h:WR m s c fs)(q:∀s',Q (.er c fs J) s'):WS (Mi.ofM m J k) s Q:=by
 obtain⟨s',e⟩:=h;exact⟨_,s',by unfold Mi.ofM;rw[e],q s'⟩
theorem HF(h:WS (ex ao aj F a J) s λo s'=>(∃c fs J',o=.er c fs J')/\Q o s'):WS (exs ao aj F (.cons a r) J) s Q:=by
 obtain⟨o,s',e,⟨c,fs,J',rfl⟩,q⟩:=h;exact⟨_,s',by unfold exs Mi.b_;rw[e],q⟩
theorem Q7(h:WR (ev ao aj (F aj) e J) s c fs)(q:∀s',Q (.er c fs J) s'):WS (ex ao aj F (.ex e) J) s Q:=XD h q
theorem Kbf{c:Nat}{kp:Bool}{xs:Es}(h:W (evs ao true (F true) xs J) s λvs s1=>W (dR vs) s1 λds s2=>Q (.er c (if kp=true then ds else []) J) s2):WS (ex ao true F (.rise c kp xs) J) s Q:=by
 refine WS.uP (m2:=λ_=>none) (WS.ofM (W.bd (h.imp λvs s1 h=>h.imp λds s2 h=>?_)));exact⟨_,s2,rfl,h⟩
theorem Kbk{m:MS}{k:Vs->MS}(h:WS m s λo s'=>match o with|.nx J'=>WS (k J') s' Q|.rt x=>Q (.rt x) s'|_=>False):WS (Mi.b_ m k) s Q:=by
 obtain⟨o,s',e,q⟩:=h;unfold WS Mi.b_;rw[e];cases o with
 |nx J'=>exact q
 |rt x=>exact⟨_,_,rfl,q⟩
 |bk _=>exact q.elim
 |ct _=>exact q.elim
 |er _ _ _=>exact q.elim
theorem Kbi{F:Fn}{i:Nat}{x:Xv}(h:Q (.nx (J.set i (some x))) s):WS (store ao aj F (.nm i) x J) s Q:=⟨_,s,rfl,h⟩
theorem Kbj{F:Fn}{is:List Nat}{d:D}(h:wF ((j9 d).bind λds=>fO is (ds.map .d) J) λJ'=>Q (.nx J') s):WS (store ao true F (.tp is) (.d d) J) s Q:=by
 obtain⟨J',e,q⟩:=h;exact WS.uP (m2:=λ_=>none) (WS.ofM (W.bd (W.dat (W.opt e (WS.nx q)))))
theorem XH(hb:WS (exs ao true F b J) s λo s'=>∃c fs J',o=.er c fs J'/\ao c d=true/\WS (exs ao false F h (J'.set i (some (.d (.exc c fs))))) s' λr s2=>(∃x,r=.rt x)/\Q r s2):WS (ex ao true F (.qe b d i h) J) s Q:=by
 obtain⟨o,s',e,c,fs,J',rfl,hs,r,s2,e2,⟨x,rfl⟩,q⟩:=hb;exact⟨_,s2,by unfold ex;rw[if_pos rfl];simp only[e,hs,if_true,e2];rfl,q⟩
end
section
variable {ao:Nat->Nat->Bool}{aj:Bool}{F:Fn}{J:Vs}{s:S}{P:Xv->S->Prop}
theorem W.fL{a:E}{k:Kd}(h:W (ev ao aj F a J) s λx s1=>W (rd x) s1 λd s2=>wF (j8 ao d k) λb=>P (.d (.bl b)) s2):W (ev ao aj F (.fL a k) J) s P:=Kax h
theorem W.qN{p q:Pr}{a b c:E}(h:W (ev ao aj F a J) s λx s1=>W (ev ao aj F b J) s1 λy s2=>W (dO [x,y]) s2 λds s3=>W (bH true (prim p ds)) s3 λt s4=>W (Mi.bool t) s4 λk s5=>
  W (if k=true then M.bd (ev ao aj F c J) λz=>M.bd (dO [y,z]) λds=>bH true (prim q ds) else M.ret (.d (.bl false))) s5 P):W (ev ao aj F (.qN p q a b c) J) s P:=Kav h
theorem Kay{c a b:E}(h:W (ev ao aj F c J) s λx s1=>W (Mi.bool x) s1 λk s2=>W (if k=true then ev ao aj F a J else ev ao aj F b J) s2 P):W (ev ao aj F (.ite c a b) J) s P:=W.bd (h.imp λ_ _ h=>W.bd h)
theorem KaG{a:E}{P:Src×Nat->S->Prop}(h:W (ev ao aj F a J) s λx s1=>W (sJ x) s1 P):W (mY ao aj F (.enum a) J) s P:=W.bd h
theorem KaF{xs:List D}{P:Src×Nat->S->Prop}(h:P (.fix (enumFrom 0 xs),(enumFrom 0 xs).length) s):W (sJ (.d (.fl xs))) s P:=⟨_,s,rfl,h⟩
theorem KaH{a b:E}{P:Src×Nat->S->Prop}(h:W (ev ao aj F a J) s λx s1=>W (ev ao aj F b J) s1 λy s2=>W (Mi.int x) s2 λi s3=>W (Mi.int y) s3 λj s4=>(eE i&&eE j)=true/\P (.fix (iH i j),(iH i j).length) s4):W (mY ao aj F (.rg a b) J) s P:=by
 refine W.bd (h.imp λx s1 h=>W.bd (h.imp λy s2 h=>W.bd (h.imp λi s3 h=>W.bd (h.imp λj s4 h=>?_))));rw[if_pos h.1];exact W.ret h.2
theorem KaJ{a b:E}{P:Src×Nat->S->Prop}(h:W (ev ao aj F a J) s λx s1=>W (ev ao aj F b J) s1 λy s2=>W (n_ x) s2 λxs s3=>W (n_ y) s3 λys s4=>P (.fix (List.zipWith (λp q=>.tup [p,q]) xs ys),(List.zipWith (λ(p q:D)=>D.tup [p,q]) xs ys).length) s4):W (mY ao aj F (.zip a b) J) s P:=
 W.bd (h.imp λx s1 h=>W.bd (h.imp λy s2 h=>W.bd (h.imp λxs s3 h=>W.bd (h.imp λys s4 h=>W.ret h))))
theorem W.jU{xs:List D}{P:List D->S->Prop}(h:P xs s):W (n_ (.d (.tup xs))) s P:=W.ret h
theorem W.uL{xs:List D}{P:List D->S->Prop}(h:P xs s):W (n_ (.d (.fl xs))) s P:=W.ret h
theorem Kaj{P:Bool->S->Prop}(h:P true s):W (sO ao aj F .no J) s P:=W.ret h
theorem Kak{a:E}{P:Bool->S->Prop}(h:W (ev ao aj F a J) s λx s1=>W (Mi.bool x) s1 P):W (sO ao aj F (.yes a) J) s P:=W.bd h
theorem CW{α:Type}{f:α->D}{l:List α}{fz:Bool}{elt:E}{tg:List Nat}{it:Wk}{fr:List Nat}{many:Nat}{cond:Eo}(g:α->Option D)(hc:l.length<=sizeLine)
  (hw:W (mY ao true F it J) s λcn s1=>cn=(.fix (l.map f),(l.map f).length)/\s1=s)
  (hb:∀x∈l,wF (jx tg (f x) (blk many fr J)) λJ'=>W (sO ao true F cond J') s λb s1=>s1=s/\(b=true->W (ev ao true F elt J') s λy s2=>s2=s/\∃d,y=.d d/\g x=some d)/\(b=false->g x=none))
  (h:W (newL fz (l.filterMap g)) s P):W (ev ao true F (.comp fz elt tg it fr many cond) J) s P:=by
 change W (_root_.ite (true=true) _ _) s P
 rw[if_pos rfl];refine W.bd (hw.imp λcn s1=>?_);rintro⟨rfl,rfl⟩;refine W.bd ?_;refine W.walk (c:=l.map f) (λi acc s'=>s'=s1/\acc=(l.take i).filterMap g) ⟨rfl,rfl⟩ (λi x acc s' e hI=>?_) (λacc s' hI=>?_)
 ·obtain⟨rfl,rfl⟩:=hI;rw[kY] at e;cases el:l[i]? with
  |none=>rw[el] at e;cases e
  |some y=>
   rw[el] at e;cases e;have hi:i<l.length:=(iK.mp el).1;have ht:l.take (i+1)=l.take i++[y]:=by rw[List.take_succ,el];rfl
   have hl:((l.take i).filterMap g).length<sizeLine:=Nat.lt_of_le_of_lt (List.length_filterMap_le _ _) (by rw[wO];lia);obtain⟨J',e1,h1⟩:=hb y (jD el);refine W.bd (W.opt e1 ?_);refine W.bd (W.qt (h1.imp λb s2=>?_));rintro⟨rfl,h2,h3⟩;rw[ht,List.filterMap_append];cases b
   ·rw[if_neg R4];refine W.ret ⟨rfl,?_⟩;simp[h3 rfl]
   ·rw[if_pos rfl];refine W.bd (W.qt ((h2 rfl).imp λy s3=>?_));rintro⟨rfl,d,rfl,eg⟩;refine W.bd (W.dat ?_);rw[if_pos hl];refine W.ret ⟨rfl,?_⟩;simp[eg]
 ·obtain⟨rfl,rfl⟩:=hI;rw[cg,List.take_length];exact h
theorem Kao{c:List D}{fz:Bool}{elt:E}{tg:List Nat}{it:Wk}{fr:List Nat}{many:Nat}{cond:Eo}(I:Nat->List D->S->Prop)
  (hw:W (mY ao true F it J) s λcn s1=>cn=(.fix c,c.length)/\I 0 [] s1)
  (hb:∀i x acc s,c[i]?=some x->I i acc s->wF (jx tg x (blk many fr J)) λJ'=>W (sO ao true F cond J') s λb s1=>(b=true->W (ev ao true F elt J') s1 λy s2=>∃d,y=.d d/\acc.length<sizeLine/\I (i+1) (acc++[d]) s2)/\(b=false->I (i+1) acc s1))
  (h:∀acc s,I c.length acc s->W (newL fz acc) s P):W (ev ao true F (.comp fz elt tg it fr many cond) J) s P:=by
 change W (_root_.ite (true=true) _ _) s P
 rw[if_pos rfl];refine W.bd (hw.imp λcn s1=>?_);rintro⟨rfl,h0⟩;refine W.bd ?_;refine W.walk (c:=c) I h0 (λi x acc s' e hI=>?_) (λacc s' hI=>h acc s' hI);obtain⟨J',e1,h1⟩:=hb i x acc s' e hI;refine W.bd (W.opt e1 ?_);refine W.bd (W.qt (h1.imp λb s2=>?_));rintro⟨h2,h3⟩;cases b
 ·rw[if_neg R4];exact W.ret (h3 rfl)
 ·rw[if_pos rfl];refine W.bd (W.qt ((h2 rfl).imp λy s3=>?_));rintro⟨d,rfl,hl,hi⟩;refine W.bd (W.dat ?_);rw[if_pos hl];exact W.ret hi
theorem W.push{o a:E}(h:W (ev ao aj F o J) s λx s1=>W (Mi.cC x) s1 λ_ s2=>W (ev ao aj F a J) s2 λy s3=>W (Mi.dat y) s3 λd s4=>W (Mi.cC x) s4 λnx s5=>nx.2.length<sizeLine/\P (.d .non) (s5.set nx.1 (.lst (nx.2++[d])))):W (ev ao aj F (.push o a) J) s P:=by
 refine W.bd (h.imp λx s1 h=>W.bd (h.imp λ_ s2 h=>W.bd (h.imp λy s3 h=>W.bd (h.imp λd s4 h=>W.bd (h.imp λnx s5 h=>?_)))));rw[if_pos h.1];exact W.bd (QW (W.ret h.2))
end
theorem XJ{s:S}{o:SO}:(s++[o])[s.length]?=some o:=by simp
theorem Y{P R:Prop}(k:R)(h:Bx R->P:=by
 intro k
 repeat (first|with_reducible first
   |refine Ka7 (by with_unfolding_all rfl) ?_|refine Ka8 (by with_unfolding_all rfl) ?_|refine Ka6 (by with_unfolding_all rfl) ?_|refine W.pv (by with_unfolding_all rfl) ?_|refine KaT (by with_unfolding_all rfl) ?_|refine KaS (by with_unfolding_all rfl) ?_|refine KaR (by with_unfolding_all rfl) ?_
   |refine WS.cons ?_|refine WS.nil ?_|refine Kbk ?_|refine Kbi ?_|refine Kbj ?_|refine Xy ?_|refine Xz ?_|refine KH ?_|refine Kbh ?_|refine Kbg ?_|refine Kbd ?_|refine Ka9 ?_|refine Kba ?_|refine Kbf ?_|refine WS.uP ?_|refine WS.KD ?_|refine WS.QX (by with_unfolding_all rfl) ?_|refine WS.QZ (by with_unfolding_all rfl) ?_|refine wF.mk (by with_unfolding_all rfl) ?_
   |refine Kah ?_|refine Kai ?_|refine W.eC ?_|refine W.eV (by with_unfolding_all rfl) ?_|refine Xw ?_|refine Xx ?_|refine KaE ?_|refine Kaz ?_|refine KaA ?_|refine Kat ?_|refine KaB ?_|refine Kay ?_|refine W.fL ?_|refine W.qN ?_|refine W.push ?_|refine KaD ?_|refine Kaw ?_|refine KaM ?_|refine KaN ?_|refine KaI ?_|refine KaH ?_|refine KaJ ?_|refine KaG ?_|refine Kaj ?_|refine Kak ?_|refine W.uP ?_|refine W.KD ?_|refine W.QX (by with_unfolding_all rfl) ?_|refine W.QZ (by with_unfolding_all rfl) ?_
   |refine KaW ?_|refine KaX ?_|refine KaU ?_|refine Xq (by with_unfolding_all rfl) ?_|refine Xq XJ ?_|refine Kaq ?_|refine Kar ?_|refine W.dat ?_|refine W.bool ?_|refine W.int ?_|refine W.cC (by with_unfolding_all rfl) ?_|refine W.cC XJ ?_|refine QW ?_|refine KaZ ?_|refine KaF ?_|refine W.jU ?_|refine W.uL ?_|refine KaY ?_|refine KaL ?_|refine KaK ?_
   |refine jW (by first|(with_unfolding_all rfl)|exact zlL (by first|(left;constructor<;>lia)|(right;constructor<;>lia))|exact zlx gV|exact zjD gV|exact zgq gV|exact zl7 R4) ?_|refine KC (by with_unfolding_all rfl) ?_
   |refine W.ret ?_|refine W.bd ?_
   | (dsimp only))
 all_goals exact k.o):P:=h ⟨k⟩
def lx(p q:Int×Int):Prop:=p.1<q.1\/p.1=q.1/\p.2<q.2
noncomputable def oM(n:Int)(ps:List (Int×Int)):D:=.tup [.int n,.tup (ps.map eF)]
structure Web(n:Int)(ps:List (Int×Int)):Prop where
 h1:1<=n
 h8:n<=8
 tie:∀p∈ps,0<=p.1/\p.1<p.2/\p.2<n
 inc:ps.Pairwise lx
 len:(ps.length:Int)<=7*n
theorem zji(p q:Int×Int):cW (k+1) (eF p) (eF q)=some (decide (p=q)):=by
 show fM (cW k) [.int p.1,.int p.2] [.int q.1,.int q.2]=_;have hi:∀a b:Int,cW k (.int a) (.int b)=some (a==b):=by intro a b;cases k<;>rfl
 simp only[fM,hi];obtain⟨a,b⟩:=p;obtain⟨c,d⟩:=q;by_cases h1:a=c
 ·by_cases h2:b=d
  ·simp[h1,h2]
  ·simp[h1,h2]
 ·simp[h1]
theorem Q8(xs:List D):cut xs (some 1) none=xs.drop 1:=by
 unfold cut;rw[HT.rH];rw[show (some 1:Option Int)=some ((1:Nat):Int) from rfl,HT.vI];cases xs with
 |nil=>rfl
 |cons x r=>simp
theorem Q9:∀{es:List Int} {a n:Int},es.Pairwise (·<·)->(∀e∈es,a<=e/\e<n)->a<=n->(es.length:Int)<=n-a
 |[],a,n,_,_,h=>by simp;lia
 |e::r,a,n,h,hb,ha=>by
  obtain⟨h1,h2⟩:=yD.mp h;have he:=hb e Zaa;have:=Q9 (es:=r) (a:=e+1) (n:=n) h2 (λx hx=>⟨by have:=h1 x hx;lia,(hb x (by simp[hx])).2⟩) gV;rw[iB]
  lia
theorem XM{a b:Int}{i:Nat}{x:D}(h:(iH a b)[i]?=some x):x=.int (a+i)/\a+i<b:=by
 unfold iH at h;rw[kY] at h;cases e:(List.range (b-a).toNat)[i]? with
 |none=>rw[e] at h;cases h
 |some j=>
  rw[e] at h;cases h;obtain⟨hl,rfl⟩:=iK.mp e;rw[List.length_range] at hl;rw[List.getElem_range];exact⟨rfl,by lia⟩
theorem XQ:(iH a b).length=(b-a).toNat:=by unfold iH;simp
theorem KJ(h1 : -1000<=a)(h2:a<=1000):eE a=true:=by
 unfold eE;rw[i_ gV,i_ gV];rfl
theorem HJ(hl:locs xs=[s.length])(h:W (F (cR 0 xs)) [o] λv s1=>∃d o',v=.d d/\s1=[o']/\P (.d d) (s++[o'])):W (bY F xs) (s++[o]) P:=by
 refine Xr (n:=s.length) (o:=o) hl Zaa (h.imp λv s1=>?_);rintro⟨d,o',rfl,rfl,hp⟩;exact⟨d,o',rfl,rfl,by rw[show (s++[o]).set s.length o'=s++[o'] by simp];exact hp⟩
theorem zhK{ns:List Int}{lo hi:Option Int}{x:D}(h:x∈cut (ns.map D.int) lo hi):∃n,x=.int n:=by
 have:=List.mem_of_mem_drop (List.mem_of_mem_take h);obtain⟨n,_,rfl⟩:=fZ.mp this;exact⟨n,rfl⟩
theorem zim{ns:List Int}{lo hi:Option Int}:(cut (ns.map D.int) lo hi).length<=ns.length:=by
 unfold cut;rw[wO,Dv,cg]
 lia
theorem Q_{α:Type}{l:List α}{f:α->D}:l.filterMap (λx=>some (f x))=l.map f:=by
 rw[<-List.filterMap_eq_map];rfl
theorem Ka4(I:Nat->Vs->S->Prop)(h0:I 0 J s)(hb:∀i x J s,c[i]?=some x->I i J s->WS (b x J) s λo s'=>(∃J',o=.nx J'/\I (i+1) J' s')\/(∃x,o=.rt x/\Q (.rt x) s'))
  (he:∀J s,I c.length J s->Q (.nx J) s):WS (cX (.fix c) b (c.length+1) 0 J) s Q:=by
 have key:∀n i J s,i+n=c.length->I i J s->WS (cX (.fix c) b (n+1) i J) s Q:=by
  intro n
  induction n with
  |zero=>
   intro i J s hi hI;have e:c[i]?=none:=by rw[oV];lia
   have:i=c.length:=by lia
   subst this;refine⟨_,s,?_,he J s hI⟩;unfold cX;simp only[Src.at,e]
  |succ n ih=>
   intro i J s hi hI;have hlt:i<c.length:=by lia
   have e:c[i]?=some c[i]:=fQ hlt;obtain⟨o,s',eb,hr⟩:=hb i c[i] J s e hI;rcases hr with ⟨J',rfl,Hx⟩|⟨x,rfl,hq⟩
   ·obtain⟨o2,s2,e2,q⟩:=ih (i+1) J' s' gV Hx;refine⟨o2,s2,?_,q⟩;unfold cX;simp only[Src.at,e,eb];exact e2
   ·refine⟨_,s',?_,hq⟩;unfold cX;simp only[Src.at,e,eb]
 exact key c.length 0 J s gV h0
theorem wG(h:xs.length+ys.length<=sizeLine):prim .add [.tup xs,.tup ys]=some (.dat (.tup (xs++ys))):=by
 show (if _ then _ else _)=_;rw[if_pos h]
noncomputable def m6:D->Bool
 |.exc _ _=>false
 |.ob _ _=>false
 |.any=>false
 |_=>true
noncomputable def XR:D->Bool
 |.int _=>true
 |_=>false
noncomputable def mL:D->Bool
 |.tup xs=>xs.all m6
 |d=>m6 d
theorem ze2{α:Type}(l:List α)(f:α->Bool):gB (l.map λx=>D.bl (f x))=some (l.map f):=by
 induction l with
 |nil=>rfl
 |cons x r ih=>
  show Option.map _ (gB (r.map λx=>D.bl (f x)))=_;rw[ih];rfl
theorem X3{α:Type}{l:List α}{f:α->Bool}:prim .all [.fl (l.map λx=>D.bl (f x))]=some (.dat (.bl (l.all f))):=by
 show Option.map _ (gB (l.map λx=>D.bl (f x)))=_;rw[ze2];show some (Rz.dat (.bl ((l.map f).all id)))=_;rw[List.all_map];rfl
theorem KN(h:x∈cut xs lo hi):x∈xs:=List.mem_of_mem_drop (List.mem_of_mem_take h)
theorem KQ:(cut xs lo hi).length<=xs.length:=by
 unfold cut;rw[wO,Dv]
 lia
end Mi
namespace Mi
open PySem PySem.W PyProof.Rows L2
structure Ord(n:Nat)(lt:Nat->Nat->Option Bool)(le:Nat->Nat->Prop):Prop where
 ans:∀i j,i<n->j<n->(lt i j=some true/\le i j)\/(lt i j=some false/\le j i)
 tr:∀i j k,i<n->j<n->k<n->le i j->le j k->le i k
section
variable {lt:Nat->Nat->Option Bool}{le:Nat->Nat->Prop}{n:Nat}
theorem Ord.rfl'(o:Ord n lt le)(hi:i<n):le i i:=by
 rcases o.ans i i hi hi with ⟨_,e⟩|⟨_,e⟩<;>exact e
def eN(le:Nat->Nat->Prop)(p:Array Nat)(r:Nat):Prop:=∀a b,a<b->b<r->le (p.getD a 0) (p.getD b 0)
def uQ(le:Nat->Nat->Prop)(p:Array Nat)(r:Nat):Prop:=∀a b,a<b->b<r->le (p.getD b 0) (p.getD a 0)
def HN(le:Nat->Nat->Prop)(p:Array Nat)(l r:Nat):Prop:=∀a b,l<=a->a<r->l<=b->b<r->le (p.getD a 0) (p.getD b 0)
theorem getD_get?{p q:Array Nat}{i j:Nat}(h:p[i]?=q[j]?):p.getD i 0=q.getD j 0:=by
 have e:∀(x:Array Nat) (k:Nat),x.getD k 0=(x[k]?).getD 0:=by
  intro x k;unfold Array.getD
  split
  ·rename_i h;rw[Dk h];rfl
  ·rename_i h;rw[Array.getElem?_eq_none gV];rfl
 rw[e,e,h]
theorem bW.size{p:Array Nat}(h:bW n p):p.size=n:=by have:=h.size_eq;simpa using this
theorem uR{p:Array Nat}{i j k:Nat}(hj:j<=p.size):(kas_rev p i j).getD k 0=if i<=k/\k<j then p.getD (i+j-1-k) 0 else p.getD k 0:=by
 have:=getElem?_mirror_all (xs:=p) (i:=i) hj k;unfold kas_rev
 split
 ·rename_i h;rw[if_pos h] at this;exact getD_get? this
 ·rename_i h;rw[if_neg h] at this;exact getD_get? this
theorem X4{p:Array Nat}{src d k:Nat}(hs:src<p.size)(hd:d<=src):(bubble p src d).getD k 0=if k=src-d then p.getD src 0 else if src-d<k/\k<=src then p.getD (k-1) 0 else p.getD k 0:=by
 have:=getElem?_bubble hs d hd k;by_cases h:k=src-d
 ·rw[if_pos h] at this ⊢;exact getD_get? this
 ·rw[if_neg h] at this ⊢;by_cases h2:src-d<k/\k<=src
  ·rw[if_pos h2] at this ⊢;exact getD_get? this
  ·rw[if_neg h2] at this ⊢;exact getD_get? this
variable (o:Ord n lt le)(hn:0<n)
include o hn
theorem tY(hi:i<n)(hj:j<n)(h1:le i j->iY lt (k true) P)(h2:le j i->iY lt (k false) P):iY lt (.ask i j k) P:=by
 rcases o.ans i j hi hj with ⟨e,hl⟩|⟨e,hl⟩
 ·obtain⟨a,e1,q⟩:=h1 hl;exact⟨a,by unfold bQ;rw[e];exact e1,q⟩
 ·obtain⟨a,e1,q⟩:=h2 hl;exact⟨a,by unfold bQ;rw[e];exact e1,q⟩
theorem zgX(hp:bW n p)(hk:1<=k)(h:eN le p k)(hl:le (p.getD (k-1) 0) (p.getD k 0)):eN le p (k+1):=λa b pN hb=>by
 by_cases e:b=k
 ·subst e;by_cases e2:a=b-1
  ·subst e2;exact hl
  ·exact o.tr _ _ _ (hp.lt hn _) (hp.lt hn _) (hp.lt hn _) (h a (b-1) gV gV) hl
 ·exact h a b pN gV
theorem HS(hp:bW n p)(hk:1<=k)(h:uQ le p k)(hl:le (p.getD k 0) (p.getD (k-1) 0)):uQ le p (k+1):=λa b pN hb=>by
 by_cases e:b=k
 ·subst e;by_cases e2:a=b-1
  ·subst e2;exact hl
  ·exact o.tr _ _ _ (hp.lt hn _) (hp.lt hn _) (hp.lt hn _) hl (h a (b-1) gV gV)
 ·exact h a b pN gV
theorem Ra(hp:bW n p):∀f k,1<=k->k+f<=n->eN le p k->iY lt (kas_asc p f k) λr=>k<=r/\r<=k+f/\eN le p r/\(r<k+f->le (p.getD r 0) (p.getD (r-1) 0))
 |0,k,_,_,h=>.ret ⟨bT _,by lia,h,λz=>by lia⟩
 |f+1,k,hk,hkf,h=>tY o hn (hp.lt hn _) (hp.lt hn _) (λhl=>.ret ⟨bT _,by lia,h,λ_=>hl⟩) λhl=>by
  obtain⟨r,e,h1,h2,h3,h4⟩:=Ra hp f (k+1) gV gV (zgX o hn hp hk h hl);exact⟨r,e,by lia,by lia,h3,λz=>h4 gV⟩
theorem X5(hp:bW n p)(hk:k<=n)(h:uQ le p k)(ha:HN le p l k):uQ le (kas_rev p l k) k:=λa b pN hb=>by
 have hs:=hp.size;rw[uR gV,uR gV];by_cases ca:l<=a/\a<k
 ·rw[if_pos ca,if_pos gV];exact ha _ _ gV gV gV gV
 ·rw[if_neg ca];by_cases cb:l<=b/\b<k
  ·rw[if_pos cb];exact h a _ gV gV
  ·rw[if_neg cb];exact h a b pN hb
theorem KR:∀f {p:Array Nat} k q,bW n p->1<=k->k+f<=n->q+1<=k->uQ le p k->HN le p (k-(q+1)) k->iY lt (kas_desc f p k q) λr=>bW n r.1/\k<=r.2.1/\r.2.1<=k+f/\r.2.2+1<=r.2.1/\uQ le r.1 r.2.1/\HN le r.1 (r.2.1-(r.2.2+1)) r.2.1
 |0,p,k,q,hp,_,_,hq,h,ha=>.ret ⟨hp,bT _,by dsimp only;lia,hq,h,ha⟩
 |f+1,p,k,q,hp,hk,hkf,hq,h,ha=>tY o hn (hp.lt hn _) (hp.lt hn _) (λhl=>by
   show iY lt (if q>0 then _ else _) _;have hs:=hp.size;have one:∀{x:Array Nat},bW n x->HN le x (k+1-(0+1)) (k+1):=λ{x} hx a b h1 h2 h3 h4=>by
    have:a=k:=by lia
    have:b=k:=by lia
    subst a;subst b;exact o.rfl' (hx.lt hn _)
   split
   ·have hp':=hp.rev (k-(q+1)) k;have h':uQ le (kas_rev p (k-(q+1)) k) (k+1):=HS o hn hp' hk (X5 o hn hp gV h ha) (by
     rw[uR gV,uR gV,if_neg gV,if_pos gV];refine o.tr _ _ _ (hp.lt hn _) (hp.lt hn _) (hp.lt hn _) hl (ha _ _ gV gV gV gV))
    obtain⟨r,e,w⟩:=KR f (k+1) 0 hp' gV gV gV h' (one hp');exact⟨r,e,w.1,by lia,by lia,w.2.2.2⟩
   ·obtain⟨r,e,w⟩:=KR f (k+1) 0 hp gV gV gV (HS o hn hp hk h hl) (one hp);exact⟨r,e,w.1,by lia,by lia,w.2.2.2⟩) λhl=>tY o hn (hp.lt hn _) (hp.lt hn _) (λ_=>.ret ⟨hp,bT _,by dsimp only;lia,hq,h,ha⟩) λrN=>by
   have hA:HN le p (k+1-(q+1+1)) (k+1):=λa b h1 h2 h3 h4=>by
    have key:∀c,k-(q+1)<=c->c<k->le (p.getD c 0) (p.getD k 0)/\le (p.getD k 0) (p.getD c 0):=λc c1 c2=>
     ⟨o.tr _ _ _ (hp.lt hn _) (hp.lt hn _) (hp.lt hn _) (ha c (k-1) c1 c2 gV gV) hl,o.tr _ _ _ (hp.lt hn _) (hp.lt hn _) (hp.lt hn _) rN (ha (k-1) c gV gV c1 c2)⟩
    by_cases ea:a=k
    ·by_cases eb:b=k
     ·subst a;subst b;exact o.rfl' (hp.lt hn _)
     ·subst a;exact(key b gV gV).2
    ·by_cases eb:b=k
     ·subst b;exact(key a gV gV).1
     ·exact ha a b gV gV gV gV
   obtain⟨r,e,w⟩:=KR f (k+1) (q+1) hp gV gV gV (HS o hn hp hk h rN) hA;exact⟨r,e,w.1,by lia,by lia,w.2.2.2⟩
theorem ziv(hp:bW n p)(hk:k<=n)(h:uQ le p k):eN le (kas_rev p 0 k) k:=λa b pN hb=>by
 have hs:=hp.size;rw[uR gV,uR gV,if_pos gV,if_pos gV];exact h _ _ gV gV
theorem X6(hp:bW n p)(hk:1<=k)(HW:k<=n)(h:uQ le p k):iY lt (kas_tail3 k n p) λr=>bW n r.2/\1<=r.1/\r.1<=n/\eN le r.2 r.1:=by
 refine iY.bind (λc hc=>?_) (Ra o hn (hp.rev 0 k) (n-k) k hk gV (ziv o hn hp HW h));exact⟨_,rfl,hp.rev 0 k,by dsimp only;lia,by dsimp only;lia,hc.2.2.1⟩
theorem X7(hp:bW n p)(hk:1<=k)(HW:k<n)(h:uQ le p (k+1)):iY lt (kas_descPart k n p) λr=>bW n r.2/\1<=r.1/\r.1<=n/\eN le r.2 r.1:=by
 refine iY.bind (λr hr=>?_) (KR o hn (n-(k+1)) (k+1) 0 hp gV gV gV h (λa b h1 h2 h3 h4=>by
  have:a=k:=by lia
  have:b=k:=by lia
  subst a;subst b;exact o.rfl' (hp.lt hn _)))
 obtain⟨w1,w2,w3,w4,w5,w6⟩:=hr
 split
 ·exact X6 o hn (w1.rev _ _) gV gV (X5 o hn w1 gV w5 w6)
 ·exact X6 o hn w1 gV gV w5
theorem ziH(hp:bW n p):iY lt (kas_count n p) λr=>bW n r.2/\1<=r.1/\r.1<=n/\eN le r.2 r.1:=by
 refine iY.bind (λk hk=>?_) (Ra o hn hp (n-1) 1 (bT _) gV (λa b h1 h2=>by lia));obtain⟨k1,k2,k3,k4⟩:=hk;have hs:=hp.size;by_cases e:(k==n)=true
 ·rw[if_pos e];exact .ret ⟨hp,k1,by dsimp only;lia,k3⟩
 ·rw[if_neg e];have HW:k<n:=by
   have:k≠n:=by simpa using e
   lia
  have hl:=k4 gV
  split
  ·refine tY o hn (hp.lt hn _) (hp.lt hn _) (λ_=>.ret ⟨hp,k1,by dsimp only;lia,k3⟩) λhz=>?_;have X8:∀a b,a<k->b<k->le (p.getD a 0) (p.getD b 0):=λa b ha hb=>by
    have h1:le (p.getD a 0) (p.getD (k-1) 0):=by
     by_cases q:a=k-1
     ·subst q;exact o.rfl' (hp.lt hn _)
     ·exact k3 a (k-1) gV gV
    have h2:le (p.getD 0 0) (p.getD b 0):=by
     by_cases q:b=0
     ·subst q;exact o.rfl' (hp.lt hn _)
     ·exact k3 0 b gV gV
    exact o.tr _ _ _ (hp.lt hn _) (hp.lt hn _) (hp.lt hn _) (o.tr _ _ _ (hp.lt hn _) (hp.lt hn _) (hp.lt hn _) h1 hz) h2
   refine X7 o hn (hp.rev 0 k) k1 HW (HS o hn (hp.rev 0 k) k1 (λa b h1 h2=>?_) ?_)
   ·rw[uR gV,uR gV,if_pos gV,if_pos gV];exact X8 _ _ gV gV
   ·rw[uR gV,uR gV,if_neg gV,if_pos gV];exact o.tr _ _ _ (hp.lt hn _) (hp.lt hn _) (hp.lt hn _) hl (X8 _ _ gV gV)
  ·have:k=1:=by lia
   subst this;refine X7 o hn hp (bT _) HW (HS o hn hp (bT _) (λa b h1 h2=>by lia) hl)
theorem Rb(hp:bW n p)(h:eN le p k):∀f l r,l<=r->r<=k->r-l<=f->(∀a,a<l->le (p.getD a 0) (p.getD k 0))->(∀a,r<=a->a<k->le (p.getD k 0) (p.getD a 0))->iY lt (kas_place p k f l r) λi=>i<=k/\(∀a,a<i->le (p.getD a 0) (p.getD k 0))/\(∀a,i<=a->a<k->le (p.getD k 0) (p.getD a 0))
 |0,l,r,h1,h2,h3,h4,h5=>.ret ⟨by lia,h4,λa z=>h5 a gV⟩
 |f+1,l,r,h1,h2,h3,h4,h5=>by
  unfold kas_place;by_cases e:l>=r
  ·rw[if_pos e];exact .ret ⟨by lia,h4,λa z=>h5 a gV⟩
  ·rw[if_neg e];refine tY o hn (hp.lt hn _) (hp.lt hn _) (λhl=>?_) λhl=>?_
   ·refine Rb hp h f l ((l+r)/2) gV gV gV h4 λa z1 z2=>?_;by_cases q:a=(l+r)/2
    ·subst q;exact hl
    ·exact o.tr _ _ _ (hp.lt hn _) (hp.lt hn _) (hp.lt hn _) hl (h _ a gV z2)
   ·refine Rb hp h f ((l+r)/2+1) r gV h2 gV (λa z=>?_) h5;by_cases q:a=(l+r)/2
    ·subst q;exact hl
    ·exact o.tr _ _ _ (hp.lt hn _) (hp.lt hn _) (hp.lt hn _) (h a _ gV gV) hl
theorem X_:∀f {p:Array Nat} k,bW n p->k+f=n->eN le p k->iY lt (kas_bin f p k) λr=>bW n r/\eN le r n
 |0,p,k,hp,hk,h=>.ret ⟨hp,(show k=n by lia)▸h⟩
 |f+1,p,k,hp,hk,h=>iY.bind (λl hl=>by
   obtain⟨l1,l2,l3⟩:=hl;have hs:=hp.size;refine X_ f (k+1) (hp.bub _ _) gV λa b pN hb=>?_;rw[X4 gV gV,X4 gV gV,show k-(k-l)=l by lia];by_cases ea:a=l
   ·rw[if_pos ea,if_neg gV,if_pos gV];exact l3 (b-1) gV gV
   ·rw[if_neg ea];by_cases ca:l<a/\a<=k
    ·rw[if_pos ca,if_neg gV,if_pos gV];exact h _ _ gV gV
    ·rw[if_neg ca];by_cases eb:b=l
     ·rw[if_pos eb];exact l2 a gV
     ·rw[if_neg eb];by_cases cb:l<b/\b<=k
      ·rw[if_pos cb];by_cases q:a=b-1
       ·lia
       ·exact h _ _ gV gV
      ·rw[if_neg cb];exact h _ _ pN gV) (Rb o hn hp h k 0 k gV (bT _) gV (λa z=>by lia) (λa z1 z2=>by lia))
theorem zld:iY lt (kas_sort n) λp=>bW n p/\eN le p n:=by
 refine iY.bind (λr hr=>?_) (ziH o hn (.refl _));obtain⟨w1,w2,w3,w4⟩:=hr
 split
 ·rw[Nat.max_eq_left w2];exact X_ o hn _ _ w1 gV w4
 ·have:r.1=n:=by lia
  exact .ret ⟨w1,this▸w4⟩
end
end Mi
namespace Ts
open PySem PySem.SetTable
theorem Rf{ss:List Nat}{j:Nat}(hs:ss.Pairwise (·<·)):∀(fuel lo hi:Nat),hi-lo<=fuel->lo<=hi->hi<=ss.length->(∀i (h:i<ss.length),i<lo->ss[i]<j)->(∀i (h:i<ss.length),hi<=i->j<=ss[i])->
  below.go ss.toArray j fuel lo hi<=ss.length/\(∀i (h:i<ss.length),i<below.go ss.toArray j fuel lo hi->ss[i]<j)/\(∀i (h:i<ss.length),below.go ss.toArray j fuel lo hi<=i->j<=ss[i])
 |0,lo,hi,hf,h1,h2,h3,h4=>by
  unfold below.go;have:lo=hi:=by lia
  subst this;exact⟨h2,h3,h4⟩
 |fuel+1,lo,hi,hf,h1,h2,h3,h4=>by
  unfold below.go;by_cases hlt:lo<hi
  ·rw[if_pos hlt];have hm:(lo+hi)/2<ss.length:=by lia
   have e:ss.toArray.getD ((lo+hi)/2) j=ss[(lo+hi)/2]:=by simp[hm]
   dsimp only;rw[e];by_cases hc:ss[(lo+hi)/2]<j
   ·rw[if_pos hc];refine Rf hs fuel _ _ gV gV h2 (λi h uU=>?_) h4;rcases BJ i ((lo+hi)/2) with z|z
    ·have:=qD.mp hs i ((lo+hi)/2) h hm z
     lia
    ·have:i=(lo+hi)/2:=by lia
     subst this;exact hc
   ·rw[if_neg hc];refine Rf hs fuel _ _ gV gV gV h3 (λi h uU=>?_);rcases BJ ((lo+hi)/2) i with z|z
    ·have:=qD.mp hs ((lo+hi)/2) i hm h z
     lia
    ·have:i=(lo+hi)/2:=by lia
     subst this
     lia
  ·rw[if_neg hlt];have:lo=hi:=by lia
   subst this;exact⟨h2,h3,h4⟩
theorem zei{ss:List Nat}(hs:ss.Pairwise (·<·))(j:Nat):below ss.toArray j<=ss.length/\(∀x∈ss.take (below ss.toArray j),x<j)/\∀x∈ss.drop (below ss.toArray j),j<=x:=by
 obtain⟨h1,h2,h3⟩:=Rf (j:=j) hs ss.length 0 ss.length gV gV (bT _) (λi h hi=>by lia) (λi h hi=>by lia);have e:below ss.toArray j=below.go ss.toArray j ss.length 0 ss.length:=by unfold below;rw[cU]
 rw[e];refine⟨h1,λx hx=>?_,λx hx=>?_⟩
 ·obtain⟨i,hi,rfl⟩:=wN.mp hx;rw[wO] at hi;rw[List.getElem_take];exact h2 i gV gV
 ·obtain⟨i,hi,rfl⟩:=wN.mp hx;rw[Dv] at hi;rw[List.getElem_drop];exact h3 _ gV gV
noncomputable abbrev Ent:=List (Nat×Nat)
def eN(L:Ent):Prop:=(L.map (·.1)).Pairwise (·<·)
theorem Rg{L:Ent}(hs:eN L)(j:Nat):∃La Lb,L=La++Lb/\below (L.map (·.1)).toArray j=La.length/\(∀e∈La,e.1<j)/\∀e∈Lb,j<=e.1:=by
 obtain⟨h1,h2,h3⟩:=zei hs j;generalize below (L.map (·.1)).toArray j=b at h1 h2 h3;rw[cg] at h1;refine⟨L.take b,L.drop b,(List.take_append_drop b L).symm,by rw[wO];lia,λe he=>h2 _ ?_,λe he=>h3 _ ?_⟩
 ·rw[<-List.map_take];exact qW he
 ·rw[<-List.map_drop];exact qW he
theorem zkE{La Lb:Ent}{e:Nat×Nat}(h:eN (La++e::Lb)):(∀x∈La,x.1<e.1)/\∀x∈Lb,e.1<x.1:=by
 unfold eN at h;rw[lY,jE,Dp] at h;refine⟨λx hx=>h.2.2 _ (qW hx) _ dM,λx hx=>?_⟩;exact(yD.mp h.2.1).1 _ (qW hx)
theorem zhD{La Lb:Ent}{e:Nat×Nat}(h:eN (La++Lb))(ha:∀x∈La,x.1<e.1)(hb:∀x∈Lb,e.1<x.1):eN (La++e::Lb):=by
 unfold eN at h ⊢;rw[lY,Dp] at h;rw[lY,jE,Dp];refine⟨h.1,yD.mpr ⟨λx hx=>?_,h.2.1⟩,λx hx y hy=>?_⟩
 ·obtain⟨z,hz,rfl⟩:=fZ.mp hx;exact hb z hz
 ·rcases cV.mp hy with rfl|hy
  ·obtain⟨z,hz,rfl⟩:=fZ.mp hx;exact ha z hz
  ·exact h.2.2 x hx y hy
theorem Yb{j:Nat}:has #[] j=false:=by unfold has;rfl
theorem zkZ{t:SetTable}{L:Ent}(ht:t.place=(L.map (·.1)).toArray)(hd:t.dummies=#[])(hs:eN L)(j:Nat) :
  (∃La k Lb,L=La++(j,k)::Lb/\t.slot j=.live La.length)\/((∀e∈L,e.1≠j)/\t.slot j=.empty):=by
 obtain⟨La,Lb,e,hb,h1,h2⟩:=Rg hs j;have lF:t.slot j=if (L.map (·.1)).toArray[La.length]?==some j then .live La.length else if has t.dummies j then .dummy else .empty:=by
  unfold slot;rw[ht,hb]
 rw[hd,Yb] at lF;have hg:(L.map (·.1)).toArray[La.length]?=(Lb.map (·.1))[0]?:=by
  rw[Dl,e,lY,m8 Zaa];simp
 rw[hg] at lF;cases Lb with
 |nil=>
  right
  refine⟨λx hx=>?_,by rw[lF];rfl⟩;rw[e,yF] at hx;exact cP (h1 x hx)
 |cons x Lb=>
  by_cases hx:x.1=j
  ·left
   refine⟨La,x.2,Lb,by rw[e,<-hx],?_⟩;rw[lF,if_pos (by simp[hx])]
  ·right
   have hgt:j<x.1:=by have:=h2 x dM;lia
   rw[e] at hs;obtain⟨_,a2⟩:=zkE hs;refine⟨λy hy=>?_,by rw[lF,if_neg (by simp[hx])];rfl⟩;rw[e] at hy;rcases fX.mp hy with hy|hy
   ·exact cP (h1 y hy)
   ·rcases cV.mp hy with rfl|hy
    ·exact hx
    ·have:=a2 y hy;lia
theorem Yc{α:Type}(a b:List α)(x:α):insertAt (a++b).toArray a.length x=(a++x::b).toArray:=by
 unfold insertAt;apply Array.toList_inj.mp;simp
theorem zlu{t:SetTable}{L:Ent}(ht:t.place=(L.map (·.1)).toArray)(hd:t.dummies=#[])(hs:eN L){j:Nat}(hj:∀e∈L,e.1≠j)(k:Nat) :
  ∃La Lb,L=La++Lb/\t.put j=({t with place:=((La++(j,k)::Lb).map (·.1)).toArray},La.length)/\eN (La++(j,k)::Lb):=by
 obtain⟨La,Lb,e,hb,h1,h2⟩:=Rg hs j;refine⟨La,Lb,e,?_,?_⟩
 ·unfold put;rw[hd,Yb,ht,hb];dsimp only;have:insertAt (L.map (·.1)).toArray La.length j=((La++(j,k)::Lb).map (·.1)).toArray:=by
   rw[e,lY];have:=Yc (La.map (·.1)) (Lb.map (·.1)) j;rw[cg] at this;rw[this,lY,jE]
  rw[this];simp[hd]
 ·rw[e] at hs;exact zhD hs (λx hx=>h1 x hx) (λx hx=>by
   have:=h2 x hx;have:=hj x (by rw[e];exact m_ _ hx);show j<x.1
   lia)
noncomputable def dW(m:Nat)(p:Probe):Probe:=
 if p.more>0 then {p with j:=p.j+1,more:=p.more-1} else {p with j:=(leap m p.i p.perturb).1,more:=runEnd m (leap m p.i p.perturb).1-(leap m p.i p.perturb).1,i:=(leap m p.i p.perturb).1,perturb:=(leap m p.i p.perturb).2}
theorem zea(t:SetTable)(p:Probe):t.advance p=dW t.mask p:=rfl
noncomputable def uV(m i pt:Nat):Probe:={j:=i,more:=runEnd m i-i,i,perturb:=pt,dummy:=none}
noncomputable def start(m:Nat)(h:Int):Probe:=uV m (bits h%(m+1)) (bits h)
noncomputable def steps(m:Nat):Nat->Probe->List Nat
 |0,_=>[]
 |n+1,p=>p.j::steps m n (dW m p)
theorem zeU{m:Nat}{p:Probe}(h:p.dummy=none):(dW m p).dummy=none:=by unfold dW;split<;>exact h
def Taken(hk:Nat->Int)(L:Ent)(h:Int)(pre:List Nat):Prop:=∀x∈pre,∃e∈L,e.1=x/\hk e.2≠h
def qR(hk:Nat->Int)(L:Ent)(h:Int)(js:List Nat)(j:Nat):Prop:=∃pre post,js=pre++j::post/\Taken hk L h pre
theorem Yd{t:SetTable}{L:Ent}{hk:Nat->Int}{hashAt:Nat->Int}{h:Int}(ht:t.place=(L.map (·.1)).toArray)(hd:t.dummies=#[])(hs:eN L)(hH:∀La e Lb,L=La++e::Lb->hashAt La.length=hk e.2) :
  ∀(fuel:Nat) (p:Probe),p.dummy=none->match probe.go t hashAt h fuel p with
   |none=>∀j∈steps t.mask fuel p,∃e∈L,e.1=j
   |some (.empty j d)=>d=none/\(∀e∈L,e.1≠j)/\qR hk L h (steps t.mask fuel p) j
   |some (.candidate j i next)=>∃La k Lb,L=La++(j,k)::Lb/\i=La.length/\hk k=h
 |0,p,hp=>by unfold probe.go;intro j hj;cases hj
 |fuel+1,p,hp=>by
  unfold probe.go;rcases zkZ ht hd hs p.j with ⟨La,k,Lb,e,lF⟩|⟨B_,lF⟩
  ·rw[lF];dsimp only;have hh:hashAt La.length=hk k:=hH La (p.j,k) Lb e;rw[hh];by_cases hc:hk k=h
   ·rw[if_pos (by simpa using hc)];exact⟨La,k,Lb,e,rfl,hc⟩
   ·rw[if_neg (by simpa using hc),zea];have ih:=Yd ht hd hs hH (h:=h) fuel (dW t.mask p) (zeU hp);have Am:(p.j,k)∈L:=by rw[e];simp
    cases hg:probe.go t hashAt h fuel (dW t.mask p) with
    |none=>
     rw[hg] at ih;intro j hj;rcases cV.mp (show j∈p.j::steps t.mask fuel (dW t.mask p) from hj) with rfl|hj
     ·exact⟨_,Am,rfl⟩
     ·exact ih j hj
    |some met=>
     rw[hg] at ih;cases met with
     |empty j d=>
      obtain⟨a1,a2,pre,post,a3,a4⟩:=ih;refine⟨a1,a2,p.j::pre,post,by show p.j::steps t.mask fuel (dW t.mask p)=_;rw[a3];rfl,λx hx=>?_⟩;rcases cV.mp hx with rfl|hx
      ·exact⟨_,Am,rfl,hc⟩
      ·exact a4 x hx
     |candidate j i next=>exact ih
  ·rw[lF];exact⟨hp,B_,[],steps t.mask fuel (dW t.mask p),rfl,λx hx=>by cases hx⟩
theorem Ye{P:Nat->Prop}{j j':Nat}:∀{pre post pre' post':List Nat},pre++j::post=pre'++j'::post'->(∀x∈pre,P x)->¬P j->(∀x∈pre',P x)->¬P j'->j=j'
 |[],_,[],_,e,_,_,_,_=>by cases e;rfl
 |[],_,x::pre',_,e,_,hj,h',_=>by cases e;exact absurd (h' _ dM) hj
 |x::pre,_,[],_,e,h,_,_,HX=>by cases e;exact absurd (h _ dM) HX
 |x::pre,post,y::pre',post',e,h,hj,h',HX=>by
  injection e with _ e;exact Ye e (λz hz=>h z (dF _ hz)) hj (λz hz=>h' z (dF _ hz)) HX
structure Tab(hk:Nat->Int)(t:SetTable)(L:Ent):Prop where
 place:t.place=(L.map (·.1)).toArray
 Ao:t.dummies=#[]
 asc:eN L
 inj:∀e∈L,∀e'∈L,hk e.2=hk e'.2->e=e'
 HY:∀e∈L,qR hk L (hk e.2) (steps t.mask (10*turns t.mask) (start t.mask (hk e.2))) e.1
def Wide(m c:Nat)(h:Int):Prop:=∃l:List Nat,l.Nodup/\c<=l.length/\∀x∈l,x∈steps m (10*turns m) (start m h)
theorem zgf{L:Ent}(h:eN L){e e':Nat×Nat}(he:e∈L)(qx:e'∈L)(q:e.1=e'.1):e=e':=by
 obtain⟨i,hi,rfl⟩:=wN.mp he;obtain⟨k,hk,rfl⟩:=wN.mp qx;have hp:=qD.mp h;rcases Mp i k with z|z|z
 ·have:=hp i k (by simpa using hi) (by simpa using hk) z;simp at this;lia
 ·subst z;rfl
 ·have:=hp k i (by simpa using hk) (by simpa using hi) z;simp at this;lia
theorem Rh{α:Type}[DecidableEq α]:∀{l m:List α},l.Nodup->l ⊆ m->l.length<=m.length
 |[],_,_,_=>nj _
 |x::l,m,hn,h=>by
  have hx:x∈m:=h dM;rw[qI] at hn;have ih:=Rh (m:=m.erase x) hn.2 λy hy=>(List.mem_erase_of_ne (λe=>hn.1 (by rw[<-e];exact hy))).mpr (h (dF _ hy));have:=List.length_erase_of_mem hx;have:=List.length_pos_of_mem hx;rw[iB]
  lia
theorem few{L:Ent}{l:List Nat}(hn:l.Nodup)(hl:∀x∈l,∃e∈L,e.1=x):l.length<=L.length:=by
 have h:l ⊆ L.map (·.1):=λx hx=>by obtain⟨e,he,q⟩:=hl x hx;exact fZ.mpr ⟨e,he,q⟩
 have:=Rh hn h
 rwa [cg] at this
theorem zhh{t:SetTable}{L:Ent}{hk:Nat->Int}{hashAt:Nat->Int}{h:Int}(T:Tab hk t L)(hH:∀La e Lb,L=La++e::Lb->hashAt La.length=hk e.2){c:Nat}(hw:Wide t.mask c h)(hc:L.length<c) :
  (∃La j k Lb next,t.probe hashAt h (t.probeStart h)=some (.candidate j La.length next)/\L=La++(j,k)::Lb/\hk k=h) \/
  (∃j,t.probe hashAt h (t.probeStart h)=some (.empty j none)/\(∀e∈L,hk e.2≠h)/\(∀e∈L,e.1≠j)/\qR hk L h (steps t.mask (10*turns t.mask) (start t.mask h)) j):=by
 have g:=Yd (h:=h) T.place T.Ao T.asc hH (10*turns t.mask) (start t.mask h) rfl;have e0:t.probe hashAt h (t.probeStart h)=probe.go t hashAt h (10*turns t.mask) (start t.mask h):=rfl;rw[e0];cases hg:probe.go t hashAt h (10*turns t.mask) (start t.mask h) with
 |none=>
  rw[hg] at g;obtain⟨l,l1,l2,l3⟩:=hw;have:=few l1 λx hx=>g x (l3 x hx)
  lia
 |some met=>
  rw[hg] at g;cases met with
  |candidate j i next=>
   obtain⟨La,k,Lb,a1,rfl,a3⟩:=g;exact .inl ⟨La,j,k,Lb,next,rfl,a1,a3⟩
  |empty j d=>
   obtain⟨rfl,a2,a3⟩:=g;refine .inr ⟨j,rfl,λe he q=>?_,a2,a3⟩;obtain⟨pre,post,b1,b2⟩:=a3;obtain⟨pre',post',c1,c2⟩:=T.HY e he;rw[q] at c1 c2;have:j=e.1:=Ye (P:=λx=>∃e∈L,e.1=x/\hk e.2≠h) (b1.symm.trans c1) b2 (λ⟨e',h1,h2,_⟩=>a2 e' h1 h2) c2 (λ⟨e',h1,h2,h3⟩=>h3 (by rw[zgf T.asc h1 he h2];exact q));exact a2 e he this.symm
theorem Tab.add(T:Tab hk t (La++Lb))(ha:eN (La++(j,k)::Lb))(hn:∀e∈La++Lb,hk e.2≠hk k)(hf:qR hk (La++Lb) (hk k) (steps t.mask (10*turns t.mask) (start t.mask (hk k))) j) :
  Tab hk {t with place:=((La++(j,k)::Lb).map (·.1)).toArray} (La++(j,k)::Lb):=by
 have ao:∀e∈La++Lb,e∈La++(j,k)::Lb:=λe he=>by
  rcases fX.mp he with z|z
  ·exact qF _ z
  ·exact m_ _ (dF _ z)
 have cas:∀e∈La++(j,k)::Lb,e=(j,k)\/e∈La++Lb:=λe he=>by
  rcases fX.mp he with z|z
  ·exact .inr (qF _ z)
  ·rcases cV.mp z with z|z
   ·exact .inl z
   ·exact .inr (m_ _ z)
 have mono:∀{h js x},qR hk (La++Lb) h js x->qR hk (La++(j,k)::Lb) h js x:=λ⟨pre,post,a,b⟩=>⟨pre,post,a,λx hx=>let ⟨e,h1,h2⟩:=b x hx;⟨e,ao e h1,h2⟩⟩;refine⟨rfl,T.Ao,ha,λe he e' qx q=>?_,λe he=>?_⟩
 ·rcases cas e he with rfl|z<;>rcases cas e' qx with rfl|z'
  ·rfl
  ·exact absurd q.symm (hn e' z')
  ·exact absurd q (hn e z)
  ·exact T.inj e z e' z' q
 ·rcases cas e he with rfl|z
  ·exact mono hf
  ·exact mono (T.HY e z)
noncomputable def rounds(m:Nat):Nat->Nat->Nat->List Nat
 |0,_,_=>[]
 |f+1,i,pt=>(List.range (runEnd m i+1-i)).map (i+·)++rounds m f (leap m i pt).1 (leap m i pt).2
theorem Yg:∀(c f:Nat) (p:Probe),p.more=c->p.dummy=none->steps m (c+1+f) p=(List.range (c+1)).map (p.j+·)++steps m f (uV m (leap m p.i p.perturb).1 (leap m p.i p.perturb).2)
 |0,f,p,hc,hd=>by
  have e:dW m p=uV m (leap m p.i p.perturb).1 (leap m p.i p.perturb).2:=by
   unfold dW uV;rw[if_neg gV,hd]
  rw[show 0+1+f=f+1 by lia];show p.j::steps m f (dW m p)=_;rw[e];rfl
 |c+1,f,p,hc,hd=>by
  have e:dW m p={p with j:=p.j+1,more:=p.more-1}:=by
   unfold dW;rw[if_pos gV]
  rw[show c+1+1+f=(c+1+f)+1 by lia];show p.j::steps m (c+1+f) (dW m p)=_;rw[e,Yg c f {p with j:=p.j+1,more:=p.more-1} (by show p.more-1=c;lia) hd];rw[Lx (n:=c+1),jE,mj,List.cons_append]
  congr 1
  congr 1
  apply I_;intro x _;show p.j+1+x=p.j+(x+1)
  lia
theorem Yh:∀(a b:Nat) (p:Probe),∃r,steps m (a+b) p=steps m a p++r
 |0,b,p=>⟨steps m (0+b) p,rfl⟩
 |a+1,b,p=>by
  obtain⟨r,e⟩:=Yh a b (dW m p);refine⟨r,?_⟩;rw[show a+1+b=(a+b)+1 by lia];show p.j::steps m (a+b) (dW m p)=p.j::steps m a (dW m p)++r;rw[e];rfl
theorem ziY:runEnd m i-i=9\/runEnd m i-i=0:=by
 unfold runEnd
 split<;>lia
theorem zjv:i<=runEnd m i:=by
 unfold runEnd
 split<;>lia
theorem Ri{m:Nat}:∀(f i pt:Nat),∃post,steps m (10*f) (uV m i pt)=rounds m f i pt++post
 |0,i,pt=>⟨[],rfl⟩
 |f+1,i,pt=>by
  obtain⟨post,e⟩:=Ri (m:=m) f (leap m i pt).1 (leap m i pt).2;obtain⟨r,e2⟩:=Yh (m:=m) (10*f) (9-(runEnd m i-i)) (uV m (leap m i pt).1 (leap m i pt).2);have hr:=ziY (m:=m) (i:=i);have hg:=zjv (m:=m) (i:=i);refine⟨post++r,?_⟩;have h1:10*(f+1)=(runEnd m i-i)+1+(10*f+(9-(runEnd m i-i))):=by lia
  rw[h1,Yg (runEnd m i-i) _ (uV m i pt) rfl rfl];show (List.range (runEnd m i-i+1)).map (i+·)++steps m (10*f+(9-(runEnd m i-i))) (uV m (leap m i pt).1 (leap m i pt).2)=(List.range (runEnd m i+1-i)).map (i+·)++rounds m f (leap m i pt).1 (leap m i pt).2++(post++r);rw[e2,e,show runEnd m i+1-i=runEnd m i-i+1 by lia];simp only[Br]
theorem Rj{m:Nat}:∀(f i pt:Nat),i<=m->∀x∈rounds m f i pt,x<=m
 |0,_,_,_,x,hx=>by cases hx
 |f+1,i,pt,hi,x,hx=>by
  rcases fX.mp (show x∈(List.range (runEnd m i+1-i)).map (i+·)++rounds m f (leap m i pt).1 (leap m i pt).2 from hx) with z|z
  ·obtain⟨k,hk,rfl⟩:=fZ.mp z;rw[uw] at hk;unfold runEnd at hk;split at hk<;>lia
  ·exact Rj f _ _ (by show (i*5+1+pt/32)%(m+1)<=m;have:=Nat.mod_lt (i*5+1+pt/32) (show 0<m+1 by lia);lia) x z
theorem Yi{m:Nat}{owner:Array (Option Nat)}:∀(f i pt:Nat),match layClean.free m owner f i pt with
  |none=>∀x∈rounds m f i pt,(owner.getD x (some 0)).isNone=false
  |some j=>∃pre post,rounds m f i pt=pre++j::post/\(owner.getD j (some 0)).isNone=true/\∀x∈pre,(owner.getD x (some 0)).isNone=false
 |0,i,pt=>by unfold layClean.free;intro x hx;cases hx
 |f+1,i,pt=>by
  unfold layClean.free;cases hf:(List.range (runEnd m i+1-i)).find? λk=>(owner.getD (i+k) (some 0)).isNone with
  |some k=>
   dsimp only;obtain⟨h1,as,bs,h2,h3⟩:=List.find?_eq_some_iff_append.mp hf;refine⟨as.map (i+·),bs.map (i+·)++rounds m f (leap m i pt).1 (leap m i pt).2,?_,h1,λx hx=>?_⟩
   ·show (List.range (runEnd m i+1-i)).map (i+·)++_=_;rw[h2];simp
   ·obtain⟨a,ha,rfl⟩:=fZ.mp hx;simpa using h3 a ha
  |none=>
   have hn:=List.find?_eq_none.mp hf;have H_:∀x∈(List.range (runEnd m i+1-i)).map (i+·),(owner.getD x (some 0)).isNone=false:=λx hx=>by
    obtain⟨a,ha,rfl⟩:=fZ.mp hx;exact Mh.mpr (hn a ha)
   have ih:=Yi (m:=m) (owner:=owner) f (leap m i pt).1 (leap m i pt).2;show match layClean.free m owner f (leap m i pt).1 (leap m i pt).2 with
    |none=>∀x∈rounds m (f+1) i pt,(owner.getD x (some 0)).isNone=false
    |some j=>∃pre post,rounds m (f+1) i pt=pre++j::post/\(owner.getD j (some 0)).isNone=true/\∀x∈pre,(owner.getD x (some 0)).isNone=false
   cases hg:layClean.free m owner f (leap m i pt).1 (leap m i pt).2 with
   |none=>
    rw[hg] at ih;intro x hx;rcases fX.mp (show x∈(List.range (runEnd m i+1-i)).map (i+·)++rounds m f (leap m i pt).1 (leap m i pt).2 from hx) with z|z
    ·exact H_ x z
    ·exact ih x z
   |some j=>
    rw[hg] at ih;obtain⟨pre,post,a1,a2,a3⟩:=ih;refine⟨(List.range (runEnd m i+1-i)).map (i+·)++pre,post,?_,a2,λx hx=>?_⟩
    ·show (List.range (runEnd m i+1-i)).map (i+·)++rounds m f (leap m i pt).1 (leap m i pt).2=_;rw[a1,Br]
    ·rcases fX.mp hx with z|z
     ·exact H_ x z
     ·exact a3 x z
structure Own(m:Nat)(owner:Array (Option Nat))(O:Ent):Prop where
 size:owner.size=m+1
 at':∀x k,owner[x]?=some (some k)↔(x,k)∈O
theorem Own.yes{m:Nat}{owner:Array (Option Nat)}{O:Ent}(h:Own m owner O){x:Nat}(hx:x<=m)(q:(owner.getD x (some 0)).isNone=false):∃e∈O,e.1=x:=by
 have hs:x<owner.size:=by rw[h.size];lia
 have e:owner.getD x (some 0)=owner[x]:=by simp[hs]
 rw[e] at q;cases hc:owner[x] with
 |none=>rw[hc] at q;cases q
 |some k=>exact⟨(x,k),(h.at' x k).mp (by rw[Dk hs,hc]),rfl⟩
theorem Own.no{m:Nat}{owner:Array (Option Nat)}{O:Ent}(h:Own m owner O){x:Nat}(q:(owner.getD x (some 0)).isNone=true):x<owner.size/\∀e∈O,e.1≠x:=by
 have hs:x<owner.size:=by
  rcases BJ x owner.size with z|z
  ·exact z
  ·rw[show owner.getD x (some 0)=some 0 by simp[DK.mpr z]] at q;cases q
 have e:owner.getD x (some 0)=owner[x]:=by simp[hs]
 rw[e] at q;refine⟨hs,λe he z=>?_⟩;have:=(h.at' e.1 e.2).mpr he;rw[z,Dk hs] at this;rw[cI this] at q;cases q
theorem Own.set{m:Nat}{owner:Array (Option Nat)}{O:Ent}(h:Own m owner O){x k:Nat}(hs:x<owner.size)(hn:∀e∈O,e.1≠x):Own m (owner.setIfInBounds x (some k)) (O++[(x,k)]):=by
 refine⟨by rw[Array.size_setIfInBounds];exact h.size,λy l=>?_⟩;rw[Array.getElem?_setIfInBounds];by_cases e:x=y
 ·subst e;rw[if_pos rfl,if_pos hs]
  constructor
  ·intro z;cases z;simp
  ·intro z;rcases fX.mp z with z|z
   ·exact absurd rfl (hn _ z)
   ·simp at z;rw[z]
 ·rw[if_neg e,h.at' y l]
  constructor
  ·exact λz=>qF _ z
  ·intro z;rcases fX.mp z with z|z
   ·exact z
   ·simp at z;exact absurd z.1.symm e
def eO(m c:Nat)(h:Int):Prop:=∃l:List Nat,l.Nodup/\c<=l.length/\∀x∈l,x∈rounds m (turns m) (bits h%(m+1)) (bits h)
theorem eO.wide(w:eO m c h):Wide m c h:=by
 obtain⟨l,a,b,d⟩:=w;obtain⟨post,e⟩:=Ri (m:=m) (turns m) (bits h%(m+1)) (bits h);refine⟨l,a,b,λx hx=>?_⟩;show x∈steps m (10*turns m) (uV m (bits h%(m+1)) (bits h));rw[e];exact qF _ (d x hx)
structure Lay(m:Nat)(hk:Nat->Int)(owner:Array (Option Nat))(k:Nat)(O:Ent):Prop where
 own:Own m owner O
 ids:O.map (·.2)=List.range k
 slots:(O.map (·.1)).Nodup
 le:∀e∈O,e.1<=m
 HY:∀e∈O,qR hk O (hk e.2) (steps m (10*turns m) (start m (hk e.2))) e.1
noncomputable def iZ(m:Nat)(acc:Option (Array (Option Nat)×Nat))(h:Int):Option (Array (Option Nat)×Nat):=do
  let (owner,k) <-acc
  let j <-layClean.free m owner (turns m) (bits h%(m+1)) (bits h)
  pure (owner.setIfInBounds j (some k),k+1)
theorem zdt{m c:Nat}{hs:List Int}(hw:∀h∈hs,eO m c h)(hc:hs.length<=c)(hd:hs.Nodup):∀(rest:List Int) (k:Nat) (owner:Array (Option Nat)) (O:Ent),hs.drop k=rest->k<=hs.length->Lay m (λi=>hs.getD i 0) owner k O->
  ∃lR O',rest.foldl (iZ m) (some (owner,k))=some (lR,hs.length)/\Lay m (λi=>hs.getD i 0) lR hs.length O'
 |[],k,owner,O,e,hk,L=>by
  have:hs.length<=k:=List.drop_eq_nil_iff.mp e;have:k=hs.length:=by lia
  subst this;exact⟨owner,O,rfl,L⟩
 |h::rest,k,owner,O,e,hk,L=>by
  have hlt:k<hs.length:=by
   rcases BJ k hs.length with z|z
   ·exact z
   ·rw[List.drop_eq_nil_iff.mpr z] at e;cases e
  have e':=e;rw[List.drop_eq_getElem_cons hlt] at e';injection e' with eh er;have hOl:O.length=k:=by have:=pU List.length L.ids;simpa using this
  have hgk:hs.getD k 0=h:=by rw[<-eh];simp[hlt]
  have hmh:h∈hs:=by rw[<-eh];exact qH _
  have f:=Yi (m:=m) (owner:=owner) (turns m) (bits h%(m+1)) (bits h);have Ia:bits h%(m+1)<=m:=by have:=Nat.mod_lt (bits h) (show 0<m+1 by lia);lia
  have hne:∀e∈O,hs.getD e.2 0≠h:=λx hx q=>by
   have vQ:x.2∈List.range k:=by rw[<-L.ids];exact qW hx
   rw[uw] at vQ;have g1:hs.getD x.2 0=hs[x.2]:=by simp[show x.2<hs.length by lia]
   rw[g1,<-eh] at q;have:=(yx.mp hd);exact qD.mp this x.2 k gV hlt vQ q
  cases hg:layClean.free m owner (turns m) (bits h%(m+1)) (bits h) with
  |none=>
   rw[hg] at f;obtain⟨l,l1,l2,l3⟩:=hw h hmh;have:=few (L:=O) l1 λx hx=>L.own.yes (Rj _ _ _ Ia x (l3 x hx)) (f x (l3 x hx))
   lia
  |some j=>
   rw[hg] at f;obtain⟨pre,post,a1,a2,a3⟩:=f;obtain⟨yq,Yj⟩:=L.own.no a2;have hjm:j<=m:=by have:=L.own.size;lia
   have Aq:qR (λi=>hs.getD i 0) O h (steps m (10*turns m) (start m h)) j:=by
    obtain⟨post2,e2⟩:=Ri (m:=m) (turns m) (bits h%(m+1)) (bits h);refine⟨pre,post++post2,?_,λx hx=>?_⟩
    ·show steps m (10*turns m) (uV m (bits h%(m+1)) (bits h))=_;rw[e2,a1,Br,List.cons_append]
    ·obtain⟨e,he,q⟩:=L.own.yes (Rj _ _ _ Ia x (by rw[a1];exact qF _ hx)) (a3 x hx);exact⟨e,he,q,hne e he⟩
   have mono:∀{h js x},qR (λi=>hs.getD i 0) O h js x->qR (λi=>hs.getD i 0) (O++[(j,k)]) h js x:=λ⟨pre,post,a,b⟩=>⟨pre,post,a,λx hx=>let ⟨e,h1,h2⟩:=b x hx;⟨e,qF _ h1,h2⟩⟩;have L':Lay m (λi=>hs.getD i 0) (owner.setIfInBounds j (some k)) (k+1) (O++[(j,k)]):=by
    refine⟨L.own.set yq Yj,by rw[lY,L.ids,List.range_succ];rfl,?_,λe he=>?_,λe he=>?_⟩
    ·rw[lY,Jd];refine⟨L.slots,by simp,λa ha b hb=>?_⟩;obtain⟨x,hx,rfl⟩:=fZ.mp ha;simp at hb;rw[hb];exact Yj x hx
    ·rcases fX.mp he with z|z
     ·exact L.le e z
     ·simp at z;rw[z];exact hjm
    ·rcases fX.mp he with z|z
     ·exact mono (L.HY e z)
     ·simp at z;rw[z];show qR _ _ (hs.getD k 0) (steps m (10*turns m) (start m (hs.getD k 0))) j;rw[hgk];exact mono Aq
   obtain⟨lR,O',b1,b2⟩:=zdt hw hc hd rest (k+1) _ _ er hlt L';refine⟨lR,O',?_,b2⟩;rw[List.foldl_cons];have:iZ m (some (owner,k)) h=some (owner.setIfInBounds j (some k),k+1):=by
    unfold iZ;show (layClean.free m owner (turns m) (bits h%(m+1)) (bits h)).bind _=_;rw[hg];rfl
   rw[this];exact b1
theorem Rm{m:Nat}:Own m (Array.replicate (m+1) none) []:=⟨by simp,λx k=>by
 constructor
 ·intro h;rw[Array.getElem?_replicate] at h;split at h<;>cases h
 ·intro h;cases h⟩
theorem zgP{m c:Nat}{hs:List Int}(hw:∀h∈hs,eO m c h)(hc:hs.length<=c)(hd:hs.Nodup):∃owner O,layClean m hs.toArray=some owner/\Lay m (λi=>hs.getD i 0) owner hs.length O:=by
 obtain⟨owner,O,a,b⟩:=zdt hw hc hd hs 0 _ [] rfl (nj _) ⟨Rm,rfl,by simp,(λe he=>by cases he),λe he=>by cases he⟩;refine⟨owner,O,?_,b⟩;unfold layClean;rw[List.foldl_toArray];show (hs.foldl (iZ m) (some (Array.replicate (m+1) none,0))).map (·.1)=_;rw[a];rfl
noncomputable def cj(m:Nat)(owner:Array (Option Nat)):Ent:=(List.range (m+1)).filterMap λj=>(owner.getD j none).map (j,·)
theorem zgZ(h:Own m owner O):e∈cj m owner↔e∈O:=by
 unfold cj;rw[Ma]
 constructor
 ·rintro⟨j,hj,q⟩;rw[m9] at q;obtain⟨k,q1,rfl⟩:=q;rw[<-h.at'];rw[uw] at hj;have hs:j<owner.size:=by rw[h.size];exact hj
  have e:owner.getD j none=owner[j]:=by simp[hs]
  rw[Dk hs,<-e,q1]
 ·intro he;have q:=(h.at' e.1 e.2).mpr he;obtain⟨hs,q2⟩:=Bh.mp q;refine⟨e.1,by rw[uw,<-h.size];exact hs,?_⟩;have e1:owner.getD e.1 none=owner[e.1]:=by simp[hs]
  rw[e1,q2];rfl
theorem Yk{m:Nat}{owner:Array (Option Nat)}:eN (cj m owner):=by
 unfold eN cj;rw[uq];refine List.Pairwise.filterMap _ (R:=(·<·)) (λa a' hlt b hb b' hb'=>?_) List.pairwise_lt_range;obtain⟨_,_,rfl⟩:=m9.mp hb;obtain⟨_,_,rfl⟩:=m9.mp hb';exact hlt
theorem ze8{m k:Nat}{hk:Nat->Int}{owner:Array (Option Nat)}{O:Ent}(h:Lay m hk owner k O):(cj m owner).Perm O:=by
 refine(List.perm_ext_iff_of_nodup ?_ ?_).mpr λe=>zgZ h.own
 ·have:=Yk (m:=m) (owner:=owner);unfold eN at this;rw[uq] at this;exact yx.mpr (this.imp λz q=>by rw[q] at z;exact lZ _ z)
 ·have:=yx.mp h.slots;rw[uq] at this;exact yx.mpr (this.imp λz q=>z (by rw[q]))
theorem Rn{α:Type}{l:List α}(h:l.Nodup){i j:Nat}(hi:i<l.length)(hj:j<l.length)(e:l[i]=l[j]):i=j:=by
 have p:=qD.mp (yx.mp h);rcases Mp i j with z|z|z
 ·exact absurd e (p i j hi hj z)
 ·exact z
 ·exact absurd e.symm (p j i hj hi z)
theorem zg3{t:SetTable}{L:Ent}{hk:Nat->Int}(T:Tab hk t L){wanted c:Nat}(hw:∀e∈L,eO (sizeAbove wanted-1) c (hk e.2))(hc:L.length<=c) :
  ∃(ord:List Nat) (L':Ent),t.relaid (L.map λe=>hk e.2).toArray wanted=some ({t with mask:=sizeAbove wanted-1,moves:=t.movedTo (sizeAbove wanted-1),place:=(L'.map (·.1)).toArray},ord.toArray) /\
   ord.length=L.length/\(∀i∈ord,i<L.length)/\L'.map (·.2)=ord.map (λi=>(L.getD i (0,0)).2)/\L'.length=L.length/\(L'.map (·.2)).Perm (L.map (·.2)) /\
   Tab hk {t with mask:=sizeAbove wanted-1,moves:=t.movedTo (sizeAbove wanted-1),place:=(L'.map (·.1)).toArray} L':=by
 generalize hm:sizeAbove wanted-1=m at hw;have uI:(L.map λe=>hk e.2).Nodup:=by
  rw[yx,uq];have:=T.asc;unfold eN at this;rw[uq,qD] at this;rw[qD];intro i j hi hj jZ q;have e:=T.inj _ (qH hi) _ (qH hj) q;have:=this i j hi hj jZ;rw[e] at this;exact lZ _ this
 obtain⟨owner,O,h1,h2⟩:=zgP (m:=m) (c:=c) (hs:=L.map λe=>hk e.2) (λh hh=>by obtain⟨e,he,rfl⟩:=fZ.mp hh;exact hw e he) (by rw[cg];exact hc) uI;rw[cg] at h2;have hp:=ze8 h2;have Ib:((cj m owner).map (·.2)).Perm (List.range L.length):=by rw[<-h2.ids];exact hp.map _
 have hlt:∀e∈cj m owner,e.2<L.length:=λe he=>by
  have:=Ib.mem_iff.mp (qW (f:=(·.2)) he);simpa using this
 have KY:∀e∈O,(L.map λe=>hk e.2).getD e.2 0=hk (L.getD e.2 (0,0)).2:=λe he=>by
  have:=hlt e (hp.mem_iff.mpr he);simp[this]
 refine⟨(cj m owner).map (·.2),(cj m owner).map λe=>(e.1,(L.getD e.2 (0,0)).2),?_,?_,?_,?_,?_,?_,?_⟩
 ·unfold relaid laid;rw[hm,h1];show some (_,_)=some (_,_)
  congr 2
  ·rw[mj];show SetTable.mk _ _ _ _ _ _ _=SetTable.mk _ _ _ _ _ _ _;rw[T.Ao];rfl
 ·rw[cg,hp.length_eq];have:=pU List.length h2.ids;simpa using this
 ·intro i hi;obtain⟨e,he,rfl⟩:=fZ.mp hi;exact hlt e he
 ·rw[mj,mj];rfl
 ·rw[cg,hp.length_eq];have:=pU List.length h2.ids;simpa using this
 ·rw[mj];have q1:((cj m owner).map ((λx=>x.2)∘λe=>(e.1,(L.getD e.2 (0,0)).2)))=((cj m owner).map (·.2)).map λi=>(L.getD i (0,0)).2:=by rw[mj];rfl
  rw[q1];have q2:L.map (·.2)=(List.range L.length).map λi=>(L.getD i (0,0)).2:=by
   apply List.ext_getElem
   ·simp
   ·intro i hi uU;rw[cg] at hi;simp[hi]
  rw[q2];exact Ib.map _
 ·have Ro:eN ((cj m owner).map λe=>(e.1,(L.getD e.2 (0,0)).2)):=by
   have:=Yk (m:=m) (owner:=owner);unfold eN at this ⊢;rw[mj];exact this
  have Rp:∀e∈O,∀e'∈O,hk (L.getD e.2 (0,0)).2=hk (L.getD e'.2 (0,0)).2->e=e':=λe he e' qx q=>by
   have a:=hlt e (hp.mem_iff.mpr he);have a':=hlt e' (hp.mem_iff.mpr qx);rw[<-KY e he,<-KY e' qx] at q;have q':(L.map λe=>hk e.2)[e.2]'(by rw[cg];exact a)=(L.map λe=>hk e.2)[e'.2]'(by rw[cg];exact a'):=by simpa [a,a'] using q
   have e2:e.2=e'.2:=Rn uI _ _ q';have Rq:(O.map (·.2)).Nodup:=by rw[h2.ids];exact List.nodup_range
   obtain⟨i,hi,rfl⟩:=wN.mp he;obtain⟨i',uU,rfl⟩:=wN.mp qx;have:(O.map (·.2))[i]'(by rw[cg];exact hi)=(O.map (·.2))[i']'(by rw[cg];exact uU):=by simpa using e2
   have:=Rn Rq _ _ this;subst this;rfl
  refine⟨rfl,T.Ao,Ro,λe he e' qx q=>?_,λe he=>?_⟩
  ·obtain⟨x,hx,rfl⟩:=fZ.mp he;obtain⟨x',En,rfl⟩:=fZ.mp qx;rw[Rp x (hp.mem_iff.mp hx) x' (hp.mem_iff.mp En) q]
  ·obtain⟨x,hx,rfl⟩:=fZ.mp he;have Yl:=hp.mem_iff.mp hx;obtain⟨pre,post,a,b⟩:=h2.HY x Yl;rw[KY x Yl] at a b;refine⟨pre,post,a,λy hy=>?_⟩;obtain⟨z,hz,q1,q2⟩:=b y hy;have q2:hk (L.getD z.2 (0,0)).2≠hk (L.getD x.2 (0,0)).2:=by rw[<-KY z hz];exact q2
   exact⟨(z.1,(L.getD z.2 (0,0)).2),qW (f:=λe=>(e.1,(L.getD e.2 (0,0)).2)) (hp.mem_iff.mpr hz),q1,q2⟩
end Ts
namespace Ts
open Mi PySem PySem.SetTable
noncomputable def hf(p:Int×Int):Int:=reduceHash (Builtin.Tuple.tupleHashOf [hashInt p.1,hashInt p.2])
noncomputable def dd(l:List Nat):List Nat:=l.foldr (λx r=>if r.contains x then r else x::r) []
theorem zjh(h:x∈dd l):x∈l:=by
 induction l with
 |nil=>cases h
 |cons y r ih=>
  have h:x∈(if (dd r).contains y then dd r else y::dd r):=h;split at h
  ·exact dF _ (ih h)
  ·rcases cV.mp h with rfl|h
   ·exact dM
   ·exact dF _ (ih h)
theorem Rr:∀l:List Nat,(dd l).Nodup
 |[]=>Bu
 |y::r=>by
  show (if (dd r).contains y then dd r else y::dd r).Nodup
  split
  ·exact Rr r
  ·rename_i h;exact qI.mpr ⟨by simpa using h,Rr r⟩
theorem Ym:∀(a b i pt:Nat) (x:Nat),x∈rounds m a i pt->x∈rounds m (a+b) i pt
 |0,_,_,_,x,h=>by cases h
 |a+1,b,i,pt,x,h=>by
  rw[show a+1+b=(a+b)+1 by lia];rcases fX.mp (show x∈(List.range (runEnd m i+1-i)).map (i+·)++rounds m a (leap m i pt).1 (leap m i pt).2 from h) with z|z
  ·exact qF _ z
  ·exact m_ _ (Ym a b _ _ x z)
noncomputable def pO(m c f:Nat)(h:Int):Bool:=decide (c<=(dd (rounds m f (bits h%(m+1)) (bits h))).length)
theorem Rt(hf:f<=turns m)(hb:pO m c f h=true):eO m c h:=by
 refine⟨dd (rounds m f (bits h%(m+1)) (bits h)),Rr _,oW hb,λx hx=>?_⟩;have:=Ym f (turns m-f) _ _ x (zjh hx)
 rwa [show f+(turns m-f)=turns m by lia] at this
theorem w28:(gC.all λp=>pO 7 5 13 (hf p)&&pO 31 19 9 (hf p)&&pO 127 29 5 (hf p))=true:=by decide +kernel
theorem n28:(gC.map hf).Nodup:=by decide +kernel
def fP(p:Int×Int):Prop:=0<=p.1/\p.1<p.2/\p.2<8
theorem Ie(h:fP p):p∈gC:=by
 obtain⟨a,b⟩:=p;obtain⟨h1,h2,h3⟩:=h;dsimp only at h1 h2 h3;have ha:a=0\/a=1\/a=2\/a=3\/a=4\/a=5\/a=6:=by lia
 have hb:b=1\/b=2\/b=3\/b=4\/b=5\/b=6\/b=7:=by lia
 rcases ha with rfl|rfl|rfl|rfl|rfl|rfl|rfl<;>rcases hb with rfl|rfl|rfl|rfl|rfl|rfl|rfl<;>first|(exfalso;lia)|decide
theorem Ru(h:fP p):eO 7 5 (hf p)/\eO 31 19 (hf p)/\eO 127 29 (hf p):=by
 have:=iM.mp w28 p (Ie h);rw[cO,cO] at this;exact⟨Rt R4 this.1.1,Rt R4 this.1.2,Rt R4 this.2⟩
theorem zit(h:fP p)(h':fP q)(e:hf p=hf q):p=q:=by
 obtain⟨i,hi,rfl⟩:=wN.mp (Ie h);obtain⟨j,hj,rfl⟩:=wN.mp (Ie h');have:(gC.map hf)[i]'(by rw[cg];exact hi)=(gC.map hf)[j]'(by rw[cg];exact hj):=by simpa using e
 have:=Rn n28 _ _ this;subst this;rfl
end Ts
namespace Ts
open PySem PySem.SetTable
noncomputable def aP(ts:List (Int×Int))(i:Nat):Int×Int:=ts.getD i (0,1)
noncomputable def bG(ts:List (Int×Int))(i:Nat):Int:=hf (aP ts i)
noncomputable def aF(items:List Value)(ts:List (Int×Int))(L:Ent):List (Int×Value):=L.map λe=>(bG ts e.2,items.getD e.2 .none)
structure eU(prog:Program)(w:World)(h:Heap)(S:Addr)(items:List Value)(ts:List (Int×Int)):Prop where
 len:ts.length=items.length
 tie:∀i,i<ts.length->fP (aP ts i)
 at':∀i,i<ts.length->∃a,items.getD i .none=.ref a/\a≠S/\IsTupleKey (intKind prog w) h [(aP ts i).1,(aP ts i).2] a
def tZ(m n:Nat):Prop:=m=7/\n<=4\/m=31/\n<=18\/m=127/\n<=28
structure eY(h:Heap)(S:Addr)(items:List Value)(ts:List (Int×Int))(L:Ent)(led:Bool):Prop where
 ob:∃ep t,h.get? S=some {cls:=.type "set",dict:=none,data:=.set (aF items ts L).toArray ep t}/\Tab (bG ts) t L/\tZ t.mask L.length/\t.plain=true/\t.led=led
 idx:∀e∈L,e.2<ts.length
section
variable {prog:Program}{w:World}{A:Around}{E:Value->Shared->Prop}{s:Shared}{S:Addr}{items:List Value}{ts:List (Int×Int)}{L:Ent}{led:Bool}
theorem eU.mono(T:eU prog w h S items ts)(k:∀b o,b≠S->h.get? b=some o->h'.get? b=some o):eU prog w h' S items ts:=
 ⟨T.len,T.tie,λi hi=>let ⟨a,e,n,o,its,m,ho,r⟩:=T.at' i hi;⟨a,e,n,o,its,m,k a o n ho,r⟩⟩
theorem Yn:(aF items ts (La++e::Lb)).toArray[La.length]?=some (bG ts e.2,items.getD e.2 .none):=by
 rw[Dl];unfold aF;rw[lY,jE,m8 Zaa];simp
theorem Ig(T:Tab (bG ts) t L)(c:tZ t.mask L.length):t.fits (aF items ts L).toArray.size=true:=by
 unfold SetTable.fits SetTable.fill aF;rw[T.place,T.Ao];simp only[cU,cg,cO,Du];refine⟨wQ _,?_⟩;show L.length+0<=t.mask;rcases c with c|c|c<;>lia
theorem zcP(hk:IsTupleKey (intKind prog w) s.heap [x,y] a)(h:Q true s):wpAny (model prog w) A (hashByValue 8 (.ref a)) Q E s:=by
 have hT:=hk.typeIs;obtain⟨o,its,n,ho,_,hd,hi⟩:=hk;unfold hashByValue;refine aq (wpAny_specialOf hT F.slot_tuple_hash.lookup ?_);show wpAny _ _ (seqItems? (.ref a) >>= _) _ _ s;refine aq (ux ho hd ?_);refine aq ?_;show wpAny _ _ (forIn its _ _) _ _ s;rw[<-Array.forIn_toList];refine Jf _ (λrest r s'=>r.1=none/\s'=s/\∃ks,ItemsAre (intKind prog w) ks rest) _ ?_ ?_ _ _ ⟨rfl,rfl,_,hi⟩
 ·rintro v rest r s' ⟨hr,rfl,ks,jQ⟩;cases jQ with
  |@cons k0 _ _ _ hv hrest=>
   obtain⟨t,rfl⟩:=Bo hv;have e:hashByValue 7 (.int k0 t)=pure true:=by unfold hashByValue;rfl
   refine aq ?_;show wpAny _ _ (hashByValue 7 (.int k0 t)) _ _ _;rw[e];refine aG ?_;simp only[vd,iz,gW];exact aG ⟨rfl,rfl,_,hrest⟩
 ·rintro⟨r1,r2⟩ s' ⟨hr,rfl,_⟩;simp only at hr;subst hr;exact aG h
theorem Yo(hk:IsTupleKey (intKind prog w) s.heap [x,y] a)(h:Q false s):wpAny (model prog w) A (ofAClassStatement 8 (.ref a)) Q E s:=by
 have hT:=hk.typeIs;obtain⟨o,its,n,ho,_,hd,hi⟩:=hk;unfold ofAClassStatement;refine aq (wV hT ?_);dsimp only;rw[if_pos R4];refine aq (aG ?_);simp only[vd,iz,gW];refine aq (ux ho hd ?_);refine aq ?_;show wpAny _ _ (forIn its _ _) _ _ s;rw[<-Array.forIn_toList];refine Jf _ (λrest r s'=>r.1=none/\s'=s/\∃ks,ItemsAre (intKind prog w) ks rest) _ ?_ ?_ _ _ ⟨rfl,rfl,_,hi⟩
 ·rintro v rest r s' ⟨hr,rfl,ks,jQ⟩;cases jQ with
  |@cons k0 _ _ _ hv hrest=>
   obtain⟨t,rfl⟩:=Bo hv;have e:ofAClassStatement 7 (.int k0 t)=pure false:=by unfold ofAClassStatement;rfl
   refine aq ?_;show wpAny _ _ (ofAClassStatement 7 (.int k0 t)) _ _ _;rw[e];refine aG ?_;simp only[iz,gW];exact aG ⟨rfl,rfl,_,hrest⟩
 ·rintro⟨r1,r2⟩ s' ⟨hr,rfl,_⟩;simp only at hr;subst hr;exact aG h
theorem zcH(hk:IsTupleKey (intKind prog w) s.heap [x,y] a)(hl:∀v∈l,∃b x' y',v=.ref b/\IsTupleKey (intKind prog w) s.heap [x',y'] b)(h:Q false s):wpAny (model prog w) A (searchCouldBeSeen (.ref a) l) Q E s:=by
 unfold searchCouldBeSeen;refine aq ?_;refine Jf _ (λrest r s'=>r.1=none/\s'=s/\∀v∈rest,∃b x' y',v=.ref b/\IsTupleKey (intKind prog w) s.heap [x',y'] b) _ ?_ ?_ _ _ ⟨rfl,rfl,hl⟩
 ·rintro v rest r s' ⟨hr,rfl,jQ⟩;obtain⟨b,x',y',rfl,hb⟩:=jQ v dM;have hrest:=λu hu=>jQ u (dF _ hu);dsimp only
  split
  ·exact aG ⟨rfl,rfl,hrest⟩
  ·refine aq (wpAny_eqIsQuiet_tuple hk ?_);simp only[vd,iz,gW];refine aq (wpAny_eqIsQuiet_tuple hb ?_);simp only[vd,iz,gW];refine aq (Yo hk ?_);simp only[iz,gW];refine aq (Yo hb ?_);simp only[iz,gW];exact aG ⟨rfl,rfl,hrest⟩
 ·rintro⟨r1,r2⟩ s' ⟨hr,rfl,_⟩;simp only at hr;subst hr;exact aG h
theorem ziA(c:tZ m n):(m%2==0)=false:=by rcases c with ⟨rfl,_⟩|⟨rfl,_⟩|⟨rfl,_⟩<;>rfl
theorem zgL(c:tZ m n)(h:fP p):∃k,Wide m k (hf p)/\n<k:=by
 obtain⟨a,b,d⟩:=Ru h;rcases c with ⟨rfl,_⟩|⟨rfl,_⟩|⟨rfl,_⟩
 ·exact⟨5,a.wide,by lia⟩
 ·exact⟨19,b.wide,by lia⟩
 ·exact⟨29,d.wide,by lia⟩
theorem zcp(hu:A.units<cLine)(T:eU prog w s.heap S items ts)(hS:eY s.heap S items ts L led)(hk:k<ts.length)(ha:items.getD k .none=.ref a)
  (iU:∀e∈L,aP ts e.2=aP ts k->Q (.there none) s)
  (hout:∀j,(∀e∈L,bG ts e.2≠bG ts k)->(∀e∈L,e.1≠j)->(∀ep t,s.heap.get? S=some {cls:=.type "set",dict:=none,data:=.set (aF items ts L).toArray ep t}->qR (bG ts) L (bG ts k) (steps t.mask (10*turns t.mask) (start t.mask (bG ts k))) j)->Q (.free j false) s) :
  wpAny (model prog w) A (setSearchFrom S (.ref a) (bG ts k) true (fuel+1) none) Q E s:=by
 obtain⟨⟨ep,t,ho,tb,cap,bN,gR⟩,qy⟩:=hS;have hf':=Ig (items:=items) tb cap;unfold setSearchFrom;refine aq (u_ ho rfl hf' ?_);dsimp only;have hgw:t.gaveWay=false:=ziA cap;rw[hgw];simp only[iz,gW];obtain⟨c,hw,hc⟩:=zgL cap (T.tie k hk);have po:=zhh (hashAt:=λi=>((aF items ts L).toArray[i]?.map (·.1)).getD 0) (h:=bG ts k) tb (λLa e Lb q=>by
  subst q;rw[Yn,Option.map_some,Option.getD_some]) hw hc
 split
 ·rename_i met hq;have Ar:t.probe (λi=>((aF items ts L).toArray[i]?.map (·.1)).getD 0) (bG ts k) (t.probeStart (bG ts k))=some met:=hq;rcases po with ⟨La,j,i,Lb,next,e1,e2,e3⟩|⟨j,e1,e2,e3,e4⟩
  ·rw[e1] at Ar;cases Ar;dsimp only;have Am:(j,i)∈L:=by rw[e2];simp
   have hti:aP ts i=aP ts k:=zit (T.tie i (qy _ Am)) (T.tie k hk) e3;have qb:(aF items ts L).toArray[La.length]?=some (bG ts i,items.getD i .none):=by
    have:=Yn (items:=items) (ts:=ts) (La:=La) (e:=(j,i)) (Lb:=Lb);rw[<-e2] at this;exact this
   obtain⟨b,CZ,xM,KZ⟩:=T.at' i (qy _ Am);obtain⟨a',tu,Yp,Av⟩:=T.at' k hk;rw[ha] at tu;cases tu;by_cases hl:t.led=true
   ·rw[hl];simp only[vd,iz,gW];rw[qb];dsimp only;rw[CZ];refine aq (jd (wpAny_eqBool_tuple hu KZ Av ?_));rw[hti,i_ rfl];refine aq (u_ ho rfl hf' ?_);dsimp only;simp only[Bool.and_self,if_true];exact aG (iU _ Am hti)
   ·rw[show t.led=false by simpa using hl];simp only[Bool.not_false,if_true];refine aq (zcH Av (λv hv=>?_) ?_)
    ·obtain⟨x,hx,rfl⟩:=fZ.mp hv;have En:x∈(aF items ts L):=by
      have:=Array.mem_toList_iff.mp hx;rw[Array.mem_filter] at this;simpa using this.1
     obtain⟨e,he,rfl⟩:=fZ.mp En;obtain⟨b',c1,_,c3⟩:=T.at' e.2 (qy e he);exact⟨b',_,_,c1,c3⟩
    ·simp only[iz,gW];rw[qb];dsimp only;rw[CZ];refine aq (jd (wpAny_eqBool_tuple hu KZ Av ?_));rw[hti,i_ rfl];refine aq (u_ ho rfl hf' ?_);dsimp only;simp only[Bool.and_self,if_true];exact aG (iU _ Am hti)
  ·rw[e1] at Ar;cases Ar;dsimp only;refine aG (hout j e2 e3 λep' t' ji=>?_);rw[ho] at ji;cases ji;exact e4
 ·rename_i hq;have Ar:∀met,t.probe (λi=>((aF items ts L).toArray[i]?.map (·.1)).getD 0) (bG ts k) (t.probeStart (bG ts k))≠some met:=hq;rcases po with ⟨La,j,i,Lb,next,e1,_⟩|⟨j,e1,_⟩
  ·exact absurd e1 (Ar _)
  ·exact absurd e1 (Ar _)
end
end Ts
namespace Ts
open Mi (gC)
open PySem PySem.SetTable
def Ih(ts:List (Int×Int))(L L':Ent)(k:Nat):Prop:=(L'=L/\∃e∈L,aP ts e.2=aP ts k)\/((∀e∈L,aP ts e.2≠aP ts k)/\(L'.map (·.2)).Perm (k::L.map (·.2)))
section
variable {prog:Program}{w:World}{A:Around}{E:Value->Shared->Prop}{s:Shared}{S:Addr}{items:List Value}{ts:List (Int×Int)}{L:Ent}{led:Bool}
theorem Ii{t:SetTable}(T:Tab (bG ts) t L)(ht:∀e∈L,fP (aP ts e.2)):L.length<=28:=by
 have uI:(L.map λe=>bG ts e.2).Nodup:=by
  rw[yx,uq];have:=T.asc;unfold eN at this;rw[uq,qD] at this;rw[qD];intro i j hi hj jZ q;have e:=T.inj _ (qH hi) _ (qH hj) q;have:=this i j hi hj jZ;rw[e] at this;exact lZ _ this
 have:=Rh (m:=gC.map hf) uI λx hx=>by
  obtain⟨e,he,rfl⟩:=fZ.mp hx;exact qW (Ie (ht e he))
 rwa [cg,cg] at this
theorem Yq:∀{l:List α},(∀x∈l,f x=some (g x))->l.filterMap f=l.map g
 |[],_=>rfl
 |x::l,h=>by
  rw[Dq,h x dM,jE];rw[Yq λy hy=>h y (dF _ hy)]
theorem Yr{h:Heap}{es es':Array (Int×Value)}{ep:Nat}{t t':SetTable}(ho:h.get? S=some {cls:=.type "set",dict:=none,data:=.set es ep t}):(h.update S (Obj.putSet es' t')).get? S=some {cls:=.type "set",dict:=none,data:=.set es' (ep+1) t'}:=by
 have:=qU (Obj.putSet es' t') ho (by rw[putSet_of es' t' rfl];rfl);rw[putSet_of es' t' rfl] at this;exact this
theorem zdc{ep:Nat}{t:SetTable}{wanted c:Nat}{Q:Unit->Shared->Prop}(ho:s.heap.get? S=some {cls:=.type "set",dict:=none,data:=.set (aF items ts L).toArray ep t})(tb:Tab (bG ts) t L)(Rw:t.fits (aF items ts L).toArray.size=true)
  (hw:∀e∈L,eO (sizeAbove wanted-1) c (bG ts e.2)) (hc:L.length<=c) (hz:sizeAbove wanted<=sizeLine) (hz2:L.length<=sizeLine)
  (h:∀L' t',t'.mask=sizeAbove wanted-1->t'.plain=t.plain->t'.led=t.led->L'.length=L.length->(L'.map (·.2)).Perm (L.map (·.2))->Tab (bG ts) t' L'->Q () {s with heap:=s.heap.update S (Obj.putSet (aF items ts L').toArray t')}) :
  wpAny (model prog w) A (setRelay S wanted) Q E s:=by
 obtain⟨ord,L',r1,r2,r3,r4,r5,r6,r7⟩:=zg3 tb hw hc;unfold setRelay;refine aq (u_ ho rfl Rw ?_);dsimp only;rw[if_neg (DK.mpr hz)];have e1:(aF items ts L).toArray.map (·.1)=(L.map λe=>bG ts e.2).toArray:=by
  unfold aF;rw[List.map_toArray,mj];rfl
 rw[e1,r1];have e2:ord.toArray.filterMap (λi=>(aF items ts L).toArray[i]?)=(aF items ts L').toArray:=by
  have q:aF items ts L'=ord.map λi=>(bG ts (L.getD i (0,0)).2,items.getD (L.getD i (0,0)).2 .none):=by
   have:aF items ts L'=(L'.map (·.2)).map λi=>(bG ts i,items.getD i .none):=by unfold aF;rw[mj];rfl
   rw[this,r4,mj];rfl
  rw[List.filterMap_toArray,q]
  congr 1
  refine Yq λi hi=>?_;have:=r3 i hi;unfold aF;simp[this]
 refine aq ?_;show wpAny _ _ (if ((ord.toArray.filterMap (λi=>(aF items ts L).toArray[i]?)).size != (aF items ts L).toArray.size)=true then _ else _) _ _ _;rw[e2];have e3:((aF items ts L').toArray.size != (aF items ts L).toArray.size)=false:=by
  unfold aF;simp[r5]
 rw[e3];simp only[iz,gW];refine aG ?_;refine wpAny_storeSet_of ho rfl ?_ (by unfold aF;simpa [r5] using hz2);exact h L' _ rfl rfl rfl r5 r6 r7
theorem zer{fuel k:Nat}{a:Addr}{Q:Bool->Shared->Prop}(hu:A.units<cLine)(T:eU prog w s.heap S items ts)(hS:eY s.heap S items ts L led)(hk:k<ts.length)(ha:items.getD k .none=.ref a)
  (h:∀h' L' b,Heap.SameBut S s.heap h'->eY h' S items ts L' led->Ih ts L L' k->Q b {s with heap:=h'}) :
  wpAny (model prog w) A (setAddHashedIn S (.ref a) (bG ts k) (fuel+1)) Q E s:=by
 obtain⟨⟨ep,t,ho,tb,cap,bN,gR⟩,qy⟩:=id hS;have hf':=Ig (items:=items) tb cap;have aad:(100:Nat)<=sizeLine:=by decide
 unfold setAddHashedIn;refine aq (u_ ho rfl hf' ?_);dsimp only;have hbs:byScan (.ref a) (aF items ts L).toArray=false:=by simp[byScan,Value.scannable]
 rw[hbs];simp only[iz,gW];refine aq ?_;unfold setSearch;refine zcp (fuel:=99999) hu T hS hk ha (λe he q=>?_) (λj h1 h2 h3=>?_)
 ·exact aG (h s.heap L false (Heap.SameBut.refl S s.heap) hS (.inl ⟨rfl,e,he,q⟩))
 ·have Aq:=h3 ep t ho;dsimp only;refine aq (u_ ho rfl hf' ?_);dsimp only;obtain⟨La,Lb,e,Ij,Rx⟩:=zlu tb.place tb.Ao tb.asc h2 k;have hlen:(La++(j,k)::Lb).length=L.length+1:=by rw[e];simp;lia
  have tb':=tb;have h1':=h1;have yr:=Aq;rw[e] at tb' h1' yr;have yt:=tb'.add Rx h1' yr;have m1:({t with place:=((La++(j,k)::Lb).map (·.1)).toArray}:SetTable).mask=t.mask:=rfl;have p1:({t with place:=((La++(j,k)::Lb).map (·.1)).toArray}:SetTable).plain=true:=bN;have l1:({t with place:=((La++(j,k)::Lb).map (·.1)).toArray}:SetTable).led=led:=gR;generalize ({t with place:=((La++(j,k)::Lb).map (·.1)).toArray}:SetTable)=t1 at Ij yt m1 p1 l1;rw[Ij];dsimp only;rw[p1];simp only[if_true];obtain⟨a',tu,Yp,Av⟩:=T.at' k hk;rw[ha] at tu;cases tu;refine aq (zcP Av ?_);simp only[if_true];have Ry:insertAt (aF items ts L).toArray La.length (bG ts k,.ref a)=(aF items ts (La++(j,k)::Lb)).toArray:=by
   have q:aF items ts L=(aF items ts La)++(aF items ts Lb):=by rw[e];unfold aF;rw[lY]
   have q2:La.length=(aF items ts La).length:=by unfold aF;rw[cg]
   rw[q,q2,Yc];unfold aF;rw[lY,jE,ha]
  rw[Ry];have hsub:∀x∈La++(j,k)::Lb,x.2<ts.length:=λx hx=>by
   rcases fX.mp hx with z|z
   ·exact qy x (by rw[e];exact qF _ z)
   ·rcases cV.mp z with rfl|z
    ·exact hk
    ·exact qy x (by rw[e];exact m_ _ z)
  have t_:((La++(j,k)::Lb).map (·.2)).Perm (k::L.map (·.2)):=by
   rw[e,lY,lY,jE];exact List.perm_middle
  generalize La++(j,k)::Lb=L1 at hlen yt hsub t_;have h28:=Ii yt λx hx=>T.tie x.2 (hsub x hx);have hne:∀x∈L,aP ts x.2≠aP ts k:=λx hx q=>h1 x hx (by unfold bG;rw[q]);have jP:(aF items ts L1).toArray.size<=sizeLine:=by unfold aF;rw[cU,cg,hlen];lia
  refine aq (wpAny_storeSet_of ho rfl ?_ jP);have hg1:=Yr (es':=(aF items ts L1).toArray) (t':=t1) ho;have uc:t1.fill=L.length+1:=by
   unfold fill;rw[yt.place,yt.Ao,cU,cg,hlen];rfl
  have uW:(aF items ts L).toArray.size=L.length:=by unfold aF;rw[cU,cg]
  have Ik:t1.fits (aF items ts L1).toArray.size=true:=by
   unfold SetTable.fits;rw[uc,yt.place];unfold aF;rw[cU,cU,cg,cg,wQ,Bool.true_and];refine i_ ?_;rw[m1];rcases cap with c|c|c<;>lia
  have yd:Heap.SameBut S s.heap (s.heap.update S (Obj.putSet (aF items ts L1).toArray t1)):=yC s.heap S _;by_cases pP:t1.tooFull=true
  ·rw[pP];simp only[Bool.not_false,Bool.and_self,if_true];have Aw:(L.length+1)*5>=t.mask*3:=by
    have:=pP;unfold tooFull at this;rw[uc,m1] at this;exact oW this
   rw[uW];have Il:(t.mask=7/\L.length=4)\/(t.mask=31/\L.length=18):=by rcases cap with c|c|c<;>lia
   have Im:∃c,(∀x∈L1,eO (sizeAbove (grown (L.length+1))-1) c (bG ts x.2))/\L.length+1<=c/\tZ (sizeAbove (grown (L.length+1))-1) (L.length+1)/\sizeAbove (grown (L.length+1))<=sizeLine:=by
    rcases Il with ⟨_,q⟩|⟨_,q⟩
    ·rw[q];refine⟨19,λx hx=>?_,by lia,.inr (.inl ⟨by decide,by lia⟩),by decide⟩;rw[show sizeAbove (grown (4+1))-1=31 by decide];exact(Ru (T.tie x.2 (hsub x hx))).2.1
    ·rw[q];refine⟨29,λx hx=>?_,by lia,.inr (.inr ⟨by decide,by lia⟩),by decide⟩;rw[show sizeAbove (grown (18+1))-1=127 by decide];exact(Ru (T.tie x.2 (hsub x hx))).2.2
   obtain⟨c,hw,hc,Ax,hz⟩:=Im;refine aq (zdc (s:={s with heap:=s.heap.update S (Obj.putSet (aF items ts L1).toArray t1)}) hg1 yt Ik hw (by rw[hlen];exact hc) hz (by rw[hlen];lia) λL' t' n1 n2 n3 n4 n5 n6=>?_);refine aG ?_;refine h _ L' true (yd.trans (yC _ S _)) ⟨⟨_,t',Yr hg1,n6,by rw[n1,n4,hlen];exact Ax,n2.trans p1,n3.trans l1⟩,λx hx=>?_⟩ (.inr ⟨hne,n5.trans t_⟩);have:x.2∈L1.map (·.2):=n5.mem_iff.mp (qW hx);obtain⟨y,hy,q⟩:=fZ.mp this;rw[<-q];exact hsub y hy
  ·rw[show t1.tooFull=false by simpa using pP];simp only[Bool.not_false,Bool.and_false,iz,gW];have Aw:¬(L.length+1)*5>=t.mask*3:=by
    have:=pP;unfold tooFull at this;rw[uc,m1] at this;simpa using this
   have Ax:tZ t1.mask L1.length:=by
    rw[hlen,m1];rcases cap with ⟨c,_⟩|⟨c,_⟩|⟨c,_⟩
    ·exact .inl ⟨c,by lia⟩
    ·exact .inr (.inl ⟨c,by lia⟩)
    ·exact .inr (.inr ⟨c,by lia⟩)
   refine aG ?_;exact h _ _ true yd ⟨⟨_,_,hg1,yt,Ax,p1,l1⟩,hsub⟩ (.inr ⟨hne,t_⟩)
end
end Ts
namespace Ts
open PySem PySem.SetTable
def Dn(ts:List (Int×Int))(L:Ent)(i:Nat):Prop:=(∀e∈L,e.2<i)/\∀k,k<i->∃e∈L,aP ts e.2=aP ts k
theorem Dn.RB{ts:List (Int×Int)}{L L':Ent}{i:Nat}(d:Dn ts L i)(g:Ih ts L L' i):Dn ts L' (i+1):=by
 rcases g with ⟨rfl,e,he,q⟩|⟨hn,hp⟩
 ·refine⟨λx hx=>qY (d.1 x hx),λk hk=>?_⟩;rcases BJ k i with z|z
  ·exact d.2 k z
  ·have:k=i:=by lia
   subst this;exact⟨e,he,q⟩
 ·have back:∀k∈i::L.map (·.2),∃e∈L',e.2=k:=λk hk=>by
   obtain⟨e,he,q⟩:=fZ.mp (hp.mem_iff.mpr hk);exact⟨e,he,q⟩
  refine⟨λx hx=>?_,λk hk=>?_⟩
  ·rcases cV.mp (hp.mem_iff.mp (qW (f:=(·.2)) hx)) with q|q
   ·lia
   ·obtain⟨y,hy,q⟩:=fZ.mp q;have:=d.1 y hy
    lia
  ·rcases BJ k i with z|z
   ·obtain⟨e,he,q⟩:=d.2 k z;obtain⟨e',qx,q'⟩:=back e.2 (dF _ (qW he));exact⟨e',qx,by rw[q'];exact q⟩
   ·obtain⟨e',qx,q'⟩:=back i dM;exact⟨e',qx,by rw[q'];congr 1;lia⟩
theorem zhN{prog:Program}{w:World}{x y:Int}:tupleKeyHash (intKind prog w) [x,y]=hf (x,y):=by unfold tupleKeyHash hf;rfl
section
variable {prog:Program}{w:World}{A:Around}{R:Result->Shared->Prop}{I:Addr}{fp wr:List Addr}{G:Array GenState->Array GenState->Prop}{n:Nat}{P:Nat->Value->Prop}{St:Nat->Shared->Prop}{S:Addr}{items:List Value}{ts:List (Int×Int)}{led:Bool}
theorem eY.keep{h h':Heap}{L:Ent}(x:eY h S items ts L led)(k:∀o,h.get? S=some o->h'.get? S=some o):eY h' S items ts L led:=
 let ⟨⟨ep,t,ho,r⟩,i⟩:=x;⟨⟨ep,t,k _ ho,r⟩,i⟩
theorem eU.keep{h h':Heap}(T:eU prog w h S items ts)(k:∀i a o,i<ts.length->items.getD i .none=.ref a->h.get? a=some o->h'.get? a=some o):eU prog w h' S items ts:=
 ⟨T.len,T.tie,λi hi=>let ⟨a,e,n,o,its,m,ho,r⟩:=T.at' i hi;⟨a,e,n,o,its,m,k i a o hi e ho,r⟩⟩
theorem zhV(W:WalksS prog w A.in1 I fp wr G n P St)(K1:S∉fp)(hn:n=ts.length)(Ay:∀i v,P i v->items.getD i .none=v)(hu:A.in1.units<cLine)(K3:∀i a,i<ts.length->items.getD i .none=.ref a->a∉wr) :
  ∀(k i:Nat) (s:Shared) (L:Ent),n-i=k->i<=n->St i s->eU prog w s.heap S items ts->eY s.heap S items ts L led->Dn ts L i->
   (∀s' L',Moved (S::wr) G s s'->eU prog w s'.heap S items ts->eY s'.heap S items ts L' led->Dn ts L' n->R (.ok (.ret .none)) s')->
   codeAny (model prog w) A (.builtin "set.update.loop" ⟨[.ref S,.ref I],[]⟩) R s:=by
 have Ys:S∉wr:=λh=>K1 (W.«sub» _ h);have hsub:∀b∈wr,b∈S::wr:=λb hb=>dF _ hb;intro k
 induction k with
 |zero=>
  intro i s L hk hi o_ hT hS hD hR;have iU:i=n:=by lia
  subst iU;refine Bt Ug ?_;rw[L_ Li _];show wpAny _ A.in1 (pyNext (.ref I) >>= _) _ _ s;refine aq (W.done s _ _ o_ λs' hm=>?_);show wpAny _ A.in1 (ret Value.none) _ _ s';exact aG (hR s' L (hm.mono hsub) (hT.keep λi a o hi e=>hm.heap a o (K3 i a hi e)) (hS.keep λo=>hm.heap S o Ys) hD)
 |succ k ih=>
  intro i s L hk hi o_ hT hS hD hR;have hlt:i<n:=by lia
  have Io:i<ts.length:=by lia
  refine Bt Ug ?_;rw[L_ Li _];show wpAny _ A.in1 (pyNext (.ref I) >>= _) _ _ s;refine aq (W.item i s _ _ hlt o_ λv s' hP RD hm=>?_);have hv:=Ay i v hP;have Az:eU prog w s'.heap S items ts:=hT.keep λi a o hi e=>hm.heap a o (K3 i a hi e);have A_:eY s'.heap S items ts L led:=hS.keep λo=>hm.heap S o Ys;obtain⟨a,tu,Yp,Av⟩:=Az.at' i Io;have hva:v=.ref a:=hv.symm.trans tu;subst hva;show wpAny _ A.in1 (holding [Value.ref a] (setAdd S (.ref a)) >>= _) _ _ s';refine aq (jd ?_);unfold setAdd;refine jd ?_;refine aq (wpAny_pyHash_tuple hu Av ?_);rw[zhN];unfold setAddHashed;refine jd ?_;refine zer (fuel:=99999) (k:=i) (s:={s' with toks:=s'.toks+([(aP ts i).1,(aP ts i).2].length+1)}) hu Az A_ Io tu λh' L' b yd aU hg=>?_;have xZ:∀b o,b≠S->s'.heap.get? b=some o->h'.get? b=some o:=λb o hb e=>by rw[yd.2 b hb];exact e
  refine aG ⟨plainId_quiet Li _,ih (i+1) _ L' gV hlt (W.frame _ s' _ _ RD (Nat.le_add_right _ _) λb hb o e=>xZ b o (λh=>K1 (by rw[<-h];exact hb)) e) (Az.mono xZ) aU (hD.RB hg) λs'' L'' RG RJ RK RL=>?_⟩;refine hR s'' L'' (Moved.trans W.gtrans ((hm.mono hsub).then_heap (Nat.le_add_right _ _) λb o hb e=>xZ b o (λh=>hb (by rw[h];exact dM)) e) RG) RJ RK RL
end
section
variable {prog:Program}{w:World}{A:Around}{E:Value->Shared->Prop}{s:Shared}
noncomputable def bM(w:World):Bool:=!w.params.followText "set-order"
theorem zg8(a:Value){Q₁:Value->Shared->Prop}
  (h:Q₁ (.ref s.heap.objs.size) {s with heap:=s.heap.push {cls:=.type "set",dict:=none,data:=.set #[] 0 (.fresh 0 0 (bM w))}}) :
  codeAny (model prog w) A (.call (.builtin "set.__new__") ⟨[.type "set",a],[]⟩) (wants Q₁ E) s:=by
 refine codeAny_of_tree ?_;show wpAny _ A.in1 (do checkBuiltinCall "set.__new__" ⟨[.type "set",a],[]⟩;again (.builtin "set.__new__" ⟨[.type "set",a],[]⟩)) _ _ s;refine aq (yG (F.newCall_set_1 a) (aG ⟨plainId_quiet F.plain_set_new _,Bt F.entry_set_new ?_⟩));rw[L_ F.plain_set_new _];unfold Builtin.«set.__new__» Builtin.Frozenset.newClass;have hsub:=sub_set_self;obtain⟨hp,g,d,tk,os⟩:=s;dsimp only
 wp_walk
 refine wpAny_askSetting (aG ?_);dsimp only;simp only[newObj];refine aq (wpAny_alloc (aG ?_));exact aG h
theorem tab0{hk:Nat->Int}{led:Bool}:Tab hk (.fresh 0 0 led) []:=⟨rfl,rfl,List.Pairwise.nil,(λe he=>by cases he),λe he=>by cases he⟩
theorem zcx{l:Addr}{items:List Value}{ts:List (Int×Int)}{Q:Value->Shared->Prop}(hh:A.handled=none)(hu:A.units+8<cLine)(hl:s.heap.IsTuple l items.toArray)(hT:eU prog w s.heap s.heap.objs.size items ts)
  (h:∀(h':Heap) (tk:Nat) (L:Ent),eY h' s.heap.objs.size items ts L (bM w)->eU prog w h' s.heap.objs.size items ts->Dn ts L ts.length->(∀b o,b<s.heap.objs.size->s.heap.get? b=some o->h'.get? b=some o)->Q (.ref s.heap.objs.size) {s with heap:=h',toks:=tk}) :
  wpAny (model prog w) A (call (.type "set") [.ref l]) Q E s:=by
 obtain⟨c,tl,Gg⟩:=wW.mro;have hmade:=wW.made;have hsub:=wW.«sub»;refine wX (codeAny_of_tree ?_);show wpAny _ _ (callAny (.type "set") _) _ _ _;refine aG ⟨Ja _ Bd,Bt F.entry_type_call ?_⟩;rw[Around.under_plain (weight_type_call_type "set" [.ref l] []) rfl];have h1:=wW.notType;have h2:=wW.canCreate;have hct:=F.typeCall_set_1 (.ref l)
 repeat (any_goals (first|assumption|wp_step))
 refine DG (zg8 (.ref l) (E:=E) (Q₁:=λobj s₁=>obj=.ref s.heap.objs.size/\s₁={s with heap:=s.heap.push {cls:=.type "set",dict:=none,data:=.set #[] 0 (.fresh 0 0 (bM w))}}) ⟨rfl,rfl⟩) λr s₁ hr=>?_;cases r with
 |error e=>exact hr
 |ok fl=>
  cases fl with
  |ret obj=>
   obtain⟨rfl,rfl⟩:=hr;have hS:(s.heap.push {cls:=.type "set",dict:=none,data:=.set #[] 0 (.fresh 0 0 (bM w))}).get? s.heap.objs.size=some {cls:=.type "set",dict:=none,data:=.set #[] 0 (.fresh 0 0 (bM w))}:=fW _ rfl;have hTy:Shared.TypeIs {s with heap:=s.heap.push {cls:=.type "set",dict:=none,data:=.set #[] 0 (.fresh 0 0 (bM w))}} (.ref s.heap.objs.size) "set":=⟨_,hS,rfl⟩;have hli:=wW.init.lookup;have hbi:=wW.init.bind (.ref s.heap.objs.size)
   repeat (any_goals (first|assumption|wp_step))
   refine DG (LQ (R:=wants (λr s₂=>r=.none/\∃h' tk L,s₂={s with heap:=h',toks:=tk}/\eY h' s.heap.objs.size items ts L (bM w)/\eU prog w h' s.heap.objs.size items ts/\Dn ts L ts.length /\
     (∀b o,b<s.heap.objs.size->s.heap.get? b=some o->h'.get? b=some o)) E) wW.init.plain F.entry_set_init (check_set_init_1 hTy ?_)) λr₂ s₂ hr₂=>?_
   ·obtain⟨ol,Yt,jr,nl,Yu⟩:=id hl;obtain⟨ocls,odict,odata,oslots⟩:=ol;simp only at jr Yu;subst jr;subst Yu;have RM:(s.heap.push {cls:=.type "set",dict:=none,data:=.set #[] 0 (.fresh 0 0 (bM w))}).get? l=some {cls:=.type "tuple",dict:=odict,data:=.seq items.toArray nl,slots:=oslots}:=bR _ Yt;have hsls:=F.sub_tuple_set;have hslf:=F.sub_tuple_frozenset;have hne:(Value.type "tuple"==Value.type "dict")=false:=by decide
    have Hv:(s.heap.push {cls:=.type "set",dict:=none,data:=.set #[] 0 (.fresh 0 0 (bM w))}).IsTuple l items.toArray:=⟨_,RM,rfl,nl,rfl⟩;unfold Builtin.«set.__init__» noKeywords Builtin.Frozenset.updateFrom;generalize hPI:pyIter=PI
    wp_walk
    subst hPI;refine wpAny_pyIter_tuple Hv ?_;refine aq (wpAny_runValue ?_);have Yv:l<s.heap.objs.size:=bK Yt;have hh3:A.in1.in1.in1.handled=none:=by simp[hh]
    have RN:l≠(s.heap.push {cls:=.type "set",dict:=none,data:=.set #[] 0 (.fresh 0 0 (bM w))}).objs.size:=by
     rw[qJ];exact cP (qY Yv)
    have K1:s.heap.objs.size∉[(s.heap.push {cls:=.type "set",dict:=none,data:=.set #[] 0 (.fresh 0 0 (bM w))}).objs.size,l]:=by
     rw[qJ];simp only[cV,Mg,pQ,oX,not_or];exact⟨cP (Nat.lt_succ_self _),uz Yv⟩
    have Ay:∀(i:Nat) (v:Value),items.toArray[i]?=some v->items.getD i .none=v:=λi v hv=>by
     rw[Dl] at hv;rw[kW,hv];rfl
    have jP:items.toArray.size=ts.length:=by rw[cU,hT.len]
    have K3:∀i a,i<ts.length->items.getD i .none=.ref a->a∉[(s.heap.push {cls:=.type "set",dict:=none,data:=.set #[] 0 (.fresh 0 0 (bM w))}).objs.size]:=λi a hi e hm=>by
     obtain⟨a',e1,_,o,its,m,ho,_⟩:=hT.at' i hi;rw[e] at e1;cases e1;have hm:=Mg.mp hm;rw[qJ] at hm;have hlt:=bK ho;rw[hm] at hlt;exact Nat.not_succ_lt_self hlt
    refine zhV (led:=bM w) (items:=items) (ts:=ts) ((Walks.tuple hh3 _ l RN items.toArray).toS) K1 jP Ay (by show A.units+1+1+1<cLine;lia) K3 (items.toArray.size-0) 0 _ [] gV (nj _)
     ⟨⟨_,fW _ rfl,rfl,rfl⟩,(Hv.push _)⟩ (hT.mono λb o hb e=>bR _ (bR _ e)) ?Qx ⟨(λe he=>by cases he),λk hk=>by lia⟩ ?hR
    case Qx=>
     have qb:((s.heap.push {cls:=.type "set",dict:=none,data:=.set #[] 0 (.fresh 0 0 (bM w))}).push {cls:=.type "tuple_iterator",data:=.fields #[.ref l,.int 0 0]}).get? s.heap.objs.size
      =some {cls:=.type "set",dict:=none,data:=.set #[] 0 (.fresh 0 0 (bM w))}:=bR _ hS
     exact⟨⟨0,_,qb,tab0,.inl ⟨rfl,nj _⟩,rfl,rfl⟩,λe he=>by cases he⟩
    case hR=>
     intro s' L' hm Az A_ RP;obtain⟨h',g',d',tk',os'⟩:=s';have eg:g'=s.gens:=hm.gens;have ed:d'=s.drawn:=hm.drawn;have eo:os'=s.os:=hm.os;subst eg;subst ed;subst eo;show wpAny _ _ _ _ _ _;refine aG ?_;show wpAny _ _ (ret Value.none) _ _ _;refine aG ⟨rfl,h',tk',L',rfl,A_,Az,by rw[<-jP];exact RP,λb o hb e=>?_⟩;have CZ:b≠s.heap.objs.size:=cP hb;have xM:b≠(s.heap.push {cls:=.type "set",dict:=none,data:=.set #[] 0 (.fresh 0 0 (bM w))}).objs.size:=by
      rw[qJ];exact cP (qY hb)
     exact hm.heap b o (by simp only[cV,Mg,pQ,oX,not_or];exact⟨CZ,xM⟩) (bR _ (bR _ e))
   ·cases r₂ with
    |error e=>exact hr₂
    |ok fl₂=>
     cases fl₂ with
     |ret r=>
      obtain⟨rfl,h',tk,L,rfl,A_,Az,RP,xZ⟩:=hr₂
      repeat (any_goals (first|assumption|wp_step))
      exact h _ _ L A_ Az RP xZ
     |_=>exact hr₂.elim
  |_=>exact hr.elim
end
theorem cH:Slot "set_iterator" "__next__" "set_iterator.__next__":=
 .of (owner:="set_iterator") (n:="__next__") (by rw[typeLookup_type,builtinLookup_eq_fast];kernel_rfl) Bd Bd Bd
  (by first|exact .inl Bd|exact .inr Bd) (by rw[isSubtype_type];kernel_rfl)
theorem Yw:Slot "set_iterator" "__iter__" "set_iterator.__iter__":=
 .of (owner:="set_iterator") (n:="__iter__") (by rw[typeLookup_type,builtinLookup_eq_fast];kernel_rfl) Bd Bd Bd
  (by first|exact .inl Bd|exact .inr Bd) (by rw[isSubtype_type];kernel_rfl)
theorem Yx:Manifest.owners.lookup (String.ofList ['r','o','t','a','r','e','t','i','_','t','e','s'].reverse)=some Manifest.sig_set_iterator:=by kernel_rfl
theorem zcZ(a:Value):argsOk "set_iterator.__next__" ⟨[a],[]⟩:=by
 unfold argsOk;rw[signature?_of (id:="set_iterator.__next__") (n:=['_','_','t','x','e','n','_','_']) (o:=['r','o','t','a','r','e','t','i','_','t','e','s']) (by kernel_rfl) Yx];kernel_rfl
theorem zcW(a:Value):argsOk "set_iterator.__iter__" ⟨[a],[]⟩:=by
 unfold argsOk;rw[signature?_of (id:="set_iterator.__iter__") (n:=['_','_','r','e','t','i','_','_']) (o:=['r','o','t','a','r','e','t','i','_','t','e','s']) (by kernel_rfl) Yx];kernel_rfl
theorem zb4:entryFor table "set_iterator.__next__"=some Builtin.«set_iterator.__next__»:=entryFor_of_tree (by kernel_rfl)
theorem zcv:entryFor table "set_iterator.__iter__"=some Builtin.«dict_keyiterator.__iter__»:=
 entryFor_alias (id':="dict_keyiterator.__iter__") (by kernel_rfl) (by first|rfl|decide +kernel|(unfold String.splitOn;simp +decide [String.splitOnAux])) Bd (by kernel_rfl)
theorem zbP:entryFor table "set.__iter__"=some Builtin.«frozenset.__iter__»:=
 entryFor_alias (id':="frozenset.__iter__") (by kernel_rfl) rfl Bd (by kernel_rfl)
noncomputable def cB(L:Ent):Nat->Nat
 |0=>0
 |k+1=>(L.getD k (0,0)).1+1
theorem zgi{L:Ent}(h:eN L){k:Nat}(hk:k<=L.length):below (L.map (·.1)).toArray (cB L k)=k:=by
 obtain⟨La,Lb,e,hb,h1,h2⟩:=Rg h (cB L k);rw[hb];have hp:=qD.mp h;have hll:La.length+Lb.length=L.length:=by rw[e,eZ]
 have Yy:∀i (hi:i<L.length),i<La.length->L[i].1<cB L k:=λi hi q=>h1 _ (by
  have:L[i]=La[i]:=by
   simp only[e];exact List.getElem_append_left q
  rw[this];exact qH _)
 have inB:∀i (hi:i<L.length),La.length<=i->cB L k<=L[i].1:=λi hi q=>h2 _ (by
  have:L[i]=Lb[i-La.length]' gV:=by
   simp only[e];exact List.getElem_append_right q
  rw[this];exact qH _)
 cases k with
 |zero=>
  cases La with
  |nil=>rfl
  |cons x r=>
   have:=h1 x dM;exact absurd this (Nat.not_lt_zero _)
 |succ k=>
  have hs:cB L (k+1)=L[k].1+1:=by
   show (L.getD k (0,0)).1+1=_;simp[show k<L.length by lia]
  rw[hs] at Yy inB;rcases Mp La.length (k+1) with z|z|z
  ·have:=inB k gV gV
   lia
  ·exact z
  ·have h3:=Yy (k+1) gV z;have h4:=hp k (k+1) (by rw[cg];lia) (by rw[cg];lia) gV;rw[List.getElem_map,List.getElem_map] at h4
   lia
theorem Yz{α:Type}(next:Nat->Nat):∀(fuel k:Nat) (left:List α) (out:Array α),left.length<=fuel->(pickOrder.go next fuel k left out).toList.Perm (out.toList++left)
 |0,k,left,out,h=>by
  have:left=[]:=List.length_eq_zero_iff.mp gV;subst this;unfold pickOrder.go;rw[yF]
 |fuel+1,k,left,out,h=>by
  unfold pickOrder.go;cases left with
  |nil=>simp
  |cons y r=>
   have hlt:next k%(y::r).length<(y::r).length:=Nat.mod_lt _ Zaa;rw[fQ hlt];dsimp only;generalize next k%(y::r).length=i at hlt;refine(Yz next fuel (k+1) _ _ (by rw[List.length_eraseIdx_of_lt hlt];lia)).trans ?_;rw[Array.toList_push,Br];refine List.Perm.append_left _ ?_;rw[List.eraseIdx_eq_take_drop_succ];have:(y::r)=(y::r).take i++(y::r)[i]::(y::r).drop (i+1):=by
    rw[<-List.drop_eq_getElem_cons hlt,List.take_append_drop]
   refine List.Perm.trans ?_ (List.Perm.of_eq this.symm);exact(List.perm_middle (l₁:=(y::r).take i)).symm
theorem zfC{α:Type}(next:Nat->Nat)(xs:List α):(pickOrder next xs.toArray).toList.Perm xs:=by
 unfold pickOrder;have:=Yz next xs.toArray.size 0 xs #[] Zaa;simpa using this
section
variable {prog:Program}{w:World}{A:Around}{E:Value->Shared->Prop}{s:Shared}{S:Addr}{items:List Value}{ts:List (Int×Int)}{L:Ent}
noncomputable def bJ(w:World)(S:Addr)(ep:Nat)(es:List (Int×Value)):List (Int×Value):=if w.params.followText "set-order"=true then (pickOrder (w.params.setOrder S ep) es.toArray).toList else es
theorem kI{ep:Nat}{es:List (Int×Value)}:(bJ w S ep es).Perm es:=by
 unfold bJ
 split
 ·exact zfC _ _
 ·exact List.Perm.refl _
noncomputable def oN(items:List Value)(ts:List (Int×Int))(L:Ent)(ep:Nat)(t:SetTable):Obj:={cls:=.type "set",dict:=none,data:=.set (aF items ts L).toArray ep t}
noncomputable def yu(S:Addr)(slot i n ep:Nat):Obj:={cls:=.type "set_iterator",data:=.fields #[.int slot 0,.int i 0,.ref S,.int n 0,.int ep 0]}
theorem RQ{Q:Bool->Shared->Prop}(h:Q (w.params.followText "set-order") s):wpAny (model prog w) A setsByText Q E s:=by
 unfold setsByText;exact aq (wpAny_askSetting (aG h))
theorem zes{ep:Nat}{t:SetTable}{Q:Value->Shared->Prop}(ho:s.heap.get? S=some (oN items ts L ep t))(tb:Tab (bG ts) t L)(cap:tZ t.mask L.length)(bN:t.plain=true)
  (h:Q (.ref s.heap.objs.size) {s with heap:=s.heap.push (yu S 0 0 L.length ep)}):wpAny (model prog w) A (pyIter (.ref S)) Q E s:=by
 have hT:s.TypeIs (.ref S) "set":=⟨_,ho,rfl⟩;have hf':=Ig (items:=items) tb cap;refine wpAny_pyIter_slot hT F.slot_set_iter (qZ F.slot_set_iter hT zbP ?_ (F.args_set_iter_1 _));unfold Builtin.«frozenset.__iter__» Builtin.Frozenset.slot0 slotArgs;simp only[List.isEmpty_nil,vd,iz,↓reduceIte,bind_assoc,q_,Bq];unfold Builtin.Frozenset.addrOf Builtin.Frozenset.sizeOf;refine aq (aG ?_)
 try dsimp only
 refine aq (aG ?_);refine aq (aq (wpAny_setEntries_of ho rfl hf' (aG ?_)));unfold setDrawn;refine aq (aq (u_ ho rfl hf' (aq (RQ (aG ?_)))));have hdr:(!w.params.followText "set-order"&&(!t.plain&&decide ((aF items ts L).toArray.size>1)))=false:=by rw[bN];simp
 show wpAny _ _ (if (!w.params.followText "set-order"&&(!t.plain&&decide ((aF items ts L).toArray.size>1)))=true then _ else _) _ _ _;rw[hdr];simp only[iz,gW];refine aq (aG ?_);refine aq (wpAny_setEpoch_of ho rfl hf' ?_);have uW:(aF items ts L).toArray.size=L.length:=by unfold aF;rw[cU,cg]
 rw[uW];refine aq (mR (aG ⟨_,rfl,"set_iterator",_,⟨_,fW _ rfl,rfl⟩,cH.lookup,?_⟩));exact h
theorem Ip{I slot i n ep:Nat}(hit:s.heap.get? I=some (yu S slot i n ep)):s.TypeIs (.ref I) "set_iterator":=⟨_,hit,rfl⟩
theorem zkX:(aF items ts L).toArray.size=L.length:=by unfold aF;rw[cU,cg]
theorem zcm{ep i:Nat}{t:SetTable}{slot:Nat}{Q:Option (Value×Nat)->Shared->Prop}(ho:s.heap.get? S=some (oN items ts L ep t))(tb:Tab (bG ts) t L)(cap:tZ t.mask L.length)(bN:t.plain=true)(gR:t.led=bM w)(hi:i<=L.length)(lF:w.params.followText "set-order"=false->slot=cB L i)
  (h:∀cT,(w.params.followText "set-order"=false->cT=cB L (i+1))->Q ((bJ w S ep (aF items ts L))[i]?.map λe=>(e.2,cT)) s) :
  wpAny (model prog w) A (setNext S slot i ep) Q E s:=by
 have hf':=Ig (items:=items) tb cap;unfold setNext;refine aq (u_ ho rfl hf' ?_);dsimp only;refine aq (RQ ?_);by_cases hb:w.params.followText "set-order"=true
 ·rw[if_pos hb];simp only[Bq,iz,gW];unfold setWalk;refine aq (aq (u_ ho rfl hf' (aq (RQ ?_))));rw[if_pos hb];refine aq (wpAny_askSetting (aG ?_));refine aG ?_;have:=h slot (λq=>by rw[hb] at q;cases q);unfold bJ at this;rw[if_pos hb,Lz] at this;exact this
 ·have hb':w.params.followText "set-order"=false:=by simpa using hb
  rw[if_neg hb];have hl:t.led=true:=by rw[gR];unfold bM;rw[hb'];rfl
  show wpAny _ _ (if (!t.plain&&decide ((aF items ts L).toArray.size>1))=true then _ else _) _ _ _;rw[bN];simp only[vd,Bool.false_and,iz,gW];refine aq ?_;show wpAny _ _ (if (!t.led && !(aF items ts L).toArray.isEmpty)=true then _ else _) _ _ _;rw[hl];simp only[vd,Bool.false_and,iz,gW];refine aG ?_;have hbl:below t.place slot=i:=by rw[tb.place,lF hb'];exact zgi tb.asc hi
  rw[hbl];refine aG ?_;have hw:bJ w S ep (aF items ts L)=aF items ts L:=by unfold bJ;rw[if_neg hb]
  have:=h (cB L (i+1)) (λ_=>rfl);rw[hw] at this;rw[Dl,tb.place,Dl];cases e:L[i]? with
  |none=>
   have e1:(aF items ts L)[i]?=none:=by unfold aF;rw[kY,e];rfl
   rw[e1] at this ⊢;exact this
  |some x=>
   have e1:(aF items ts L)[i]?=some (bG ts x.2,items.getD x.2 .none):=by unfold aF;rw[kY,e];rfl
   have e2:(L.map (·.1))[i]?=some x.1:=by rw[kY,e];rfl
   have e3:cB L (i+1)=x.1+1:=by show (L.getD i (0,0)).1+1=_;rw[kW,e];rfl
   rw[e1,e3] at this;rw[e1,e2];exact this
theorem YB{I ep i:Nat}{t:SetTable}{slot:Nat}{Q:Option Value->Shared->Prop}(hh:A.handled=none)(hit:s.heap.get? I=some (yu S slot i L.length ep))(ho:s.heap.get? S=some (oN items ts L ep t))(tb:Tab (bG ts) t L)(cap:tZ t.mask L.length)(bN:t.plain=true)(gR:t.led=bM w)(hi:i<=L.length)(lF:w.params.followText "set-order"=false->slot=cB L i)
  (h1:∀e h' cT,(bJ w S ep (aF items ts L))[i]?=some e->h'.get? I=some (yu S cT (i+1) L.length ep)->(w.params.followText "set-order"=false->cT=cB L (i+1))->Heap.SameBut I s.heap h'->Q (some e.2) {s with heap:=h'})
  (h2:∀h',(bJ w S ep (aF items ts L))[i]?=none->Heap.ExtBut I s.heap h'->Q none {s with heap:=h'}):wpAny (model prog w) A (pyNext (.ref I)) Q E s:=by
 have hf':=Ig (items:=items) tb cap;unfold pyNext;refine aq (Bv (wL (name:=Str.ofString "__next__") (Ip hit) cH
  (qZ cH (Ip hit) zb4 ?_ (zcZ _))))
 unfold Builtin.«set_iterator.__next__» slotArgs;simp only[List.isEmpty_nil,vd,iz,↓reduceIte,bind_assoc,q_,Bq];refine aq (aG ?_);dsimp only;refine aq (wpAny_fieldsOf hit rfl ?_);dsimp only;refine aq (wpAny_setEntries_of ho rfl hf' ?_);rw[zkX];simp only[Bq,iz,gW];rw[Bp,Bp,Bp];refine aq (zcm ho tb cap bN gR hi lF λcT hs'=>?_);cases e:(bJ w S ep (aF items ts L))[i]? with
 |some x=>
  dsimp only[Option.map_some];refine aq (wR hit rfl Zaa ?_);have g1:(s.heap.update I (Obj.mapFields (·.setIfInBounds 0 (rawInt cT)))).get? I=some (yu S cT i L.length ep):=by
   have:=qU (Obj.mapFields (·.setIfInBounds 0 (rawInt cT))) hit rfl;exact this
  refine aq (wR (s:={s with heap:=s.heap.update I (Obj.mapFields (·.setIfInBounds 0 (rawInt cT)))}) g1 rfl Zaa ?_);refine aG ⟨_,rfl,aG (h1 x _ cT e ?_ hs' ((yC ..).trans (yC ..)))⟩;have:=qU (Obj.mapFields (·.setIfInBounds 1 (rawInt ((i:Int)+1)))) g1 rfl;exact this
 |none=>
  dsimp only[Option.map_none];refine aq (wR hit rfl Zaa ?_);show wpAny _ _ (newExc (.type "StopIteration") [] >>= _) _ _ _;refine aq ?_;simp only[newExc,newTuple];refine aq (mR ?_ (by size_fits));refine aq (m:=firstArgMember _ _) (yG (a:=Value.none) (by first|rfl|(simp only[firstArgMember];rfl)) ?_);refine mR ?_ (by size_fits);simp only[raiseNew];refine aq (wpAny_handled ?_)
  first|rw[show A.in1.handled=none from hh]|rw[hh]
  refine aq (aG (wpAny_throw ?_));refine aq (wpAny_isInstance (T:="StopIteration") (b:=true) ⟨_,fW _ rfl,rfl⟩ isSubtype_stop ?_);exact aG (h2 _ e (((yC ..).extBut.push _).push _))
end
end Ts
namespace Ts
open PySem PySem.SetTable PySem.Spec PyProof.Rows PySem.W L2
section
variable {prog:Program}{w:World}{A:Around}{E:Value->Shared->Prop}{s:Shared}{S:Addr}{items:List Value}{ts:List (Int×Int)}{L:Ent}
theorem RT{ep:Nat}:(bJ w S ep (aF items ts L)).length=L.length:=by
 rw[kI.length_eq];unfold aF;rw[cg]
theorem zf7{ep:Nat}{t:SetTable}(hh:A.handled=none)(I:Addr)(hne:S≠I)(tb:Tab (bG ts) t L)(cap:tZ t.mask L.length)(bN:t.plain=true)(gR:t.led=bM w) :
  Walks prog w A I [I,S] [I] L.length (λi v=>∃e,(bJ w S ep (aF items ts L))[i]?=some e/\e.2=v) (λi h=>i<=L.length/\h.get? S=some (oN items ts L ep t)/\∃slot,h.get? I=some (yu S slot i L.length ep)/\(w.params.followText "set-order"=false->slot=cB L i)) where
 «sub»:=λb hb=>by simp at hb;simp[hb]
 frame:=λ_ _ _ st hk=>let ⟨a,b,slot,c,d⟩:=st;⟨a,hk S Zaa _ b,slot,hk I Zaa _ c,d⟩
 item:=λi s Q E hi st hQ=>by
  obtain⟨a,b,slot,c,d⟩:=st;refine YB hh c b tb cap bN gR a d (λe h' cT e1 e2 e3 e4=>?_) (λh' e1 _=>?_)
  ·exact hQ e.2 h' s.toks ⟨e,e1,rfl⟩ ⟨hi,e4.extBut S _ hne b,cT,e2,e3⟩ λb o hb e=>e4.extBut b o (λh=>hb (by simp[h])) e
  ·have:=oV.mp e1;rw[RT] at this
   lia
 done:=λs Q E st hQ=>by
  obtain⟨a,b,slot,c,d⟩:=st;refine YB hh c b tb cap bN gR a d (λe h' cT e1 _ _ _=>?_) (λh' _ e2=>?_)
  ·have:=(iK.mp e1).1;rw[RT] at this
   lia
  ·exact hQ h' s.toks λb o hb e=>e2 b o (λh=>hb (by simp[h])) e
 self:=λ_ s _ _ st hQ=>by
  obtain⟨a,b,slot,c,d⟩:=st;refine wpAny_pyIter_slot (Ip c) Yw (qZ Yw (Ip c) zcv ?_ (zcW _));show wpAny _ _ (ret (.ref _)) _ _ s;exact aG ⟨_,rfl,"set_iterator",_,Ip c,cH.lookup,hQ⟩
theorem zgu{ep:Nat}{t:SetTable}{Q:Bool->Shared->Prop}(ho:s.heap.get? S=some (oN items ts L ep t))(h:Q false s):wpAny (model prog w) A (Builtin.List.listLengthHint (.ref S)) Q E s:=by
 unfold Builtin.List.listLengthHint;refine aq (wpAny_specialOf ⟨_,ho,rfl⟩ F.slot_set_len.lookup ?_);generalize YC:("set.__len__" : String)=id0
 wp_delta
 rw[show splitId id0=some ("set","__len__") from by subst YC;decide +kernel];subst YC;refine aq (wpAny_isInstance (T:="set") (b:=true) ⟨_,ho,rfl⟩ (by rw[isSubtype_type];kernel_rfl) ?_);refine wpAny_ite_split (λpN=>absurd pN R4) (λ_=>?_);refine wpAny_ite_split (λ_=>?_) (λpN=>absurd Bd pN);refine aq (wV (T:="set") ⟨_,ho,rfl⟩ ?_);exact aG h
theorem zex{ep:Nat}{acc:Array Value}(h:ItemsOf (λi v=>∃e,(bJ w S ep (aF items ts L))[i]?=some e/\e.2=v) acc L.length):acc=((bJ w S ep (aF items ts L)).map (·.2)).toArray:=by
 obtain⟨h1,h2⟩:=h;apply Array.toList_inj.mp;apply List.ext_getElem?;intro i;cases e:acc[i]? with
 |none=>
  have:=Array.getElem?_eq_none_iff.mp e;rw[Lz,e]
  symm
  rw[oV,cg,RT]
  lia
 |some v=>
  obtain⟨x,e1,e2⟩:=h2 i v e;rw[Lz,e];show some v=((bJ w S ep (aF items ts L)).map (·.2))[i]?;rw[kY,e1,<-e2];rfl
theorem zdj{ep:Nat}{t:SetTable}{Q:List Value->Shared->Prop}(hh:A.handled=none)(ho:s.heap.get? S=some (oN items ts L ep t))(tb:Tab (bG ts) t L)(cap:tZ t.mask L.length)(bN:t.plain=true)(gR:t.led=bM w)
  (h:∀h' tk,(∀b o,s.heap.get? b=some o->h'.get? b=some o)->Q ((bJ w S ep (aF items ts L)).map (·.2)) {s with heap:=h',toks:=tk}):wpAny (model prog w) A (collect (.ref S)) Q E s:=by
 have hlt:S<s.heap.objs.size:=bK ho;have aae:(100:Nat)<=sizeLine:=by decide
 have hn:L.length<=sizeLine:=by rcases cap with c|c|c<;>lia
 unfold collect;refine aq (wpAny_runValue (Bt entry_proto_collect' ?_));show wpAny _ _ (do again (.builtin "list.__iadd__" ⟨[<-newList [],.ref S],[]⟩)) _ _ s;refine aq (wpAny_newList (aG ⟨Ja _ Bd,Bt entry_list_iadd' ?_⟩));show wpAny _ _ (Builtin.List.listExtendWith (.ref s.heap.objs.size) (.ref S) (.ref s.heap.objs.size)) _ _ {s with heap:=s.heap.push (seqObj "list" #[] 0)};have ji:(s.heap.push (seqObj "list" #[] 0)).get? S=some (oN items ts L ep t):=bR _ ho;unfold Builtin.List.listExtendWith;refine aq (wV (T:="set") ⟨_,ji,rfl⟩ ?_);have h1:Builtin.List.listSameRef (.ref s.heap.objs.size) (.ref S)=false:=by simp[Builtin.List.listSameRef,uz hlt]
 have h2:(Value.type "set"==Value.type "list")=false:=by decide
 have h3:(Value.type "set"==Value.type "tuple")=false:=by decide
 simp only[h1,h2,h3,Bool.or_false,iz,gW];refine aq (zes ji tb cap bN ?_);refine aq (jd (zgu (bR _ ji) ?_));refine wpAny_ite_split (λ_=>?_) (λpN=>absurd Bd pN);refine aq (BK ?_);refine aq ?_;have hS₁:((s.heap.push (seqObj "list" #[] 0)).push (yu S 0 0 L.length ep)).get? s.heap.objs.size=some (seqObj "list" #[] 0):=bR _ (fW _ rfl);show wpAny _ _ (updateSeq s.heap.objs.size (·.push .none) >>= λ_=>updateSeq s.heap.objs.size (·.pop)) _ _ _;refine aq (wpAny_updateSeq hS₁ rfl ?_);have hS₂:=qU (Obj.mapSeq (·.push Value.none)) hS₁ rfl;refine wpAny_updateSeq (hz:=by seq_fits) hS₂ rfl ?_;have hS₃:=qU (Obj.mapSeq (·.pop)) hS₂ rfl;have hI:(s.heap.push (seqObj "list" #[] 0)).objs.size=s.heap.objs.size+1:=by rw[size_push']
 refine aG ⟨plainId_quiet F.plain_extend_loop _,?_⟩;have oth:∀b o,b≠s.heap.objs.size->(s.heap.push (seqObj "list" #[] 0)).get? b=some o->((((s.heap.push (seqObj "list" #[] 0)).push (yu S 0 0 L.length ep)).update s.heap.objs.size (Obj.mapSeq (·.push Value.none))).update s.heap.objs.size (Obj.mapSeq (·.pop))).get? b=some o:=λb o hb e=>
  (uo _ _ (Ne.symm hb)).trans ((uo _ _ (Ne.symm hb)).trans (bR _ e))
 have hne:S≠(s.heap.push (seqObj "list" #[] 0)).objs.size:=by rw[hI];exact cP (qY hlt)
 have Gh:s.heap.objs.size≠(s.heap.push (seqObj "list" #[] 0)).objs.size:=by rw[hI];lia
 refine codeAny_extend_loopS ((zf7 (items:=items) (ep:=ep) (by simp[hh]) (s.heap.push (seqObj "list" #[] 0)).objs.size hne tb cap bN gR).toS) hn s.heap.objs.size (by simp only[cV,pQ,oX,not_or];exact⟨Gh,uz hlt⟩) _ L.length 0 _ #[] _ rfl (nj _)
  ⟨nj _,oth S _ (cP hlt) ji,0,(uo _ _ Gh).trans ((uo _ _ Gh).trans (fW _ rfl)),λ_=>rfl⟩ hS₃ (ItemsOf.nil _) λs' acc' c' hm A_ RV=>?_
 have ea:=zex RV;rw[Moved.eq_with hm];show wpAny _ _ _ _ _ _;dsimp only;refine aq (wpAny_load A_ ?_);dsimp only;refine aG ?_;rw[ea];refine h s'.heap s'.toks λb o e=>?_;have hb:b<s.heap.objs.size:=bK e;refine hm.heap b o ?_ (oth b o (cP hb) (bR _ e));simp only[cV,pQ,oX,not_or];exact⟨cP hb,by rw[hI];exact cP (qY hb)⟩
theorem zfl{u:Value}{vs:List Value}{κ:SortKind}{lt:Nat->Nat->Option Bool}{p:Array Nat}{Q:Value->Shared->Prop}(RW:∀(Q':List Value->Shared->Prop) (E':Value->Shared->Prop),(∀h' tk,(∀b o,s.heap.get? b=some o->h'.get? b=some o)->Q' vs {s with heap:=h',toks:=tk})->wpAny (model prog w) A.in1 (collect u) Q' E' s)(Ow:vs.length<64)
  (hk:2<=vs.length->∀(s':Shared) (Q:SortKind->Shared->Prop) E,(∀b o,s.heap.get? b=some o->s'.heap.get? b=some o)->Q κ s'->wpAny (model prog w) A.in1.in1 (keyKind' vs.toArray) Q E s')
  (hlt:2<=vs.length->∀(s':Shared) i j b C,(∀b o,s.heap.get? b=some o->s'.heap.get? b=some o)->lt i j=some b->C b s'->kas_ask prog w A.in1.in1 κ vs i j C s') (hr:2<=vs.length->bQ lt (kas_sort vs.length)=some p) (Ox:2<=vs.length->p.size=vs.length)
  (h:∀h' tk r e,(∀b o,s.heap.get? b=some o->h'.get? b=some o)->(∀b o,s.heap.get? b=some o->b<r)->h'.get? r=some (seqObj "list" (jT vs p) e)->Q (.ref r) {s with heap:=h',toks:=tk}) :
  wpAny (model prog w) A (call (.builtin "sorted") [u]) Q E s:=by
 refine Calls.call_function_entry kind_sorted plain_sorted entry_sorted (args_sorted1 _) ?_;unfold Builtin.«sorted»;refine aq (m:=checkCount "sorted" 1 1 _) (aG ?_);refine aq (RW _ _ λh1 tk kJ=>?_);refine aq (wpAny_newList ?_ (by rw[pR];lia));have D_:(h1.push (seqObj "list" vs.toArray 0)).get? h1.objs.size=some (seqObj "list" vs.toArray 0):=fW _ rfl;have keep:∀b o,s.heap.get? b=some o->(h1.push (seqObj "list" vs.toArray 0)).get? b=some o:=λb o q=>bR _ (kJ b o q);have nn:∀b o,s.heap.get? b=some o->b≠h1.objs.size:=λb o e=>cP (bK (kJ b o e));refine aq (jd (qZ slot_list_sort ⟨_,D_,rfl⟩ entry_list_sort (zch (κ:=κ) (lt:=lt) (p:=p) D_ Ow (λh2 s' Q' k q=>hk h2 s' Q' _ (λb o e=>k b o (nn b o e) (keep b o e)) q) (λh2 s' i j b C k e q=>hlt h2 s' i j b C (λb o e=>k b o (nn b o e) (keep b o e)) e q) hr Ox ⟨_,rfl,?_⟩) (args_list_sort _)));obtain⟨e,he⟩:=sortedHeap_at (out:=jT vs p) D_;refine aG ⟨_,rfl,h _ tk _ e (λb o q=>?_) (λb o q=>bK (kJ b o q)) he⟩;have hb:=kJ b o q;rw[sortedHeap_old (nn b o q) (by rw[size_push'];exact qY (bK hb))];exact keep b o q
end
end Ts
namespace Mi
open PySem PySem.Spec PyProof.Rows L2 PySem.W Ts
theorem zff{α β:Type}{f:α->β}{l m:List β}(h:l.Perm m):∀{L:List α},m=L.map f->∃L':List α,L'.Perm L/\l=L'.map f:=by
 induction h with
 |nil=>intro L e;exact⟨L,.refl _,e⟩
 |cons x _ ih=>
  intro L e;cases L with
  |nil=>cases e
  |cons a L=>
   injection e with e1 e2;obtain⟨L',p,q⟩:=ih e2;exact⟨a::L',p.cons a,by rw[q,e1];rfl⟩
 |swap x y l=>
  intro L e
  match L,e with
  |a::b::L,e=>
   injection e with e1 e2;injection e2 with e2 e3;exact⟨b::a::L,.swap ..,by rw[e1,e2,e3];rfl⟩
 |trans _ _ ih1 ih2=>
  intro L e;obtain⟨L2,p2,q2⟩:=ih2 e;obtain⟨L1,p1,q1⟩:=ih1 q2;exact⟨L1,p1.trans p2,q1⟩
noncomputable def iy(a b:Int×Int):Bool:=decide (a.1<b.1\/a.1=b.1/\a.2<b.2)
noncomputable def C_(us:List (Int×Int))(i j:Nat):Option Bool:=match us[i]?,us[j]? with
 |some a,some b=>some (iy a b)
 |_,_=>none
def K4(us:List (Int×Int))(i j:Nat):Prop:=iy (us.getD j (0,1)) (us.getD i (0,1))=false
theorem kO{a b:Int×Int}:iy a b=true↔(a.1<b.1\/a.1=b.1/\a.2<b.2):=decide_eq_true_iff
theorem RX{a b:Int×Int}:iy a b=false↔¬(a.1<b.1\/a.1=b.1/\a.2<b.2):=Lr
theorem RZ(us:List (Int×Int)):Ord us.length (C_ us) (K4 us):=by
 refine⟨λi j hi hj=>?_,λi j k _ _ _ h1 h2=>?_⟩
 ·unfold C_ K4;rw[fQ hi,fQ hj,kW,kW,fQ hi,fQ hj];show (some (iy us[i] us[j])=some true/\iy us[j] us[i]=false)\/(some (iy us[i] us[j])=some false/\iy us[i] us[j]=false);cases e:iy us[i] us[j]
  ·exact .inr ⟨rfl,rfl⟩
  ·refine .inl ⟨rfl,?_⟩;rw[kO] at e;rw[RX]
   lia
 ·unfold K4 at *;rw[RX] at *
  lia
theorem Ir:gC.Pairwise λa b=>iy a b=true:=by decide +kernel
theorem K5:∀{l m:List (Int×Int)},(l.Pairwise λa b=>iy a b=true)->(m.Pairwise λa b=>iy a b=true)->(∀x,x∈l↔x∈m)->l=m
 |[],[],_,_,_=>rfl
 |[],b::m,_,_,h=>by have:=(h b).mpr dM;cases this
 |a::l,[],_,_,h=>by have:=(h a).mp dM;cases this
 |a::l,b::m,p,q,h=>by
  obtain⟨p1,p2⟩:=yD.mp p;obtain⟨q1,q2⟩:=yD.mp q;have YD:∀x,iy x x=true->False:=λx hx=>by rw[kO] at hx;lia
  have e:a=b:=by
   rcases cV.mp ((h a).mp dM) with z|z
   ·exact z
   ·rcases cV.mp ((h b).mpr dM) with y|y
    ·exact y.symm
    ·have h1:=p1 b y;have h2:=q1 a z;rw[kO] at h1 h2
     lia
  subst e;rw[K5 p2 q2 λx=>⟨λhx=>?_,λhx=>?_⟩]
  ·rcases cV.mp ((h x).mp (dF _ hx)) with z|z
   ·subst z;exact(YD _ (p1 _ hx)).elim
   ·exact z
  ·rcases cV.mp ((h x).mpr (dF _ hx)) with z|z
   ·subst z;exact(YD _ (q1 _ hx)).elim
   ·exact z
theorem YF{ts:List (Int×Int)}(ht:∀t∈ts,fP t){x:Int×Int}:x∈ss ts↔x∈ts:=by
 unfold ss;rw[List.mem_filter];exact⟨λh=>by simpa using h.2,λh=>⟨Ie (ht x h),by simpa using h⟩⟩
theorem K6{ts:List (Int×Int)}:(ss ts).Pairwise λa b=>iy a b=true:=Ir.filter _
theorem zfT{us:List (Int×Int)}(hn:2<=us.length)(hd:us.Nodup):∃p,bQ (C_ us) (kas_sort us.length)=some p/\p.size=us.length/\(∀i∈p.toList,i<us.length)/\(∀x,x∈p.toList.map (λi=>us.getD i (0,1))↔x∈us)/\(p.toList.map λi=>us.getD i (0,1)).Pairwise λa b=>iy a b=true:=by
 obtain⟨p,e,hp,ha⟩:=zld (RZ us) gV;have hs:p.size=us.length:=hp.size;have hm:(p.toList.map λi=>us.getD i (0,1)).Perm us:=by
  have h1:(p.toList.map λi=>us.getD i (0,1)).Perm ((List.range us.length).map λi=>us.getD i (0,1)):=(Array.Perm.toList hp).map _;have h2:((List.range us.length).map λi=>us.getD i (0,1))=us:=by
   apply List.ext_getElem
   ·simp
   ·intro i a b;simp[kW,b]
  rw[h2] at h1;exact h1
 refine⟨p,e,hs,λi hi=>?_,λx=>hm.mem_iff,?_⟩
 ·have:=(Array.Perm.toList hp).mem_iff.mp hi;simpa using this
 ·have nd:(p.toList.map λi=>us.getD i (0,1)).Nodup:=hm.nodup_iff.mpr hd;rw[qD];intro i j hi hj jZ;have hne:=qD.mp nd i j hi hj jZ;have uU:i<p.size:=by simpa using hi
  have HX:j<p.size:=by simpa using hj
  have hl:=ha i j jZ gV;unfold K4 at hl;have e1:p.getD i 0=p[i]:=by simp[Array.getD,uU]
  have e2:p.getD j 0=p[j]:=by simp[Array.getD,HX]
  rw[e1,e2] at hl;simp only[List.getElem_map,Array.getElem_toList] at hne ⊢;generalize us.getD p[i] (0,1)=x at *;generalize us.getD p[j] (0,1)=y at *;rw[RX] at hl;rw[kO];obtain⟨x1,x2⟩:=x;obtain⟨y1,y2⟩:=y;simp only[Prod.mk.injEq,ne_eq,not_and] at *
  lia
section
variable {prog:Program}{w:World}{A:Around}{E:Value->Shared->Prop}{s:Shared}{S:Addr}{items:List Value}{ts:List (Int×Int)}{L:Ent}
theorem YG{h:Heap}(T:eU prog w h S items ts):∀{js:List Nat},(∀j∈js,j<ts.length)->∃fs:List Value,fs.length=(js.map (items.getD · Value.none)).length/\(∀f∈fs,∃i t,f=Value.int i t)/\KatTups h (js.map (items.getD · Value.none)) fs
 |[],_=>⟨[],rfl,(λf hf=>by cases hf),trivial⟩
 |j::js,hj=>by
  obtain⟨fs,l,hf,kt⟩:=YG T (js:=js) λj' h'=>hj j' (dF _ h');obtain⟨a,e,_,o,its,n,ho,hc,hd,hi⟩:=T.at' j (hj j dM);obtain⟨its⟩:=its;cases hi with
  |cons hv hr=>
   obtain⟨t,rfl⟩:=Bo hv;refine⟨Value.int (aP ts j).1 t::fs,by simp[l],λf hf'=>?_,?_⟩
   ·rcases cV.mp hf' with rfl|z
    ·exact⟨_,t,rfl⟩
    ·exact hf f z
   ·rw[jE,e];exact KatTups.cons ho hc hd Zaa kt
theorem R0{a b:Int×Int}:nM [.int a.1,.int a.2] [.int b.1,.int b.2]=some (iy a b):=by
 unfold iy;simp only[nM];by_cases h1:a.1=b.1
 ·rw[if_pos h1];by_cases h2:a.2=b.2
  ·rw[if_pos h2]
   congr 1
   simp only[q_,lZ,decide_false]
   symm
   rw[Lr]
   lia
  ·rw[if_neg h2]
   congr 1
   rw[Bs]
   lia
 ·rw[if_neg h1]
  congr 1
  rw[Bs]
  lia
theorem YH{x y:Int}{its:List Value}(hi:ItemsAre (intKind prog w) [x,y] its):Vals [.int x,.int y] its:=by
 cases hi with
 |cons hv hr=>
  cases hr with
  |cons hv2 YJ=>
   cases YJ;obtain⟨t,rfl⟩:=Bo hv;obtain⟨t',rfl⟩:=Bo hv2;exact .cons ⟨t,rfl⟩ (.cons ⟨t',rfl⟩ .nil)
theorem zgN{l:Addr}{Q:Value->Shared->Prop}(hh:A.handled=none)(hu:A.units+8<cLine)(hl:s.heap.IsTuple l items.toArray)(hT:eU prog w s.heap s.heap.objs.size items ts)
  (h:∀h' tk r e (js:List Nat),(∀b o,s.heap.get? b=some o->h'.get? b=some o)->s.heap.objs.size<=r->js.map (aP ts)=ss ts->(∀j∈js,j<ts.length)->h'.get? r=some (seqObj "list" (js.map (items.getD · Value.none)).toArray e)->Q (.ref r) {s with heap:=h',toks:=tk}) :
  wpAny (model prog w) A (PySem.call (.type "set") [.ref l]) (λv s'=>wpAny (model prog w) A (PySem.call (.builtin "sorted") [v]) Q E s') E s:=by
 refine zcx hh hu hl hT λh1 tk1 L hS T1 hD kJ=>?_;obtain⟨⟨ep,t,ho,tb,cap,bN,gR⟩,idx⟩:=hS;have k1:∀b o,s.heap.get? b=some o->h1.get? b=some o:=λb o e=>kJ b o (bK e) e;obtain⟨L',pL,eL⟩:=zff (f:=λe:Nat×Nat=>(bG ts e.2,items.getD e.2 Value.none)) (kI (w:=w) (S:=s.heap.objs.size) (ep:=ep) (es:=aF items ts L)) (L:=L) rfl;have ev:(bJ w s.heap.objs.size ep (aF items ts L)).map (·.2)=(L'.map (·.2)).map (items.getD · Value.none):=by
  rw[eL,mj,mj];rfl
 have yq:∀j∈L'.map (·.2),j<ts.length:=λj hj=>by
  obtain⟨e,he,rfl⟩:=fZ.mp hj;exact idx e (pL.mem_iff.mp he)
 have nd:((L'.map (·.2)).map (aP ts)).Nodup:=by
  rw[mj];have:L'.Nodup:=pL.nodup_iff.mpr (by
   have:=tb.asc;unfold Ts.eN at this;rw[uq] at this;exact this.imp λ{a b} z=>λe=>by subst e;lia)
  unfold List.Nodup;rw[uq];refine(List.Pairwise.and_mem.mp this).imp λ{a b} z e=>z.2.2 (tb.inj a (pL.mem_iff.mp z.1) b (pL.mem_iff.mp z.2.1) ?_);show hf (aP ts a.2)=hf (aP ts b.2);rw[show aP ts a.2=aP ts b.2 from e]
 have aaf:L.length<=28:=by rcases cap with c|c|c<;>lia
 have hlen:((L'.map (·.2)).map (items.getD · Value.none)).length=L.length:=by rw[cg,cg];exact pL.length_eq
 have ud:((L'.map (·.2)).map (aP ts)).length=L.length:=by rw[cg,cg];exact pL.length_eq
 have t8:∀x∈ts,fP x:=λx hx=>by
  obtain⟨i,hi,rfl⟩:=Dr hx;have:=T1.tie i hi;unfold aP at this;rw[kW,fQ hi] at this;exact this
 have R3:∀i,i<ts.length->aP ts i∈ts:=λi hi=>by
  unfold aP;rw[kW,fQ hi];exact qH hi
 have hm:∀x,x∈(L'.map (·.2)).map (aP ts)↔x∈ss ts:=λx=>by
  rw[YF t8];refine⟨λhx=>?_,λhx=>?_⟩
  ·obtain⟨j,hj,rfl⟩:=fZ.mp hx;exact R3 j (yq j hj)
  ·obtain⟨i,hi,rfl⟩:=Dr hx;obtain⟨e,he,e2⟩:=hD.2 i hi;refine fZ.mpr ⟨e.2,fZ.mpr ⟨e,pL.mem_iff.mpr he,rfl⟩,?_⟩;rw[e2];unfold aP;rw[kW,fQ hi];rfl
 have fin:∀(p:Array Nat),(2<=L.length->p.size=L.length/\(∀i∈p.toList,i<L.length)/\(∀x,x∈p.toList.map (λi=>((L'.map (·.2)).map (aP ts)).getD i (0,1))↔x∈(L'.map (·.2)).map (aP ts))/\(p.toList.map λi=>((L'.map (·.2)).map (aP ts)).getD i (0,1)).Pairwise λa b=>iy a b=true)->∃js:List Nat,js.map (aP ts)=ss ts/\(∀j∈js,j<ts.length)/\jT ((L'.map (·.2)).map (items.getD · Value.none)) p=(js.map (items.getD · Value.none)).toArray:=λp hp=>by
  unfold jT;by_cases h2:L.length<2
  ·rw[hlen,if_pos h2];refine⟨L'.map (·.2),K5 ?_ K6 hm,yq,rfl⟩;rw[<-ud] at h2;generalize (L'.map (·.2)).map (aP ts)=us at h2
   match us,h2 with
   |[],_=>exact .nil
   |[x],_=>exact List.pairwise_singleton ..
  ·rw[hlen,if_neg h2];obtain⟨p1,p2,p3,p4⟩:=hp gV;have zW:∀i∈p.toList,(L'.map (·.2)).getD i 0∈L'.map (·.2)/\((L'.map (·.2)).map (items.getD · Value.none)).getD i Value.none=items.getD ((L'.map (·.2)).getD i 0) Value.none/\((L'.map (·.2)).map (aP ts)).getD i (0,1)=aP ts ((L'.map (·.2)).getD i 0):=λi hi=>by
    have uU:i<(L'.map (·.2)).length:=by rw[cg,pL.length_eq];exact p2 i hi
    generalize L'.map (·.2)=ks at uU;simp only[kW,kY,fQ uU,Option.map_some,Option.getD_some];exact⟨qH uU,trivial,trivial⟩
   refine⟨p.toList.map λi=>(L'.map (·.2)).getD i 0,?_,λj hj=>?_,?_⟩
   ·rw[mj];have:p.toList.map (aP ts∘λi=>(L'.map (·.2)).getD i 0)=p.toList.map λi=>((L'.map (·.2)).map (aP ts)).getD i (0,1):=I_ λi hi=>((zW i hi).2.2).symm;rw[this];exact K5 p4 K6 λx=>(p3 x).trans (hm x)
   ·obtain⟨i,hi,rfl⟩:=fZ.mp hj;exact yq _ (zW i hi).1
   ·exact pU List.toArray ((I_ λi hi=>(zW i hi).2.1).trans (by rw[mj];rfl))
 obtain⟨p,hr,hp⟩ : ∃p,(2<=L.length->bQ (C_ ((L'.map (·.2)).map (aP ts))) (kas_sort L.length)=some p)/\(2<=L.length->p.size=L.length/\(∀i∈p.toList,i<L.length)/\(∀x,x∈p.toList.map (λi=>((L'.map (·.2)).map (aP ts)).getD i (0,1))↔x∈(L'.map (·.2)).map (aP ts))/\(p.toList.map λi=>((L'.map (·.2)).map (aP ts)).getD i (0,1)).Pairwise λa b=>iy a b=true):=by
  by_cases h2:2<=L.length
  ·obtain⟨p,a,b,c,d,e⟩:=zfT (by rw[ud];exact h2) nd;rw[ud] at a b c;exact⟨p,λ_=>a,λ_=>⟨b,c,d,e⟩⟩
  ·exact⟨#[],λz=>absurd z h2,λz=>absurd z h2⟩
 obtain⟨js,j1,j2,j3⟩:=fin p hp;refine zfl (vs:=(L'.map (·.2)).map (items.getD · Value.none)) (κ:=tuples' true) (lt:=C_ ((L'.map (·.2)).map (aP ts))) (p:=p) (λQ' E' q=>?_) gV (λh2 s' Q' E' k q=>?_) (λh2 s' i j b C k e hC=>?_) (λh2=>by rw[hlen] at h2 ⊢;exact hr h2) (λh2=>by rw[hlen] at h2 ⊢;exact(hp h2).1) (λh' tk r e k hn hg=>?_)
 ·refine zdj (by simp[hh]) ho tb cap bN gR λh' tk k=>?_;rw[ev];exact q h' tk k
 ·obtain⟨fs,l1,hf,kt⟩:=YG (T1.keep λi a o hi e g=>k a o g) yq;exact zga h2 l1 hf kt q
 ·unfold C_ at e;split at e
  ·rename_i a c e1 e2;cases e;rw[kY,m9] at e1 e2;obtain⟨j1,g1,rfl⟩:=e1;obtain⟨j2,g2,rfl⟩:=e2;obtain⟨a1,b1,_,o1,i1,n1,J3,_,hd1,hi1⟩:=T1.at' j1 (yq j1 (jD g1));obtain⟨a2,b2,_,o2,i2,n2,nG,_,hd2,hi2⟩:=T1.at' j2 (yq j2 (jD g2));obtain⟨i1⟩:=i1;obtain⟨i2⟩:=i2;show wpAny _ _ (keyLt' (tuples' true) (((L'.map (·.2)).map (items.getD · Value.none)).getD i Value.none) (((L'.map (·.2)).map (items.getD · Value.none)).getD j Value.none)) C _ s';have f1:((L'.map (·.2)).map (items.getD · Value.none))[i]?=some (.ref a1):=by rw[kY,g1,<-b1];rfl
   have f2:((L'.map (·.2)).map (items.getD · Value.none))[j]?=some (.ref a2):=by rw[kY,g2,<-b2];rfl
   rw[Oz f1,Oz f2];have r1:=YH hi1;have r2:=YH hi2;refine kat_lt (k _ _ J3) hd1 (k _ _ nG) hd2 (zj6 r1 r2 R0 ?_ hC);have q1:=r1.length;have q2:=r2.length;simp at q1 q2;simp[<-q1,<-q2]
  ·cases e
 ·refine h h' tk r e js (λb o g=>k b o (k1 b o g)) ?_ j1 j2 (by rw[<-j3];exact hg);exact wU (hn _ _ ho)
end
def TV(K:W.Frag)(H:Hp)(ys:List V)(ts:List (Int×Int)):Prop:=ts.length=ys.length/\∀i,i<ts.length->fP (aP ts i)/\∃a,ys[i]?=some (.ref a)/\f9 K H a [.int (aP ts i).1,.int (aP ts i).2]
def YK(K:W.Frag)(vs:List V)(H:Hp)(Q:VK):Prop:=∃l ys ts,vs=[.ref l]/\f9 K H l ys/\TV K H ys ts/\∀js:List Nat,js.map (aP ts)=ss ts->(∀j∈js,j<ts.length)->∀r,H r=none->Q (.ref r) (upd H r (.lst (js.map (ys.getD · .non))))
theorem zgJ:bootBuiltins "set"=some (.type "set"):=by decide +kernel
section
variable {X:Cx}
theorem zew{w:World}{prog:Program}{x y:Int}{its:List Value}(r:Vals [.int x,.int y] its):ItemsAre (intKind prog w) [x,y] its:=by
 cases r with
 |cons a r=>
  cases r with
  |cons b r=>
   cases r;obtain⟨t,rfl⟩:=a;obtain⟨t',rfl⟩:=b;exact .cons (by show Value.isInt x (Value.int x t)=true;simp[Value.isInt]) (.cons (by show Value.isInt y (Value.int y t')=true;simp[Value.isInt]) .nil)
theorem zlz{k:Nat}{e:Expr}{t:TA}{p p' pos pos':Pos}(hr:bO k X.A)(hc:X.aj=true)(hg:Gl X "sorted")(hm:X.mg "sorted"=none)(Iu:Gl X "set")(zA:X.mg "set"=none)(ha:PA X [e] t)
  (he:starEach [e] X.env=(false,eval e X.env)::starEach [] X.env:=by rfl) (bN:(backTo pos' (starEach [] X.env)).any (·.1)=false:=by rfl) :
  PE X (.Call (.Name "sorted" p) [.Call (.Name "set" p') [e] [] pos'] [] pos) (Nm (YK X.K) t):=by
 intro ak s Z H Q I h;refine Dt (xu I hg hm zdb ?_);refine PyProof.Rows.callWith_builtin1 ?_ rfl rfl;show wpAny _ _ (spliced ((false,eval (.Call (.Name "set" p') [e] [] pos') X.env)::backTo pos (starEach [] X.env))) _ _ s;refine Calls.spliced_cons ?_;refine Dt (xu I Iu zA zgJ ?_);refine Dj (aZ (ha pos' ak s Z H _ I h) λus s1 ⟨vs,H1,I1,r1,q1⟩=>?_) he bN;obtain⟨l,ys,ts,rfl,hq,⟨hl,ht⟩,q⟩:=q1;obtain⟨u,rfl,ru⟩:=vals1 r1;cases ru;obtain⟨its,rv,pl,hz⟩:=I1.tuple hq;have hu:=hr.un;have hT:eU X.prog X.w s1.heap s1.heap.objs.size its ts:=⟨by rw[hl,rv.length],λi hi=>(ht i hi).1,λi hi=>by
  obtain⟨a,e1,e2⟩:=(ht i hi).2;obtain⟨u,e3,e4⟩:=rv.get e1;cases (show u=Value.ref a from e4);obtain⟨its',rv',⟨o,ho,jr,n,hd⟩,_⟩:=I1.tuple e2;refine⟨a,Oz e3,cP (bK ho),o,its'.toArray,n,ho,jr,hd,?_⟩;simpa using zew rv'⟩
 refine aZ (zgN (E:=X.xe) (I1.ok.hd hc) gV pl hT λh' tk r e js k mZ j1 j2 hg=>?_) λv s' hw=>Calls.spliced_nil hw;have hn:H1 r=none:=I1.hok.fresh mZ;have hv:Vals (js.map (ys.getD · .non)) (js.map (its.getD · Value.none)):=VH rv js;refine⟨.ref r,_,I1.laid (a:=r) (o:=.lst (js.map (ys.getD · .non))) (h':=h') (t':=tk) k mZ (show aR X.prog X.w _ h' _ (.lst _) from ⟨?_,_,e,hv,hg⟩),rfl,q js j1 j2 r hn⟩;have:(js.map (aP ts)).length<=28:=by rw[j1];exact mV (List.length_filter_le ..) R4
 rw[cg] at this ⊢;exact mV this R4
end
section
variable {K:W.Frag}{cA:Cl}{U:Ph}{H:Hp}
theorem zh3{d:D}{v:V}{p:Int×Int}(h:vY d=some p)(r:Rep K cA U H d v):d=.tup [.int p.1,.int p.2]/\fP p/\∃a,v=.ref a/\f9 K H a [.int p.1,.int p.2]:=by
 unfold vY at h;split at h
 ·rename_i a b;by_cases hk:0<=a/\a<b/\b<8
  ·rw[if_pos hk] at h;cases h;refine⟨rfl,hk,?_⟩;cases r with
   |tup t r=>
    cases r with
    |cons r1 r=>
     cases r with
     |cons r2 r=>
      cases r;cases r1;cases r2;exact⟨_,rfl,t.jU⟩
  ·rw[if_neg hk] at h;cases h
 ·cases h
theorem YL:∀{xs:List D} {ys:List V} {ts:List (Int×Int)},jw xs=some ts->aB K cA U H xs ys->xs=ts.map (λp=>.tup [.int p.1,.int p.2])/\TV K H ys ts
 |[],_,_,h,r=>by cases h;cases r;exact⟨rfl,rfl,λi hi=>by cases hi⟩
 |x::xs,_,ts,h,r=>by
  unfold jw at h;split at h
  ·rename_i a b e1 e2;cases h;cases r with
   |cons r1 r2=>
    obtain⟨e3,l,q⟩:=YL e2 r2;obtain⟨e4,t8,a1,rfl,s1⟩:=zh3 e1 r1;refine⟨by rw[e3,e4];rfl,by simp[l],λi hi=>?_⟩;cases i with
    |zero=>exact⟨t8,a1,rfl,s1⟩
    |succ i=>exact q i (by simpa using hi)
  ·cases h
theorem zlQ:aX K cA .dD (YK K):=by
 intro U H ds vs Q zt rs o;have o:bf K cA U H (PB ds) Q:=o;unfold PB at o;split at o
 ·rename_i xs _;obtain⟨v,rfl,r1⟩:=rs.one;obtain⟨z,e⟩:=o.some';obtain⟨ts,e1,e2⟩:=m9.mp e;subst e2;have r1:Rep K cA U H (.tup xs) v:=r1;cases r1 with
  |tup t q=>
   obtain⟨e3,tv⟩:=YL e1 q;refine⟨_,_,ts,rfl,t.jU,tv,λjs j1 j2 r hr=>(o.of e) r _ hr ?_⟩;rw[<-j1,mj];have:js.map ((λp:Int×Int=>D.tup [.int p.1,.int p.2])∘aP ts)=js.map λj=>xs.getD j .non:=I_ λj hj=>by
    have:=j2 j hj;rw[e3];simp[aP,kW,this]
   rw[this];exact q.Hu js
 ·exact o.elim
end
section
variable {X:Cx}{cA:Cl}{ao:Nat->Nat->Bool}{aj:Bool}{F:Fn}{EX:XS}{e:Expr}{pos pos' p p':Pos}{Xs:Es}{fz:Bool}
theorem zlM{k:Nat}(hr:bO k X.A)(hc:X.aj=true)(hg:Gl X "sorted")(hm:X.mg "sorted"=none)(Iu:Gl X "set")(zA:X.mg "set"=none)(ha:SA X cA ao aj F EX [e] Xs)
  (he:starEach [e] X.env=(false,eval e X.env)::starEach [] X.env) (bN:(backTo pos' (starEach [] X.env)).any (·.1)=false):SE X cA ao aj F EX (.Call (.Name "sorted" p) [.Call (.Name "set" p') [e] [] pos'] [] pos) (.pr fz .dD Xs):=PE.weak (zlz hr hc hg hm Iu zA ha he bN) λZ H Q hh=>un hh λU J s hL hS h=>
 qm hL hS h λvs H1 U1 ds s1 x1 hL1 aL r1 h1=>by
  obtain⟨ds,rs,h3⟩:=pD aL r1 h1;exact zlQ U1 H1 ds _ _ aL.zs rs (m5 aL h3)
theorem zmC{k:Nat}(hr:bO k X.A)(hc:X.aj=true)(hm:X.mg "sorted"=none)(hg:JK X "sorted" .globalImplicit)(zA:X.mg "set"=none)(Iu:JK X "set" .globalImplicit)(ha:JA X cA ao aj F EX [e] Xs)(he:aD e=true:=by rfl):JE X cA ao aj F EX (.Call (.Name "sorted" p) [.Call (.Name "set" p') [e] [] pos'] [] pos) (.pr fz .dD Xs):=⟨zlM hr hc hg.o hm Iu.o zA ha.o (bC he) (bA rfl)⟩
end
end Mi
namespace Mi
open PySem PySem.Spec PyProof.Rows L2 PySem.W
section
variable {X:Cx}{cA:Cl}{ao:Nat->Nat->Bool}{aj:Bool}{F:Fn}{EX:XS}{a b:Expr}{A B:E}{pos p:Pos}{x:Str}{e:Expr}{es:List Expr}{Xs:Es}
noncomputable def wH(sc:Scope)(x:Str):Bool:=match sc.names.lookup x with
 |some k=>Ac k
 |none=>false
noncomputable def K7(sc:Scope)(x:Str):Bool:=match sc.names.lookup x with
 |some .globalImplicit=>true
 |_=>false
theorem YM{sc:Scope}{x:Str}(h:wH sc x=true):∃k,sc.names.lookup x=some k/\Ac k=true:=by
 unfold wH at h;split at h
 ·rename_i k e;exact⟨k,e,h⟩
 ·cases h
theorem YQ{sc:Scope}{x:Str}(h:K7 sc x=true):sc.names.lookup x=some .globalImplicit:=by
 unfold K7 at h;split at h
 ·assumption
 ·cases h
theorem gk(h:K7 X.env.scope x=true:=by kernel_rfl):JK X x .globalImplicit:=⟨YQ h⟩
theorem jl(h:(match X.env.scope.names.lookup x with|some .local=>true|_=>false)=true:=by kernel_rfl):JK X x .local:=by
 split at h
 ·exact⟨by assumption⟩
 ·cases h
theorem jc(h:(match X.env.scope.names.lookup x with|some .cell=>true|_=>false)=true:=by kernel_rfl):JK X x .cell:=by
 split at h
 ·exact⟨by assumption⟩
 ·cases h
theorem Dg{scope:Scope}{cl:List (Str×Addr)}{N:List Str}{Cc:Addr}{s3:Shared}{H3:Hp}{fp:List Addr}{ak:List (Addr×Obj)}(h:K7 scope x=true:=by kernel_rfl):JK (X.blk scope cl N Cc s3 H3 fp ak) x .globalImplicit:=Xa (YQ h) rfl
theorem gv(i:Nat)(h:(decide (X.N[i]?=some x)&&wH X.env.scope x&&okN x)=true:=by kernel_rfl):JE X cA ao aj F EX (.Name x pos) (.v i):=by
 rw[cO,cO] at h;obtain⟨k,e,hv⟩:=YM h.1.2;exact Xb i (oW h.1.1) ⟨e⟩ hv h.2
theorem m7(i:Nat){scope:Scope}{cl:List (Str×Addr)}{N:List Str}{Cc:Addr}{s3:Shared}{H3:Hp}{fp:List Addr}{ak:List (Addr×Obj)}(h:(decide (N[i]?=some x)&&wH scope x&&okN x)=true:=by kernel_rfl):JE (X.blk scope cl N Cc s3 H3 fp ak) cA ao aj F EX (.Name x pos) (.v i):=by
 rw[cO,cO] at h;obtain⟨k,e,hv⟩:=YM h.1.2;by_cases hk:k=.free
 ·subst hk;exact zmG i (oW h.1.1) e h.2
 ·exact Xb i (oW h.1.1) (Xa e (by cases k<;>first|rfl|exact absurd rfl hk)) hv h.2
theorem gc{f k:Nat}{cm:Bool}{st:Stmt}{ps:List Str}(Fo:dN X.prog X.w X.K X.mg X.base (jR X.prog X.w) cm k (iJ X.K x) (fdOf X.K x st) ps (tD X.K cA (F f)))(D:D3 X.K X.mg x st ps)(hr:bO k X.A)(R:JR X EX)(g:JK X x .globalImplicit)(ha:JA X cA ao aj F EX (e::es) Xs)(h:okN x=true:=by kernel_rfl)
  (p7:cm=true->X.aj=true:=by first|exact λ_=>rfl|exact λz=>nomatch z) (he:aD e=true:=by rfl) (bN:es.all aD=true:=by rfl):JE X cA ao aj F EX (.Call (.Name x p) (e::es) [] pos) (.call f Xs):=
 zjn f Fo p7 hr D.m D.f.kp D.b R g ha h he bN
theorem nd(h:decide X.N.Nodup=true:=by kernel_rfl):X.N.Nodup:=oW h
end
theorem fJ{P:Program}{w:World}{K:W.Frag}{mg:Str->Option Value}{base:Heap}{cA:Cl}{ao:Nat->Nat->Bool}{T:Nat->Option Df}{x:Str}{st:Stmt}{ps:List Str}{k n:Nat}{cm:Bool}{df:Df}(D:D3 K mg x st ps)(N:List Str)(hT:T n=some df)
  (hb:∀(cdv:Value) (A:Around) (outer:List Env) (s:Shared) (H:Hp) (E:XK),bO k (A.deeper (envOfC x (aA st) s.heap.objs.size (iJ K x) cdv))->
   JB (gK (jR P w) P w K mg base N x (aA st) (iJ K x) cdv A outer s H E cm) cA ao cm (λc=>call ao T k c) (λ_ C dx H'=>E C dx H') (aK st) df.body) (S:fj N ps (aA st):=by exact⟨rfl,rfl,rfl,dk,rfl,dk,dk⟩) (hp:df.gD=ps.length:=by rfl) (hm:df.many=N.length:=by rfl) :
  dN P w K mg base (jR P w) cm (k+1) (iJ K x) (fdOf K x st) ps (tD K cA (call ao T (k+1) cm n)):=zi8 D.f S hT hp hm hb
theorem YS(its:List Value):∀(n:Nat) (acc:Array Value),(List.replicate n its.toArray).foldl (λx y=>x++y) acc=acc++(rep its n).toArray
 |0,acc=>by simp[rep]
 |n+1,acc=>by
  rw[Ds,List.foldl_cons,YS its n];simp[rep,Ds]
theorem zik{α:Type}(n:Nat):rep ([]:List α) n=[]:=by
 unfold rep
 induction n with
 |zero=>rfl
 |succ n ih=>rw[Ds,Mq,ih];rfl
theorem ziZ{α:Type}(xs:List α)(n:Nat):(rep xs n).length=n*xs.length:=by
 unfold rep
 induction n with
 |zero=>simp
 |succ n ih=>rw[Ds,Mq,eZ,ih,Nat.succ_mul];lia
theorem K8{α:Type}(xs:List α)(n:Nat):rep xs (n+1)=xs++rep xs n:=by
 unfold rep;rw[Ds,Mq]
theorem YT{ys:List V}{its:List Value}(r:Vals ys its):∀n,Vals (rep ys n) (rep its n)
 |0=>.nil
 |n+1=>by
  rw[K8,K8];have key:∀{as:List V} {bs:List Value},Vals as bs->∀{cs:List V} {ds:List Value},Vals cs ds->Vals (as++cs) (bs++ds):=by
   intro as bs h
   induction h with
   |nil=>intro cs ds h2;exact h2
   |cons a _ ih=>intro cs ds h2;exact .cons a (ih h2)
  exact key r (YT r n)
section
variable {X:Cx}
theorem zh5:cN X (binaryOp .Mult) (λx y H Q=>∃l ys n,x=.ref l/\dj X.K H l ys/\y=.int n/\(0<=n/\n<=1000/\ys.length<=1000)/\∀p,H p=none->Q (.ref p) (upd H p (.lst (rep ys n.toNat)))):=by
 intro ak s Z H x y v u Q I rx ry h;obtain⟨l,ys,n,rfl,hq,rfl,⟨h0,h1,hl⟩,q⟩:=h;cases (show v=Value.ref l from rx);obtain⟨t,rfl⟩:=ry;obtain⟨its,rv,⟨o,c,e,hc,YW,mC⟩,hz⟩:=I.list hq;obtain⟨ocls,odict,odata,oslots⟩:=o;simp only at hc YW mC;subst hc YW mC;have hlen:=rv.length;have hmul:its.length*n.toNat<=1000000:=mV (Nat.mul_le_mul (show its.length<=1000 by lia) (show n.toNat<=1000 by lia)) R4;refine wpAny_binaryOp_repeat_ref (T:="list") («U»:="int") R4 ⟨_,e,rfl⟩ (λ_=>rfl) noFill_list_mul F.fills_int_mul F.slot_int_rmul repeat_list int_index ?_;refine call_meets F.slot_int_rmul rfl F.entry_int_rmul (F.args_int_rmul_2 _ _) (lm_int_rmul_list_any n t l its.toArray c none oslots) ⟨e,rfl,⟨_,e,rfl⟩,?_⟩;refine call_meets F.slot_list_mul ⟨_,e,rfl⟩ F.entry_list_mul (F.args_list_mul_2 _ _) (lm_list_mul_any l its.toArray c none oslots n t ?_ ?_ ?_) ⟨e,?_⟩
 ·unfold Builtin.List.listFitsIndex;simp
  lia
 ·rw[cU];have:(1000000:Nat)<=(2^63-1)/8:=by decide
  lia
 ·rw[cU];unfold Builtin.List.listTooLong;simp;rw[pR]
  lia
 ·have hn:H s.heap.objs.size=none:=I.hok.fresh (bT _);have ea:(List.replicate (if its.toArray.isEmpty=true then 0 else n.toNat) its.toArray).foldl (λx y=>x++y) #[]=(rep its n.toNat).toArray:=by
   by_cases he:its=[]
   ·subst he;rw[zik];rfl
   ·rw[if_neg (by simpa using he),YS];simp
  refine⟨.ref s.heap.objs.size,_,I.laid (a:=s.heap.objs.size) (o:=.lst (rep ys n.toNat)) (t':=s.toks) (λb w q=>bR _ q) (bT _) (show aR X.prog X.w _ _ _ (.lst _) from ⟨?_,_,0,YT rv n.toNat,?_⟩),rfl,q _ hn⟩
  ·rw[ziZ,pR];have:=Nat.mul_le_mul (show n.toNat<=1000 by lia) hl
   lia
  ·rw[<-ea];exact fW _ rfl
end
section
variable {K:W.Frag}{cA:Cl}{U:Ph}{H:Hp}
theorem YX{as:List D}{bs:List V}(h:aB K cA U H as bs){cs:List D}{ds:List V}(h2:aB K cA U H cs ds):aB K cA U H (as++cs) (bs++ds):=by
 match as,bs,h with
 |_,_,.nil=>exact h2
 |_,_,.cons a r=>exact .cons a (YX r h2)
theorem YZ{xs:List D}{ys:List V}(r:aB K cA U H xs ys):∀n,aB K cA U H (rep xs n) (rep ys n)
 |0=>.nil
 |n+1=>by
  rw[K8,K8];exact YX r (YZ r n)
theorem zis:aX K cA .nQ (r2 λx y H Q=>∃l ys n,x=.ref l/\dj K H l ys/\y=.int n/\(0<=n/\n<=1000/\ys.length<=1000)/\∀p,H p=none->Q (.ref p) (upd H p (.lst (rep ys n.toNat)))):=by
 intro U H ds vs Q zt rs o;have o:bf K cA U H (sG ds) Q:=o;unfold sG at o;split at o
 ·rename_i xs n _;obtain⟨v,v',rfl,r1,r2⟩:=rs.two (ds:=[]);cases r2;obtain⟨a,us,rfl,sq,q⟩ : ∃a us,v=.ref a/\dj K H a us/\aB K cA U H xs us:=r1;have hl:=q.len;by_cases hk:0<=n/\n<=1000/\xs.length<=1000
  ·rw[if_pos hk] at o;exact⟨_,_,rfl,a,us,n,rfl,sq,rfl,⟨hk.1,hk.2.1,by lia⟩,λp hp=>(o.of rfl) p _ hp (YZ q _)⟩
  ·rw[if_neg hk] at o;exact o.elim
 ·exact o.elim
end
theorem R5{X:Cx}{cA:Cl}:JQ X cA .Mult .nQ:=⟨_,zh5,zis⟩
end Mi
namespace Mi
open PySem Ts
theorem W.zF{ao:Nat->Nat->Bool}{aj:Bool}{F:Fn}{J:Vs}{s:S}{P:Xv->S->Prop}{p q r:Pr}{a b c d:E}(h:W (ev ao aj F a J) s λx s1=>W (ev ao aj F b J) s1 λy s2=>W (dO [x,y]) s2 λds s3=>W (bH true (prim p ds)) s3 λt s4=>W (Mi.bool t) s4 λk s5=>
  W (if k=true then M.bd (ev ao aj F c J) λz=>M.bd (dO [y,z]) λds=>M.bd (bH true (prim q ds)) λt=>M.bd (Mi.bool t) λk2=>if k2=true then M.bd (ev ao aj F d J) λw=>M.bd (dO [z,w]) λds=>bH true (prim r ds) else M.ret (.d (.bl false)) else M.ret (.d (.bl false))) s5 P):W (ev ao aj F (.zF p q r a b c d) J) s P:=
 W.bd (h.imp λ_ _ h=>W.bd (h.imp λ_ _ h=>W.bd (h.imp λ_ _ h=>W.bd (h.imp λ_ _ h=>W.bd h))))
noncomputable def wI(n:Int):D->Bool
 |.tup xs=>decide ((xs.length:Int)=n)
 |_=>false
noncomputable def wJ(a b:Int):D->Bool
 |.int i=>decide (a<=i/\i<=b)
 |_=>false
noncomputable def cM(n:Int):D->Bool
 |.tup [.int a,.int b]=>decide (0<=a/\a<b/\b<n)
 |_=>false
theorem Y0{xs:List D}(h:xs.length≠2):wI 2 (.tup xs)=false:=gH (p:=((xs.length:Int)=2)) gV
theorem K9{xs:List D}(h:xs.length=2):∃x y,xs=[x,y]:=by
 match xs,h with
 |[x,y],_=>exact⟨x,y,rfl⟩
theorem Y4{n:Int}{xs:List D}(h:xs.length≠2):cM n (.tup xs)=false:=by
 unfold cM
 split
 ·rename_i e;cases e;exact absurd rfl h
 ·rfl
noncomputable def fD:List D->List (Int×Int)
 |.tup [.int a,.int b]::r=>(a,b)::fD r
 |_::r=>fD r
 |[]=>[]
theorem R6{n:Int}:∀{ys:List D},ys.all (cM n)=true->ys=(fD ys).map eF/\∀p∈fD ys,0<=p.1/\p.1<p.2/\p.2<n
 |[],_=>⟨rfl,λp hp=>by cases hp⟩
 |y::ys,h=>by
  rw[mU,cO] at h;obtain⟨e,q⟩:=R6 h.2;have h1:=h.1;unfold cM at h1;split at h1
  ·rename_i a b;have:=oW h1;refine⟨?_,λp hp=>?_⟩
   ·show _::ys=eF (a,b)::(fD ys).map eF;rw[<-e];rfl
   ·rcases cV.mp (show p∈(a,b)::fD ys from hp) with rfl|hp
    ·exact this
    ·exact q p hp
  ·cases h1
theorem Y5:∀ps:List (Int×Int),fD (ps.map eF)=ps
 |[]=>rfl
 |p::ps=>by
  show (p.1,p.2)::fD (ps.map eF)=_;rw[Y5 ps]
theorem zg2{n:Int}{ps:List (Int×Int)}(h:∀p∈ps,0<=p.1/\p.1<p.2/\p.2<n):(ps.map eF).all (cM n)=true:=by
 rw[List.all_map,iM];intro p hp;exact i_ (h p hp)
noncomputable def gU(ps:List (Int×Int)):Bool:=(ps.zip (ps.drop 1)).all λe=>iy e.1 e.2
theorem lU:∀{ps:List (Int×Int)},gU ps=true↔ps.Pairwise λa b=>iy a b=true
 |[]=>by simp[gU]
 |[p]=>by simp[gU]
 |p::q::r=>by
  have ih:=lU (ps:=q::r);have e:gU (p::q::r)=(iy p q&&gU (q::r)):=rfl;rw[e,cO,ih,yD (a:=p)]
  constructor
  ·rintro⟨h1,h2⟩;refine⟨λx hx=>?_,h2⟩;rcases cV.mp hx with rfl|hx
   ·exact h1
   ·have:=(yD.mp h2).1 x hx;rw[kO] at *
    lia
  ·rintro⟨h1,h2⟩;exact⟨h1 q dM,h2⟩
theorem zjP{ps:List (Int×Int)}(h:∀p∈ps,fP p):gU ps=decide (ps=ss ps):=by
 by_cases e:ps=ss ps
 ·rw[i_ e,lU,e];exact K6
 ·rw[gH e];cases ha:gU ps
  ·rfl
  ·exact absurd (K5 (lU.mp ha) K6 λx=>(YF h).symm) e
theorem zlq{ps:List (Int×Int)}(h:ps.Pairwise lx):ps.Pairwise λa b=>iy a b=true:=h.imp λ{a b} e=>kO.mpr e
noncomputable def dX:D->Bool
 |.tup [.int n,.tup ys]=>decide (1<=n/\n<=8)&&ys.all (cM n)&&gU (fD ys)
 |_=>false
theorem Y6{xs:List D}(h:xs.length≠2):dX (.tup xs)=false:=by
 unfold dX
 split
 ·rename_i e;cases e;exact absurd rfl h
 ·rfl
theorem zke{n:Int}{ps:List (Int×Int)}(h:Web n ps):dX (oM n ps)=true:=by
 show (decide (1<=n/\n<=8)&&(ps.map eF).all (cM n)&&gU (fD (ps.map eF)))=true;rw[Y5,i_ (And.intro h.h1 h.h8),zg2 h.tie,lU.mpr (zlq h.inc)];rfl
noncomputable def Ba:D->Bool
 |.tup ys=>ys.all mL
 |d=>m6 d
noncomputable def Bb:D->Bool
 |.tup xs=>xs.all Ba
 |d=>m6 d
def R7(d:D):Prop:=∀x ys,d=.tup [x,.tup ys]->ys.length<=200
theorem zjs{ps qs:List (Int×Int)}:List.zipWith (λ(p q:D)=>D.tup [p,q]) (ps.map eF) (qs.map eF)=(ps.zip qs).map λe=>.tup [eF e.1,eF e.2]:=by
 induction ps generalizing qs with
 |nil=>rfl
 |cons p ps ih=>
  cases qs with
  |nil=>rfl
  |cons q qs=>
   show _::List.zipWith (λ(p q:D)=>D.tup [p,q]) (ps.map eF) (qs.map eF)=_::_;rw[ih];rfl
theorem Y7{d:D}(h:mL d=true):m6 d=true:=by cases d<;>first|rfl|cases h
theorem Y8{d:D}(h:Ba d=true):m6 d=true:=by cases d<;>first|rfl|cases h
theorem zhM{p q:Int×Int}:ltI [p.1,p.2] [q.1,q.2]=iy p q:=by
 simp only[ltI];unfold iy;by_cases h:p.1=q.1
 ·rw[if_pos h];by_cases h2:p.2=q.2
  ·rw[if_pos h2]
   symm
   apply gH
   lia
  ·rw[if_neg h2,Bs]
   lia
 ·rw[if_neg h,Bs]
  lia
theorem Y9:∀{ps:List (Int×Int)},(∀p∈ps,fP p)->jw (ps.map eF)=some ps
 |[],_=>rfl
 |p::ps,h=>by
  have h1:vY (eF p)=some p:=by
   show (if 0<=p.1/\p.1<p.2/\p.2<8 then some (p.1,p.2) else none)=_;rw[if_pos (show 0<=p.1/\p.1<p.2/\p.2<8 from h p dM)]
  simp only[jE,jw,h1,Y9 λq hq=>h q (dF _ hq)]
theorem zmB{ps:List (Int×Int)}(h:∀p∈ps,fP p):prim .dD [.tup (ps.map eF)]=some (.nw ((ss ps).map eF)):=by
 show Option.map _ (jw (ps.map eF))=_;rw[Y9 h];rfl
theorem Y_{k:Nat}:∀(ps qs:List (Int×Int)),fM (cW (k+1)) (ps.map eF) (qs.map eF)=some (decide (ps=qs))
 |[],[]=>rfl
 |[],q::qs=>rfl
 |p::ps,[]=>rfl
 |p::ps,q::qs=>by
  simp only[jE,fM,Y_ ps qs,zji];rw[<-Bool.decide_and]
  congr 1
  rw[Bs,List.cons_eq_cons]
end Mi
namespace Mi
open PySem
theorem R8{xs:List D}{r:Nat}(hr:r<xs.length):∃x,prim .ix [.fl xs,.int r]=some (.dat x)/\x∈xs:=⟨xs[r],Hy (fQ hr),qH _⟩
theorem zlD{i:Int}(h0 : -1000<=i)(h:i<=2000):prim .str1 [.int i]=some (.dat (.str (Str.ofString (toString i)))):=by
 show (if i.natAbs<2^62 then _ else none)=_;rw[if_pos (Nat.lt_of_le_of_lt (show i.natAbs<=2000 by lia) R4)]
def mO(d:D):Prop:=Ba d=true/\∀ys,d=.tup ys->ys.length<=200
def gG(d:D):Prop:=Bb d=true/\R7 d
theorem qT{xs:List D}(h:∀x∈xs,mL x=true)(hl:xs.length<=200):mO (.tup xs):=⟨iM.mpr h,λys e=>by cases e;exact hl⟩
theorem uX{i:Int}:mO (.int i):=⟨rfl,λys e=>by cases e⟩
theorem Za{ps:List (Int×Int)}:∀x∈ps.map eF,mL x=true:=λx hx=>by obtain⟨p,_,rfl⟩:=fZ.mp hx;rfl
theorem zlc{ps:List (Int×Int)}(hl:ps.length<=200):mO (.tup (ps.map eF)):=qT Za (by rw[cg];exact hl)
theorem K_{xs:List D}(h:∀x∈xs,mO x):gG (.tup xs):=⟨iM.mpr λx hx=>(h x hx).1,λx ys e=>by
 cases e;exact(h (.tup ys) Zaa).2 ys rfl⟩
theorem uY{x y:D}(hx:mO x)(hy:mO y):gG (.tup [x,y]):=K_ λz hz=>by
 simp only[cV,pQ,oX] at hz;rcases hz with rfl|rfl
 ·exact hx
 ·exact hy
theorem zk0{n:Int}{ps:List (Int×Int)}(hl:ps.length<=200):gG (oM n ps):=uY uX (zlc hl)
theorem R9{P:D->Prop}{a b c:List D}(ha:∀x∈a,P x)(hb:∀x∈b,P x)(hc:∀x∈c,P x):∀x∈a++b++c,P x:=λx hx=>by
 rcases fX.mp hx with hx|hx
 ·rcases fX.mp hx with hx|hx
  ·exact ha x hx
  ·exact hb x hx
 ·exact hc x hx
theorem R_{P:D->Prop}{a b:List D}(ha:∀x∈a,P x)(hb:∀x∈b,P x):∀x∈a++b,P x:=λx hx=>by
 rcases fX.mp hx with hx|hx
 ·exact ha x hx
 ·exact hb x hx
theorem W.c0{F:List Xv->M Xv}{xs:List Xv}{s:S}{e:D}{P:Xv->S->Prop}(h:W (F (cR 0 xs)) [] λv _=>v=.d e)(k:P (.d e) s)(hl:locs xs=[]:=by rfl):W (bY F xs) s P:=W.aO hl (h.imp λ_ _ q=>⟨_,q,k⟩)
theorem W.c1{F:List Xv->M Xv}{xs:List Xv}{s:S}{P:Xv->S->Prop}(h:W (F (cR 0 xs)) [] λv _=>∃d,v=.d d)(k:∀d,P (.d d) s)(hl:locs xs=[]:=by rfl):W (bY F xs) s P:=W.aO hl (h.imp λ_ _ ⟨d,q⟩=>⟨d,q,k d⟩)
abbrev WE(m:MS)(s:S)(c:Nat)(fs:List D):Prop:=WS m s λo _=>∃J,o=.er c fs J
section
variable {ao:Nat->Nat->Bool}{aj:Bool}{F:Bool->Fn}{J:Vs}{s:S}{c:Nat}{fs:List D}{e:E}{t u r:bw}
theorem WE.head{a:St}(h:WE (ex ao aj F a J) s c fs):WE (exs ao aj F (.cons a r) J) s c fs:=HF (h.imp λ_ _ ⟨J,e⟩=>⟨⟨_,_,_,e⟩,_,e⟩)
theorem WE.yes(h:eG ao e J=some (.d (.bl true)))(k:WE (exs ao aj F t J) s c fs):WE (exs ao aj F (.cons (.iff e t u) r) J) s c fs:=WE.head (KH (W.pv h (W.bool (WS.uP k))))
theorem WE.no(h:eG ao e J=some (.d (.bl false)))(k:WE (exs ao aj F u J) s c fs):WE (exs ao aj F (.cons (.iff e t u) r) J) s c fs:=WE.head (KH (W.pv h (W.bool (WS.KD k))))
theorem WE.ex(h:WR (ev ao aj (F aj) e J) s c fs):WE (exs ao aj F (.cons (.ex e) r) J) s c fs:=WE.head (Q7 h λ_=>⟨_,rfl⟩)
theorem WE.asg{g:Tg}(h:WR (ev ao aj (F aj) e J) s c fs):WE (exs ao aj F (.cons (.asg g e) r) J) s c fs:=WE.head (XD h λ_=>⟨_,rfl⟩)
end
end Mi
namespace dY
open PySem Mi
noncomputable def b0:bw:=(.cons (.ret (.and (.fL (.v 0) .int) (.not (.fL (.v 0) .bool)))) .nil)
noncomputable def b1:bw:=(.cons (.ret (.and (.call 0 (Ea (.v 0))) (.qN .le .le (.v 1) (.v 0) (.v 2)))) .nil)
noncomputable def b2:bw:=(.cons (.ret (.and (.fL (.v 0) .tuple) (.pr true .eq (Eb (.pr true .len (Ea (.v 0))) (.v 1))))) .nil)
noncomputable def b3:bw:=.nil
noncomputable def b4:bw:=(.cons (.iff (.not (.call 2 (Eb (.v 0) (Ci 2)))) (.cons (.ret (.c (.bl false))) .nil) .nil) (.cons (.asg (.tp [1,2]) (.v 0)) (.cons (.iff (.or (.not (.call 6 (Ea (.v 1)))) (.not (.fL (.v 2) .tuple))) (.cons (.ret (.c (.bl false))) .nil) .nil) (.cons (.iff (.not (.pr true .all (Ea (.comp true (.call 8 (Eb (.v 1) (.v 0))) [0] (.seq (.v 2)) [1] 1 .no)))) (.cons (.ret (.c (.bl false))) .nil) .nil) (.cons (.ret (.pr true .all (Ea (.comp true (.pr true .lt (Eb (.v 0) (.v 1))) [0,1] (.zip (.v 2) (.sl true (.v 2) (.yes (Ci 1)) .no)) [] 2 .no)))) .nil)))))
noncomputable def b5:bw:=.nil
noncomputable def b6:bw:=(.cons (.ret (.call 1 (Ec (.v 0) (Ci 1) (Ci 8)))) .nil)
noncomputable def b7:bw:=(.cons (.ret (.call 1 (Ec (.v 1) (Ci 0) (.pr true .ao (Eb (.v 0) (Ci 1)))))) .nil)
noncomputable def b8:bw:=(.cons (.iff (.not (.call 2 (Eb (.v 1) (Ci 2)))) (.cons (.ret (.c (.bl false))) .nil) .nil) (.cons (.asg (.tp [2,3]) (.v 1)) (.cons (.ret (.and (.call 7 (Eb (.v 0) (.v 2))) (.and (.call 7 (Eb (.v 0) (.v 3))) (.pr true .lt (Eb (.v 2) (.v 3)))))) .nil)))
noncomputable def b9:bw:=.nil
noncomputable def b10:bw:=(.cons (.iff (.not (.call 4 (Ea (.v 0)))) (.cons (.rise 9 true (Ea (.pr true .neg (Ea (Ci 1))))) .nil) .nil) .nil)
noncomputable def Zb:bw:=.nil
noncomputable def Zc:bw:=.nil
noncomputable def Zd:bw:=.nil
noncomputable def Sd:bw:=(.cons (.ex (.call 10 (Ea (.v 0)))) (.cons .no (.cons .no (.cons .no (.cons .no .nil)))))
noncomputable def Sg:bw:=(.cons (.ex (.call 10 (Ea (.v 0)))) (.cons .no (.cons .no (.cons .no (.cons .no (.cons .no .nil))))))
noncomputable def Sh:bw:=(.cons (.ex (.call 10 (Ea (.v 0)))) (.cons .no .nil))
noncomputable def Sq:bw:=(.cons (.ex (.call 10 (Ea (.v 0)))) (.cons .no (.cons .no .nil)))
noncomputable def Ss:bw:=(.cons (.ex (.call 10 (Ea (.v 0)))) (.cons (.ex (.call 10 (Ea (.v 1)))) (.cons .no .nil)))
noncomputable def Sv:bw:=(.cons (.ex (.call 10 (Ea (.v 0)))) (.cons (.ex (.call 10 (Ea (.v 1)))) (.cons .no (.cons .no .nil))))
noncomputable def Sw:bw:=(.cons (.ex (.call 10 (Ea (.v 0)))) (.cons (.ex (.call 10 (Ea (.v 1)))) (.cons .no (.cons .no (.cons .no .nil)))))
noncomputable def Ze:bw:=.nil
noncomputable def Zf:bw:=.nil
noncomputable def Zg:bw:=.nil
noncomputable def Zh:bw:=.nil
noncomputable def Zi:bw:=.nil
noncomputable def Zj:bw:=.nil
noncomputable def Zk:bw:=.nil
noncomputable def Zm:bw:=.nil
noncomputable def Zn:bw:=.nil
noncomputable def Zo:bw:=.nil
noncomputable def Zq:bw:=.nil
noncomputable def Zr:bw:=.nil
noncomputable def Zu:bw:=.nil
noncomputable def Zv:bw:=.nil
noncomputable def Zw:bw:=.nil
noncomputable def Zx:bw:=.nil
noncomputable def Zy:bw:=.nil
noncomputable def Zz:bw:=.nil
noncomputable def ZC:bw:=.nil
noncomputable def ZD:bw:=.nil
noncomputable def ZF:bw:=.nil
noncomputable def ZG:bw:=.nil
noncomputable def ZJ:bw:=.nil
noncomputable def Sx:bw:=(.cons (.ex (.call 10 (Ea (.v 0)))) (.cons .no (.cons .no (.cons .no (.cons .no .nil)))))
noncomputable def ZK:bw:=.nil
noncomputable def Sy:bw:=(.cons (.asg (.nm 1) (.call 44 (Ea (.v 0)))) (.cons .no .nil))
noncomputable def SJ:bw:=(.cons (.asg (.nm 1) (.call 44 (Ea (.v 0)))) (.cons .no (.cons .no (.cons .no .nil))))
noncomputable def ZL:bw:=.nil
noncomputable def SM:bw:=(.cons (.iff (.pr true .lt (Eb (.v 1) (.pr true .len (Ea (.v 0))))) (.cons (.ret (Ei (.v 0) (.v 1))) .nil) .nil) (.cons (.ret (Ci 0)) .nil))
noncomputable def SN:bw:=(.cons (.asg (.nm 1) (.pr true .max2 (Eb (.v 0) (.pr true .ao (Eb (Ci 0) (.v 0)))))) (.cons (.ret (.lst false (Eb (.v 1) (.pr true .vW (Ea (.pr true .ge (Eb (.v 1) (.pr true .pow (Eb (Ci 10) (Ci 18)))))))))) .nil))
noncomputable def SQ:bw:=(.cons (.iff (.pr true .eq (Eb (Ei (.v 0) (Ci 1)) (Ci 1))) (.cons (.asg (.tp [2,3]) (.pr true .divmod (Eb (Ei (.v 0) (Ci 0)) (.v 1)))) (.cons (.asg (.ao (.v 0) (Ci 0)) (.v 2)) (.cons (.ret (.v 3)) .nil))) .nil) (.cons (.asg (.nm 4) (.pr true .mod (Eb (.pr true .mul (Eb (.pr true .add (Eb (.pr true .mod (Eb (Ei (.v 0) (Ci 0)) (Ci 2147483647))) (Ci 40503))) (Ci 69621))) (Ci 2147483629)))) (.cons (.asg (.nm 4) (.pr true .mod (Eb (.pr true .add (Eb (.pr true .mul (Eb (.v 4) (.v 4))) (Ci 7817))) (Ci 2147483587)))) (.cons (.asg (.ao (.v 0) (Ci 0)) (.pr true .mod (Eb (.pr true .add (Eb (.pr true .mul (Eb (.v 4) (Ci 48271))) (Ci 11))) (Ci 2147483629)))) (.cons (.ret (.pr true .mod (Eb (.pr true .fdiv (Eb (Ei (.v 0) (Ci 0)) (Ci 32))) (.v 1)))) .nil)))))
noncomputable def ZM:bw:=(.cons (.ret (.and (.fL (.v 0) .int) (.not (.fL (.v 0) .bool)))) .nil)
noncomputable def SX:bw:=(.cons (.asg (.nm 1) (.lst true (.cons (.c .non) (.cons (.c (.bl true)) (.cons (.c (.bl false)) (.cons (.pr true .neg (Ea (Ci 1))) (.cons (.c (.str "1")) (.cons (.c (.str "")) (.cons (.tup .nil) (.cons (.lst true .nil) (.cons (.tup (Ea (Ci 0))) (.cons (.lst true (Ea (Ci 0))) (.cons (.su "a" 1) (.cons (.tup (Eb (Ci 0) (Ci 1))) (Ec (.pr true .pow (Eb (Ci 10) (Ci 30))) (.tup (Eb (Ci 0) (.tup .nil))) (.tup (Ea (.c (.str "ab"))))))))))))))))))) (.cons (.ret (Ei (.pr true .add (Eb (.v 1) (.lst true (Ea (.tup (Eb (Ci 1) (.tup (Ea (.tup (Eb (Ci 0) (Ci 0))))))))))) (.call 51 (Eb (.v 0) (Ci 16))))) .nil))
noncomputable def ZP:bw:=(.cons (.asg (.nm 1) (.lst true (.cons (.fL (.v 0) (.cls 1)) (Ec (.fL (.v 0) (.cls 2)) (.fL (.v 0) (.cls 3)) (.fL (.v 0) (.cls 4)))))) (.cons (.asg (.nm 1) (.pr true .add (Eb (.v 1) (.lst true (.cons (.fL (.v 0) (.cls 5)) (Ec (.fL (.v 0) (.cls 6)) (.fL (.v 0) (.cls 7)) (.fL (.v 0) (.cls 8)))))))) (.cons (.asg (.nm 1) (.pr true .add (Eb (.v 1) (.lst true (Ec (.fL (.v 0) (.cls 9)) (.fL (.v 0) (.cls 10)) (.fL (.v 0) (.cls 11))))))) (.cons (.iff (.or (.not (.fL (.v 0) .nR)) (.pr true .ne (Eb (.meth true .count .list (.v 1) (Ea (.c (.bl true)))) (Ci 1)))) (.cons (.ret (.c (.str "other"))) .nil) .nil) (.cons (.asg (.nm 2) (.lst true (.cons (.c (.str "ring")) (.cons (.c (.str "hues")) (.cons (.c (.str "place")) (.cons (.c (.str "arrows")) (.cons (.c (.str "map")) (.cons (.c (.str "paper")) (.cons (.c (.str "apart")) (.cons (.c (.str "row")) (Ec (.c (.str "web")) (.c (.str "text")) (.c (.str "great"))))))))))))) (.cons (.ret (Ei (.v 2) (.meth true .index .list (.v 1) (Ea (.c (.bl true)))))) .nil))))))
noncomputable def S5:bw:=(.cons (.ret (Ei (.lst true (.cons (Ci 1) (.cons (Ci 2) (.cons (Ci 3) (.cons (Ci 4) (.cons (Ci 5) (.cons (Ci 6) (.cons (Ci 4) (.cons (Ci 5) (.cons (Ci 3) (Ec (Ci 6) (Ci 7) (Ci 8)))))))))))) (.call 51 (Eb (.v 0) (Ci 12))))) .nil)
noncomputable def S6:bw:=(.cons (.asg (.nm 2) (Ei (.lst true (Ec (Ci 2) (Ci 4) (Ci 6))) (.call 51 (Eb (.v 0) (Ci 3))))) (.cons (.asg (.nm 3) (.lst true .nil)) (.cons (.fr (.nm 4) (.rg (Ci 0) (.v 1)) (.cons (.asg (.nm 3) (.pr true .add (Eb (.v 3) (.comp true (.tup (Eb (.v 1) (.v 0))) [0] (.rg (.pr true .add (Eb (.v 4) (Ci 1))) (.v 1)) [4,0,2] 1 (.yes (.pr true .lt (Eb (.call 51 (Eb (.v 2) (Ci 8))) (.v 3)))))))) .nil)) (.cons (.ret (.tup (Eb (.v 1) (.pr true .tuple (Ea (.v 3)))))) .nil))))
noncomputable def S7:bw:=(.cons (.iff (.or (.not (.fL (.v 0) .tuple)) (.or (.pr true .ne (Eb (.pr true .len (Ea (.v 0))) (Ci 2))) (.or (.not (.call 52 (Ea (Ei (.v 0) (Ci 0))))) (.not (.qN .le .le (Ci 1) (Ei (.v 0) (Ci 0)) (Ci 8)))))) (.cons (.ret (.c (.bl false))) .nil) .nil) (.cons (.iff (.not (.fL (Ei (.v 0) (Ci 1)) .tuple)) (.cons (.ret (.c (.bl false))) .nil) .nil) (.cons (.fr (.nm 1) (.seq (Ei (.v 0) (Ci 1))) (.cons (.iff (.or (.not (.fL (.v 1) .tuple)) (.or (.pr true .ne (Eb (.pr true .len (Ea (.v 1))) (Ci 2))) (.not (.pr true .all (Ea (.comp true (.call 52 (Ea (.v 0))) [0] (.seq (.v 1)) [] 1 .no)))))) (.cons (.ret (.c (.bl false))) .nil) .nil) (.cons (.iff (.not (.zF .le .lt .lt (Ci 0) (Ei (.v 1) (Ci 0)) (Ei (.v 1) (Ci 1)) (Ei (.v 0) (Ci 0)))) (.cons (.ret (.c (.bl false))) .nil) .nil) .nil))) (.cons (.ret (.pr true .eq (Eb (.pr true .list (Ea (Ei (.v 0) (Ci 1)))) (.pr true .dD (Ea (Ei (.v 0) (Ci 1))))))) .nil))))
noncomputable def S8:bw:=(.cons (.asg (.tp [2,3]) (.v 1)) (.cons (.asg (.nm 4) (.call 51 (Eb (.v 0) (.pr true .add (Eb (.pr true .len (Ea (.v 3))) (Ci 1)))))) (.cons (.asg (.nm 5) (.lst true (.cons (.tup (Eb (Ci 0) (Ci 0))) (.cons (.tup (Eb (Ci 1) (Ci 0))) (.cons (.tup (Eb (Ci 0) (.v 2))) (.cons (.tup (Eb (.pr true .neg (Ea (Ci 1))) (Ci 0))) (.cons (.tup (Eb (.c (.bl false)) (.c (.bl true)))) (.cons (.tup (Eb (Ci 0) (.c (.bl true)))) (.cons (.tup (Ea (Ci 0))) (Ec (.tup (Ec (Ci 0) (Ci 1) (Ci 2))) (.lst true (Eb (Ci 0) (Ci 1))) (.c .non))))))))))) (.cons (.asg (.nm 6) (Ei (.v 5) (.call 51 (Eb (.v 0) (Ci 10))))) (.cons (.par 7 8 (.sl true (.v 3) .no (.yes (.v 4))) (.sl true (.v 3) (.yes (.pr true .add (Eb (.v 4) (Ci 1)))) .no)) (.cons (.iff (.pr true .eq (Eb (.call 51 (Eb (.v 0) (Ci 2))) (Ci 0))) (.cons (.asg (.nm 9) (.lst true (.cons (.pr true .add (Eb (.pr true .add (Eb (.v 7) (.tup (Ea (.v 6))))) (.v 8))) (.cons (.pr true .add (Eb (.pr true .add (Eb (.v 7) (.tup (Ea (.v 6))))) (.sl true (.v 3) (.yes (.v 4)) .no))) (Ec (.pr true .rev (Ea (.v 3))) (.pr true .list (Ea (.v 3))) (.pr true .add (Eb (.v 3) (.sl true (.v 3) .no (.yes (Ci 1)))))))))) (.cons (.asg (.nm 9) (.pr true .add (Eb (.v 9) (.lst true (.cons (.pr true .add (Eb (.v 7) (.v 8))) (Ec (.tup (Ea (.v 3))) (.pr true .add (Eb (.sl true (.v 3) (.yes (.v 4)) .no) (.v 7))) (.pr true .add (Eb (.pr true .add (Eb (.v 7) (.tup (Ea (.tup (Eb (Ci 0) (Ci 1))))))) (.sl true (.v 3) (.yes (.v 4)) .no))))))))) (.cons (.ret (.tup (Eb (.v 2) (Ei (.v 9) (.call 51 (Eb (.v 0) (Ci 9))))))) .nil))) .nil) (.cons (.asg (.nm 5) (.lst true (.cons (.tup (Eb (.pr true .add (Eb (.v 2) (Ci 1))) (.v 3))) (.cons (.tup (Eb (.pr true .ao (Eb (.v 2) (Ci 1))) (.v 3))) (.cons (.tup (Eb (.c (.bl true)) (.v 3))) (Ec (.tup (Eb (Ci 9) (.v 3))) (.tup (Eb (Ci 0) (.tup .nil))) (.tup (Eb (.c .non) (.v 3))))))))) (.cons (.asg (.nm 5) (.pr true .add (Eb (.v 5) (.lst true (.cons (.lst true (Eb (.v 2) (.v 3))) (.cons (.tup (Ec (.v 2) (.v 3) (Ci 0))) (.cons (.tup (Ea (.v 2))) (Ec (.tup (Eb (.pr true .str1 (Ea (.v 2))) (.v 3))) (.tup (Eb (.v 3) (.v 2))) (.v 3))))))))) (.cons (.ret (Ei (.v 5) (.call 51 (Eb (.v 0) (Ci 12))))) .nil)))))))))
noncomputable def S9:bw:=(.cons (.iff (.pr true .eq (Eb (.v 0) (Ci 0))) (.cons (.ex (.call 14 (Eb (.v 1) (.c .non)))) .nil) (.cons (.iff (.pr true .eq (Eb (.v 0) (Ci 1))) (.cons (.ex (.call 15 (Ec (.v 1) (.c .non) (.c .non)))) .nil) (.cons (.iff (.pr true .eq (Eb (.v 0) (Ci 2))) (.cons (.ex (.call 16 (Ea (.v 1)))) .nil) (.cons (.iff (.pr true .eq (Eb (.v 0) (Ci 3))) (.cons (.ex (.call 17 (Eb (.v 1) (.c .non)))) .nil) (.cons (.iff (.pr true .eq (Eb (.v 0) (Ci 4))) (.cons (.ex (.call 46 (Ea (.v 1)))) .nil) (.cons (.ex (.call 47 (Ea (.v 1)))) .nil)) .nil)) .nil)) .nil)) .nil)) .nil)
noncomputable def S_:bw:=(.cons (.iff (.pr true .eq (Eb (.v 0) (Ci 0))) (.cons (.ex (.call 18 (Eb (.v 1) (.v 2)))) .nil) (.cons (.iff (.pr true .eq (Eb (.v 0) (Ci 1))) (.cons (.ex (.call 19 (Eb (.v 1) (.v 2)))) .nil) (.cons (.ex (.call 20 (.cons (.v 1) (Ec (.v 2) (.c .non) (.c .non))))) .nil)) .nil)) .nil)
noncomputable def Tc:bw:=(.cons (.qe (.cons (.ex (.call 59 (Eb (.v 0) (.v 1)))) .nil) 0 2 (.cons (.ret (.tup (Eb (.call 54 (Ea (.v 2))) (.ite (.and (.pr true .eq (Eb (.call 54 (Ea (.v 2))) (.c (.str "web")))) (.call 52 (Ea (.fld (.v 2) [9,10] 0)))) (.fld (.v 2) [9,10] 0) (.c .non))))) .nil)) (.cons (.ret (.tup (Eb (.c (.str "told")) (.c .non)))) .nil))
noncomputable def Td:bw:=(.cons (.qe (.cons (.ex (.call 60 (Ec (.v 0) (.v 1) (.v 2)))) .nil) 0 3 (.cons (.ret (.tup (Eb (.call 54 (Ea (.v 3))) (.ite (.and (.pr true .eq (Eb (.call 54 (Ea (.v 3))) (.c (.str "web")))) (.call 52 (Ea (.fld (.v 3) [9,10] 0)))) (.fld (.v 3) [9,10] 0) (.c .non))))) .nil)) (.cons (.ret (.tup (Eb (.c (.str "told")) (.c .non)))) .nil))
noncomputable def Te:bw:=(.cons (.fr (.nm 1) (.seq (.pr true .add (Eb (.lst true (Ea (.call 49 (Eb (.v 0) (Ci 0))))) (.sl true (.v 0) (.yes (Ci 1)) (.yes (Ci 5)))))) (.cons (.asg (.nm 2) (.call 50 (Ea (.v 1)))) (.cons (.asg (.nm 3) (.call 56 (Eb (.v 2) (.call 55 (Ea (.v 2)))))) (.cons (.fr (.nm 4) (.seq (.lst true (.cons (.call 58 (Eb (.v 2) (.v 3))) (Ec (.call 58 (Eb (.v 2) (.v 3))) (.call 53 (Ea (.v 2))) (.c .non))))) (.cons (.iff (.not (.call 57 (Ea (.v 4)))) (.cons (.iff (.pr true .ne (Eb (.comp true (.call 61 (Eb (.v 0) (.v 1))) [0] (.rg (Ci 0) (Ci 6)) [4] 1 .no) (.pr true .nQ (Eb (.lst true (Ea (.tup (Eb (.c (.str "web")) (.pr true .neg (Ea (Ci 1))))))) (Ci 6))))) (.cons (.ret (.c (.bl false))) .nil) .nil) (.cons (.iff (.pr true .ne (Eb (.comp true (.call 62 (Ec (.v 0) (.v 1) (.c .non))) [0] (.rg (Ci 0) (Ci 3)) [4] 1 .no) (.pr true .nQ (Eb (.lst true (Ea (.tup (Eb (.c (.str "web")) (.pr true .neg (Ea (Ci 1))))))) (Ci 3))))) (.cons (.ret (.c (.bl false))) .nil) .nil) (.cons (.iff (.pr true .ne (Eb (.comp true (.call 62 (Ec (.v 0) (.v 1) (.v 2))) [0] (.rg (Ci 0) (Ci 3)) [3,4] 1 .no) (.pr true .nQ (Eb (.lst true (Ea (.tup (Eb (.c (.str "web")) (.pr true .neg (Ea (Ci 1))))))) (Ci 3))))) (.cons (.ret (.c (.bl false))) .nil) .nil) .nil))) .nil) .nil)) .nil)))) (.cons (.ret (.c (.bl true))) .nil))
noncomputable def T(n:Nat):Option Df:=([⟨1,1,b0⟩,⟨3,3,b1⟩,⟨2,2,b2⟩,⟨2,2,b3⟩,⟨3,1,b4⟩,⟨6,2,b5⟩,⟨1,1,b6⟩,⟨2,2,b7⟩,⟨4,2,b8⟩,⟨2,2,b9⟩,⟨1,1,b10⟩,⟨2,2,Zb⟩,⟨3,2,Zc⟩,⟨1,1,Zd⟩,⟨3,2,Sd⟩,⟨4,3,Sg⟩,⟨1,1,Sh⟩,⟨2,2,Sq⟩,⟨2,2,Ss⟩,⟨3,2,Sv⟩,⟨4,4,Sw⟩,⟨2,2,Ze⟩,⟨5,4,Zf⟩,⟨2,2,Zg⟩,⟨5,4,Zh⟩,⟨2,2,Zi⟩,⟨4,4,Zj⟩,⟨3,3,Zk⟩,⟨6,4,Zm⟩,⟨3,3,Zn⟩,⟨2,2,Zo⟩,⟨5,2,Zq⟩,⟨2,2,Zr⟩,⟨5,2,Zu⟩,⟨3,1,Zv⟩,⟨1,1,Zw⟩,⟨4,2,Zx⟩,⟨3,2,Zy⟩,⟨7,2,Zz⟩,⟨5,4,ZC⟩,⟨4,3,ZD⟩,⟨4,3,ZF⟩,⟨3,1,ZG⟩,⟨2,2,ZJ⟩,⟨3,1,Sx⟩,⟨2,2,ZK⟩,⟨2,1,Sy⟩,⟨3,1,SJ⟩,⟨3,3,ZL⟩,⟨2,2,SM⟩,⟨2,1,SN⟩,⟨5,2,SQ⟩,⟨1,1,ZM⟩,⟨2,1,SX⟩,⟨3,1,ZP⟩,⟨1,1,S5⟩,⟨5,2,S6⟩,⟨2,1,S7⟩,⟨10,2,S8⟩,⟨2,2,S9⟩,⟨3,3,S_⟩,⟨3,2,Tc⟩,⟨4,3,Td⟩,⟨5,1,Te⟩]:List Df)[n]?
theorem T_0:T 0=some ⟨1,1,b0⟩:=rfl
theorem T_1:T 1=some ⟨3,3,b1⟩:=rfl
theorem ZQ:T 2=some ⟨2,2,b2⟩:=rfl
theorem T_3:T 3=some ⟨2,2,b3⟩:=rfl
theorem ZR:T 4=some ⟨3,1,b4⟩:=rfl
theorem T_5:T 5=some ⟨6,2,b5⟩:=rfl
theorem ZS:T 6=some ⟨1,1,b6⟩:=rfl
theorem ZV:T 7=some ⟨2,2,b7⟩:=rfl
theorem ZW:T 8=some ⟨4,2,b8⟩:=rfl
theorem T_9:T 9=some ⟨2,2,b9⟩:=rfl
theorem Tf:T 10=some ⟨1,1,b10⟩:=rfl
theorem zm3:T 11=some ⟨2,2,Zb⟩:=rfl
theorem zmX:T 12=some ⟨3,2,Zc⟩:=rfl
theorem zmW:T 13=some ⟨1,1,Zd⟩:=rfl
theorem ZX:T 14=some ⟨3,2,Sd⟩:=rfl
theorem Z0:T 15=some ⟨4,3,Sg⟩:=rfl
theorem Z9:T 16=some ⟨1,1,Sh⟩:=rfl
theorem Z_:T 17=some ⟨2,2,Sq⟩:=rfl
theorem zmr:T 18=some ⟨2,2,Ss⟩:=rfl
theorem zmi:T 19=some ⟨3,2,Sv⟩:=rfl
theorem zml:T 20=some ⟨4,4,Sw⟩:=rfl
theorem zmN:T 21=some ⟨2,2,Ze⟩:=rfl
theorem zm2:T 22=some ⟨5,4,Zf⟩:=rfl
theorem zm8:T 23=some ⟨2,2,Zg⟩:=rfl
theorem zmM:T 24=some ⟨5,4,Zh⟩:=rfl
theorem zm1:T 25=some ⟨2,2,Zi⟩:=rfl
theorem zm5:T 26=some ⟨4,4,Zj⟩:=rfl
theorem zmP:T 27=some ⟨3,3,Zk⟩:=rfl
theorem zmV:T 28=some ⟨6,4,Zm⟩:=rfl
theorem zm0:T 29=some ⟨3,3,Zn⟩:=rfl
theorem zmU:T 30=some ⟨2,2,Zo⟩:=rfl
theorem zmS:T 31=some ⟨5,2,Zq⟩:=rfl
theorem zm6:T 32=some ⟨2,2,Zr⟩:=rfl
theorem zmZ:T 33=some ⟨5,2,Zu⟩:=rfl
theorem zmO:T 34=some ⟨3,1,Zv⟩:=rfl
theorem zm9:T 35=some ⟨1,1,Zw⟩:=rfl
theorem zm4:T 36=some ⟨4,2,Zx⟩:=rfl
theorem zmR:T 37=some ⟨3,2,Zy⟩:=rfl
theorem znb:T 38=some ⟨7,2,Zz⟩:=rfl
theorem zm7:T 39=some ⟨5,4,ZC⟩:=rfl
theorem zmT:T 40=some ⟨4,3,ZD⟩:=rfl
theorem zmY:T 41=some ⟨4,3,ZF⟩:=rfl
theorem zmL:T 42=some ⟨3,1,ZG⟩:=rfl
theorem zmK:T 43=some ⟨2,2,ZJ⟩:=rfl
theorem zmz:T 44=some ⟨3,1,Sx⟩:=rfl
theorem zna:T 45=some ⟨2,2,ZK⟩:=rfl
theorem zmp:T 46=some ⟨2,1,Sy⟩:=rfl
theorem zmm:T 47=some ⟨3,1,SJ⟩:=rfl
theorem zmQ:T 48=some ⟨3,3,ZL⟩:=rfl
theorem zmo:T 49=some ⟨2,2,SM⟩:=rfl
theorem zmc:T 50=some ⟨2,1,SN⟩:=rfl
theorem zmw:T 51=some ⟨5,2,SQ⟩:=rfl
theorem zma:T 52=some ⟨1,1,ZM⟩:=rfl
theorem zmy:T 53=some ⟨2,1,SX⟩:=rfl
theorem zmH:T 54=some ⟨3,1,ZP⟩:=rfl
theorem zmk:T 55=some ⟨1,1,S5⟩:=rfl
theorem zmu:T 56=some ⟨5,2,S6⟩:=rfl
theorem zmq:T 57=some ⟨2,1,S7⟩:=rfl
theorem zmj:T 58=some ⟨10,2,S8⟩:=rfl
theorem zme:T 59=some ⟨2,2,S9⟩:=rfl
theorem zmn:T 60=some ⟨3,3,S_⟩:=rfl
theorem zmx:T 61=some ⟨3,2,Tc⟩:=rfl
theorem zmd:T 62=some ⟨4,3,Td⟩:=rfl
theorem zmb:T 63=some ⟨5,1,Te⟩:=rfl
noncomputable def ao:Nat->Nat->Bool:=λc e=>(let n:=λc=>if c<12 then c else 0;n e==0||n c==n e)
end dY
namespace dY
open PySem PySem.Spec PyProof.Rows L2 Mi
abbrev LK(i:Nat)(x:Str)(k:NameKind):Prop:=(aA (top i)).names.lookup x=some k
noncomputable abbrev gI:NameKind:=.globalImplicit
theorem zms:ao=jf 12:=rfl
abbrev N4:List Str:=["thing","many","ties"]
abbrev N14:List Str:=["web","place","kept"]
abbrev N15:List Str:=["web","one","other","tie"]
abbrev N19:List Str:=["one","other","names"]
abbrev N46:List Str:=["web","least"]
abbrev N56:List Str:=["_law_pen_here","_law_many","_law_often","_law_ties","_law_one"]
abbrev N57:List Str:=["_law_thing","_law_tie"]
abbrev Ld:List Str:=["_law_script","_law_cell_here","_law_pen_here","_law_web_here","_law_thing"]
noncomputable def cl(K:W.Frag):Cl:=⟨dh (lk.L K),λc=>(([[],[],[],[],[],[],[],[],[],["at"],["at"],["many","most"]]:List (List Str)).getD c []),λ_=>0,λ_=>[]⟩
theorem tx9:tU "NoWeb.__init__" nu ["at"]:=tU.of (λ_ _ _ _ _ _ us hl=>bind1 (f:=λus=>bindArgs _ ⟨us,[]⟩) (λ_ _=>rfl) us hl) Bd (by intro z;cases z) R4 Bd Bd rfl rfl rfl
structure Top(K:W.Frag)(mg:Str->Option Value):Prop where
 cs:sY K (cl K) ao
 d0:D3 K mg "is_whole" (top 14) ["thing"]
 d1:D3 K mg "is_within" (top 15) ["thing","least","most"]
 d2:D3 K mg "is_row" (top 16) ["thing","many"]
 d4:D3 K mg "is_web" (top 20) ["thing"]
 d6:D3 K mg "is_many" (top 22) ["thing"]
 d7:D3 K mg "is_place" (top 23) ["many","thing"]
 d8:D3 K mg "is_tie" (top 24) ["many","thing"]
 qz:D3 K mg "check_web" (top 26) ["thing"]
 Ti:D3 K mg "without" (top 31) ["web","place"]
 Tj:D3 K mg "untied" (top 32) ["web","one","other"]
 Tn:D3 K mg "topped" (top 33) ["web"]
 Tq:D3 K mg "twinned" (top 34) ["web","place"]
 Tt:D3 K mg "put_beside" (top 35) ["one","other"]
 Tv:D3 K mg "all_tied" (top 36) ["one","other"]
 Tw:D3 K mg "put_together" (top 37) ["one","other","place","there"]
 Le:D3 K mg "shortest" (top 61) ["web"]
 Tz:D3 K mg "needed_places" (top 64) ["web"]
 TF:D3 K mg "needed_part" (top 65) ["web"]
 TJ:D3 K mg "_law_cell" (top 68) ["_law_script","_law_k"]
 TQ:D3 K mg "_law_pen" (top 69) ["_law_cell_here"]
 uf:D3 K mg "_law_draw" (top 70) ["_law_pen_here","_law_many"]
 Bc:D3 K mg "_law_whole" (top 71) ["_law_thing"]
 TX:D3 K mg "_law_odd" (top 72) ["_law_pen_here"]
 Dh:D3 K mg "_law_kind" (top 73) ["_law_e"]
 TY:D3 K mg "_law_size" (top 74) ["_law_pen_here"]
 T3:D3 K mg "_law_web" (top 75) ["_law_pen_here","_law_many"]
 T4:D3 K mg "_law_is_web" (top 76) ["_law_thing"]
 Lf:D3 K mg "_law_bent_web" (top 77) ["_law_pen_here","_law_web_here"]
 T5:D3 K mg "_law_called" (top 78) ["_law_way","_law_web_here"]
 T6:D3 K mg "_law_two" (top 79) ["_law_way","_law_one","_law_other"]
 T7:D3 K mg "_law_said" (top 80) ["_law_way","_law_web_here"]
 Lg:D3 K mg "_law_both" (top 81) ["_law_way","_law_one","_law_other"]
 Lh:D3 K mg "law" (top 82) ["_law_script"]
 c0:mg "HueError"=some (.ref ((cl K).a 0))
 c1:mg "NoRing"=some (.ref ((cl K).a 1))
 c2:mg "NoHues"=some (.ref ((cl K).a 2))
 c3:mg "NoPlace"=some (.ref ((cl K).a 3))
 c4:mg "NoArrows"=some (.ref ((cl K).a 4))
 c5:mg "NoMap"=some (.ref ((cl K).a 5))
 c6:mg "NoPaper"=some (.ref ((cl K).a 6))
 c7:mg "Apart"=some (.ref ((cl K).a 7))
 c8:mg "NoRow"=some (.ref ((cl K).a 8))
 c9:mg "NoWeb"=some (.ref ((cl K).a 9))
 c10:mg "NoText"=some (.ref ((cl K).a 10))
 c11:mg "TooGreat"=some (.ref ((cl K).a 11))
 i9:ju K ((cl K).a 9) (aQ nu) (aK nu) (aA nu) ((cl K).f 9)
 mQ:∀c∈([9,10]:List Nat),XF K ((cl K).a c) "at"/\((cl K).f c).Nodup
 s0:∀c,ao c 0=true->subIn K ((cl K).a c) ((cl K).a 0)=true
 fH:∃t,mg "MOST_PLACES"=some (.int 8 t)
 lV:∃t,mg "MOST_SPOTS"=some (.int 24 t)
 oO:∃t,mg "SO_OFTEN"=some (.int 27720 t)
 z9:mg "ValueError"=none
 z6:mg "all"=none
 z2:mg "bool"=none
 z8:mg "divmod"=none
 z1:mg "int"=none
 z0:mg "isinstance"=none
 z4:mg "len"=none
 T8:mg "list"=none
 z7:mg "max"=none
 Di:mg "range"=none
 z13:mg "set"=none
 z12:mg "sorted"=none
 z14:mg "str"=none
 z3:mg "tuple"=none
 z5:mg "zip"=none
theorem zkS{K:W.Frag}{h:Heap}{mg:Str->Option Value}(S:h_ fs ms xs lk K)(X:K.In h)(G:h.Ns mainGlobals mg):Top K mg where
 cs:=by
  rcases S.gd.cs with z|z
  ·cases z
  ·exact zib (Je _) z
 d0:=oJ S X G 0
 d1:=Kz S X G 1
 d2:=qw S X G 2
 d4:=oJ S X G 3
 d6:=oJ S X G 4
 d7:=qw S X G 5
 d8:=qw S X G 6
 qz:=oJ S X G 7
 Ti:=qw S X G 8
 Tj:=Kz S X G 9
 Tn:=oJ S X G 10
 Tq:=qw S X G 11
 Tt:=qw S X G 12
 Tv:=qw S X G 13
 Tw:=zmI S X G 14
 Le:=oJ S X G 15
 Tz:=oJ S X G 16
 TF:=oJ S X G 17
 TJ:=qw S X G 18
 TQ:=oJ S X G 19
 uf:=qw S X G 20
 Bc:=oJ S X G 21
 TX:=oJ S X G 22
 Dh:=oJ S X G 23
 TY:=oJ S X G 24
 T3:=qw S X G 25
 T4:=oJ S X G 26
 Lf:=qw S X G 27
 T5:=qw S X G 28
 T6:=Kz S X G 29
 T7:=qw S X G 30
 Lg:=Kz S X G 31
 Lh:=oJ S X G 32
 c0:=qQ (S.gd.cl "HueError" (mG 0)) X G
 c1:=qQ (S.gd.cl "NoRing" (mG 1)) X G
 c2:=qQ (S.gd.cl "NoHues" (mG 2)) X G
 c3:=qQ (S.gd.cl "NoPlace" (mG 3)) X G
 c4:=qQ (S.gd.cl "NoArrows" (mG 4)) X G
 c5:=qQ (S.gd.cl "NoMap" (mG 5)) X G
 c6:=qQ (S.gd.cl "NoPaper" (mG 6)) X G
 c7:=qQ (S.gd.cl "Apart" (mG 7)) X G
 c8:=qQ (S.gd.cl "NoRow" (mG 8)) X G
 c9:=qQ (S.gd.cl "NoWeb" (mG 9)) X G
 c10:=qQ (S.gd.cl "NoText" (mG 10)) X G
 c11:=qQ (S.gd.cl "TooGreat" (mG 11)) X G
 i9:=ziW (S.mi ⟨9,"NoWeb.__init__",nu,["at"]⟩ (mG 0)) tx9 (S.se ⟨9,"NoWeb.__init__",nu,["at"]⟩ (mG 0))
 mQ:=(List.forall_mem_cons.mpr ⟨⟨S.xf (9,"at") (mG 0),(by show (["at"]:List Str).Nodup;decide +kernel)⟩,(List.forall_mem_cons.mpr ⟨⟨S.xf (10,"at") (mG 1),(by show (["at"]:List Str).Nodup;decide +kernel)⟩,(λc hc=>nomatch hc)⟩)⟩)
 s0:=ziE (L:=lk.L K) (Je _) (S.gd.ca 0 (mG 0))
 fH:=QM (S.gd.it ("MOST_PLACES",8) (mG 0)) X G
 lV:=QM (S.gd.it ("MOST_SPOTS",24) (mG 1)) X G
 oO:=QM (S.gd.it ("SO_OFTEN",27720) (mG 2)) X G
 z9:=oH (S.gd.no "ValueError" (mG 0)) X G
 z6:=oH (S.gd.no "all" (mG 1)) X G
 z2:=oH (S.gd.no "bool" (mG 2)) X G
 z8:=oH (S.gd.no "divmod" (mG 3)) X G
 z1:=oH (S.gd.no "int" (mG 4)) X G
 z0:=oH (S.gd.no "isinstance" (mG 5)) X G
 z4:=oH (S.gd.no "len" (mG 6)) X G
 T8:=oH (S.gd.no "list" (mG 7)) X G
 z7:=oH (S.gd.no "max" (mG 8)) X G
 Di:=oH (S.gd.no "range" (mG 9)) X G
 z13:=oH (S.gd.no "set" (mG 10)) X G
 z12:=oH (S.gd.no "sorted" (mG 11)) X G
 z14:=oH (S.gd.no "str" (mG 12)) X G
 z3:=oH (S.gd.no "tuple" (mG 13)) X G
 z5:=oH (S.gd.no "zip" (mG 14)) X G
abbrev FO(P:Program)(w:World)(K:W.Frag)(mg:Str->Option Value)(base:Heap)(k:Nat)(c:Bool)(x:Str)(i:Nat)(ps:List Str)(n:Nat):Prop:=dN P w K mg base (jR P w) c k (iJ K x) (fdOf K x (top i)) ps (tD K (cl K) (call ao T k c n))
structure Fs(P:Program)(w:World)(K:W.Frag)(mg:Str->Option Value)(base:Heap)(k:Nat):Prop where
 t0:FO P w K mg base k true "is_whole" 14 ["thing"] 0
 t1:FO P w K mg base k true "is_within" 15 ["thing","least","most"] 1
 t2:FO P w K mg base k true "is_row" 16 ["thing","many"] 2
 t4:FO P w K mg base k true "is_web" 20 ["thing"] 4
 t6:FO P w K mg base k true "is_many" 22 ["thing"] 6
 t7:FO P w K mg base k true "is_place" 23 ["many","thing"] 7
 t8:FO P w K mg base k true "is_tie" 24 ["many","thing"] 8
 t10:FO P w K mg base k true "check_web" 26 ["thing"] 10
 t14:FO P w K mg base k true "without" 31 ["web","place"] 14
 t15:FO P w K mg base k true "untied" 32 ["web","one","other"] 15
 t16:FO P w K mg base k true "topped" 33 ["web"] 16
 t17:FO P w K mg base k true "twinned" 34 ["web","place"] 17
 t18:FO P w K mg base k true "put_beside" 35 ["one","other"] 18
 t19:FO P w K mg base k true "all_tied" 36 ["one","other"] 19
 t20:FO P w K mg base k true "put_together" 37 ["one","other","place","there"] 20
 T9:FO P w K mg base k true "shortest" 61 ["web"] 44
 t46:FO P w K mg base k true "needed_places" 64 ["web"] 46
 t47:FO P w K mg base k true "needed_part" 65 ["web"] 47
 t49:FO P w K mg base k true "_law_cell" 68 ["_law_script","_law_k"] 49
 t50:FO P w K mg base k true "_law_pen" 69 ["_law_cell_here"] 50
 uZ:FO P w K mg base k true "_law_draw" 70 ["_law_pen_here","_law_many"] 51
 T_:FO P w K mg base k true "_law_whole" 71 ["_law_thing"] 52
 Ua:FO P w K mg base k false "_law_whole" 71 ["_law_thing"] 52
 t53:FO P w K mg base k true "_law_odd" 72 ["_law_pen_here"] 53
 Iv:FO P w K mg base k false "_law_kind" 73 ["_law_e"] 54
 t55:FO P w K mg base k true "_law_size" 74 ["_law_pen_here"] 55
 t56:FO P w K mg base k true "_law_web" 75 ["_law_pen_here","_law_many"] 56
 t57:FO P w K mg base k true "_law_is_web" 76 ["_law_thing"] 57
 Ub:FO P w K mg base k true "_law_bent_web" 77 ["_law_pen_here","_law_web_here"] 58
 t59:FO P w K mg base k true "_law_called" 78 ["_law_way","_law_web_here"] 59
 t60:FO P w K mg base k true "_law_two" 79 ["_law_way","_law_one","_law_other"] 60
 t61:FO P w K mg base k true "_law_said" 80 ["_law_way","_law_web_here"] 61
 Uc:FO P w K mg base k true "_law_both" 81 ["_law_way","_law_one","_law_other"] 62
 t63:FO P w K mg base k true "law" 82 ["_law_script"] 63
section
variable {P:Program}{w:World}{K:W.Frag}{mg:Str->Option Value}{base:Heap}{k:Nat}
theorem ziK(Tp:Top K mg)(Fk:Fs P w K mg base k):Fs P w K mg base (k+1) where
 t0:=fJ Tp.d0 ["thing"] T_0 λ_ _ _ _ _ _ hr=>(aJ (dJ (Ad (jC Tp.cs Tp.z0 gk (gv 0) (qO rfl Tp.z1 QD gk dk)) (CG (QK (jC Tp.cs Tp.z0 gk (gv 0) (qO rfl Tp.z2 QF gk dk))))))
 aV)
 t1:=fJ Tp.d1 ["thing","least","most"] T_1 λ_ _ _ _ _ _ hr=>(aJ (dJ (Ad (gc Fk.t0 Tp.d0 hr cG gk (au (gv 0) aH)) (CG (zlG Hl Hl (gv 1) (gv 0) (gv 2)))))
 aV)
 t2:=fJ Tp.d2 ["thing","many"] ZQ λ_ _ _ _ _ _ hr=>(aJ (dJ (Ad (jC Tp.cs Tp.z0 gk (gv 0) (qO rfl Tp.z3 Cy gk dk)) (CG (Ho (qu hr) (Hr Tp.z4 gk (au (gv 0) aH)) (gv 1)))))
 aV)
 t4:=fJ Tp.d4 N4 ZR λ_ _ _ _ _ _ hr=>(aJ (iW (oG (oF (gc Fk.t2 Tp.d2 hr cG gk (au (gv 0) (au aM aH))))) (aJ (dJ kh)
 aV) aV)
 (aJ (Ku 1 2 rfl rfl nd rfl rfl jc jl rfl rfl (gv 0))
 (aJ (iW (CP (Ae (oG (oF (gc Fk.t6 Tp.d6 hr cG gk (au (gv 1) aH)))) (Ko (oG (oF (jC Tp.cs Tp.z0 gk (gv 2) (qO rfl Tp.z3 Cy gk dk))))))) (aJ (dJ kh)
 aV) aV)
 (aJ (iW (oG (oF (QL rfl Tp.z6 gk (au (Ag (aA (top 20)) N4 ["tie"] ["many"] [1] rfl rfl rfl Bd Bd (Cw 0) Bd (Hs (gv 2)) (λ_ _ _ _ _ _=>(CV 0 Bd rfl Bd)) (λ_ _ _ _ _ _=>CQ) (λ_ _ _ _ _ _=>(gc Fk.t8 Tp.d8 hr qP Dg (au (m7 1) (au (m7 0) aH))))) aH)))) (aJ (dJ kh)
 aV) aV)
 (aJ (dJ (QL rfl Tp.z6 gk (au (Ag (aA (top 20)) N4 ["tie","later"] [] [] rfl rfl rfl Bd Bd (W5 0 1) Bd (zlS Tp.z5 gk (gv 2) (yh (gv 2) (wz aM) Af)) (λ_ _ _ _ _ _=>(zmE 0 1 rfl Bd rfl rfl Bd Bd)) (λ_ _ _ _ _ _=>CQ) (λ_ _ _ _ _ _=>(Ho (CK hr) (m7 0) (m7 1)))) aH)))
 aV)))))
 t6:=fJ Tp.d6 ["thing"] ZS λ_ _ _ _ _ _ hr=>(aJ (dJ (gc Fk.t1 Tp.d1 hr cG gk (au (gv 0) (au aM (au (zmA Tp.fH gk dk) aH)))))
 aV)
 t7:=fJ Tp.d7 ["many","thing"] ZV λ_ _ _ _ _ _ hr=>(aJ (dJ (gc Fk.t1 Tp.d1 hr cG gk (au (gv 1) (au aM (au (dB QG (gv 0) aM) aH)))))
 aV)
 t8:=fJ Tp.d8 ["many","thing","one","other"] ZW λ_ _ _ _ _ _ hr=>(aJ (iW (oG (oF (gc Fk.t2 Tp.d2 hr cG gk (au (gv 1) (au aM aH))))) (aJ (dJ kh)
 aV) aV)
 (aJ (Ku 2 3 rfl rfl nd rfl rfl jl jl rfl rfl (gv 1))
 (aJ (dJ (Ad (gc Fk.t7 Tp.d7 hr cG gk (au (gv 0) (au (gv 2) aH))) (Ad (gc Fk.t7 Tp.d7 hr cG gk (au (gv 0) (au (gv 3) aH))) (CG (Ho (CK hr) (gv 2) (gv 3))))))
 aV)))
 t10:=fJ Tp.qz ["thing"] Tf λ_ _ _ _ _ _ hr=>(aJ (iW (oG (oF (gc Fk.t4 Tp.d4 hr cG gk (au (gv 0) aH)))) (aJ (zgy (kk:=.globalImplicit) hr rfl rfl Tp.i9 Tp.c9 gk cG (au (Cz aM) aH) dk)
 aV) aV)
 aV)
 t14:=fJ Tp.Ti N14 ZX λ_ _ _ _ _ _ hr=>(aJ (jL (gc Fk.t10 Tp.qz hr cG gk (au (gv 0) aH)))
 (aJ g_
 (aJ g_
 (aJ g_
 (aJ g_
 aV)))))
 t15:=fJ Tp.Tj N15 Z0 λ_ _ _ _ _ _ hr=>(aJ (jL (gc Fk.t10 Tp.qz hr cG gk (au (gv 0) aH)))
 (aJ g_
 (aJ g_
 (aJ g_
 (aJ g_
 (aJ g_
 aV))))))
 t16:=fJ Tp.Tn ["web"] Z9 λ_ _ _ _ _ _ hr=>(aJ (jL (gc Fk.t10 Tp.qz hr cG gk (au (gv 0) aH)))
 (aJ g_
 aV))
 t17:=fJ Tp.Tq ["web","place"] Z_ λ_ _ _ _ _ _ hr=>(aJ (jL (gc Fk.t10 Tp.qz hr cG gk (au (gv 0) aH)))
 (aJ g_
 (aJ g_
 aV)))
 t18:=fJ Tp.Tt ["one","other"] zmr λ_ _ _ _ _ _ hr=>(aJ (jL (gc Fk.t10 Tp.qz hr cG gk (au (gv 0) aH)))
 (aJ (jL (gc Fk.t10 Tp.qz hr cG gk (au (gv 1) aH)))
 (aJ g_
 aV)))
 t19:=fJ Tp.Tv N19 zmi λ_ _ _ _ _ _ hr=>(aJ (jL (gc Fk.t10 Tp.qz hr cG gk (au (gv 0) aH)))
 (aJ (jL (gc Fk.t10 Tp.qz hr cG gk (au (gv 1) aH)))
 (aJ g_
 (aJ g_
 aV))))
 t20:=fJ Tp.Tw ["one","other","place","there"] zml λ_ _ _ _ _ _ hr=>(aJ (jL (gc Fk.t10 Tp.qz hr cG gk (au (gv 0) aH)))
 (aJ (jL (gc Fk.t10 Tp.qz hr cG gk (au (gv 1) aH)))
 (aJ g_
 (aJ g_
 (aJ g_
 aV)))))
 T9:=fJ Tp.Le ["web","rings","at"] zmz λ_ _ _ _ _ _ hr=>(aJ (jL (gc Fk.t10 Tp.qz hr cG gk (au (gv 0) aH)))
 (aJ g_
 (aJ g_
 (aJ g_
 (aJ g_
 aV)))))
 t46:=fJ Tp.Tz N46 zmp λ_ _ _ _ _ _ hr=>(aJ (jM 1 nd rfl jc rfl (gc Fk.T9 Tp.Le hr cG gk (au (gv 0) aH)))
 (aJ g_
 aV))
 t47:=fJ Tp.TF ["web","least","place"] zmm λ_ _ _ _ _ _ hr=>(aJ (jM 1 nd rfl jl rfl (gc Fk.T9 Tp.Le hr cG gk (au (gv 0) aH)))
 (aJ g_
 (aJ g_
 (aJ g_
 aV))))
 t49:=fJ Tp.TJ ["_law_script","_law_k"] zmo λ_ _ _ _ _ _ hr=>(aJ (iW (lN (CK hr) (gv 1) (Hr Tp.z4 gk (au (gv 0) aH))) (aJ (dJ (jV (gv 0) (gv 1)))
 aV) aV)
 (aJ (dJ aM)
 aV))
 t50:=fJ Tp.TQ ["_law_cell_here","_law_left"] zmc λ_ _ _ _ _ _ hr=>(aJ (jM 1 nd rfl jl rfl (zjR rfl Tp.z7 gk (au (gv 0) (au (dB QG aM (gv 0)) aH))))
 (aJ (dJ (iV (au (gv 1) (au (zje Tp.z1 gk (au (Ho zmJ (gv 1) (dB Xc aM aM)) aH)) aH))))
 aV))
 uZ:=fJ Tp.uf ["_law_pen_here","_law_many","_law_left","_law_found","_law_stir"] zmw λ_ _ _ _ _ _ hr=>(aJ (iW (lN (qu hr) (jV (gv 0) aM) aM) (aJ (Ku 2 3 rfl rfl nd rfl rfl jl jl rfl rfl (zgz Tp.z8 gk (au (jV (gv 0) aM) (au (gv 1) aH))))
 (aJ (Xj (gv 0) aM (gv 2))
 (aJ (dJ (gv 3))
 aV))) aV)
 (aJ (jM 4 nd rfl jl rfl (dB Hj (dB QJ (dB jB (dB Hj (jV (gv 0) aM) aM) aM) aM) aM))
 (aJ (jM 4 nd rfl jl rfl (dB Hj (dB jB (dB QJ (gv 4) (gv 4)) aM) aM))
 (aJ (Xj (gv 0) aM (dB Hj (dB jB (dB QJ (gv 4) aM) aM) aM))
 (aJ (dJ (dB Hj (dB zkk (jV (gv 0) aM) aM) (gv 1)))
 aV)))))
 T_:=fJ Tp.Bc ["_law_thing"] zma λ_ _ _ _ _ _ hr=>(aJ (dJ (Ad (jC Tp.cs Tp.z0 gk (gv 0) (qO rfl Tp.z1 QD gk dk)) (CG (QK (jC Tp.cs Tp.z0 gk (gv 0) (qO rfl Tp.z2 QF gk dk))))))
 aV)
 Ua:=fJ Tp.Bc ["_law_thing"] zma λ_ _ _ _ _ _ hr=>(aJ (dJ (Ad (jC Tp.cs Tp.z0 gk (gv 0) (qO rfl Tp.z1 QD gk dk)) (CG (QK (jC Tp.cs Tp.z0 gk (gv 0) (qO rfl Tp.z2 QF gk dk))))))
 aV)
 t53:=fJ Tp.TX ["_law_pen_here","_law_some"] zmy λ_ _ _ _ _ _ hr=>(aJ (jM 1 nd rfl jl rfl (iV (au oE (au kh (au kh (au (Cz aM) (au jK (au jK (au (cZ aH) (au (iV aH) (au (cZ (au aM aH)) (au (iV (au aM aH)) (au zkd (au (cZ (au aM (au aM aH))) (au (dB Xc aM aM) (au (cZ (au aM (au (cZ aH) aH))) (au (cZ (au jK aH)) aH)))))))))))))))))
 (aJ (dJ (jV (dB jB (gv 1) (iV (au (cZ (au aM (au (cZ (au (cZ (au aM (au aM aH))) aH)) aH))) aH))) (gc Fk.uZ Tp.uf hr cG gk (au (gv 0) (au aM aH)))))
 aV))
 Iv:=fJ Tp.Dh ["_law_e","_law_marks","_law_words"] zmH λ_ _ _ _ _ _ hr=>(aJ (jM 1 nd rfl jl rfl (iV (au (jC Tp.cs Tp.z0 gk (gv 0) (tR Tp.c1 gk dk)) (au (jC Tp.cs Tp.z0 gk (gv 0) (tR Tp.c2 gk dk)) (au (jC Tp.cs Tp.z0 gk (gv 0) (tR Tp.c3 gk dk)) (au (jC Tp.cs Tp.z0 gk (gv 0) (tR Tp.c4 gk dk)) aH))))))
 (aJ (jM 1 nd rfl jl rfl (dB jB (gv 1) (iV (au (jC Tp.cs Tp.z0 gk (gv 0) (tR Tp.c5 gk dk)) (au (jC Tp.cs Tp.z0 gk (gv 0) (tR Tp.c6 gk dk)) (au (jC Tp.cs Tp.z0 gk (gv 0) (tR Tp.c7 gk dk)) (au (jC Tp.cs Tp.z0 gk (gv 0) (tR Tp.c8 gk dk)) aH)))))))
 (aJ (jM 1 nd rfl jl rfl (dB jB (gv 1) (iV (au (jC Tp.cs Tp.z0 gk (gv 0) (tR Tp.c9 gk dk)) (au (jC Tp.cs Tp.z0 gk (gv 0) (tR Tp.c10 gk dk)) (au (jC Tp.cs Tp.z0 gk (gv 0) (tR Tp.c11 gk dk)) aH))))))
 (aJ (iW (CP (Ae (oG (oF (jC Tp.cs Tp.z0 gk (gv 0) (qO rfl Tp.z9 zcd gk dk)))) (Ko (lN (CJ hr) (ziq hr (gv 1) (au kh aH)) aM)))) (aJ (dJ jK)
 aV) aV)
 (aJ (jM 2 nd rfl jl rfl (iV (au jK (au jK (au jK (au jK (au jK (au jK (au jK (au jK (au jK (au jK (au jK aH)))))))))))))
 (aJ (dJ (jV (gv 2) (zil (gv 1) (au kh aH))))
 aV))))))
 t55:=fJ Tp.TY ["_law_pen_here"] zmk λ_ _ _ _ _ _ hr=>(aJ (dJ (jV (iV (au aM (au aM (au aM (au aM (au aM (au aM (au aM (au aM (au aM (au aM (au aM (au aM aH))))))))))))) (gc Fk.uZ Tp.uf hr cG gk (au (gv 0) (au aM aH)))))
 aV)
 t56:=fJ Tp.T3 N56 zmu λ_ _ _ _ _ _ hr=>(aJ (jM 2 nd rfl jc rfl (jV (iV (au aM (au aM (au aM aH)))) (gc Fk.uZ Tp.uf hr cG gk (au (gv 0) (au aM aH)))))
 (aJ (jM 3 nd rfl jl rfl (iV aH))
 (aJ (Kw Kq rfl rfl (Kp Tp.Di gk (gv 1)) (Kv 4 nd rfl jc rfl) (aJ (jM 3 nd rfl jl rfl (dB jB (gv 3) (Ag (aA (top 75)) N56 ["_law_other"] ["_law_one","_law_pen_here","_law_often"] [4,0,2] rfl rfl rfl Bd Bd (Cw 0) Bd (zmD Tp.Di gk (dB jB (gv 4) aM) (gv 1)) (λ_ _ _ _ _ _=>(CV 0 Bd rfl Bd)) (λ_ _ _ _ _ _=>(zlk (lN (CK hr) (gc Fk.uZ Tp.uf hr qP Dg (au (m7 2) (au aM aH))) (m7 3)))) (λ_ _ _ _ _ _=>(cZ (au (m7 1) (au (m7 0) aH)))))))
 aV))
 (aJ (dJ (cZ (au (gv 1) (au (zig Tp.z3 gk (au (gv 3) aH)) aH))))
 aV))))
 t57:=fJ Tp.T4 N57 zmq λ_ _ _ _ _ _ hr=>(aJ (iW (CP (Ae (oG (oF (jC Tp.cs Tp.z0 gk (gv 0) (qO rfl Tp.z3 Cy gk dk)))) (Ae (lN (CJ hr) (Hr Tp.z4 gk (au (gv 0) aH)) aM) (Ae (oG (oF (gc Fk.T_ Tp.Bc hr cG gk (au (jV (gv 0) aM) aH)))) (Ko (oG (zlN Hl Hl aM (jV (gv 0) aM) aM))))))) (aJ (dJ kh)
 aV) aV)
 (aJ (iW (oG (oF (jC Tp.cs Tp.z0 gk (jV (gv 0) aM) (qO rfl Tp.z3 Cy gk dk)))) (aJ (dJ kh)
 aV) aV)
 (aJ (Kw Kq rfl rfl (Hs (jV (gv 0) aM)) (Kv 1 nd rfl jl rfl) (aJ (iW (CP (Ae (oG (oF (jC Tp.cs Tp.z0 gk (gv 1) (qO rfl Tp.z3 Cy gk dk)))) (Ae (lN (CJ hr) (Hr Tp.z4 gk (au (gv 1) aH)) aM) (Ko (oG (oF (QL rfl Tp.z6 gk (au (Ag (aA (top 76)) N57 ["_law_place"] [] [] rfl rfl rfl Bd Bd (Cw 0) Bd (Hs (gv 1)) (λ_ _ _ _ _ _=>(CV 0 Bd rfl Bd)) (λ_ _ _ _ _ _=>CQ) (λ_ _ _ _ _ _=>(gc Fk.T_ Tp.Bc hr qP Dg (au (m7 0) aH)))) aH)))))))) (aJ (dJ kh)
 aV) aV)
 (aJ (iW (oG (zlw Hl (CK hr) (CK hr) aM (jV (gv 1) aM) (jV (gv 1) aM) (jV (gv 0) aM))) (aJ (dJ kh)
 aV) aV)
 aV)))
 (aJ (dJ (Ho (qu hr) (Xg Tp.T8 gk (au (jV (gv 0) aM) aH)) (zmC hr rfl Tp.z12 gk Tp.z13 gk (au (jV (gv 0) aM) aH))))
 aV))))
 Ub:=fJ Tp.Lf ["_law_pen_here","_law_web_here","_law_many","_law_ties","_law_at","_law_some","_law_odd_here","_law_ahead","_law_behind","_law_rows"] zmj λ_ _ _ _ _ _ hr=>(aJ (Ku 2 3 rfl rfl nd rfl rfl jl jl rfl rfl (gv 1))
 (aJ (jM 4 nd rfl jl rfl (gc Fk.uZ Tp.uf hr cG gk (au (gv 0) (au (dB jB (Hr Tp.z4 gk (au (gv 3) aH)) aM) aH))))
 (aJ (jM 5 nd rfl jl rfl (iV (au (cZ (au aM (au aM aH))) (au (cZ (au aM (au aM aH))) (au (cZ (au aM (au (gv 2) aH))) (au (cZ (au (Cz aM) (au aM aH))) (au (cZ (au kh (au kh aH))) (au (cZ (au aM (au kh aH))) (au (cZ (au aM aH)) (au (cZ (au aM (au aM (au aM aH)))) (au (iV (au aM (au aM aH))) (au oE aH))))))))))))
 (aJ (jM 6 nd rfl jl rfl (jV (gv 5) (gc Fk.uZ Tp.uf hr cG gk (au (gv 0) (au aM aH)))))
 (aJ (zl4 7 8 rfl rfl nd rfl rfl R4 jl jl (yh (gv 3) Af (wz (gv 4))) (yh (gv 3) (wz (dB jB (gv 4) aM)) Af) rfl)
 (aJ (iW (lN (qu hr) (gc Fk.uZ Tp.uf hr cG gk (au (gv 0) (au aM aH))) aM) (aJ (jM 9 nd rfl jl rfl (iV (au (dB jB (dB jB (gv 7) (cZ (au (gv 6) aH))) (gv 8)) (au (dB jB (dB jB (gv 7) (cZ (au (gv 6) aH))) (yh (gv 3) (wz (gv 4)) Af)) (au (zlH (gv 3)) (au (Xg Tp.T8 gk (au (gv 3) aH)) (au (dB jB (gv 3) (yh (gv 3) Af (wz aM))) aH)))))))
 (aJ (jM 9 nd rfl jl rfl (dB jB (gv 9) (iV (au (dB jB (gv 7) (gv 8)) (au (cZ (au (gv 3) aH)) (au (dB jB (yh (gv 3) (wz (gv 4)) Af) (gv 7)) (au (dB jB (dB jB (gv 7) (cZ (au (cZ (au aM (au aM aH))) aH))) (yh (gv 3) (wz (gv 4)) Af)) aH)))))))
 (aJ (dJ (cZ (au (gv 2) (au (jV (gv 9) (gc Fk.uZ Tp.uf hr cG gk (au (gv 0) (au aM aH)))) aH))))
 aV))) aV)
 (aJ (jM 5 nd rfl jl rfl (iV (au (cZ (au (dB jB (gv 2) aM) (au (gv 3) aH))) (au (cZ (au (dB QG (gv 2) aM) (au (gv 3) aH))) (au (cZ (au kh (au (gv 3) aH))) (au (cZ (au aM (au (gv 3) aH))) (au (cZ (au aM (au (cZ aH) aH))) (au (cZ (au oE (au (gv 3) aH))) aH))))))))
 (aJ (jM 5 nd rfl jl rfl (dB jB (gv 5) (iV (au (iV (au (gv 2) (au (gv 3) aH))) (au (cZ (au (gv 2) (au (gv 3) (au aM aH)))) (au (cZ (au (gv 2) aH)) (au (cZ (au (zkf Tp.z14 gk (au (gv 2) aH)) (au (gv 3) aH))) (au (cZ (au (gv 3) (au (gv 2) aH))) (au (gv 3) aH)))))))))
 (aJ (dJ (jV (gv 5) (gc Fk.uZ Tp.uf hr cG gk (au (gv 0) (au aM aH)))))
 aV)))))))))
 t59:=fJ Tp.T5 ["_law_way","_law_web_here"] zme λ_ _ _ _ _ _ hr=>(aJ (iW (lN (qu hr) (gv 0) aM) (aJ (jL (gc Fk.t14 Tp.Ti hr cG gk (au (gv 1) (au oE aH))))
 aV) (aJ (iW (lN (qu hr) (gv 0) aM) (aJ (jL (gc Fk.t15 Tp.Tj hr cG gk (au (gv 1) (au oE (au oE aH)))))
 aV) (aJ (iW (lN (qu hr) (gv 0) aM) (aJ (jL (gc Fk.t16 Tp.Tn hr cG gk (au (gv 1) aH)))
 aV) (aJ (iW (lN (qu hr) (gv 0) aM) (aJ (jL (gc Fk.t17 Tp.Tq hr cG gk (au (gv 1) (au oE aH))))
 aV) (aJ (iW (lN (qu hr) (gv 0) aM) (aJ (jL (gc Fk.t46 Tp.Tz hr cG gk (au (gv 1) aH)))
 aV) (aJ (jL (gc Fk.t47 Tp.TF hr cG gk (au (gv 1) aH)))
 aV))
 aV))
 aV))
 aV))
 aV))
 aV)
 t60:=fJ Tp.T6 ["_law_way","_law_one","_law_other"] zmn λ_ _ _ _ _ _ hr=>(aJ (iW (lN (qu hr) (gv 0) aM) (aJ (jL (gc Fk.t18 Tp.Tt hr cG gk (au (gv 1) (au (gv 2) aH))))
 aV) (aJ (iW (lN (qu hr) (gv 0) aM) (aJ (jL (gc Fk.t19 Tp.Tv hr cG gk (au (gv 1) (au (gv 2) aH))))
 aV) (aJ (jL (gc Fk.t20 Tp.Tw hr cG gk (au (gv 1) (au (gv 2) (au oE (au oE aH))))))
 aV))
 aV))
 aV)
 t61:=fJ Tp.T7 ["_law_way","_law_web_here","_law_e"] zmx λ_ _ _ _ _ _ hr=>(aJ (Xk 2 (dc:=0) rfl rfl ⟨rfl,rfl⟩ gk Tp.c0 nd rfl jl Tp.s0 (λ_ _ _ R' hp'=>(aJ (jL (gc Fk.t59 Tp.T5 hr R' gk (au (gv 0) (au (gv 1) aH))))
 aV)) (λ_=>(aJ (dJ (cZ (au (gc Fk.Iv Tp.Dh (yg hr) qP gk (au (gv 2) aH)) (au (Xf (CP (Xe (lN (qu (yg hr)) (gc Fk.Iv Tp.Dh (yg hr) qP gk (au (gv 2) aH)) jK) (Xd (oF (gc Fk.Ua Tp.Bc (yg hr) qP gk (au (Ky Tp.mQ (gv 2) (by kernel_rfl)) aH)))))) (Ky Tp.mQ (gv 2) (by kernel_rfl)) oE) aH))))
 aV)) dk)
 (aJ (dJ (cZ (au jK (au oE aH))))
 aV))
 Uc:=fJ Tp.Lg ["_law_way","_law_one","_law_other","_law_e"] zmd λ_ _ _ _ _ _ hr=>(aJ (Xk 3 (dc:=0) rfl rfl ⟨rfl,rfl⟩ gk Tp.c0 nd rfl jl Tp.s0 (λ_ _ _ R' hp'=>(aJ (jL (gc Fk.t60 Tp.T6 hr R' gk (au (gv 0) (au (gv 1) (au (gv 2) aH)))))
 aV)) (λ_=>(aJ (dJ (cZ (au (gc Fk.Iv Tp.Dh (yg hr) qP gk (au (gv 3) aH)) (au (Xf (CP (Xe (lN (qu (yg hr)) (gc Fk.Iv Tp.Dh (yg hr) qP gk (au (gv 3) aH)) jK) (Xd (oF (gc Fk.Ua Tp.Bc (yg hr) qP gk (au (Ky Tp.mQ (gv 3) (by kernel_rfl)) aH)))))) (Ky Tp.mQ (gv 3) (by kernel_rfl)) oE) aH))))
 aV)) dk)
 (aJ (dJ (cZ (au jK (au oE aH))))
 aV))
 t63:=fJ Tp.Lh Ld zmb λ_ _ _ _ _ _ hr=>(aJ (Kw Kq rfl rfl (Hs (dB jB (iV (au (gc Fk.t49 Tp.TJ hr cG gk (au (gv 0) (au aM aH))) aH)) (yh (gv 0) (wz aM) (wz aM)))) (Kv 1 nd rfl jl rfl) (aJ (jM 2 nd rfl jl rfl (gc Fk.t50 Tp.TQ hr cG gk (au (gv 1) aH)))
 (aJ (jM 3 nd rfl jc rfl (gc Fk.t56 Tp.T3 hr cG gk (au (gv 2) (au (gc Fk.t55 Tp.TY hr cG gk (au (gv 2) aH)) aH))))
 (aJ (Kw Kq rfl rfl (Hs (iV (au (gc Fk.Ub Tp.Lf hr cG gk (au (gv 2) (au (gv 3) aH))) (au (gc Fk.Ub Tp.Lf hr cG gk (au (gv 2) (au (gv 3) aH))) (au (gc Fk.t53 Tp.TX hr cG gk (au (gv 2) aH)) (au oE aH)))))) (Kv 4 nd rfl jc rfl) (aJ (iW (oG (oF (gc Fk.t57 Tp.T4 hr cG gk (au (gv 4) aH)))) (aJ (iW (lN (CJ hr) (Ag (aA (top 82)) Ld ["_law_way"] ["_law_thing"] [4] rfl rfl rfl Bd Bd (Cw 0) Bd (Kp Tp.Di gk aM) (λ_ _ _ _ _ _=>(CV 0 Bd rfl Bd)) (λ_ _ _ _ _ _=>CQ) (λ_ _ _ _ _ _=>(gc Fk.t61 Tp.T7 hr qP Dg (au (m7 0) (au (m7 1) aH))))) (dB R5 (iV (au (cZ (au jK (au (Cz aM) aH))) aH)) aM)) (aJ (dJ kh)
 aV) aV)
 (aJ (iW (lN (CJ hr) (Ag (aA (top 82)) Ld ["_law_way"] ["_law_thing"] [4] rfl rfl rfl Bd Bd (Cw 0) Bd (Kp Tp.Di gk aM) (λ_ _ _ _ _ _=>(CV 0 Bd rfl Bd)) (λ_ _ _ _ _ _=>CQ) (λ_ _ _ _ _ _=>(gc Fk.Uc Tp.Lg hr qP Dg (au (m7 0) (au (m7 1) (au oE aH)))))) (dB R5 (iV (au (cZ (au jK (au (Cz aM) aH))) aH)) aM)) (aJ (dJ kh)
 aV) aV)
 (aJ (iW (lN (CJ hr) (Ag (aA (top 82)) Ld ["_law_way"] ["_law_web_here","_law_thing"] [3,4] rfl rfl rfl Bd Bd (Cw 0) Bd (Kp Tp.Di gk aM) (λ_ _ _ _ _ _=>(CV 0 Bd rfl Bd)) (λ_ _ _ _ _ _=>CQ) (λ_ _ _ _ _ _=>(gc Fk.Uc Tp.Lg hr qP Dg (au (m7 0) (au (m7 1) (au (m7 2) aH)))))) (dB R5 (iV (au (cZ (au jK (au (Cz aM) aH))) aH)) aM)) (aJ (dJ kh)
 aV) aV)
 aV))) aV)
 aV))
 aV))))
 (aJ (dJ kh)
 aV))
theorem zhs(Tp:Top K mg):∀k,Fs P w K mg base k
 |0=>⟨fu,fu,fu,fu,fu,fu,fu,fu,fu,fu,fu,fu,fu,fu,fu,fu,fu,fu,fu,fu,fu,fu,fu,fu,fu,fu,fu,fu,fu,fu,fu,fu,fu,fu⟩
 |k+1=>ziK Tp (zhs Tp k)
end
theorem all_mk{l:PySem.W.OpenLaw}{w:World}{K:W.Frag}{h:Heap}{mg:Str->Option Value}{fa:Addr}(hm:∀ns:List Int,ns.length<=63->∃s',call ao T 60 true 63 [.d (.fl (ns.map D.int))] []=some (.ok (.d (.bl true)),s'))
  (S:h_ fs ms xs lk K) (X:K.In h) (G:h.Ns mainGlobals mg) (Ud:mg "law"=some (.ref fa)) :
  ∃fd:FuncData,(∀(s:Shared) (u:Value),BindsTo s fd ⟨[u],[]⟩ [("_law_script",u)])/\∀base:Heap,K.In base->base.Ns mainGlobals mg->dN l.prog w K mg base (jR l.prog w) true 60 fa fd ["_law_script"] (tL K):=by
 have Tp:Top K mg:=zkS S X G;have e:=Ud.symm.trans Tp.Lh.m;cases e;exact⟨_,Ah Tp.Lh.f (λ_ _ _ _ _ _ _=>rfl),λbase _ _=>(zhs Tp 60).t63.imp (zhW hm)⟩
end dY
namespace dY
open PySem Mi
def oR(o:SO):Prop:=∃a b:Int,o=.lst [.int a,.int b]/\0<=a/\(b=0\/b=1)
theorem zjQ{k:Nat}{o:SO}{m:Int}(ho:oR o)(hm:0<m)(J0:m<1073741824):W (call ao T (k+1) true 51 [.l 0,.d (.int m)]) [o] λv s=>∃d o',v=.d d/\s=[o']/\(∃r:Int,d=.int r/\0<=r/\r<m)/\oR o':=by
 obtain⟨a,b,rfl,ha,hb⟩:=ho;refine W.call zmw rfl ?_;unfold SQ;rcases hb with rfl|rfl
 ·refine Y ?_;exact⟨_,_,rfl,rfl,⟨_,rfl,Int.emod_nonneg _ gV,Int.emod_lt_of_pos _ hm⟩,⟨_,_,rfl,Int.emod_nonneg _ R4,.inl rfl⟩⟩
 ·refine Y ?_;exact⟨_,_,rfl,rfl,⟨_,rfl,Int.emod_nonneg _ gV,Int.emod_lt_of_pos _ hm⟩,⟨_,_,rfl,Int.ediv_nonneg ha gV,.inr rfl⟩⟩
theorem zlh{k:Nat}{n:Int}:W (call ao T (k+1) true 50 [.d (.int n)]) [] λv s=>∃i o,v=.l i/\s[i]?=some o/\oR o:=by
 refine W.call zmc rfl ?_;unfold SN;refine Y ?_;refine⟨0,_,rfl,rfl,⟨_,_,rfl,?_,?_⟩⟩
 ·split<;>lia
 ·have:∀c:Bool,(if c=true then (1:Int) else 0)=0\/(if c=true then (1:Int) else 0)=1:=by intro c;cases c<;>simp
  exact this _
theorem wK{k:Nat}{o:SO}{m:Int}{P:Xv->S->Prop}(ho:oR o)(hm:0<m)(J0:m<1073741824)(h:∀(r:Nat) o',(r:Int)<m->oR o'->P (.d (.int r)) [o']):W (bY (call ao T (k+1) true 51) [.l 0,.d (.int m)]) [o] P:=by
 refine Xr (n:=0) (o:=o) rfl rfl ((zjQ ho hm J0).imp λv s=>?_);rintro⟨d,o',rfl,rfl,⟨r,rfl,h0,h1⟩,hp⟩;obtain⟨n,rfl⟩:=Int.eq_ofNat_of_zero_le h0;exact⟨_,_,rfl,rfl,h n o' h1 hp⟩
theorem zjV{k:Nat}{ns:List Int}:W (call ao T (k+1) true 49 [.d (.fl (ns.map D.int)),.d (.int 0)]) [] λv _=>∃n,v=.d (.int n):=by
 refine W.call zmo rfl ?_;unfold SM;cases ns with
 |nil=>
  refine Y ?_;exact⟨_,rfl⟩
 |cons n r=>
  refine Y ?_;refine WS.ite (λ_=>?_) (λ_=>?_)
  ·refine Y ?_;refine jW (Hy (i:=0) (x:=.int n) rfl) ?_;refine Y ?_;exact⟨_,rfl⟩
  ·refine Y ?_;exact⟨_,rfl⟩
theorem zkx{k:Nat}{o:SO}(ho:oR o):W (call ao T (k+2) true 55 [.l 0]) [o] λv s=>∃(n:Nat) (o':SO),v=.d (.int n)/\s=[o']/\(1<=n/\n<=8)/\oR o':=by
 refine W.call zmk rfl ?_;unfold S5;refine Y ?_;refine wK ho R4 R4 λr o' hr hp=>?_;refine Y ?_;have mZ:r<12:=by lia
 refine jW (Hy (x:=.int (([1,2,3,4,5,6,4,5,3,6,7,8]:List Nat)[r]'mZ:Nat)) ?_) ?_
 ·revert mZ;revert r;intro r _ mZ;exact match r,mZ with
  |0,_=>rfl|1,_=>rfl|2,_=>rfl|3,_=>rfl|4,_=>rfl|5,_=>rfl|6,_=>rfl|7,_=>rfl|8,_=>rfl|9,_=>rfl|10,_=>rfl|11,_=>rfl
  |n+12,h=>absurd h gV
 ·refine Y ?_;refine⟨_,_,rfl,rfl,?_,hp⟩;have key:∀n∈([1,2,3,4,5,6,4,5,3,6,7,8]:List Nat),1<=n/\n<=8:=by decide
  exact key _ (qH _)
theorem ziy{k:Nat}{i:Int}:W (call ao T (k+1) true 0 [.d (.int i)]) [] λv s=>v=.d (.bl true):=W.eq (a:=.d (.bl true)) (s':=[]) rfl rfl
theorem zgk{k:Nat}{i a b:Int}:W (call ao T (k+2) true 1 [.d (.int i),.d (.int a),.d (.int b)]) [] λv s=>v=.d (.bl (decide (a<=i/\i<=b))):=by
 refine W.call T_1 rfl ?_;unfold b1;refine Y ?_;refine W.c0 ziy ?_;refine Y ?_;refine W.ite (λh1=>?_) (λh1=>?_)
 ·refine Y ?_;have:=oW h1;simp[this]
 ·refine Y ?_;simp at h1;have:¬(a<=i/\i<=b):=by lia
  simp[this]
theorem zeO{k:Nat}{d:D}(h:m6 d=true):W (call ao T (k+1) true 52 [.d d]) [] λv s=>v=.d (.bl (XR d)):=by
 cases d with
 |exc _ _=>cases h
 |ob _ _=>cases h
 |any=>cases h
 |_=>exact W.eq (a:=_) (s':=[]) rfl rfl
theorem zks{k:Nat}{d:D}{n:Int}(h:m6 d=true):W (call ao T (k+1) true 2 [.d d,.d (.int n)]) [] λv s=>v=.d (.bl (wI n d)):=by
 cases d with
 |exc _ _=>cases h
 |ob _ _=>cases h
 |any=>cases h
 |tup xs=>
  refine W.call ZQ rfl ?_;unfold b2;refine Y ?_;show Xv.d (D.bl (id (((xs.length:Nat):Int)==n)))=_
  congr 2
 |_=>exact W.eq (a:=_) (s':=[]) rfl rfl
theorem zdG{k:Nat}{d:D}{a b:Int}(h:m6 d=true):W (call ao T (k+2) true 1 [.d d,.d (.int a),.d (.int b)]) [] λv s=>v=.d (.bl (wJ a b d)):=by
 cases d with
 |exc _ _=>cases h
 |ob _ _=>cases h
 |any=>cases h
 |int i=>exact zgk
 |_=>exact W.eq (a:=_) (s':=[]) rfl rfl
theorem zfb{k:Nat}{d:D}{n:Int}(h:m6 d=true):W (call ao T (k+3) true 7 [.d (.int n),.d d]) [] λv s=>v=.d (.bl (wJ 0 (n-1) d)):=by
 refine W.call ZV rfl ?_;unfold b7;refine Y ?_;exact W.aO rfl ((zdG h).imp λv s e=>⟨_,e,rfl⟩)
theorem zk7{k:Nat}{d:D}(h:m6 d=true):W (call ao T (k+3) true 6 [.d d]) [] λv s=>v=.d (.bl (wJ 1 8 d)):=by
 refine W.call ZS rfl ?_;unfold b6;refine Y ?_;exact W.aO rfl ((zdG h).imp λv s e=>⟨_,e,rfl⟩)
theorem zlr{k:Nat}{d:D}{n:Int}(h:mL d=true):W (call ao T (k+4) true 8 [.d (.int n),.d d]) [] λv s=>v=.d (.bl (cM n d)):=by
 refine W.call ZW rfl ?_;unfold b8;refine Y ?_;refine W.c0 (zks (Y7 h)) ?_;cases d with
 |tup xs=>
  by_cases h2:xs.length=2
  ·obtain⟨x,y,rfl⟩:=K9 h2;have hx:m6 x=true:=by simp only[mL,mU,cO] at h;exact h.1
   have hy:m6 y=true:=by simp only[mL,mU,cO] at h;exact h.2.1
   rw[show wI 2 (.tup [x,y])=true from rfl];refine Y ?_;refine W.c0 (zfb hx) ?_;cases x with
   |int a=>
    by_cases ha:0<=a/\a<=n-1
    ·rw[show wJ 0 (n-1) (.int a)=true from i_ ha];refine Y ?_;refine W.c0 (zfb hy) ?_;cases y with
     |int b=>
      by_cases hb:0<=b/\b<=n-1
      ·rw[show wJ 0 (n-1) (.int b)=true from i_ hb];refine Y ?_;show Xv.d (.bl (decide (a<b)))=.d (.bl (decide (0<=a/\a<b/\b<n)));rw[Bs.mpr (show a<b↔0<=a/\a<b/\b<n by lia)]
      ·rw[show wJ 0 (n-1) (.int b)=false from gH hb];refine Y ?_;show Xv.d (.bl false)=.d (.bl (decide (0<=a/\a<b/\b<n)));rw[gH gV]
     |exc _ _=>cases hy
     |ob _ _=>cases hy
     |any=>cases hy
     |_=>exact Y rfl
    ·rw[show wJ 0 (n-1) (.int a)=false from gH ha];refine Y ?_;show Xv.d (.bl false)=.d (.bl (cM n (.tup [.int a,y])));cases y with
     |int b=>
      show Xv.d (.bl false)=.d (.bl (decide (0<=a/\a<b/\b<n)));rw[gH gV]
     |_=>rfl
   |_=>exact Y rfl
  ·rw[Y0 h2,Y4 h2];exact Y trivial
 |_=>exact Y rfl
theorem zfn{k:Nat}{d:D}(h:Bb d=true)(hl:R7 d):W (call ao T (k+5) true 4 [.d d]) [] λv s=>v=.d (.bl (dX d)):=by
 have hs:(200:Nat)<=sizeLine:=by decide
 refine W.call ZR rfl ?_;unfold b4;refine Y ?_;refine W.c0 (zks (show m6 d=true by cases d<;>first|rfl|cases h)) ?_;cases d with
 |tup xs=>
  by_cases h2:xs.length=2
  ·obtain⟨x,y,rfl⟩:=K9 h2;have hx:Ba x=true:=by simp only[Bb,mU,cO] at h;exact h.1
   have hy:Ba y=true:=by simp only[Bb,mU,cO] at h;exact h.2.1
   rw[show wI 2 (.tup [x,y])=true from rfl];refine Y ?_;refine W.c0 (zk7 (Y8 hx)) ?_;cases x with
   |int n=>
    by_cases hn:1<=n/\n<=8
    ·rw[show wJ 1 8 (.int n)=true from i_ hn];cases y with
     |tup ys=>
      have hyl:=hl _ _ rfl;have hy:∀t∈ys,mL t=true:=iM.mp hy;refine Y ?_;refine CW (l:=ys) (f:=λx=>x) (λt=>some (.bl (cM n t))) gV ?_ (λt ht=>?_) ?_
      ·refine Y ?_;rw[List.map_id'];exact⟨rfl,rfl⟩
      ·refine Y ?_;refine⟨rfl,λ_=>?_,λhb=>by cases hb⟩;refine Y ?_;exact W.aO rfl ((zlr (hy t ht)).imp λv s e=>⟨_,e,rfl,_,rfl,rfl⟩)
      rw[Q_];refine Y ?_;refine jW X3 ?_;show _;have ew:dX (.tup [.int n,.tup ys])=(decide (1<=n/\n<=8)&&ys.all (cM n)&&gU (fD ys)):=rfl;rw[ew,i_ hn];cases ha:ys.all (cM n)
      ·exact Y rfl
      ·obtain⟨e,ht⟩:=R6 ha;generalize fD ys=ps at e ht;subst e;rw[cg] at hyl;refine Y ?_;refine CW (l:=ps.zip (ps.drop 1)) (f:=λe=>.tup [eF e.1,eF e.2]) (λe=>some (.bl (iy e.1 e.2))) (by rw[List.length_zip];lia) ?_ (λt ht=>?_) ?_
       ·refine Y ?_;rw[Q8,<-List.map_drop,zjs];exact⟨rfl,rfl⟩
       ·refine Y ?_;refine⟨rfl,λ_=>?_,λhb=>by cases hb⟩;refine Y ?_;rw[<-zhM];exact⟨rfl,_,rfl,rfl⟩
       rw[Q_];refine Y ?_;refine jW X3 ?_;rfl
     |exc _ _=>cases hy
     |ob _ _=>cases hy
     |any=>cases hy
     |_=>exact Y rfl
    ·rw[show wJ 1 8 (.int n)=false from gH hn];refine Y ?_;show Xv.d (.bl false)=.d (.bl (dX (.tup [.int n,y])));cases y with
     |tup ys=>
      show Xv.d (.bl false)=.d (.bl (decide (1<=n/\n<=8)&&ys.all (cM n)&&gU (fD ys)));rw[gH hn];rfl
     |_=>rfl
   |_=>exact Y rfl
  ·rw[Y0 h2,Y6 h2];exact Y trivial
 |_=>exact Y rfl
theorem ug{k:Nat}{d:D}(h:gG d)(hb:dX d=false):WR (call ao T (k+6) true 10 [.d d]) [] 9 [.int (-1)]:=by
 refine WR.call Tf rfl ?_;unfold b10;refine HF ?_;refine Y ?_;refine W.c0 (zfn h.1 h.2) ?_;rw[hb];refine W.bool (W.bool (WS.uP (HF ?_)));refine Y ?_;exact⟨⟨_,_,_,rfl⟩,⟨_,_,_,rfl⟩,_,rfl⟩
theorem Ue{k:Nat}{d:D}(h:gG d)(hb:dX d=true):W (call ao T (k+6) true 10 [.d d]) [] λv s=>∃d,v=.d d:=by
 refine W.call Tf rfl ?_;unfold b10;refine Y ?_;refine W.c0 (zfn h.1 h.2) ?_;rw[hb];refine Y ?_;exact⟨_,rfl⟩
theorem zhG{n:Int}{ps:List (Int×Int)}(h:Web n ps):gG (oM n ps):=zk0 (by have:=h.len;have:=h.h8;lia)
theorem zgC{k:Nat}{o:SO}{n:Int}(ho:oR o)(h1:1<=n)(h8:n<=8):W (call ao T (k+2) true 56 [.l 0,.d (.int n)]) [o] λv s=>∃ps o',v=.d (oM n ps)/\s=[o']/\Web n ps/\oR o':=by
 refine W.call zmu rfl ?_;unfold S6;have hs:(100:Nat)<=sizeLine:=by decide
 refine Y ?_;refine wK ho R4 R4 λr o' hr hp=>?_;refine Y ?_;have mZ:r<3:=by lia
 refine jW (Hy (x:=.int (([2,4,6]:List Int)[r]'mZ)) ?_) ?_
 ·revert mZ;revert r;intro r _ mZ;exact match r,mZ with
  |0,_=>rfl|1,_=>rfl|2,_=>rfl
  |n+3,h=>absurd h gV
 generalize ([2,4,6]:List Int)[r]=often;refine Y ?_;refine⟨by rw[KJ gV gV,KJ gV gV];rfl,?_⟩;refine QV (λ(i:Nat) J s=>∃(ps:List (Int×Int)) (a:Option Xv) (o':SO),J=[some (.l 0),some (.d (.int n)),some (.d (.int often)),some (.d (.fl (ps.map eF))),a]/\s=[o']/\oR o'/\(∀p∈ps,0<=p.1/\p.1<(i:Int)/\p.1<p.2/\p.2<n)/\ps.Pairwise lx/\ps.length<=7*i)
  ⟨[],_,_,rfl,rfl,hp,by simp,by simp,by simp⟩ (λi x J s e hI=>?_) (λJ s hI=>?_)
 ·obtain⟨ps,a,o',rfl,rfl,hp,ht,Bf,hlen⟩:=hI;obtain⟨rfl,hi⟩:=XM e;have hi8:i<8:=by lia
  refine Y ?_;refine Kao (c:=iH (0+(i:Int)+1) n) (λ(j:Nat) acc s=>∃(es:List Int) (o':SO),acc=es.map (λe=>eF (0+(i:Int),e))/\es.Pairwise (·<·)/\(∀e∈es,(i:Int)<e/\e<(i:Int)+1+j)/\s=[o']/\oR o') ?_ (λj x acc s e hJ=>?_) (λacc s hJ=>?_)
  ·refine Y ?_;refine⟨by rw[KJ gV gV,KJ gV gV];rfl,?_⟩;exact⟨rfl,[],_,rfl,by simp,by simp,rfl,hp⟩
  ·obtain⟨es,o',rfl,uW,yw,rfl,hp⟩:=hJ;obtain⟨rfl,hj⟩:=XM e;have hel:(es.length:Int)<=(i:Int)+1+j-((i:Int)+1):=Q9 uW (λe he=>by have:=yw e he;lia) gV;refine Y ?_;refine wK hp R4 R4 λr o' hr hp=>?_;refine Y ?_;refine⟨λhb=>?_,λhb=>?_⟩
   ·refine Y ?_;refine⟨_,rfl,by rw[cg];lia,es++[0+(i:Int)+1+j],o',?_,?_,?_,rfl,hp⟩
    ·rw[lY];rfl
    ·rw[Dp];refine⟨uW,by simp,λa ha b hb=>?_⟩;simp at hb;have:=yw a ha
     lia
    ·intro e he;rcases fX.mp he with he|he
     ·have:=yw e he;lia
     ·simp at he;lia
   ·exact⟨es,o',rfl,uW,λe he=>by have:=yw e he;lia,rfl,hp⟩
  ·obtain⟨es,o',rfl,uW,yw,rfl,hp⟩:=hJ;rw[XQ] at yw;have hel:(es.length:Int)<=n-((i:Int)+1):=Q9 uW (λe he=>by have:=yw e he;lia) gV;refine Y ?_;refine KC (Xu ?_) ?_
   ·rw[cg,cg];lia
   refine Y ?_;refine⟨_,rfl,ps++es.map (λe=>(0+(i:Int),e)),some (.d (.int (0+(i:Int)))),o',?_,rfl,hp,?_,?_,?_⟩
   ·rw[lY,mj];rfl
   ·intro p hp;rcases fX.mp hp with hp|hp
    ·have:=ht p hp;lia
    ·obtain⟨e,he,rfl⟩:=fZ.mp hp;have:=yw e he;dsimp only
     lia
   ·rw[Dp,uq];refine⟨Bf,uW.imp λh=>.inr ⟨rfl,h⟩,λp hp q hq=>?_⟩;obtain⟨e,he,rfl⟩:=fZ.mp hq;have:=ht p hp;exact .inl (by dsimp only;lia)
   ·rw[eZ,cg];lia
 ·obtain⟨ps,a,o',rfl,rfl,hp,ht,Bf,hlen⟩:=hI;rw[XQ] at ht hlen;refine Y ?_;refine⟨ps,o',rfl,rfl,⟨h1,h8,λp hp=>?_,Bf,by lia⟩,hp⟩;have:=ht p hp
  lia
theorem zg9{k:Nat}{d:D}(h:Bb d=true)(hl:R7 d):W (call ao T (k+2) true 57 [.d d]) [] λv s=>v=.d (.bl (dX d)):=by
 have hs:(200:Nat)<=sizeLine:=by decide
 refine W.call zmq rfl ?_;unfold S7;cases d with
 |tup xs=>
  by_cases h2:xs.length=2
  ·obtain⟨x,y,rfl⟩:=K9 h2;have hx:Ba x=true:=by simp only[Bb,mU,cO] at h;exact h.1
   have hy:Ba y=true:=by simp only[Bb,mU,cO] at h;exact h.2.1
   refine Y ?_;refine W.c0 (zeO (Y8 hx)) ?_;cases x with
   |int n=>
    refine Y ?_;by_cases hn:1<=n/\n<=8
    ·rw[i_ hn.1];refine Y ?_;rw[i_ hn.2];cases y with
     |tup ys=>
      have hyl:=hl _ _ rfl;have hy:∀t∈ys,mL t=true:=iM.mp hy;have ew:dX (.tup [.int n,.tup ys])=(decide (1<=n/\n<=8)&&ys.all (cM n)&&gU (fD ys)):=rfl;rw[i_ hn] at ew;have fl:∀t∈ys,cM n t=false->dX (.tup [.int n,.tup ys])=false:=λt ht e=>by
       rw[ew];have:ys.all (cM n)=false:=by
        cases ha:ys.all (cM n)
        ·rfl
        ·have:=iM.mp ha t ht;rw[e] at this;cases this
       rw[this];rfl
      refine Y ?_;refine Ka4 (λi J s=>s=[]/\(∃a,J=[some (.d (.tup [.int n,.tup ys])),a])/\∀t∈ys.take i,cM n t=true) ⟨rfl,⟨_,rfl⟩,by simp⟩ (λi t J s ht hI=>?_) (λJ s hI=>?_)
      ·obtain⟨rfl,⟨a,rfl⟩,hI⟩:=hI;have htm:=jD ht;have hti:=hy t htm;have hfl:=fl t htm;have nxt:cM n t=true->∀u∈ys.take (i+1),cM n u=true:=λe u hu=>by
        rw[List.take_succ,ht] at hu;rcases fX.mp hu with hu|hu
        ·exact hI u hu
        ·rw[show u=t by simpa using hu];exact e
       cases t with
       |tup us=>
        by_cases h2:us.length=2
        ·obtain⟨p,q,rfl⟩:=K9 h2;have hp:m6 p=true:=by simp only[mL,mU,cO] at hti;exact hti.1
         have hq:m6 q=true:=by simp only[mL,mU,cO] at hti;exact hti.2.1
         refine Y ?_;refine CW (l:=[p,q]) (f:=λx=>x) (λt=>some (.bl (XR t))) (by show 2<=_;lia) ?_ (λt ht=>?_) ?_
         ·refine Y ?_;exact⟨rfl,rfl⟩
         ·refine Y ?_;refine⟨rfl,λ_=>?_,λhb=>by cases hb⟩;refine Y ?_;refine W.aO rfl ((zeO (d:=t) ?_).imp λv s e=>⟨_,e,rfl,_,rfl,rfl⟩);simp only[cV,pQ,oX] at ht;rcases ht with rfl|rfl
          ·exact hp
          ·exact hq
         rw[Q_];refine Y ?_;cases p with
         |int a=>
          cases q with
          |int b=>
           refine Y ?_;refine W.zF ?_;refine Y ?_;have tb:cM n (.tup [.int a,.int b])=decide (0<=a/\a<b/\b<n):=rfl;by_cases h1:0<=a
           ·rw[i_ h1];refine Y ?_;by_cases h3:a<b
            ·rw[i_ h3];refine Y ?_;by_cases h4:b<n
             ·rw[i_ h4];refine Y ?_;exact .inl ⟨_,rfl,rfl,⟨_,rfl⟩,nxt (by rw[tb];exact i_ ⟨h1,h3,h4⟩)⟩
             ·rw[gH h4];refine Y ?_;exact .inr ⟨_,rfl,by rw[hfl (by rw[tb];exact gH gV)]⟩
            ·rw[gH h3];refine Y ?_;exact .inr ⟨_,rfl,by rw[hfl (by rw[tb];exact gH gV)]⟩
           ·rw[gH h1];refine Y ?_;exact .inr ⟨_,rfl,by rw[hfl (by rw[tb];exact gH gV)]⟩
          |_=>
           refine Y ?_;exact .inr ⟨_,rfl,by rw[hfl rfl]⟩
         |_=>
          refine Y ?_;exact .inr ⟨_,rfl,by rw[hfl rfl]⟩
        ·refine Y ?_;refine W.ite (λ_=>?_) (λhb=>?_)
         ·refine Y ?_;exact .inr ⟨_,rfl,by rw[hfl (Y4 h2)]⟩
         ·exact absurd hb (by simp;lia)
       |exc _ _=>cases hti
       |ob _ _=>cases hti
       |any=>cases hti
       |_=>
        refine Y ?_;exact .inr ⟨_,rfl,by rw[hfl rfl]⟩
      ·obtain⟨rfl,⟨a,rfl⟩,hI⟩:=hI;rw[List.take_length] at hI;have ha:ys.all (cM n)=true:=iM.mpr hI;rw[ha] at ew;obtain⟨e,ht⟩:=R6 ha;generalize fD ys=ps at e ht ew;subst e;have t8:∀p∈ps,Ts.fP p:=λp hp=>by have:=ht p hp;exact⟨this.1,this.2.1,by lia⟩
       refine Y ?_;refine KC (zmB t8) ?_;refine Y ?_;refine jW (d:=.bl (decide (ps=ss ps))) ?_ ?_
       ·show Option.map _ (fM (cW 49) (ps.map eF) ((ss ps).map eF))=_;rw[Y_];rfl
       refine Y ?_;rw[ew,<-zjP t8];rfl
     |exc _ _=>cases hy
     |ob _ _=>cases hy
     |any=>cases hy
     |_=>exact Y rfl
    ·have ew:dX (.tup [.int n,y])=false:=by
      cases y with
      |tup ys=>
       show (decide (1<=n/\n<=8)&&ys.all (cM n)&&gU (fD ys))=false;rw[gH hn];rfl
      |_=>rfl
     rw[ew];by_cases h1:1<=n
     ·rw[i_ h1];refine Y ?_;rw[gH (show ¬n<=8 by lia)];exact Y trivial
     ·rw[gH h1];exact Y trivial
   |_=>exact Y rfl
  ·rw[Y6 h2];refine Y ?_;refine W.ite (λ_=>?_) (λhb=>?_)
   ·exact Y trivial
   ·exact absurd hb (by simp;lia)
 |exc _ _=>cases h
 |ob _ _=>cases h
 |any=>cases h
 |_=>exact Y rfl
theorem zcC{k':Nat}{o:SO}{n:Int}{ps:List (Int×Int)}(ho:oR o)(h:Web n ps):W (call ao T (k'+2) true 58 [.l 0,.d (oM n ps)]) [o] λv s=>∃(d:D) (o':SO),v=.d d/\s=[o']/\gG d/\oR o':=by
 refine W.call zmj rfl ?_;unfold S8 oM;have hs1:(1000:Nat)<=sizeLine:=by decide
 have h1:=h.h1;have h8:=h.h8;have hlen:=h.len;have hml:(ps.map eF).length=ps.length:=cg ..;have hok:=Za (ps:=ps);have hrw:∀z∈ps.map eF,mO z:=λz hz=>by
  obtain⟨p,_,rfl⟩:=fZ.mp hz;exact qT (λx hx=>by
   simp only[cV,pQ,oX] at hx;rcases hx with rfl|rfl<;>rfl) Zaa
 generalize ps.map eF=R at hml hok hrw;refine Y ?_;refine wK ho gV gV λr o1 hr hp=>?_;refine Y ?_;refine wK hp R4 R4 λr2 o2 YJ hp=>?_;refine Y ?_;obtain⟨x,ex,hx⟩:=R8 (xs:=[.tup [.int 0,.int 0],.tup [.int 1,.int 0],.tup [.int 0,.int n],.tup [.int (-1),.int 0],.tup [.bl false,.bl true],.tup [.int 0,.bl true],.tup [.int 0],.tup [.int 0,.int 1,.int 2],.fl [.int 0,.int 1],.non]) (r:=r2) (by show r2<10;lia);have hxo:mL x=true:=by
  simp only[cV,pQ,oX] at hx;rcases hx with rfl|rfl|rfl|rfl|rfl|rfl|rfl|rfl|rfl|rfl
  all_goals rfl
 refine jW ex ?_;clear ex hx;have l1:=KQ (xs:=R) (lo:=none) (hi:=some (r:Int));have l2:=KQ (xs:=R) (lo:=some ((r:Int)+1)) (hi:=none);have l3:=KQ (xs:=R) (lo:=some (r:Int)) (hi:=none);have l4:=KQ (xs:=R) (lo:=none) (hi:=some 1);have m1:∀y∈cut R none (some (r:Int)),mL y=true:=λy hy=>hok y (KN hy);have m2:∀y∈cut R (some ((r:Int)+1)) none,mL y=true:=λy hy=>hok y (KN hy);have m3:∀y∈cut R (some (r:Int)) none,mL y=true:=λy hy=>hok y (KN hy);have m4:∀y∈cut R none (some 1),mL y=true:=λy hy=>hok y (KN hy);have mx:∀y∈[x],mL y=true:=λy hy=>by rw[show y=x by simpa using hy];exact hxo
 refine Y ?_;refine wK hp R4 R4 λr3 o3 hr3 hp=>?_;refine Y ?_;refine WS.ite (λ_=>?_) (λ_=>?_)
 ·refine Y ?_;refine jW (wG (by show _+1<=_;lia)) ?_;refine Y ?_;refine jW (wG (by rw[eZ];show _+1+_<=_;lia)) ?_;refine Y ?_;refine jW (wG (by show _+1<=_;lia)) ?_;refine Y ?_;refine jW (wG (by rw[eZ];show _+1+_<=_;lia)) ?_;refine Y ?_;refine jW (wG gV) ?_;refine Y ?_;refine jW (wG gV) ?_;refine Y ?_;refine jW (wG gV) ?_;refine Y ?_;refine jW (wG (by show _+1<=_;lia)) ?_;refine Y ?_;refine jW (wG (by rw[eZ];show _+1+_<=_;lia)) ?_;refine Y ?_;refine wK hp R4 R4 λr4 o4 hr4 hp=>?_;refine Y ?_;obtain⟨y,ey,hy⟩:=R8 (xs:=[.tup (cut R none (some (r:Int))++[x]++cut R (some ((r:Int)+1)) none),.tup (cut R none (some (r:Int))++[x]++cut R (some (r:Int)) none),.tup R.reverse,.fl R,.tup (R++cut R none (some 1)),.tup (cut R none (some (r:Int))++cut R (some ((r:Int)+1)) none),.tup [.tup R],.tup (cut R (some (r:Int)) none++cut R none (some (r:Int))),.tup (cut R none (some (r:Int))++[.tup [.int 0,.int 1]]++cut R (some (r:Int)) none)]) (r:=r4) (by show r4<9;lia);refine jW ey ?_;refine Y ?_;refine⟨_,_,rfl,rfl,uY uX ?_,hp⟩;clear ey;simp only[cV,pQ,oX] at hy;rcases hy with rfl|rfl|rfl|rfl|rfl|rfl|rfl|rfl|rfl
  ·exact qT (R9 m1 mx m2) (by rw[eZ,eZ];show _+1+_<=_;lia)
  ·exact qT (R9 m1 mx m3) (by rw[eZ,eZ];show _+1+_<=_;lia)
  ·exact qT (λy hy=>hok y (List.mem_reverse.mp hy)) (by rw[List.length_reverse];lia)
  ·exact⟨rfl,λys e=>by cases e⟩
  ·exact qT (R_ hok m4) (by rw[eZ];lia)
  ·exact qT (R_ m1 m2) (by rw[eZ];lia)
  ·exact qT (λy hy=>by rw[show y=.tup R by simpa using hy];exact iM.mpr λz hz=>Y7 (hok z hz)) Zaa
  ·exact qT (R_ m3 m1) (by rw[eZ];lia)
  ·exact qT (R9 m1 (λy hy=>by rw[show y=.tup [.int 0,.int 1] by simpa using hy];rfl) m3) (by rw[eZ,eZ];show _+1+_<=_;lia)
 ·have rR:mO (.tup R):=qT hok gV;refine Y ?_;refine jW (zlD gV gV) ?_;refine Y ?_;refine wK hp R4 R4 λr4 o4 hr4 hp=>?_;refine Y ?_;obtain⟨y,ey,hy⟩:=R8 (xs:=[.tup [.int (n+1),.tup R],.tup [.int (n-1),.tup R],.tup [.bl true,.tup R],.tup [.int 9,.tup R],.tup [.int 0,.tup []],.tup [.non,.tup R],.fl [.int n,.tup R],.tup [.int n,.tup R,.int 0],.tup [.int n],.tup [.str (Str.ofString (toString n)),.tup R],.tup [.tup R,.int n],.tup R]) (r:=r4) (by show r4<12;lia);refine jW ey ?_;refine Y ?_;refine⟨_,_,rfl,rfl,?_,hp⟩;clear ey;simp only[cV,pQ,oX] at hy;rcases hy with rfl|rfl|rfl|rfl|rfl|rfl|rfl|rfl|rfl|rfl|rfl|rfl
  ·exact uY uX rR
  ·exact uY uX rR
  ·exact uY ⟨rfl,λys e=>by cases e⟩ rR
  ·exact uY uX rR
  ·exact uY uX (qT (λx hx=>by cases hx) Zaa)
  ·exact uY ⟨rfl,λys e=>by cases e⟩ rR
  ·exact⟨rfl,λx ys e=>by cases e⟩
  ·exact K_ λz hz=>by
    simp only[cV,pQ,oX] at hz;rcases hz with rfl|rfl|rfl
    ·exact uX
    ·exact rR
    ·exact uX
  ·exact K_ λz hz=>by rw[show z=.int n by simpa using hz];exact uX
  ·exact uY ⟨rfl,λys e=>by cases e⟩ rR
  ·exact uY rR uX
  ·exact K_ hrw
noncomputable def qC:List D:=[.non,.bl true,.bl false,.int (-1),.str "1",.str "",.tup [],.fl [],.tup [.int 0],.fl [.int 0],.fd [.str "a"] [.int 1],.tup [.int 0,.int 1],.int 1000000000000000000000000000000,.tup [.int 0,.tup []],.tup [.str "ab"],.tup [.int 1,.tup [.tup [.int 0,.int 0]]]]
theorem zlm{k:Nat}{o:SO}(ho:oR o):W (call ao T (k+2) true 53 [.l 0]) [o] λv s=>∃d o',v=.d d/\s=[o']/\d∈qC/\oR o':=by
 refine W.call zmy rfl ?_;unfold SX;refine Y ?_;refine wK ho R4 R4 λr o' hr hp=>?_;refine Y ?_;have mZ:r<qC.length:=by show r<16;lia
 refine jW (Hy (x:=qC[r]) (fQ (l:=qC) mZ)) ?_;refine Y ?_;exact⟨_,_,rfl,rfl,qH _,hp⟩
section
variable {n:Int}{ps:List (Int×Int)}{w v x y:D}
theorem zfZ{k':Nat}(hw:gG w)(h:dX w=false):WR (call ao T (k'+8) true 14 [.d w,.d x]) [] 9 [.int (-1)]:=by
 refine WR.call ZX rfl ?_;unfold Sd;refine WE.ex (mK ?_);refine Y ?_;exact WR.aO rfl (ug hw h)
theorem zgr{k':Nat}(hw:gG w)(h:dX w=false):WR (call ao T (k'+8) true 15 [.d w,.d x,.d y]) [] 9 [.int (-1)]:=by
 refine WR.call Z0 rfl ?_;unfold Sg;refine WE.ex (mK ?_);refine Y ?_;exact WR.aO rfl (ug hw h)
theorem zha{k':Nat}(hw:gG w)(h:dX w=false):WR (call ao T (k'+8) true 16 [.d w]) [] 9 [.int (-1)]:=by
 refine WR.call Z9 rfl ?_;unfold Sh;refine WE.ex (mK ?_);refine Y ?_;exact WR.aO rfl (ug hw h)
theorem ze3{k':Nat}(hw:gG w)(h:dX w=false):WR (call ao T (k'+8) true 17 [.d w,.d x]) [] 9 [.int (-1)]:=by
 refine WR.call Z_ rfl ?_;unfold Sq;refine WE.ex (mK ?_);refine Y ?_;exact WR.aO rfl (ug hw h)
theorem zbV{k':Nat}(hw:gG w)(h:dX w=false):WR (call ao T (k'+7) true 44 [.d w]) [] 9 [.int (-1)]:=by
 refine WR.call zmz rfl ?_;unfold Sx;refine WE.ex (mK ?_);refine Y ?_;exact WR.aO rfl (ug hw h)
theorem zgI{k':Nat}(hw:gG w)(h:dX w=false):WR (call ao T (k'+8) true 46 [.d w]) [] 9 [.int (-1)]:=by
 refine WR.call zmp rfl ?_;unfold Sy;refine WE.asg (mK ?_);refine Y ?_;exact WR.aO rfl (zbV hw h)
theorem zk6{k':Nat}(hw:gG w)(h:dX w=false):WR (call ao T (k'+8) true 47 [.d w]) [] 9 [.int (-1)]:=by
 refine WR.call zmm rfl ?_;unfold SJ;refine WE.asg (mK ?_);refine Y ?_;exact WR.aO rfl (zbV hw h)
theorem zg5{k':Nat}{i:Int}(hw:gG w)(h:dX w=false)(hi:0<=i/\i<6):WR (call ao T (k'+9) true 59 [.d (.int i),.d w]) [] 9 [.int (-1)]:=by
 have:i=0\/i=1\/i=2\/i=3\/i=4\/i=5:=by lia
 refine WR.call zme rfl ?_;unfold S9;rcases this with rfl|rfl|rfl|rfl|rfl|rfl
 all_goals
  repeat (first|refine WE.yes (by with_unfolding_all rfl) ?_|refine WE.no (by with_unfolding_all rfl) ?_)
  refine WE.ex (mK ?_);refine Y ?_
 ·exact WR.aO rfl (zfZ hw h)
 ·exact WR.aO rfl (zgr hw h)
 ·exact WR.aO rfl (zha hw h)
 ·exact WR.aO rfl (ze3 hw h)
 ·exact WR.aO rfl (zgI hw h)
 ·exact WR.aO rfl (zk6 hw h)
theorem zgF{k':Nat}(hw:gG w)(hv:gG v)(h:dX w=false\/dX w=true/\dX v=false):WR (call ao T (k'+8) true 18 [.d w,.d v]) [] 9 [.int (-1)]:=by
 refine WR.call zmr rfl ?_;unfold Ss;rcases h with h|⟨h,h2⟩
 ·refine WE.ex (mK ?_);refine Y ?_;exact WR.aO rfl (ug hw h)
 ·refine Y ?_;refine W.c1 (Ue hw h) λ_=>?_;refine WE.ex (mK ?_);refine Y ?_;exact WR.aO rfl (ug hv h2)
theorem zf4{k':Nat}(hw:gG w)(hv:gG v)(h:dX w=false\/dX w=true/\dX v=false):WR (call ao T (k'+8) true 19 [.d w,.d v]) [] 9 [.int (-1)]:=by
 refine WR.call zmi rfl ?_;unfold Sv;rcases h with h|⟨h,h2⟩
 ·refine WE.ex (mK ?_);refine Y ?_;exact WR.aO rfl (ug hw h)
 ·refine Y ?_;refine W.c1 (Ue hw h) λ_=>?_;refine WE.ex (mK ?_);refine Y ?_;exact WR.aO rfl (ug hv h2)
theorem zeo{k':Nat}(hw:gG w)(hv:gG v)(h:dX w=false\/dX w=true/\dX v=false):WR (call ao T (k'+8) true 20 [.d w,.d v,.d x,.d y]) [] 9 [.int (-1)]:=by
 refine WR.call zml rfl ?_;unfold Sw;rcases h with h|⟨h,h2⟩
 ·refine WE.ex (mK ?_);refine Y ?_;exact WR.aO rfl (ug hw h)
 ·refine Y ?_;refine W.c1 (Ue hw h) λ_=>?_;refine WE.ex (mK ?_);refine Y ?_;exact WR.aO rfl (ug hv h2)
theorem zlF{k':Nat}{i:Int}(hw:gG w)(hv:gG v)(h:dX w=false\/dX w=true/\dX v=false)(hi:0<=i/\i<3):WR (call ao T (k'+9) true 60 [.d (.int i),.d w,.d v]) [] 9 [.int (-1)]:=by
 have:i=0\/i=1\/i=2:=by lia
 refine WR.call zmn rfl ?_;unfold S_;rcases this with rfl|rfl|rfl
 all_goals
  repeat (first|refine WE.yes (by with_unfolding_all rfl) ?_|refine WE.no (by with_unfolding_all rfl) ?_)
  refine WE.ex (mK ?_);refine Y ?_
 ·exact WR.aO rfl (zgF hw hv h)
 ·exact WR.aO rfl (zf4 hw hv h)
 ·exact WR.aO rfl (zeo hw hv h)
theorem zkG{k':Nat}{i:Int}(hw:gG w)(h:dX w=false)(hi:0<=i/\i<6):W (call ao T (k'+10) true 61 [.d (.int i),.d w]) [] λv s=>v=.d (.tup [.str "web",.int (-1)]):=by
 refine W.call zmx rfl ?_;unfold Tc;refine WS.cons (XH ?_);refine HF (Q7 (c:=9) (fs:=[.int (-1)]) ?_ λs'=>⟨⟨_,_,_,rfl⟩,_,_,_,rfl,rfl,?_⟩)
 ·refine mK ?_;refine Y ?_;exact WR.aO rfl (zg5 hw h hi)
 ·exact⟨.rt (.d (.tup [.str "web",.int (-1)])),s',rfl,⟨_,rfl⟩,rfl⟩
theorem zhn{k':Nat}{i:Int}(hw:gG w)(hv:gG v)(h:dX w=false\/dX w=true/\dX v=false)(hi:0<=i/\i<3):W (call ao T (k'+10) true 62 [.d (.int i),.d w,.d v]) [] λv s=>v=.d (.tup [.str "web",.int (-1)]):=by
 refine W.call zmd rfl ?_;unfold Td;refine WS.cons (XH ?_);refine HF (Q7 (c:=9) (fs:=[.int (-1)]) ?_ λs'=>⟨⟨_,_,_,rfl⟩,_,_,_,rfl,rfl,?_⟩)
 ·refine mK ?_;refine Y ?_;exact WR.aO rfl (zlF hw hv h hi)
 ·exact⟨.rt (.d (.tup [.str "web",.int (-1)])),s',rfl,⟨_,rfl⟩,rfl⟩
end
theorem zkQ{x:D}(hx:x∈qC):gG x:=by
 simp only[qC,cV,pQ,oX] at hx;rcases hx with rfl|rfl|rfl|rfl|rfl|rfl|rfl|rfl|rfl|rfl|rfl|rfl|rfl|rfl|rfl|rfl
 all_goals exact⟨rfl,λx ys e=>by cases e<;>decide⟩
theorem uh(ns:List Int)(hn:ns.length<=63):∃s',call ao T 60 true 63 [.d (.fl (ns.map D.int))] []=some (.ok (.d (.bl true)),s'):=by
 suffices h:W (call ao T 60 true 63 [.d (.fl (ns.map D.int))]) [] λv _=>v=.d (.bl true) by
  obtain⟨v,s',e,rfl⟩:=h;exact⟨s',e⟩
 have hs:(1000:Nat)<=sizeLine:=by decide
 refine W.call (k:=59) zmb rfl ?_;unfold Te;refine Y ?_;refine W.aO rfl ((zjV (k:=58)).imp λv _=>?_);rintro⟨n0,rfl⟩;refine⟨_,rfl,?_⟩;refine Y ?_;refine KC (Xu ?_) ?_
 ·have:=zim (ns:=ns) (lo:=some 1) (hi:=some 5);show 1+_<=_
  lia
 refine Y ?_;refine QV (λ_ J s=>∃(a b c d:Option Xv),J=[some (.d (.fl (ns.map D.int))),a,b,c,d]) ⟨_,_,_,_,rfl⟩ (λi x J s hx Bg=>?_) (λJ s Bg=>?_)
 ·obtain⟨m,rfl⟩ : ∃m,x=.int m:=by
   rcases fX.mp (jD hx) with z|z
   ·rcases cV.mp z with rfl|z
    ·exact⟨_,rfl⟩
    ·cases z
   ·exact zhK z
  obtain⟨a,b,c,d,rfl⟩:=Bg;refine Y ?_;refine Kal rfl ((zlh (k:=58)).imp λv s1=>?_);rintro⟨j0,o,rfl,hj,hp⟩;refine⟨j0,o,rfl,hj,?_⟩;refine Y ?_;refine HJ rfl ((zkx (k:=57) hp).imp λv s1=>?_);rintro⟨z,o1,rfl,rfl,⟨hz1,hz8⟩,hp⟩;refine⟨_,_,rfl,rfl,?_⟩;refine Y ?_;refine HJ rfl ((zgC (k:=57) hp (n:=z) gV gV).imp λv s1=>?_);rintro⟨ps,o2,rfl,rfl,hw,hp⟩;refine⟨_,_,rfl,rfl,?_⟩;refine Y ?_;refine HJ rfl ((zcC (k':=57) hp hw).imp λv s1=>?_);rintro⟨b1,o3,rfl,rfl,CZ,hp⟩;refine⟨_,_,rfl,rfl,?_⟩;refine Y ?_;refine HJ rfl ((zcC (k':=57) hp hw).imp λv s1=>?_);rintro⟨b2,o4,rfl,rfl,xM,hp⟩;refine⟨_,_,rfl,rfl,?_⟩;refine Y ?_;refine HJ rfl ((zlm (k:=57) hp).imp λv s1=>?_);rintro⟨b3,o5,rfl,rfl,KZ,hp⟩;refine⟨_,_,rfl,rfl,?_⟩;refine Y ?_;have B_:gG .non:=⟨rfl,λx ys e=>by cases e⟩;have hw':=zhG hw;refine QV (λi J s'=>∃(t:Option Xv),s'=s++[o5]/\J=[some (.d (.fl (ns.map D.int))),some (.d (.int m)),some (.l s.length),some (.d (oM z ps)),t]) ⟨_,rfl,rfl⟩ (λi x J s' e hI=>?_) (λJ s' hI=>?_)
  ·obtain⟨t,rfl,rfl⟩:=hI;have hx:gG x:=by
    have:=jD e;simp only[cV,pQ,oX] at this;rcases this with rfl|rfl|rfl|rfl
    ·exact CZ
    ·exact xM
    ·exact zkQ KZ
    ·exact B_
   refine Y ?_;refine W.c0 (zg9 hx.1 hx.2) ?_;cases hb:dX x
   ·refine Y ?_;refine CW (l:=([0,1,2,3,4,5]:List Int)) (f:=D.int) (λ_=>some (.tup [.str "web",.int (-1)])) R4 ?_ (λj hj=>?_) ?_
    ·refine Y ?_;exact⟨rfl,rfl,rfl⟩
    ·refine Y ?_;refine⟨rfl,λ_=>?_,λhb=>by cases hb⟩;refine Y ?_;refine W.aO rfl ((zkG (k':=49) hx hb (by simp at hj;lia)).imp λv s e=>⟨_,e,rfl,_,rfl,rfl⟩)
    refine Y ?_;refine CW (l:=([0,1,2]:List Int)) (f:=D.int) (λ_=>some (.tup [.str "web",.int (-1)])) R4 ?_ (λj hj=>?_) ?_
    ·refine Y ?_;exact⟨rfl,rfl,rfl⟩
    ·refine Y ?_;refine⟨rfl,λ_=>?_,λhb=>by cases hb⟩;refine Y ?_;refine W.aO rfl ((zhn (k':=49) hx B_ (.inl hb) (by simp at hj;lia)).imp λv s e=>⟨_,e,rfl,_,rfl,rfl⟩)
    refine Y ?_;refine CW (l:=([0,1,2]:List Int)) (f:=D.int) (λ_=>some (.tup [.str "web",.int (-1)])) R4 ?_ (λj hj=>?_) ?_
    ·refine Y ?_;exact⟨rfl,rfl,rfl⟩
    ·refine Y ?_;refine⟨rfl,λ_=>?_,λhb=>by cases hb⟩;refine Y ?_;refine W.aO rfl ((zhn (k':=49) hw' hx (.inr ⟨zke hw,hb⟩) (by simp at hj;lia)).imp λv s e=>⟨_,e,rfl,_,rfl,rfl⟩)
    refine Y ?_;exact⟨_,rfl,_,rfl,rfl⟩
   ·refine Y ?_;exact⟨_,rfl,_,rfl,rfl⟩
  obtain⟨t,rfl,rfl⟩:=hI;refine Y ?_;exact⟨_,rfl,_,_,_,_,rfl⟩
 ·obtain⟨a,b,c,d,rfl⟩:=Bg;exact Y trivial
end dY
open PySem PySem.W PyProof.Rows
set_option maxRecDepth 100000 in
set_option maxHeartbeats 0 in
theorem PySem.Challenge.cw_ringhues_k62_changes_refused_holds : PySem.Challenge.rw_ringhues_k62_changes_refused.Holds := by
 refine PySem.W.holds_law dY.ws λsaid=>?_;refine holds_open (q:=dY.qv) (loose:=dY.loose) (Xt:=λs=>xlAt dY.qv [] s&&recOk [] s) (XP:=XL dY.qv []) (Yf:=(Mi.kE dY.fs dY.ms dY.xs dY.lk).obs) (Ya:=(Mi.kE dY.fs dY.ms dY.xs dY.lk).val) (YP:=(Mi.kE dY.fs dY.ms dY.xs dY.lk).says) (N:=20000) dY.left (Mi.kE dY.fs dY.ms dY.xs dY.lk).of (Mi.kE dY.fs dY.ms dY.xs dY.lk).keeps (λs e=>xl_of s (LC.mp e).1) XL.keeps (by rfl) (by rfl) (by rfl) (λs e=>recFacts_of (LC.mp e).2) (by rfl) (by first|assumption|decide +kernel) Bd ⟨rfl,rfl,rfl,rfl,rfl,by decide +kernel⟩ ?hw ?hc
 case hw=>w_witness2
 case hc=>exact Mi.Hw (l:=PySem.Challenge.rw_ringhues_k62_changes_refused) (x:="_law_script") (k:=60) rfl rfl ⟨by decide,by decide,rfl⟩ (λw K mg fa h S X G Ud=>dY.all_mk dY.uh S X G Ud)
