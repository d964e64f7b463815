import PyProof.Rows.All
import Wide.All
import KE.KIsAll
import KE.KSortTup
import KE.KTryDeep
import KE.KFromBytes
import KE.KDictOf
import Wide.FinOn
import PySem.Challenge.RW_ringhues_k13_papers_told
set_option compiler.extract_closed false
set_option Elab.async false
set_option linter.all false
set_option maxRecDepth 100000
set_option maxHeartbeats 4000000
namespace Lake
theorem gV{p:Prop}(h:p:=by lia):p:=h
theorem Dc{p:Prop}(h:p:=by decide +kernel):p:=h
theorem J0{p:Prop}(h:p:=by decide):p:=h
theorem Rb{p:Prop}(h:p:=by simp):p:=h
abbrev aD:=@PySem.wpAny_bind
abbrev cI:=@List.getElem?_eq_some_iff
abbrev cP:=@List.getElem?_eq_getElem
abbrev cQ:=@PySem.Heap.get?_push_of_some
abbrev dM:=@List.mem_of_getElem?
abbrev cj:=@List.length_map
abbrev dH:=@List.length_append
abbrev bw:=@PySem.wpAny_pure
abbrev cW:=@Option.some.inj
abbrev fu:=@PySem.Heap.get?_push_size
abbrev bW:=@PySem.Heap.lt_size
abbrev eY:=@List.size_toArray
abbrev bU:=@Nat.le_refl
abbrev iZ:=@Option.map_eq_some_iff
abbrev fB:=@List.getElem?_map
abbrev jW:=@List.getD_eq_getElem?_getD
abbrev iz:=@List.mem_cons_of_mem
abbrev fC:=@List.all_eq_true
abbrev fX:=@List.length_cons
abbrev iB:=@Nat.lt_of_lt_of_le
abbrev gw:=@Bool.and_eq_true
abbrev fZ:=@decide_eq_true
abbrev dU:=@Nat.ne_of_lt
abbrev gQ:=@decide_eq_false
abbrev oM:=@List.getElem?_append_left
abbrev oN:=@List.getElem?_eq_none_iff
abbrev pG:=@List.getElem?_append_right
abbrev jA:=@Int.toNat_natCast
abbrev mW:=@List.getElem?_set_ne
abbrev lG:=@List.mem_cons_self
abbrev kJ:=@of_decide_eq_true
abbrev iG:=@List.mem_cons
abbrev pH:=@List.getElem?_set_self
abbrev kO:=@List.mem_append
abbrev jr:=@List.map_cons
abbrev qw:=@List.mem_filterMap
abbrev oO:=@List.lookup_cons
abbrev oh:=@List.mem_filter
abbrev wX:=@PyProof.Rows.callWith_type1
abbrev ou:=@List.length_set
abbrev qx:=@List.length_range
abbrev vh:=@Option.bind_eq_some_iff
abbrev kW:=@Nat.le_trans
abbrev uz:=@List.mem_append_right
abbrev vm:=@PySem.Heap.get?_update_other
abbrev rz:=@PySem.wpAny_truthy_bool
abbrev Ce:=@PyProof.Rows.slot_tuple_getitem
abbrev wY:=@List.length_filterMap_le
abbrev rT:=@List.mem_singleton
abbrev wZ:=@Int.eq_ofNat_of_zero_le
abbrev qy:=@List.map_append
abbrev lH:=@PySem.wpAny_field
abbrev qz:=@PySem.wpAny_seqItems
abbrev zj:=@PySem.wpAny_callSpecial?_slot
abbrev uD:=@PySem.wpAny_newObj_type
abbrev uE:=@Nat.lt_succ_of_lt
abbrev qC:=@Nat.lt_irrefl
abbrev uF:=@List.length_take
abbrev w6:=@beq_eq_false_iff_ne
abbrev xg:=@Array.length_toList
abbrev xq:=@List.getElem_of_mem
abbrev mX:=@PySem.wpAny_mono
abbrev zm:=@PySem.Heap.get?_update_self
abbrev rA:=@PySem.wpAny_holding
abbrev xr:=@PySem.Obj.data_mapFields
abbrev xu:=@Bool.false_eq_true
abbrev Cg:=@List.getElem?_cons_succ
abbrev zp:=@Nat.mul_le_mul_right
abbrev zu:=@List.filterMap_cons
abbrev zx:=@List.getElem?_range
abbrev uG:=@List.mem_range
abbrev uH:=@PySem.Heap.size_push
abbrev vo:=@List.append_nil
abbrev rB:=@List.mem_map
abbrev zy:=@PySem.wpAny_Call_Name_kw
abbrev xG:=@PySem.wpAny_call_entry
abbrev xH:=@List.take_length
abbrev pI:=@beq_iff_eq
abbrev xJ:=@List.nodup_cons
abbrev Cj:=@PySem.mem_of_lookup
abbrev Cm:=@List.replicate_succ
abbrev J9:=@PySem.F.slot_tuple_iterator_next
abbrev zA:=@beq_self_eq_true
abbrev zB:=@PySem.F.plain_min_loop
abbrev mY:=@congrArg
abbrev Ef:=@List.length_replicate
abbrev Cp:=@PySem.wpAny_setField_rec
abbrev Eh:=@List.filterMap_append
abbrev Cq:=@List.pairwise_cons
abbrev Ej:=@PySem.Heap.get?_none_of_le
abbrev Ek:=@PySem.Around.under_plainId
abbrev zE:=@PySem.wpAny_passesOwn
abbrev J_:=@PySem.AutoSeq1.wpAny_loadPart'
abbrev vp:=@Nat.ne_of_gt
abbrev uI:=@PySem.sizeLine_eq
abbrev Ka:=@List.getElem?_replicate
abbrev xK:=@List.all_cons
abbrev Cr:=@List.countP_cons
abbrev Cu:=@decide_eq_decide
abbrev El:=@Bool.false_ne_true
abbrev Em:=@List.zip_cons_cons
abbrev En:=@Int.emod_lt_of_pos
abbrev vq:=@Nat.zero_le
abbrev xM:=@Nat.le_of_lt
abbrev Kc:=@PySem.Obj.isFreed_of_fields
abbrev Cv:=@List.forIn_cons
abbrev Ke:=@List.getElem?_eq_none
abbrev Cw:=@Int.emod_nonneg
abbrev Ep:=@decide_eq_true_eq
abbrev N7:=@Array.getElem?_eq_some_iff
abbrev Kf:=@List.mem_append_left
abbrev Cy:=@List.nodup_nil
abbrev Cz:=@List.take_succ
abbrev CG:=@Nat.mul_le_mul
abbrev N_:=@List.filterMap_eq_nil_iff
abbrev Er:=@Nat.lt_succ_self
abbrev Et:=@List.length_drop
abbrev Oa:=@Option.isSome_iff_exists
abbrev Ob:=@PySem.F.args_tuple_add_2
abbrev zF:=@List.map_map
abbrev zG:=@Nat.succ_mul
abbrev Eu:=@List.length_nil
abbrev Oc:=@PySem.F.entry_tuple_add
abbrev rC:=@if_false
abbrev Ew:=@Option.map_some
abbrev Ey:=@PySem.codeAny_builtin
abbrev Ez:=@PySem.wpAny_ite_false
abbrev Kg:=@decide_eq_true_iff
abbrev Kh:=@of_decide_eq_false
abbrev Od:=@PySem.W.cellsFrom_some
abbrev Oe:=@PySem.F.slot_tuple_add
abbrev Og:=@List.range_succ_eq_map
abbrev Kl:=@Bool.eq_false_iff
abbrev Km:=@PySem.Heap.get?_push_ne
abbrev zJ:=@PySem.wpAny_letGo
abbrev Ko:=@PySem.wpAny_pyIter_list
abbrev Kp:=@List.append_assoc
abbrev Kq:=@List.nodup_append
abbrev EY:=@PySem.wpAny_setField
abbrev E_:=@Bool.and_false
abbrev Oh:=@PySem.wpAny_isTrue_Compare1
abbrev CJ:=@PySem.codeAny_mono
abbrev Oi:=@List.length_filter_le
abbrev Oj:=@List.countP_le_length
abbrev Kr:=@PySem.wpAny_forIn_list
abbrev Ks:=@Nat.le_of_not_lt
abbrev Ku:=@PySem.wpAny_isInstance
abbrev Kv:=@List.getElem_mem
abbrev Kw:=@PySem.F.slot_tuple_mul
abbrev Ol:=@Bool.and_eq_true_iff
abbrev Om:=@PySem.wpAny_updateSeq_pair
abbrev Fb:=@PySem.wpAny_attempt
abbrev Fd:=@PySem.plainId_quiet
abbrev zK:=@PySem.call_meets
abbrev Ky:=@Nat.not_lt_zero
abbrev Oo:=@PySem.W.plainGet_of
abbrev Oq:=@PySem.wpAny_loadPart'
abbrev Kz:=@PySem.F.slot_zip_next
abbrev KC:=@Bool.eq_iff_iff
abbrev Ot:=@Nat.mul_le_mul_left
abbrev KD:=@List.foldl_cons
abbrev Fe:=@Nat.zero_add
abbrev Ou:=@PySem.W.callWith_K
abbrev Fg:=@List.all_map
abbrev Ov:=@Array.forIn_toList
abbrev Ox:=@Nat.lt_of_le_of_lt
abbrev Oz:=@List.length_mapIdx
abbrev OD:=@List.map_filterMap
abbrev KH:=@List.forIn_nil
abbrev OJ:=@List.getElem?_inj
abbrev O1:=@List.flatten_cons
abbrev O2:=@List.map_inj_left
abbrev O4:=@List.pairwise_map
abbrev O5:=@List.ext_getElem?
abbrev KJ:=@Bool.true_and
namespace L2
open PySem PySem.Spec PyProof.Rows PySem.W
noncomputable def subIn(K:W.Frag)(C D:Addr):Bool:=PySem.W.ktsIn K C "BaseException"&&PySem.W.ktsIn K D "BaseException"&&match K.lookup C with
 |some ⟨_,_,.cls cd,_⟩=>cd.mro.contains (.ref D)
 |_=>false
noncomputable def Fj:List Value:=[.type "ValueError",.type "Exception",.type "BaseException",.type "object"]
noncomputable def rW:List Value->Bool
 |.ref _::r=>rW r
 |l=>l==Fj
noncomputable def tyN:Value->Option String
 |.type n=>some n
 |_=>none
noncomputable def O6:Value->Option Addr
 |.ref a=>some a
 |_=>none
noncomputable def O7:Value->Option String
 |.builtin n=>some n
 |_=>none
noncomputable def clD:Data->Option ClassData
 |.cls cd=>some cd
 |_=>none
noncomputable def hdV:List Value->Option (Value×List Value)
 |[]=>none
 |v::r=>some (v,r)
noncomputable def Fl(K:Frag)(C:Addr)(bmB:List Value)(newId:String)(ini:Option Value):Bool:=(K.lookup C).any λo=>tyN o.cls==some "type"&&(clD o.data).any λcd=>(hdV cd.mro).any λp=>
 O6 p.1==some C&&o.slots.size==6&&(o.slots[4]?.join).bind O7==some newId && !cd.hasDel&&tailIn K bmB p.2&&nsOkIn K cd.ns&&nsIn K cd.ns "__init__"==some ini
noncomputable def rY(K:Frag)(C fI:Addr):Bool:=Fl K C Fj "ValueError.__new__" (some (.ref fI))
noncomputable def aO(s:Stmt):Arguments:=match s with
 |.FunctionDef _ a _ _ _ _ _ _ _ _=>a
 |_=>{posonlyargs:=[],args:=[],vararg:=none,kwonlyargs:=[],kw_defaults:=[],kwarg:=none,defaults:=[]}
noncomputable def aL(s:Stmt):List Stmt:=match s with
 |.FunctionDef _ _ b _ _ _ _ _ _ _=>b
 |_=>[]
noncomputable def au(s:Stmt):Scope:=match s with
 |.FunctionDef _ _ _ _ _ _ sc _ _ _=>sc
 |_=>{kind:=.function,names:=[],isGenerator:=false,isCoroutine:=false}
end L2
namespace Mi
open PySem PySem.Spec PyProof.Rows L2 PySem.W
noncomputable def KN(n c:Nat):Nat:=if c<n then c else 0
noncomputable def Fp(n c e:Nat):Bool:=KN n e==0||KN n c==KN n e
noncomputable def iH(L:List Addr)(c:Nat):Addr:=L.getD (KN L.length c) 0
noncomputable def xcB(K:W.Frag)(C:Addr):Bool:=
 PySem.W.findIn K (.ref C) "__getattribute__"==some (some (.builtin "BaseException.__getattribute__"))&&PySem.W.findIn K (.ref C) "__getattr__"==some none&&PySem.W.findIn K (.ref C) "__class__"==some (some (.builtin "object.__class__")) &&
 PySem.W.mroIn K C (.type "BaseException")==some true&&PySem.W.mroIn K C (.type "object")==some true&&(PySem.W.clsIn K C).isSome &&
 PySem.W.specialIn K (.builtin "object.__class__") "__get__"==some (some (.builtin "getset_descriptor.__get__"))&&PySem.W.takesIn K (.builtin "object.__class__")==some true
noncomputable def xO(K:W.Frag)(L:List Addr):Bool:=(List.range L.length).all λc=>xcB K (L.getD c 0)&&PySem.W.kitOne K (.ref (L.getD c 0)) (.type "ValueError")==some true &&
 (List.range L.length).all λe=>PySem.W.kitOne K (.ref (L.getD c 0)) (.ref (L.getD e 0))==some (Fp L.length c e)
noncomputable def subB(K:W.Frag)(L:List Addr)(d:Nat):Bool:=(List.range L.length).all λc=>!(Fp L.length c d)||L2.subIn K (L.getD c 0) (iH L d)
noncomputable def m5(fd:FuncData):FuncData:={fd with kwdefaults:=.none,doc:=.none,pyModule:=.none,annotations:=none,code:=.none,closureTuple:=.none}
noncomputable def uJ(x:Str)(st:Stmt):FuncData:=fnOf x x (aO st) (aL st) (au st) .none .none .none .none none .none .none
noncomputable def zL(K:Frag)(x:Str):Option (Addr×FuncData):=match nsIn K mainGlobals x with
 |some (some (.ref f))=>(match K.lookup f with
  |some ⟨_,_,.func fd,_⟩=>(match codeIn K fd.code x&&keepIn K (.ref f) with
   |true=>some (f,fd)
   |false=>none)
  |_=>none)
 |_=>none
noncomputable def dN(K:Frag)(x:Str):Addr:=match nsIn K mainGlobals x with
 |some (some (.ref C))=>C
 |_=>0
noncomputable def rZ(K:Frag)(x:Str):Bool:=match nsIn K mainGlobals x with
 |some (some (.ref _))=>true
 |_=>false
noncomputable def lJ(K:Frag)(p:Str×Int):Bool:=match nsIn K mainGlobals p.1 with
 |some (some (.int i _))=>decide (i=p.2)
 |_=>false
noncomputable def lK(K:Frag)(p:Str×Str):Bool:=match nsIn K mainGlobals p.1 with
 |some (some (.str x _))=>decide (x=p.2)
 |_=>false
noncomputable def pJ(K:Frag)(x:Str):Bool:=match nsIn K mainGlobals x with
 |some none=>true
 |_=>false
noncomputable def Fq(K:Frag)(C:Addr):Bool:=Fl K C [.type "ValueError",.type "Exception",.type "BaseException",.type "object"] "ValueError.__new__" none
structure Lk where
 Fw:List Str
 xP:List (Str×Int)
 Ws:List Str
 Wt:List Nat
 Wu:List Nat
 Wv:List (Str×Str)
noncomputable def Lk.L(l:Lk)(K:Frag):List Addr:=l.Fw.map (dN K)
noncomputable def Lk.good(l:Lk)(K:Frag):Bool:=
 l.Fw.all (rZ K)&&(l.Fw.isEmpty||xO K (l.L K))&&l.Wt.all (λk=>Fq K (iH (l.L K) k))&&l.Wu.all (λk=>subB K (l.L K) k)&&l.xP.all (lJ K)&&l.Ws.all (pJ K)&&l.Wv.all (lK K)
noncomputable def pK(h:Heap):List Addr->Frag
 |[]=>[]
 |a::r=>match h.get? a with
  |some o=>(a,o)::pK h r
  |none=>pK h r
noncomputable def dZ(s:Stmt):List Stmt:=match s with
 |.ClassDef _ _ _ b _ _ _ _ _ _ _=>b
 |_=>[]
noncomputable def zM(q:Str)(st:Stmt):FuncData:=fnOf "__init__" q (aO st) (aL st) (au st) .none .none .none .none none .none .none
noncomputable def Fx(K:Frag)(C:Addr):Option FuncData:=match clsIn K C with
 |some cd=>(match nsIn K cd.ns "__init__" with
  |some (some (.ref f))=>(match K.lookup f with
   |some ⟨.type "function",_,.func fd,_⟩=>(match codeIn K fd.code fd.qualname&&rY K C f&&rW cd.mro&&cd.hasDict with
    |true=>some fd
    |false=>none)
   |_=>none)
  |_=>none)
 |none=>none
noncomputable def setB(K:Frag)(C:Addr)(fs:List Str):Bool:=findIn K (.ref C) "__setattr__"==some (some (.builtin "object.__setattr__"))&&fs.all (λf=>findIn K (.ref C) f==some none)
noncomputable def KQ(K:Frag)(C:Addr)(f:Str):Bool:=findIn K (.ref C) "__getattribute__"==some (some (.builtin "BaseException.__getattribute__"))&&findIn K (.ref C) "__getattr__"==some none&&mroIn K C (.type "BaseException")==some true&&findIn K (.ref C) f==some none&&hasDictIn K C
structure su where
 c:Nat
 q:Str
 st:Stmt
 fs:List Str
noncomputable def Fy:Nat->List Obj->Frag
 |_,[]=>[]
 |i,o::r=>match o.isFreed with
  |true=>Fy (i+1) r
  |false=>(i,o)::Fy (i+1) r
noncomputable def bK(h:Heap):Frag:=pK h [mainGlobals]++(Fy 0 h.objs.toList).reverse
noncomputable def lM(fs:List (Str×Stmt))(ms:List su)(xs:List (Nat×Str))(l:Lk)(s:Shared):List (Option FuncData)×List (Option FuncData)×Bool:=
 (fs.map (λp=>(zL (bK s.heap) p.1).map (λq=>m5 q.2)),ms.map (λm=>(Fx (bK s.heap) (iH (l.L (bK s.heap)) m.c)).map m5),
  l.good (bK s.heap)&&ms.all (λm=>setB (bK s.heap) (iH (l.L (bK s.heap)) m.c) m.fs)&&xs.all (λx=>KQ (bK s.heap) (iH (l.L (bK s.heap)) x.1) x.2))
noncomputable def m6(fs:List (Str×Stmt))(ms:List su)(w:World):List (Option FuncData)×List (Option FuncData)×Bool:=(fs.map (λp=>some (uJ p.1 p.2)),ms.map (λm=>some (zM m.q m.st)),true)
noncomputable def KR(fs:List (Str×Stmt))(s:Shared):List (Option FuncData):=fs.map (λp=>(zL (bK s.heap) p.1).map (λq=>m5 q.2))
noncomputable def Ww(ms:List su)(xs:List (Nat×Str))(l:Lk)(s:Shared):List (Option FuncData)×Bool:=(ms.map (λm=>(Fx (bK s.heap) (iH (l.L (bK s.heap)) m.c)).map m5),
  l.good (bK s.heap)&&ms.all (λm=>setB (bK s.heap) (iH (l.L (bK s.heap)) m.c) m.fs)&&xs.all (λx=>KQ (bK s.heap) (iH (l.L (bK s.heap)) x.1) x.2))
theorem zeX{p q:Program}{loose:List Str}{Xt:Shared->Bool}{N:Nat}{fs1 qD:List (Str×Stmt)}{ms:List su}{xs:List (Nat×Str)}{l:Lk}
  (a:∀w,(openEnds treeTable p w N).map (λs=>openSeen q loose (importedModules p.main.body) Xt true s)=some (openGood q loose))
  (b1:∀w,(openEnds treeTable p w N).map (KR fs1)=some (fs1.map λp=>some (uJ p.1 p.2)))
  (b2:∀w,(openEnds treeTable p w N).map (KR qD)=some (qD.map λp=>some (uJ p.1 p.2)))
  (c:∀w,(openEnds treeTable p w N).map (Ww ms xs l)=some (ms.map (λm=>some (zM m.q m.st)),true)):LeftO p q loose Xt (lM (fs1++qD) ms xs l) (m6 (fs1++qD) ms) N:=by
 intro w;have a:=a w;have b1:=b1 w;have b2:=b2 w;have c:=c w;cases e:openEnds treeTable p w N with
 |none=>rw[e] at a;cases a
 |some s=>
  rw[e] at a b1 b2 c;have a:openSeen q loose (importedModules p.main.body) Xt true s=openGood q loose:=cW a;have b1:=cW b1;have b2:=cW b2;have c:=cW c;have c1:=mY Prod.fst c;have c2:=mY Prod.snd c;show some (_,lM (fs1++qD) ms xs l s)=_;rw[a];have:lM (fs1++qD) ms xs l s=m6 (fs1++qD) ms w:=by
   unfold lM m6;rw[qy,qy];have b1:List.map _ fs1=List.map _ fs1:=b1;have b2:List.map _ qD=List.map _ qD:=b2;rw[b1,b2];exact Prod.ext rfl (Prod.ext c1 c2)
  rw[this]
inductive Tr where
 |em
 |lv (o:Obj)
 |nd (l r:Tr)
noncomputable def Tr.lf(t:Tr):Tr:=Tr.rec (motive:=λ_=>Tr) .em (λ_=>.em) (λl _ _ _=>l) t
noncomputable def Tr.rt(t:Tr):Tr:=Tr.rec (motive:=λ_=>Tr) .em (λ_=>.em) (λ_ r _ _=>r) t
noncomputable def Tr.get(d:Nat):Tr->Nat->Option Obj:=Nat.rec (motive:=λ_=>Tr->Nat->Option Obj) (λt _=>Tr.rec (motive:=λ_=>Option Obj) none (λo=>some o) (λ_ _ _ _=>none) t)
 (λ_ f t a=>cond (Nat.beq (Nat.mod a 2) 0) (f t.lf (Nat.div a 2)) (f t.rt (Nat.div a 2))) d
noncomputable def Tr.put(d:Nat):Tr->Nat->Obj->Tr:=Nat.rec (motive:=λ_=>Tr->Nat->Obj->Tr) (λ_ _ o=>.lv o)
 (λ_ f t a o=>cond (Nat.beq (Nat.mod a 2) 0) (.nd (f t.lf (Nat.div a 2) o) t.rt) (.nd t.lf (f t.rt (Nat.div a 2) o))) d
theorem O8(a:Nat):(Nat.beq (a%2) 0=true/\a%2=0)\/(Nat.beq (a%2) 0=false/\a%2=1):=by
 rcases(show a%2=0\/a%2=1 by lia) with e|e<;>rw[e]
 ·exact .inl ⟨rfl,rfl⟩
 ·exact .inr ⟨rfl,rfl⟩
theorem O9(o:Obj):∀(d:Nat) (t:Tr) (a:Nat),Tr.get d (Tr.put d t a o) a=some o
 |0,_,_=>rfl
 |d+1,t,a=>by
  have ih:=O9 o d;show cond (Nat.beq (a%2) 0) (Tr.get d (Tr.lf (cond (Nat.beq (a%2) 0) _ _)) (a/2)) (Tr.get d (Tr.rt (cond (Nat.beq (a%2) 0) _ _)) (a/2))=_;rcases O8 a with ⟨e,_⟩|⟨e,_⟩<;>rw[e]
  ·exact ih t.lf (a/2)
  ·exact ih t.rt (a/2)
theorem O_(o:Obj):∀(d:Nat) (t:Tr) (a b:Nat),a<2^d->b<2^d->a≠b->Tr.get d (Tr.put d t a o) b=Tr.get d t b
 |0,_,a,b,h1,h2,h=>by lia
 |d+1,t,a,b,h1,h2,h=>by
  have ih:=O_ o d;show cond (Nat.beq (b%2) 0) (Tr.get d (Tr.lf (cond (Nat.beq (a%2) 0) _ _)) (b/2)) (Tr.get d (Tr.rt (cond (Nat.beq (a%2) 0) _ _)) (b/2))=cond (Nat.beq (b%2) 0) _ _;rw[Nat.pow_succ] at h1 h2;rcases O8 a with ⟨e,x⟩|⟨e,x⟩<;>rw[e]<;>rcases O8 b with ⟨f,y⟩|⟨f,y⟩<;>rw[f]
  ·exact ih t.lf (a/2) (b/2) gV gV gV
  ·rfl
  ·rfl
  ·exact ih t.rt (a/2) (b/2) gV gV gV
noncomputable def ali(o:Option Obj):Option Obj:=match o with
 |some ⟨_,_,.freed,_⟩=>none
 |o=>o
noncomputable def oR(t:Tr)(z a:Nat):Option Obj:=cond (Nat.ble (Nat.succ a) z) (ali (t.get 12 a)) none
structure Rl(t:Tr)(z:Nat)(h:Heap):Prop where
 sz:h.objs.size=z
 le:z<=4096
 at_:∀a,a<z->t.get 12 a=h.objs[a]?
theorem Rl.get{t:Tr}{z:Nat}{h:Heap}(r:Rl t z h)(a:Nat):oR t z a=h.get? a:=by
 unfold oR Heap.get?;by_cases e:a<z
 ·rw[show Nat.ble (Nat.succ a) z=true from Nat.ble_eq.mpr e,r.at_ a e];rfl
 ·rw[show Nat.ble (Nat.succ a) z=false from Kl.mpr λx=>e (Nat.ble_eq.mp x)];have:h.objs[a]?=none:=by simp only[Array.getElem?_eq_none_iff,r.sz];lia
  rw[this];rfl
theorem Rl.push{t:Tr}{z:Nat}{h:Heap}(r:Rl t z h)(o:Obj)(hz:z<4096):Rl (t.put 12 z o) (z+1) (h.push o):=by
 obtain⟨objs,l⟩:=h;obtain⟨sz,le,at_⟩:=r;dsimp only at sz at_;refine⟨by show (objs.push o).size=_;rw[Array.size_push,sz],hz,λa ha=>?_⟩;show _=(objs.push o)[a]?;by_cases e:a=z
 ·subst e;rw[O9,Array.getElem?_push,if_pos sz.symm]
 ·rw[O_ o 12 t z a hz (by show a<4096;lia) (Ne.symm e),at_ a gV,Array.getElem?_push,if_neg gV]
theorem Rl.upd{t:Tr}{z:Nat}{h:Heap}(r:Rl t z h){a:Nat}{o:Obj}{f:Obj->Obj}(ho:h.get? a=some o):Rl (t.put 12 a (f o)) z (h.update a f):=by
 have ha:h.objs[a]?=some o:=(Heap.get?_some_iff.mp ho).1;obtain⟨objs,l⟩:=h;obtain⟨sz,le,at_⟩:=r;dsimp only at sz at_ ha;have hl:a<objs.size:=(N7.mp ha).1;refine⟨by show (objs.modify a f).size=_;rw[Array.size_modify,sz],le,λb hb=>?_⟩;show _=(objs.modify a f)[b]?;rw[Array.getElem?_modify];by_cases e:a=b
 ·subst e;rw[O9,if_pos rfl,ha];rfl
 ·rw[O_ _ 12 t a b (by show a<4096;lia) (by show b<4096;lia) e,at_ b hb,if_neg e]
inductive Hop where
 |ld (a:Addr) (k:Obj->Sem Fin)
 |la (a:Addr) (k:Option Obj->Sem Fin)
 |up (a:Addr) (f:Obj->Obj) (k:Unit->Sem Fin)
 |al (o:Obj) (k:Addr->Sem Fin)
 |st
 |no
noncomputable def zN:Sem Fin->Hop
 |.load a _ k=>.ld a k
 |.loadIfAlive a k=>.la a k
 |.update a _ f k=>.up a f k
 |.alloc o k=>.al o k
 |.pure _=>.st
 |.at ..=>.st
 |.rule ..=>.st
 |.ask _=>.st
 |.fresh _=>.st
 |.point ..=>.st
 |.stack _=>.st
 |.call ..=>.st
 |_=>.no
theorem zhq{den:Code->Sem Fin}{p:Program}{w:World}{h:Heap}{s s':Shared}{t t':Thread}(hn:zN t.cur=.st)(e:step den p w s t=.go s' t'):step den p w {s with heap:=h} t=.go {s' with heap:=h} t':=by
 obtain⟨cur,code,pos,stack⟩:=t;cases cur with
 |pure a=>
  cases a with
  |again c=>cases e;rfl
  |done f=>
   cases stack with
   |nil=>
    have e:(if leftWithCleanup s.gens=true then Step.halt _ _ else Step.halt _ _)=.go s' t':=e;split at e<;>cases e
   |cons r l=>cases r<;>cases e<;>rfl
 |«at»=>cases e;rfl
 |rule=>cases e;rfl
 |ask=>cases e;rfl
 |fresh=>cases e;rfl
 |point=>cases e;rfl
 |stack=>cases e;rfl
 |call=>cases e;rfl
 |_=>cases hn
theorem zkJ{c:Sem Fin}{a:Addr}{k:Obj->Sem Fin}(h:zN c=.ld a k):∃q,c=.load a q k:=by
 cases c<;>cases h;exact⟨_,rfl⟩
theorem zme{c:Sem Fin}{a:Addr}{k:Option Obj->Sem Fin}(h:zN c=.la a k):c=.loadIfAlive a k:=by
 cases c<;>cases h;rfl
theorem zmq{c:Sem Fin}{a:Addr}{f:Obj->Obj}{k:Unit->Sem Fin}(h:zN c=.up a f k):∃q,c=.update a q f k:=by
 cases c<;>cases h;exact⟨_,rfl⟩
theorem zl6{c:Sem Fin}{o:Obj}{k:Addr->Sem Fin}(h:zN c=.al o k):c=.alloc o k:=by
 cases c<;>cases h;rfl
noncomputable def m7(tb:String->Option Builtin)(p:Program)(w:World)(n₀:Nat)(ann:Option Value):Nat->Tr->Nat->Shared->Thread->Option (Tr×Nat×Shared)
 |0,_,_,_,_=>none
 |m+1,t,z,s,th=>match through th with
  |true=>some (t,z,s)
  |false=>match stepOk n₀ ann th with
   |false=>none
   |true=>match zN th.cur with
    |.ld a k=>(match oR t z a with
     |some o=>m7 tb p w n₀ ann m t z s ⟨k o,th.code,th.pos,th.stack⟩
     |none=>none)
    |.la a k=>m7 tb p w n₀ ann m t z s ⟨k (oR t z a),th.code,th.pos,th.stack⟩
    |.up a f k=>(match oR t z a with
     |some o=>m7 tb p w n₀ ann m (t.put 12 a (f o)) z s ⟨k (),th.code,th.pos,th.stack⟩
     |none=>none)
    |.al o k=>(match Nat.succ z with
     |0=>none
     |n+1=>match Nat.ble n 4095 with
      |true=>m7 tb p w n₀ ann m (t.put 12 n o) (n+1) s ⟨k n,th.code,th.pos,th.stack⟩
      |false=>none)
    |.st=>(match step (denote tb) p w s th with
     |.go s' t'=>m7 tb p w n₀ ann m t z s' t'
     |.halt _ _=>none)
    |.no=>none
theorem zi6{tb:String->Option Builtin}{p:Program}{w:World}{n₀:Nat}{ann:Option Value}:∀(m:Nat) {t t':Tr} {z z':Nat} {s s':Shared} {th:Thread} {h:Heap},Rl t z h->m7 tb p w n₀ ann m t z s th=some (t',z',s')->
  ∃h',Rl t' z' h'/\h'.life=h.life/\topRun tb p w n₀ ann m {s with heap:=h} th=some {s' with heap:=h'}:=by
 intro m
 induction m with
 |zero=>intro t t' z z' s s' th h r e;cases e
 |succ m ih=>
  intro t t' z z' s s' th h r e;unfold m7 at e;unfold topRun;cases ht:through th with
  |true=>
   rw[ht] at e;cases e;exact⟨h,r,rfl,rfl⟩
  |false=>
   rw[ht] at e;cases hk:stepOk n₀ ann th with
   |false=>rw[hk] at e;cases e
   |true=>
    rw[hk] at e;dsimp only at e ⊢;cases ho:zN th.cur with
    |no=>rw[ho] at e;cases e
    |st=>
     rw[ho] at e;cases hs:step (denote tb) p w s th with
     |halt _ _=>rw[hs] at e;cases e
     |go s1 t1=>
      rw[hs] at e;rw[zhq (h:=h) ho hs];exact ih r e
    |ld a k=>
     rw[ho] at e;dsimp only at e;cases hg:oR t z a with
     |none=>rw[hg] at e;cases e
     |some o=>
      rw[hg] at e;rw[r.get] at hg;obtain⟨cur,code,pos,stack⟩:=th;obtain⟨q,rfl⟩:=zkJ ho;simp only[step,hg];exact ih r e
    |la a k=>
     rw[ho] at e;obtain⟨cur,code,pos,stack⟩:=th;obtain rfl:=zme ho;obtain⟨h',a1,b,c⟩:=ih r e;rw[r.get] at c;exact⟨h',a1,b,c⟩
    |up a f k=>
     rw[ho] at e;dsimp only at e;cases hg:oR t z a with
     |none=>rw[hg] at e;cases e
     |some o=>
      rw[hg] at e;rw[r.get] at hg;obtain⟨cur,code,pos,stack⟩:=th;obtain⟨q,rfl⟩:=zmq ho;obtain⟨h',a1,b,c⟩:=ih (r.upd hg) e;refine⟨h',a1,b.trans (by cases h;rfl),?_⟩;simp only[step,hg];exact c
    |al o k=>
     rw[ho] at e;cases hb:Nat.ble z 4095 with
     |false=>dsimp only at e;rw[hb] at e;cases e
     |true=>
      dsimp only at e;rw[hb] at e;obtain⟨cur,code,pos,stack⟩:=th;obtain rfl:=zl6 ho;obtain⟨h',a1,b,c⟩:=ih (r.push o (by have:=Nat.ble_eq.mp hb;lia)) e;refine⟨h',a1,b.trans (by cases h;rfl),?_⟩;simp only[step,r.sz];exact c
noncomputable def lst(g:Nat->Option Obj):Nat->Nat->List Obj
 |0,_=>[]
 |n+1,i=>match g i with
  |some o=>o::lst g n (i+1)
  |none=>[]
theorem Wx{g:Nat->Option Obj}:∀{l:List Obj} {i:Nat},(∀j,j<l.length->g (i+j)=l[j]?)->lst g l.length i=l
 |[],_,_=>rfl
 |o::l,i,h=>by
  have h0:=h 0 (Nat.zero_lt_succ _);show (match g i with|some o=>o::lst g l.length (i+1)|none=>[])=_;rw[show g i=some o from h0,Wx (l:=l) λj hj=>by rw[show i+1+j=i+(j+1) by lia];exact h (j+1) (Nat.succ_lt_succ hj)]
noncomputable def xQ(t:Tr)(z:Nat)(l:Life):Heap:=⟨⟨lst (t.get 12) z 0⟩,l⟩
theorem Rl.xQ{t:Tr}{z:Nat}{h:Heap}(r:Rl t z h):xQ t z h.life=h:=by
 obtain⟨⟨objs⟩,l⟩:=h;have sz:objs.length=z:=r.sz;subst sz;unfold Mi.xQ;rw[Wx λj hj=>by rw[Fe];exact(r.at_ j hj).trans Rb]
noncomputable def KY:List Obj->Nat->Tr->Tr
 |[],_,t=>t
 |o::r,i,t=>KY r (i+1) (t.put 12 i o)
theorem Wy{l:Life}:∀{r a:List Obj} {t:Tr},(a++r).length<=4096->Rl t a.length ⟨⟨a⟩,l⟩->Rl (KY r a.length t) (a++r).length ⟨⟨a++r⟩,l⟩
 |[],a,t,_,h=>by rw[vo];exact h
 |o::r,a,t,hl,h=>by
  have h2:=h.push o (by rw[dH,fX] at hl;lia);have e:a++o::r=(a++[o])++r:=by simp
  rw[e] at hl ⊢;have h3:=Wy (l:=l) (r:=r) (a:=a++[o]) (t:=t.put 12 a.length o) hl (by
   rw[dH];have e2:(⟨⟨a++[o]⟩,l⟩ : Heap)=Heap.push ⟨⟨a⟩,l⟩ o:=by unfold Heap.push;simp
   rw[e2];exact h2)
  rw[dH] at h3;exact h3
noncomputable def sE(p:Program)(w:World)(N:Nat):Option Shared:=(fencedOpening treeTable p w N).bind λs₀=>match s₀.heap.isNs mainGlobals&&s₀.gens.size==0&&Nat.ble s₀.heap.objs.size 4096 with
 |true=>(m7 treeTable p w s₀.heap.objs.size (s₀.heap.nsMap mainGlobals "__annotations__") N (KY s₀.heap.objs.toList 0 .em) s₀.heap.objs.size s₀ (topStub p)).bind λr=>
  match staticsOk (importedModules p.main.body) s₀.heap (xQ r.1 r.2.1 s₀.heap.life)&&namesBound p (xQ r.1 r.2.1 s₀.heap.life)&&gensDone r.2.2&&laidKept s₀.heap (xQ r.1 r.2.1 s₀.heap.life) with
   |true=>some {r.2.2 with heap:=xQ r.1 r.2.1 s₀.heap.life}
   |false=>none
 |false=>none
theorem zhe{p:Program}{w:World}{N:Nat}{s:Shared}(e:sE p w N=some s):openEnds treeTable p w N=some s:=by
 unfold sE at e;unfold openEnds;obtain⟨s₀,h0,e⟩:=vh.mp e;rw[h0];show topFrom treeTable p w N s₀=some s;unfold topFrom;cases hb:(s₀.heap.isNs mainGlobals&&s₀.gens.size==0&&Nat.ble s₀.heap.objs.size 4096) with
 |false=>rw[hb] at e;cases e
 |true=>
  rw[hb] at e;obtain⟨h1,h2⟩:=Ol.mp hb;rw[h1];obtain⟨⟨t,z,s₁⟩,h3,e⟩:=vh.mp e;have r0:Rl (KY s₀.heap.objs.toList 0 .em) s₀.heap.objs.size s₀.heap:=Wy (l:=s₀.heap.life) (r:=s₀.heap.objs.toList) (a:=[]) (t:=.em) (Nat.ble_eq.mp h2) ⟨rfl,vq _,λa ha=>absurd ha (Ky a)⟩;obtain⟨h',r,l,c⟩:=zi6 N r0 h3;dsimp only at e ⊢;rw[show ({s₀ with heap:=s₀.heap}:Shared)=s₀ from rfl] at c;rw[c];rw[<-l,r.xQ] at e;exact e
theorem fe{p:Program}{w:World}{N:Nat}{α:Type}{f:Shared->α}{v:α}(e:(sE p w N).map f=some v):(openEnds treeTable p w N).map f=some v:=by
 obtain⟨s,h,e⟩:=iZ.mp e;rw[zhe h,<-e];rfl
structure Bd where
 n:Str
 fs:List Str
 ms:List (Str×Str×Stmt)
noncomputable def kY(K:Frag)(C:Addr)(m:Str):Option (Addr×FuncData):=match findIn K (.ref C) m with
 |some (some (.ref f))=>(match K.lookup f with
  |some ⟨_,_,.func fd,_⟩=>(match codeIn K fd.code fd.qualname&&keepIn K (.ref f)&&isFn K (.ref f) with
   |true=>some (f,fd)
   |false=>none)
  |_=>none)
 |_=>none
noncomputable def CK(m q:Str)(st:Stmt):FuncData:=fnOf m q (aO st) (aL st) (au st) .none .none .none .none none .none .none
noncomputable def xR(K:Frag)(b:Bd):Bool:=rZ K b.n&&plainGet K (dN K b.n) Str.empty&&hasDictIn K (dN K b.n)&&plainOver K (dN K b.n)&&findIn K (.ref (dN K b.n)) "__setattr__"==some (some (.builtin "object.__setattr__"))&&makesIn K (dN K b.n)&&keepIn K (.ref (dN K b.n))&&b.fs.all (λf=>findIn K (.ref (dN K b.n)) f==some none)
noncomputable def zO(b:Bd)(s:Shared):List (Option FuncData)×Bool:=(b.ms.map λp=>(kY (bK s.heap) (dN (bK s.heap) b.n) p.1).map λq=>m5 q.2,xR (bK s.heap) b)
noncomputable def zP(b:Bd):List (Option FuncData)×Bool:=(b.ms.map λp=>some (CK p.1 p.2.1 p.2.2),true)
theorem ziR{p q:Program}{loose:List Str}{Xt:Shared->Bool}{N:Nat}{fs:List (Str×Stmt)}{ms:List su}{xs:List (Nat×Str)}{l:Lk}{b:Bd}(h:LeftO p q loose Xt (lM fs ms xs l) (m6 fs ms) N)(e:∀w,(openEnds treeTable p w N).map (zO b)=some (zP b)) :
  LeftO p q loose Xt (λs=>(lM fs ms xs l s,zO b s)) (λw=>(m6 fs ms w,zP b)) N:=by
 intro w;have h:=h w;have e:=e w;cases z:openEnds treeTable p w N with
 |none=>rw[z] at e;cases e
 |some s=>
  rw[z] at h e;have e:zO b s=zP b:=cW e;have h:=cW h;have h1:=mY Prod.fst h;have h2:=mY Prod.snd h;show some (_,_,_)=some (_,_,_);rw[e];exact mY some (Prod.ext h1 (Prod.ext h2 rfl))
end Mi
namespace dW
open PySem PySem.Spec PyProof.Rows PySem.W L2 Mi
noncomputable def top(i:Nat):Stmt:=PySem.Challenge.pw_ringhues_k13_papers_told.main.body.getD i (.Pass ⟨0,0,0,0⟩)
noncomputable def CP:Stmt:=(dZ (top 19)).getD 0 (.Pass ⟨0,0,0,0⟩)
noncomputable def Fz:Stmt:=(dZ (top 19)).getD 1 (.Pass ⟨0,0,0,0⟩)
noncomputable def CQ:Stmt:=(dZ (top 19)).getD 2 (.Pass ⟨0,0,0,0⟩)
noncomputable def CT:Stmt:=(dZ (top 19)).getD 3 (.Pass ⟨0,0,0,0⟩)
noncomputable def CV:Stmt:=(dZ (top 19)).getD 4 (.Pass ⟨0,0,0,0⟩)
noncomputable def FJ:Stmt:=(dZ (top 19)).getD 5 (.Pass ⟨0,0,0,0⟩)
noncomputable def CW:Stmt:=(dZ (top 19)).getD 6 (.Pass ⟨0,0,0,0⟩)
noncomputable def bd:Bd:=⟨"Board",["ends","spots","apart","alike"],[("__init__","Board.__init__",CP),("far_apart","Board.far_apart",Fz),("settled","Board.settled",CQ),("ties_left","Board.ties_left",CT),("bound","Board.bound",CV),("narrowest","Board.narrowest",FJ),("all_free","Board.all_free",CW)]⟩
noncomputable def fs1:List (Str×Stmt):=("is_whole",top 6)::("is_within",top 7)::("is_row",top 8)::("is_web",top 11)::("is_many",top 12)::("is_place",top 13)::("is_tie",top 14)::("check_web",top 15)::("tied_to",top 16)::("all_ends",top 17)::("ring_board",top 20)::("is_ring",top 23)::("is_spot",top 24)::("check_ring",top 25)::("first_known",top 27)::("are_known",top 28)::("check_known",top 29)::("first_among",top 30)::("first_spot",top 31)::[]
noncomputable def qD:List (Str×Stmt):=("can_settle",top 32)::("search",top 33)::("none_for",top 37)::("is_stuck",top 38)::("paper_of",top 39)::("case_of",top 40)::("_law_cell",top 42)::("_law_pen",top 43)::("_law_draw",top 44)::("_law_whole",top 45)::("_law_web",top 46)::("_law_apart",top 47)::("_law_known",top 48)::("_law_first_with",top 49)::("_law_ends",top 50)::("_law_put",top 51)::("_law_paper",top 52)::("_law_right",top 53)::("law",top 54)::[]
noncomputable abbrev fs:List (Str×Stmt):=fs1++qD
noncomputable def lk:Lk:=⟨[],[("MOST_PLACES",8),("MOST_SPOTS",24)],["abs","all","bool","divmod","enumerate","int","isinstance","len","list","max","min","range","sorted","str","tuple","zip"],[],[],[("END","end"),("CASE","case")]⟩
noncomputable def ms:List su:=[]
noncomputable def xs:List (Nat×Str):=[]
noncomputable abbrev pv:Program:=PySem.Challenge.pw_ringhues_k13_papers_told
noncomputable def qv:Program:={pv with main:={pv.main with body:=[pv.main.body.getD 54 (.Pass ⟨0,0,0,0⟩)]}}
noncomputable def loose:List Str:=(["HueError","NoRing","NoHues","NoWeb","is_whole","is_within","is_row","MOST_PLACES","is_web","is_many","is_place","is_tie","check_web","tied_to","all_ends","Board","ring_board","MOST_SPOTS","is_ring","is_spot","check_ring","first_known","are_known","check_known","first_among","first_spot","can_settle","search","END","CASE","none_for","is_stuck","paper_of","case_of","_law_cell","_law_pen","_law_draw","_law_whole","_law_web","_law_apart","_law_known","_law_first_with","_law_ends","_law_put","_law_paper","_law_right"]:List String).map Str.ofString
theorem zm4(w:World):(openEnds treeTable pv w 20000).map (λs=>openSeen qv loose (importedModules pv.main.body) (λs=>xlAt qv [] s&&recOk [] s) true s)=some (openGood qv loose):=by
 refine fe ?_
 kernel_rfl
theorem zlp(w:World):(openEnds treeTable pv w 20000).map (KR fs1)=some (fs1.map λp=>some (uJ p.1 p.2)):=by
 refine fe ?_
 kernel_rfl
theorem zlM(w:World):(openEnds treeTable pv w 20000).map (KR qD)=some (qD.map λp=>some (uJ p.1 p.2)):=by
 refine fe ?_
 kernel_rfl
theorem zk1(w:World):(openEnds treeTable pv w 20000).map (Ww ms xs lk)=some (ms.map (λm=>some (zM m.q m.st)),true):=by
 refine fe ?_
 kernel_rfl
theorem ws:PySem.Challenge.rw_ringhues_k13_papers_told.wellSaid=true:=by
 kernel_rfl
theorem wt:PySem.Challenge.rw_ringhues_k13_papers_told.row.prog.tablesWhole=true:=by
 decide +kernel
theorem wc:(chainsOk qv&&opensWell PySem.Challenge.rw_ringhues_k13_papers_told.row.prog&&(frees PySem.Challenge.rw_ringhues_k13_papers_told.row.toRowW&&PySem.Challenge.rw_ringhues_k13_papers_told.row.within.isEmpty))=true:=by
 decide +kernel
theorem zlS(w:World):(openEnds treeTable pv w 20000).map (zO bd)=some (zP bd):=by
 refine fe ?_
 kernel_rfl
theorem left:LeftO pv qv loose (λs=>xlAt qv [] s&&recOk [] s) (λs=>(lM fs ms xs lk s,zO bd s)) (λw=>(m6 fs ms w,zP bd)) 20000:=ziR (zeX zm4 zlp zlM zk1) zlS
end dW
namespace L2
open PySem PySem.Spec PyProof.Rows
theorem dX{α:Sort u}{β:Sort v}{A B C:α->β->Prop}{P:Prop}(h:∃x y,A x y/\B x y/\C x y)(k:∀x y,A x y->B x y->C x y->P):P:=by
 obtain⟨x,y,a,b,c⟩:=h;exact k x y a b c
theorem KZ{α:Sort u}{β:Sort v}{γ:Sort w}{A B:α->β->Prop}{C D:α->β->γ->Prop}{P:Prop}(h:∃x y,A x y/\B x y/\∃z,C x y z/\D x y z)(k:∀x y,A x y->B x y->∀z,C x y z->D x y z->P):P:=by
 obtain⟨x,y,a,b,z,c,d⟩:=h;exact k x y a b z c d
theorem uK{α:Sort u}{A B:α->Prop}{P:Prop}(h:∃x,A x/\B x)(k:∀x,A x->B x->P):P:=by
 obtain⟨x,a,b⟩:=h;exact k x a b
noncomputable abbrev Key:=Sum Int Str
noncomputable def xT:Key->Value->Bool
 |.inl k,v=>Value.isInt k v
 |.inr x,v=>Value.isStrOf x v
noncomputable def Pa(w:World):Key->Int
 |.inl k=>hashInt k
 |.inr x=>hashStr w x
theorem vA:∀{k:Key} {v:Value},xT k v=true->(∃i t,k=Sum.inl i/\v=Value.int i t)\/(∃x t,k=Sum.inr x/\v=Value.str x t)
 |.inl i,v,h=>by
  obtain⟨t,e⟩:=Value.isInt_shape (k:=i) (v:=v) h;exact .inl ⟨i,t,rfl,e⟩
 |.inr x,v,h=>by
  obtain⟨t,e⟩:=Value.isStrOf_shape (x:=x) (v:=v) h;exact .inr ⟨x,t,rfl,e⟩
theorem zkG(a b:Int):decide ((Sum.inl a:Key)=Sum.inl b)=(a==b):=by
 by_cases e:a=b
 ·subst e;simp
 ·have h:¬(Sum.inl a:Key)=Sum.inl b:=λq=>e (Sum.inl.inj q);rw[gQ h];exact(w6.mpr e).symm
theorem zlQ(a b:Str):decide ((Sum.inr a:Key)=Sum.inr b)=decide (a=b):=by
 by_cases e:a=b
 ·subst e;simp
 ·have h:¬(Sum.inr a:Key)=Sum.inr b:=λq=>e (Sum.inr.inj q);rw[gQ h,gQ e]
theorem zkA(a:Int)(b:Str):decide ((Sum.inl a:Key)=Sum.inr b)=false:=gQ (λq=>nomatch q)
theorem zlF(a:Str)(b:Int):decide ((Sum.inr a:Key)=Sum.inl b)=false:=gQ (λq=>nomatch q)
noncomputable def lN(prog:Program)(w:World):PySem.KeyKind prog w Key where
 is:=xT
 hash:=Pa w
 inj:=λv a b ha hb=>by
  rcases vA ha with ⟨i,t,rfl,rfl⟩|⟨x,t,rfl,rfl⟩
  ·rcases vA hb with ⟨j,u,rfl,e⟩|⟨y,u,rfl,e⟩
   ·injection e with e1 _;rw[e1]
   ·exact nomatch e
  ·rcases vA hb with ⟨j,u,rfl,e⟩|⟨y,u,rfl,e⟩
   ·exact nomatch e
   ·injection e with e1 _;rw[e1]
 byValue:=λk v h=>by
  rcases vA h with ⟨i,t,rfl,rfl⟩|⟨x,t,rfl,rfl⟩<;>rfl
 pyHash:=λhv h=>by
  rcases vA hv with ⟨i,t,rfl,rfl⟩|⟨x,t,rfl,rfl⟩
  ·exact wpAny_pyHash_int h
  ·exact wpAny_pyHash_str h
 eqBool:=λhu hv h=>by
  rcases vA hu with ⟨i,t,rfl,rfl⟩|⟨x,t,rfl,rfl⟩
  ·rcases vA hv with ⟨j,u,rfl,rfl⟩|⟨y,u,rfl,rfl⟩
   ·rw[zkG] at h;exact wpAny_eqBool_int h
   ·rw[zkA] at h;exact SeqAt.EqAt.int_str i t y u _ _ _ _ h
  ·rcases vA hv with ⟨j,u,rfl,rfl⟩|⟨y,u,rfl,rfl⟩
   ·rw[zlF] at h;exact SeqAt.EqAt.str_int x t j u _ _ _ _ h
   ·rw[zlQ] at h;exact wpAny_eqBool_str h
 «strs»:=λk x t v h=>by
  rcases vA h with ⟨i,u,rfl,e⟩|⟨y,u,rfl,e⟩
  ·exact nomatch e
  ·injection e with e1 _;subst e1;cases v<;>rfl
inductive V where
 |non|bl (b:Bool)|int (i:Int)|str (x:Str)|zQ (b:Array UInt8)|flt (b:UInt64)|ref (a:Addr)|ty (n:String)
 deriving DecidableEq
noncomputable def RelV:V->Value->Prop
 |.non,u=>u=Value.none
 |.bl b,u=>u=Value.bool b
 |.int i,u=>∃t,u=Value.int i t
 |.str x,u=>∃t,u=Value.str x t
 |.zQ b,u=>∃t,u=Value.bytes b t
 |.flt b,u=>∃t,u=Value.float b t
 |.ref a,u=>u=Value.ref a
 |.ty n,u=>u=Value.type n
noncomputable abbrev Vals:List V->List Value->Prop:=Paired RelV
theorem Vals.length{xs:List V}{us:List Value}(r:Vals xs us):xs.length=us.length:=Paired.length r
theorem Vals.get:∀{xs:List V} {us:List Value} {i:Nat} {x:V},Vals xs us->xs[i]?=some x->∃u,us[i]?=some u/\RelV x u
 |_,_,_,_,.nil,e=>by simp at e
 |_,_,0,_,.cons r _,e=>by simp at e;subst e;exact⟨_,rfl,r⟩
 |_,_,i+1,x,.cons _ t,e=>by
  obtain⟨u,h1,h2⟩:=Vals.get (i:=i) (x:=x) t (by simpa using e);exact⟨u,by simpa using h1,h2⟩
theorem Vals.set{x:V}{u:Value}(r:RelV x u):∀{xs:List V} {us:List Value} (i:Nat),Vals xs us->Vals (xs.set i x) (us.set i u)
 |_,_,_,.nil=>.nil
 |_,_,0,.cons _ t=>.cons r t
 |_,_,i+1,.cons q t=>.cons q (Vals.set r i t)
theorem Vals.append{xs ys:List V}{us ws:List Value}(h:Vals xs us)(s:Vals ys ws):Vals (xs++ys) (us++ws):=by
 induction h with
 |nil=>exact s
 |cons r _ ih=>exact .cons r ih
theorem Vals.take:∀{xs:List V} {us:List Value} (n:Nat),Vals xs us->Vals (xs.take n) (us.take n)
 |_,_,0,_=>.nil
 |_,_,_+1,.nil=>.nil
 |_,_,n+1,.cons r t=>.cons r (Vals.take n t)
theorem Vals.drop:∀{xs:List V} {us:List Value} (n:Nat),Vals xs us->Vals (xs.drop n) (us.drop n)
 |_,_,0,r=>r
 |_,_,_+1,.nil=>.nil
 |_,_,n+1,.cons _ t=>Vals.drop n t
noncomputable def qF:Option V->Option Value->Prop
 |some v,some u=>RelV v u
 |none,none=>True
 |_,_=>False
noncomputable def KV{κ:Type}:List (κ×V)->List (κ×Value)->Prop:=Paired λ(p:κ×V) (q:κ×Value)=>p.1=q.1/\RelV p.2 q.2
noncomputable def kV:Key->V
 |.inl i=>.int i
 |.inr x=>.str x
inductive HO where
 |lst (xs:List V)
 |tup (xs:List V)
 |dK (kvs:List (Key×V))|dT (kvs:List (List Key×V))
 |set (S:Int->Bool) (n:Nat)
 |ins (C dx:Addr) (fs:List (Str×V))
 |own (x:Addr)
 |xd (fs:List (Str×V))
 |met (f x:Addr)
 |rng (lo hi:Int)
 |uL (o:Obj) (u:HO)
 |zR (ps:Array Value)
 |ext (U:Heap->Prop)
noncomputable abbrev Hp:=Addr->Option HO
noncomputable def upd(H:Hp)(a:Addr)(o:HO):Hp:=λb=>if b=a then some o else H b
theorem jO{H:Hp}{a:Addr}{o:HO}:upd H a o a=some o:=by unfold upd;rw[if_pos rfl]
theorem eE{H:Hp}{a b:Addr}{o:HO}(h:b≠a):upd H a o b=H b:=by unfold upd;rw[if_neg h]
theorem zkg{H:Hp}{a:Addr}{o u:HO}:upd (upd H a o) a u=upd H a u:=by
 funext b;unfold upd;split<;>rfl
theorem CZ{H:Hp}{a b:Addr}{o:HO}(h:H a=some o)(h':H b=none):a≠b:=by
 intro e;subst e;rw[h] at h';cases h'
def jB(h:Heap)(a:Addr)(items:Array Value):Prop:=∃o,h.get? a=some o/\o.cls=.type "tuple"/\∃n,o.data=.seq items n/\o.dict=none
theorem jB.tup{h:Heap}{a:Addr}{items:Array Value}(x:jB h a items):IsTup h a items:=by
 obtain⟨o,h1,h2,n,h3,_⟩:=x;exact⟨o,h1,h2,n,h3⟩
theorem jB.lt{h:Heap}{a:Addr}{items:Array Value}(x:jB h a items):a<h.objs.size:=x.tup.lt
theorem jB.new(h:Heap)(xs:Array Value):jB (h.push {cls:=.type "tuple",data:=.seq xs}) h.objs.size xs:=⟨_,fu h rfl,rfl,_,rfl,rfl⟩
section
variable (P:Program)(w:World)
noncomputable def bH(H:Hp)(h:Heap)(a:Addr):HO->Prop
 |.lst xs=>xs.length<=sizeLine/\∃(its:List Value) (n:Nat),Vals xs its/\h.get? a=some {cls:=.type "list",data:=.seq its.toArray n}
 |.tup xs=>xs.length<=sizeLine/\∃its:List Value,Vals xs its/\jB h a its.toArray
 |.dK kvs=>kvs.length<=sizeLine/\(a==sysModules)=false/\∃vs,KV kvs vs/\h.DictOf (lN P w) a vs
 |.dT kvs=>kvs.length<=sizeLine/\(a==sysModules)=false/\∃xs:List (List Key×Addr×Value),
   Paired (λ(p:List Key×V) (q:List Key×Addr×Value)=>p.1=q.1/\H q.2.1=some (.tup (p.1.map kV))/\RelV p.2 q.2.2) kvs xs /\
   ∃o es ep,h.get? a=some o/\o.ExactDict/\o.data=.dict es ep/\es.toList=xs.map (entryOfKey (tupleKind (lN P w)))/\(xs.map (·.1)).Nodup
 |.set S n=>h.SetOf (intKind P w) a S n
 |.ins C dx fs=>H dx=some (.own a)/\fs.length<=1000/\dx≠a/\h.get? a=some (PySem.W.instObj C dx) /\
   ∃mA,h.Ns1 dx mA/\(∀f,qF (fs.lookup f) (mA f))/\PySem.Within mA (fs.map (·.1))
 |.own _=>∃o,h.get? a=some o
 |.xd fs=>∃mA,h.Ns1 a mA/\∀f,qF (fs.lookup f) (mA f)
 |.rng lo hi=>∃t u v,h.get? a=some {cls:=.type "range",data:=.fields #[.int lo t,.int hi u,.int 1 v]}
 |.uL o u=>h.get? a=some o/\bH H h a u
 |.zR ps=>h.get? a=some {cls:=.none,data:=.fields ps}
 |.met f x=>h.get? a=some (PySem.W.methodObj (.ref f) (.ref x))
 |.ext U=>U h/\(∃o,h.get? a=some o)/\∀h1 h2:Heap,U h1->(∀o,h1.get? a=some o->h2.get? a=some o)->U h2
def iC(H:Hp)(h:Heap):Prop:=∀a o,H a=some o->bH P w H h a o
end
section
variable {P:Program}{w:World}{H H':Hp}{h h':Heap}{a:Addr}{o:HO}
theorem bH.lt(x:bH P w H h a o):a<h.objs.size:=by
 cases o with
 |lst xs=>obtain⟨_,_,_,_,e⟩:=x;exact bW e
 |tup xs=>obtain⟨_,_,_,p⟩:=x;exact p.lt
 |dK kvs=>obtain⟨_,_,_,_,o,_,_,e,_⟩:=x;exact bW e
 |dT kvs=>obtain⟨_,_,_,_,o,_,_,e,_⟩:=x;exact bW e
 |set S n=>obtain⟨o,_,_,_,e,_⟩:=x;exact bW e
 |ins C dx fs=>obtain⟨_,_,_,e,_⟩:=x;exact bW e
 |own y=>obtain⟨_,e⟩:=x;exact bW e
 |xd fs=>obtain⟨_,⟨_,_,_,e,_⟩,_⟩:=x;exact bW e
 |rng lo hi=>obtain⟨_,_,_,e⟩:=x;exact bW e
 |uL ob u=>obtain⟨e,_⟩:=x;exact bW e
 |zR ps=>exact bW (show h.get? a=some _ from x)
 |met f y=>exact bW (show h.get? a=some _ from x)
 |ext U=>obtain⟨_,⟨_,e⟩,_⟩:=x;exact bW e
theorem Wz{α β:Type}{F G:α->β->Prop}:∀{l₁:List α} {l₂:List β},Paired F l₁ l₂->(∀a b,F a b->G a b)->Paired G l₁ l₂
 |_,_,.nil,_=>.nil
 |_,_,.cons r t,f=>.cons (f _ _ r) (Wz t f)
theorem bH.stay(x:bH P w H h a o)(k:∀b u,(b=a\/H b=some (.own a))->h.get? b=some u->h'.get? b=some u)
  (ho:∀b,H b=some (.own a)->H' b=some (.own a)) (ht:∀b xs,H b=some (.tup xs)->H' b=some (.tup xs)):bH P w H' h' a o:=by
 induction o with
 |lst xs=>obtain⟨z,its,n,r,e⟩:=x;exact⟨z,its,n,r,k _ _ (.inl rfl) e⟩
 |tup xs=>obtain⟨z,its,r,ob,e,c⟩:=x;exact⟨z,its,r,ob,k _ _ (.inl rfl) e,c⟩
 |dK kvs=>obtain⟨z,y,vs,r,ob,es,ep,e,c⟩:=x;exact⟨z,y,vs,r,ob,es,ep,k _ _ (.inl rfl) e,c⟩
 |dT kvs=>
  obtain⟨z,y,xs,r,ob,es,ep,e,c⟩:=x;exact⟨z,y,xs,Wz r λp q z=>⟨z.1,ht _ _ z.2.1,z.2.2⟩,ob,es,ep,k _ _ (.inl rfl) e,c⟩
 |set S n=>obtain⟨ob,es,ep,t,e,c⟩:=x;exact⟨ob,es,ep,t,k _ _ (.inl rfl) e,c⟩
 |ins C dx fs=>
  obtain⟨d,z,ne,e,mA,⟨od,es,ep,e2,c⟩,r⟩:=x;exact⟨ho _ d,z,ne,k _ _ (.inl rfl) e,mA,⟨od,es,ep,k _ _ (.inr d) e2,c⟩,r⟩
 |own y=>obtain⟨ob,e⟩:=x;exact⟨ob,k _ _ (.inl rfl) e⟩
 |xd fs=>obtain⟨mA,⟨od,es,ep,e,c⟩,r⟩:=x;exact⟨mA,⟨od,es,ep,k _ _ (.inl rfl) e,c⟩,r⟩
 |rng lo hi=>obtain⟨t,u,v,e⟩:=x;exact⟨t,u,v,k _ _ (.inl rfl) e⟩
 |uL ob u ih=>obtain⟨e,q⟩:=x;exact⟨k _ _ (.inl rfl) e,ih q⟩
 |zR ps=>
  have e:h.get? a=some {cls:=.none,data:=.fields ps}:=x;show h'.get? a=some {cls:=.none,data:=.fields ps};exact k a _ (.inl rfl) e
 |met f y=>
  have e:h.get? a=some (PySem.W.methodObj (.ref f) (.ref y)):=x;show h'.get? a=some (PySem.W.methodObj (.ref f) (.ref y));exact k a _ (.inl rfl) e
 |ext U=>obtain⟨p,⟨o,e⟩,st⟩:=x;exact⟨st _ _ p λo q=>k _ _ (.inl rfl) q,⟨o,k _ _ (.inl rfl) e⟩,st⟩
theorem iC.lt(x:iC P w H h)(e:H a=some o):a<h.objs.size:=(x a o e).lt
theorem iC.fresh(x:iC P w H h)(e:h.objs.size<=a):H a=none:=by
 cases q:H a with
 |none=>rfl
 |some u=>exact absurd (iB (x.lt q) e) (qC _)
theorem iC.kept(x:iC P w H h)(k:∀b u,h.get? b=some u->h'.get? b=some u):iC P w H h':=λa o e=>
 (x a o e).stay (λb u _ q=>k b u q) (λ_ q=>q) λ_ _ q=>q
theorem iC.laid(x:iC P w H h)(k:∀b u,h.get? b=some u->h'.get? b=some u)(hp:h.objs.size<=a)(new:bH P w (upd H a o) h' a o):iC P w (upd H a o) h':=λb u e=>by
 have hn:=x.fresh hp;by_cases hb:b=a
 ·subst hb;rw[jO] at e;cases e;exact new
 ·rw[eE hb] at e;exact(x b u e).stay (λc v _ q=>k c v q) (λc q=>by rw[eE (CZ q hn)];exact q) λc xs q=>by rw[eE (CZ q hn)];exact q
end
def Rd(H:Hp)(a:Addr)(u:HO):Prop:=H a=some u\/∃o,H a=some (.uL o u)
theorem Rd.ok{P:Program}{w:World}{H:Hp}{h:Heap}{a:Addr}{u:HO}(r:Rd H a u)(x:iC P w H h):bH P w H h a u:=by
 rcases r with r|⟨o,r⟩
 ·exact x a u r
 ·obtain⟨_,q⟩:=x a _ r;exact q
noncomputable def FN:Option HO->Prop
 |some (.lst _)=>True
 |some (.dK _)=>True
 |some (.dT _)=>True
 |some (.set _ _)=>True
 |some (.ins _ _ _)=>True
 |some (.ext _)=>True
 |_=>False
section
variable {P:Program}{w:World}{H:Hp}{h h':Heap}{x e:Addr}{o':HO}
theorem iC.write(ok:iC P w H h)(mu:FN (H x))(he:e=x\/H e=some (.own x))(k:∀b u,b≠e->h.get? b=some u->h'.get? b=some u)(C_:∃u,h'.get? e=some u)
  (new:bH P w (upd H x o') h' x o'):iC P w (upd H x o') h':=λb u q=>by
 have FP:∀c y,H c=some (.own y)->c≠x:=λc y r z=>by subst z;rw[r] at mu;exact mu
 have Pb:∀c xs,H c=some (.tup xs)->c≠x:=λc xs r z=>by subst z;rw[r] at mu;exact mu
 by_cases hb:b=x
 ·subst hb;rw[jO] at q;cases q;exact new
 ·rw[eE hb] at q;by_cases zT:b=e
  ·have q':H b=some (.own x):=by
    rcases he with z|z
    ·exact absurd (zT.trans z) hb
    ·rw[zT];exact z
   rw[q] at q';cases q';obtain⟨v,hv⟩:=C_;exact⟨v,by rw[zT];exact hv⟩
  ·refine(ok b u q).stay (λc v hc r=>k c v ?_ r) (λc r=>by rw[eE (FP c b r)];exact r) λc xs r=>by rw[eE (Pb c xs r)];exact r
   rcases hc with rfl|hc
   ·exact zT
   ·rintro rfl;rcases he with z|z
    ·exact FP c b hc z
    ·rw[hc] at z;cases z;exact hb rfl
end
structure Un(fs ex:List Addr)(H H':Hp)(h h':Heap):Prop where
 keep:∀b o,h.get? b=some o->H b=none->b∉fs->b∉ex->h'.get? b=some o
 slot:∀b o,h.get? b=some o->H b=none->b∈fs->b∉ex->∃sl,h'.get? b=some {o with slots:=sl}
 free:∀b o,h.get? b=some o->H b=none->b∉ex->H' b=none
 there:∀b o,h.get? b=some o->b∉ex->∃o',h'.get? b=some o'
 tups:∀b xs,H b=some (.tup xs)->H' b=some (.tup xs)
 jX:∀b o u,H b=some (.uL o u)->H' b=some (.uL o u)
 lO:∀b ps,H b=some (.zR ps)->∃more,H' b=some (.zR (ps++more))
section
variable {fs fs' ex ex':List Addr}{H H1 H2:Hp}{h h1 h2 h':Heap}{a x e:Addr}{o:HO}
theorem Un.any(u:Un fs ex H H1 h h1){b:Addr}{ob:Obj}(q:h.get? b=some ob)(n:H b=none)(hx:b∉ex):∃sl,h1.get? b=some {ob with slots:=sl}:=by
 by_cases hb:b∈fs
 ·exact u.slot b ob q n hb hx
 ·exact⟨ob.slots,u.keep b ob q n hb hx⟩
theorem Un.kept(k:∀b u,h.get? b=some u->h'.get? b=some u):Un fs ex H H h h':=
 ⟨λb ob q _ _ _=>k b ob q,λb ob q _ _ _=>⟨ob.slots,k b ob q⟩,λ_ _ _ n _=>n,λb ob q _=>⟨ob,k b ob q⟩,λ_ _ q=>q,λ_ _ _ q=>q,λ_ ps q=>⟨#[],by rw[q];simp⟩⟩
theorem Un.refl:Un fs ex H H h h:=Un.kept λ_ _ q=>q
theorem Un.laid(k:∀b u,h.get? b=some u->h'.get? b=some u)(hp:h.objs.size<=a)(hn:H a=none):Un fs ex H (upd H a o) h h' where
 keep:=λb u q _ _ _=>k b u q
 slot:=λb u q _ _ _=>⟨u.slots,k b u q⟩
 free:=λb u q n _=>by rw[eE (dU (iB (bW q) hp))];exact n
 there:=λb u q _=>⟨u,k b u q⟩
 tups:=λb xs q=>by rw[eE (CZ q hn)];exact q
 jX:=λb u xs q=>by rw[eE (CZ q hn)];exact q
 lO:=λb ps q=>⟨#[],by rw[eE (CZ q hn),q];simp⟩
theorem Un.write(mu:FN (H x))(he:e=x\/H e=some (.own x))(k:∀b u,b≠e->h.get? b=some u->h'.get? b=some u)(C_:∃u,h'.get? e=some u):Un fs ex H (upd H x o) h h':=by
 have hx:∀b,H b=none->b≠x:=λb n z=>by subst z;rw[n] at mu;exact mu
 have hb:∀b,H b=none->b≠e:=λb n z=>by
  subst z;rcases he with r|r
  ·exact hx b n r
  ·rw[n] at r;cases r
 have hm:∀b u,H b=some u->¬FN (some u)->b≠x:=λb u q nm z=>by subst z;rw[q] at mu;exact nm mu
 refine⟨λb u q n _ _=>k b u (hb b n) q,λb u q n _ _=>⟨u.slots,k b u (hb b n) q⟩,λb u q n _=>by rw[eE (hx b n)];exact n,λb u q _=>?_,
  λb xs q=>by rw[eE (hm b _ q λz=>z)];exact q,λb u xs q=>by rw[eE (hm b _ q λz=>z)];exact q,λb ps q=>⟨#[],by rw[eE (hm b _ q λz=>z),q];simp⟩⟩
 by_cases zT:b=e
 ·subst zT;exact C_
 ·exact⟨u,k b u zT q⟩
end
noncomputable def K1(h:Heap)(H:Hp):List Addr:=(List.range h.objs.size).filter λa=>(H a).isSome
noncomputable def lQ(h:Heap)(H:Hp):Heap:=PySem.W.hideAll h (K1 h H)
theorem zfu(h:Heap)(H:Hp):(lQ h H).objs.size=h.objs.size:=PySem.W.hideAll_size _ _
theorem zht{h:Heap}{H:Hp}{b:Addr}{o:Obj}(e:h.get? b=some o)(n:H b=none):(lQ h H).get? b=some o:=
 PySem.W.hideAll_get _ e λhm=>by
  have q:(H b).isSome=true:=(oh.mp hm).2;rw[n] at q;simp at q
theorem zjc{h:Heap}{H:Hp}{b:Addr}{o:Obj}(e:(lQ h H).get? b=some o):h.get? b=some o/\H b=none:=by
 have e':h.get? b=some o:=PySem.W.of_hideAll (K1 h H) e;refine⟨e',?_⟩;cases q:H b with
 |none=>rfl
 |some x=>
  have hm:b∈K1 h H:=oh.mpr ⟨uG.mpr (bW e'),by simp[q]⟩;have z:(lQ h H).get? b=none:=PySem.W.hideAll_none (K1 h H) hm;rw[z] at e;cases e
structure Mod(K:W.Frag)(mg:Str->Option Value)(base:Heap):Prop where
 xP:K.In base
 glob:base.Ns mainGlobals mg
 blt:∃mb,base.Ns builtinsNs mb/\∀x:Str,x≠"__name__"->mb x=bootBuiltins x
 nolimit:base.NoLimit
structure Cx where
 prog:Program
 w:World
 K:W.Frag
 mg:Str->Option Value
 base:Heap
 A:Around
 N:List Str
 s₀:Shared
 H₀:Hp
 env:Env
 outer:List Env
 stack:List Env
 ex:List Addr
 fn:Str->Bool
 aj:Bool
 pn:List (Addr×Obj)
 xe:Value->Shared->Prop
noncomputable def frs(l:List Env):List Addr:=l.filterMap (·.frame)
noncomputable abbrev Cx.fs(X:Cx):List Addr:=frs X.outer
def Pg(sc:Scope)(x:Str):Prop:=sc.names.lookup x=some .local\/sc.names.lookup x=some .cell\/sc.names.lookup x=some .free
def Loc(sc:Scope)(x:Str):Prop:=sc.names.lookup x=some .local\/sc.names.lookup x=some .cell
def Look(env:Env)(h:Heap)(m:Str->Option Value)(x:Str)(u:Value):Prop:=
 (env.kindOf x=some .local/\m x=some u)\/((env.kindOf x=some .cell\/env.kindOf x=some .free)/\∃c,env.cells.lookup x=some c/\h.IsCell c (some u))
structure Cx.Ok(X:Cx):Prop where
 mod:Mod X.K X.mg X.base
 kind:X.env.scope.kind=.function
 glob:X.env.globals=mainGlobals
 blt:X.env.builtins=builtinsNs
 above:X.s₀.heap.objs.size<=X.env.locals
 inj:∀x y c,X.env.cells.lookup x=some c->X.env.cells.lookup y=some c->x=y
 has:∀x,(X.env.kindOf x=some .cell\/X.env.kindOf x=some .free)->∃c,X.env.cells.lookup x=some c
 cab:∀x c,X.fn x=true->X.env.cells.lookup x=some c->X.s₀.heap.objs.size<=c
 hd:X.aj=true->X.A.handled=none
 frames:X.A.frames=some X.stack
 stk:X.stack=X.outer\/(X.stack=X.env::X.outer/\X.env.frame=some X.env.locals)
 exf:∀b∈X.ex,b≠X.env.locals/\∀x c,X.env.cells.lookup x=some c->c≠b
 bs:∀b o,X.base.get? b=some o->X.s₀.heap.get? b=some o/\X.H₀ b=none
 zU:X.base.objs.size<=X.s₀.heap.objs.size
 zV:∀b o,X.base.get? b=some o->b∉X.ex
 FQ:∀b∈X.ex,b∉X.fs
 jY:X.s₀.heap.FunFrames X.base X.outer
 FT:∀b∈X.fs,X.H₀ b=none
structure Inv(X:Cx)(ao:List (Addr×Obj))(Z:List (Option V))(H:Hp)(s:Shared):Prop where
 ok:X.Ok
 os:s.os=X.s₀.os
 bare:AllBare s.gens
 base:Un X.fs X.ex X.H₀ H X.s₀.heap s.heap
 loc:∃m,s.heap.Ns X.env.locals m/\∀(i:Nat) (x:Str) (v:V),X.N[i]?=some x->Z[i]?=some (some v)->Pg X.env.scope x->∃u,RelV v u/\Look X.env s.heap m x u
 cell:∀x c,X.env.cells.lookup x=some c->∃v,s.heap.IsCell c v
 free:H X.env.locals=none
 i_:∀x c,X.env.cells.lookup x=some c->H c=none
 pin:∀p∈X.pn++ao,s.heap.get? p.1=some p.2/\H p.1=none/\p.1≠X.env.locals/\p.1∉X.fs/\∀v,p.2.data≠.cell v
 hok:iC X.prog X.w H s.heap
 len:Z.length=X.N.length
section
variable {X:Cx}{ao:List (Addr×Obj)}{Z:List (Option V)}{H H':Hp}{s:Shared}{h':Heap}
theorem Cx.Ok.Pj(ok:X.Ok){b:Addr}{o:Obj}(e:X.base.get? b=some o):b∉X.fs:=λhb=>by
 have:=(ok.jY.mem hb).1;rw[e] at this;cases this
theorem Inv.bs(I:Inv X ao Z H s):∀b o,X.base.get? b=some o->s.heap.get? b=some o/\H b=none:=λb o e=>
 ⟨I.base.keep b o (I.ok.bs b o e).1 (I.ok.bs b o e).2 (I.ok.Pj e) (I.ok.zV b o e),I.base.free b o (I.ok.bs b o e).1 (I.ok.bs b o e).2 (I.ok.zV b o e)⟩
theorem Inv.bk(I:Inv X ao Z H s):∀b o,X.base.get? b=some o->s.heap.get? b=some o:=λb o e=>(I.bs b o e).1
theorem Inv.mod(I:Inv X ao Z H s):Mod X.K X.mg X.base:=I.ok.mod
theorem Inv.oA(I:Inv X ao Z H s):X.K.In s.heap:=I.ok.mod.xP.keeps I.bk
theorem Inv.lt(I:Inv X ao Z H s):X.env.locals<s.heap.objs.size:=let ⟨_,hn,_⟩:=I.loc;hn.lt
theorem Inv.sz(I:Inv X ao Z H s):X.s₀.heap.objs.size<=s.heap.objs.size:=kW I.ok.above (xM I.lt)
theorem Inv.Pk(I:Inv X ao Z H s){a:Addr}(h:s.heap.objs.size<=a):a∉X.fs:=λhb=>by
 obtain⟨_,o,ho,_⟩:=I.ok.jY.mem hb;exact absurd (iB (bW ho) (kW I.sz h)) (qC _)
theorem Inv.zW(I:Inv X ao Z H s):∀x c,X.env.cells.lookup x=some c->c≠X.env.locals:=λx c e z=>by
 obtain⟨v,o,ho,hd⟩:=I.cell x c e;obtain⟨m,⟨o',es,ep,sG,FW,_⟩,_⟩:=I.loc;rw[z,sG] at ho;cases ho;rw[FW] at hd;cases hd
theorem Inv.jY(I:Inv X ao Z H s):s.heap.FunFrames X.base X.outer:=by
 have all:∀(l:List Env),(∀b∈frs l,b∈X.fs)->X.s₀.heap.FunFrames X.base l->s.heap.FunFrames X.base l:=by
  intro l
  induction l with
  |nil=>intro _ _;trivial
  |cons env r ih=>
   intro hs hl;obtain⟨hk,⟨L,o,hf,hn,ho,hd⟩,hr⟩:=hl;have hL:L∈X.fs:=hs L (by unfold frs;rw[zu,hf];exact lG);obtain⟨sl,e⟩:=I.base.slot L o ho (I.ok.FT L hL) hL λz=>I.ok.FQ L z hL;exact⟨hk,⟨L,_,hf,hn,e,hd⟩,ih (λb hb=>hs b (by unfold frs;rw[zu,hf];exact iz _ hb)) hr⟩
 exact all X.outer (λ_ hb=>hb) I.ok.jY
theorem Inv.stack(I:Inv X ao Z H s):s.heap.FunFrames X.base X.stack:=by
 rcases I.ok.stk with e|⟨e,hf⟩
 ·rw[e];exact I.jY
 ·rw[e];obtain⟨m,hn,_⟩:=I.loc;refine .cons (by rw[I.ok.kind];decide) hf hn ?_ I.jY;exact Ej (kW I.ok.zU I.ok.above)
theorem Inv.lR(I:Inv X ao Z H s):∀b∈frs X.stack,b∈X.env.locals::X.fs:=λb hb=>by
 rcases I.ok.stk with e|⟨e,hf⟩
 ·rw[e] at hb;exact iz _ hb
 ·rw[e] at hb;unfold frs at hb;rw[zu,hf] at hb;exact hb
theorem Inv.lU(I:Inv X ao Z H s):∀b∈frs X.stack,H b=none:=λb hb=>by
 rcases iG.mp (I.lR b hb) with e|hb
 ·rw[e];exact I.free
 ·obtain⟨_,o,ho,_⟩:=I.ok.jY.mem hb;exact I.base.free b o ho (I.ok.FT b hb) λz=>I.ok.FQ b z hb
theorem Inv.step{g':Array GenState}{t':Nat}{d':Drawn}{ch:List Addr}(I:Inv X ao Z H s)
  (uM:∀b∈ch,(b∈X.ex\/X.s₀.heap.get? b=none)/\b≠X.env.locals/\(∀x c,X.env.cells.lookup x=some c->c≠b)/\∀p∈X.pn++ao,p.1≠b)
  (keep:∀b o,b≠X.env.locals->b∉X.fs->b∉ch->s.heap.get? b=some o->H b=none->h'.get? b=some o)
  (slot:∀b o,b≠X.env.locals->b∈X.fs->b∉ch->s.heap.get? b=some o->H b=none->∃sl,h'.get? b=some {o with slots:=sl}) (free:∀b o,b∉ch->s.heap.get? b=some o->H b=none->H' b=none)
  (there:∀b o,b∉ch->s.heap.get? b=some o->∃o',h'.get? b=some o')
  (tups:∀b xs,H b=some (.tup xs)->H' b=some (.tup xs)) (jX:∀b o u,H b=some (.uL o u)->H' b=some (.uL o u)) (lO:∀b ps,H b=some (.zR ps)->∃more,H' b=some (.zR (ps++more)))
  (ns:∀m,s.heap.Ns X.env.locals m->h'.Ns X.env.locals m) (hok:iC X.prog X.w H' h') (hg:AllBare g') :
  Inv X ao Z H' {s with heap:=h',gens:=g',drawn:=d',toks:=t'}:=by
 have WD:∀b o,X.s₀.heap.get? b=some o->b≠X.env.locals:=λb o e=>dU (iB (bW e) I.ok.above);have K3:∀b o,X.s₀.heap.get? b=some o->b∉X.ex->b∉ch:=λb o e hx hb=>by
  rcases(uM b hb).1 with z|z
  ·exact hx z
  ·rw[e] at z;cases z
 have cellK:∀x c,X.env.cells.lookup x=some c->∀v,s.heap.IsCell c v->h'.IsCell c v:=λx c e v hx=>uK hx λo ho hd=>by
  have FZ:c∉ch:=λz=>(uM c z).2.2.1 x c e rfl;by_cases hc:c∈X.fs
  ·obtain⟨sl,q⟩:=slot c o (I.zW x c e) hc FZ ho (I.i_ x c e);exact⟨_,q,hd⟩
  ·exact⟨o,keep c o (I.zW x c e) hc FZ ho (I.i_ x c e),hd⟩
 refine⟨I.ok,I.os,hg,⟨λb o e n hb hx=>?_,λb o e n hb hx=>?_,λb o e n hx=>?_,λb o e hx=>?_,λb xs e=>tups b xs (I.base.tups b xs e),λb o xs e=>jX b o xs (I.base.jX b o xs e),λb ps e=>?_⟩,?_,λx c e=>?_,?_,λx c e=>?_,λp hp=>?_,hok,I.len⟩
 ·exact keep b o (WD b o e) hb (K3 b o e hx) (I.base.keep b o e n hb hx) (I.base.free b o e n hx)
 ·obtain⟨sl,e1⟩:=I.base.slot b o e n hb hx;obtain⟨sl',e2⟩:=slot b _ (WD b o e) hb (K3 b o e hx) e1 (I.base.free b o e n hx);exact⟨sl',e2⟩
 ·obtain⟨o',e1⟩:=I.base.there b o e hx;exact free b o' (K3 b o e hx) e1 (I.base.free b o e n hx)
 ·obtain⟨o',e1⟩:=I.base.there b o e hx;exact there b o' (K3 b o e hx) e1
 ·obtain⟨m1,e1⟩:=I.base.lO b ps e;obtain⟨m2,e2⟩:=lO b _ e1;exact⟨m1++m2,by rw[e2,Array.append_assoc]⟩
 ·obtain⟨m,hn,hl⟩:=I.loc;refine⟨m,ns m hn,λi x v e1 e2 e3=>?_⟩;obtain⟨u,r,l⟩:=hl i x v e1 e2 e3;refine⟨u,r,?_⟩;rcases l with l|⟨k,c,e,z⟩
  ·exact .inl l
  ·exact .inr ⟨k,c,e,cellK x c e _ z⟩
 ·obtain⟨v,z⟩:=I.cell x c e;exact⟨v,cellK x c e v z⟩
 ·obtain⟨m,⟨o,_,_,ho,_⟩,_⟩:=I.loc;exact free _ o (λz=>(uM _ z).2.1 rfl) ho I.free
 ·obtain⟨v,o,ho,hd⟩:=I.cell x c e;exact free c o (λz=>(uM c z).2.2.1 x c e rfl) ho (I.i_ x c e)
 ·obtain⟨e,n,ne,nf,d⟩:=I.pin p hp;have FZ:p.1∉ch:=λz=>(uM p.1 z).2.2.2 p hp rfl;exact⟨keep p.1 p.2 ne nf FZ e n,free p.1 p.2 FZ e n,ne,nf,d⟩
theorem Inv.un{t':Nat}(I:Inv X ao Z H s)(u:Un X.fs [] H H' s.heap h')(hok:iC X.prog X.w H' h'):Inv X ao Z H' {s with heap:=h',toks:=t'}:=by
 obtain⟨m,⟨o,es,ep,ho,r⟩,_⟩:=id I.loc;obtain⟨sl,hL⟩:=u.any ho I.free Rb;exact I.step (g':=s.gens) (d':=s.drawn) (ch:=[]) (λ_ z=>nomatch z) (λb o _ hb _ e n=>u.keep b o e n hb Rb) (λb o _ hb _ e n=>u.slot b o e n hb Rb) (λb o _ e n=>u.free b o e n Rb) (λb o _ e=>u.there b o e Rb) u.tups u.jX u.lO (λm' hm=>by
  obtain⟨o',es',ep',sG,r'⟩:=hm;rw[ho] at sG;cases sG;exact⟨_,es',ep',hL,r'⟩) hok I.bare
theorem Inv.call{g':Array GenState}{t':Nat}{d':Drawn}{ch:List Addr}(I:Inv X ao Z H s)(u:Un (frs X.stack) ch H H' s.heap h')(hok:iC X.prog X.w H' h')(hg:AllBare g')
  (uM:∀b∈ch,(b∈X.ex\/X.s₀.heap.get? b=none)/\b≠X.env.locals/\(∀x c,X.env.cells.lookup x=some c->c≠b)/\∀p∈X.pn++ao,p.1≠b) :
  Inv X ao Z H' {s with heap:=h',gens:=g',drawn:=d',toks:=t'}:=by
 obtain⟨m,⟨o,es,ep,ho,r⟩,_⟩:=id I.loc;obtain⟨sl,hL⟩:=u.any ho I.free λz=>(uM _ z).2.1 rfl;exact I.step (ch:=ch) uM (λb o hL hb hc e n=>u.keep b o e n (λz=>(iG.mp (I.lR b z)).elim hL hb) hc) (λb o _ _ hc e n=>u.any e n hc) (λb o hc e n=>u.free b o e n hc) (λb o hc e=>u.there b o e hc) u.tups u.jX u.lO (λm' hm=>by
  obtain⟨o',es',ep',sG,r'⟩:=hm;rw[ho] at sG;cases sG;exact⟨_,es',ep',hL,r'⟩) hok hg
theorem Inv.turned{t':Nat}{it:Addr}(I:Inv X ao Z H s)(k:∀b o,b≠it->s.heap.get? b=some o->h'.get? b=some o)(hn:H it=none)(hL:it≠X.env.locals)
  (h1:it∈X.ex\/X.s₀.heap.objs.size<=it) (h2:∀x c,X.env.cells.lookup x=some c->c≠it) (h3:∀p∈X.pn++ao,p.1≠it):Inv X ao Z H {s with heap:=h',toks:=t'}:=by
 have xU:∀b u,H b=some u->b≠it:=λb u e z=>by rw[z,hn] at e;cases e
 refine I.step (g':=s.gens) (d':=s.drawn) (ch:=[it]) (λb hb=>?_) (λb o _ _ hc e _=>k b o (λz=>hc (by simp[z])) e) (λb o _ _ hc e _=>⟨o.slots,k b o (λz=>hc (by simp[z])) e⟩) (λ_ _ _ _ n=>n)
  (λb o hc e=>⟨o,k b o (λz=>hc (by simp[z])) e⟩) (λ_ _ e=>e) (λ_ _ _ e=>e) (λb ps e=>⟨#[],by rw[e];simp⟩) (λm hm=>?_) (λb u e=>?_) I.bare
 ·have e:b=it:=by simpa using hb
  subst e;exact⟨h1.imp id λz=>Ej z,hL,h2,h3⟩
 ·obtain⟨o,es,ep,ho,r⟩:=hm;exact⟨o,es,ep,k _ o (Ne.symm hL) ho,r⟩
 ·refine(I.hok b u e).stay (λc v hc q=>k c v ?_ q) (λ_ q=>q) λ_ _ q=>q;rcases hc with z|z
  ·rw[z];exact xU b u e
  ·exact xU c _ z
theorem Inv.tok(I:Inv X ao Z H s)(t:Nat):Inv X ao Z H {s with toks:=t}:=I.un (h':=s.heap) (t':=t) Un.refl I.hok
theorem Inv.kept{t':Nat}(I:Inv X ao Z H s)(k:∀b u,s.heap.get? b=some u->h'.get? b=some u):Inv X ao Z H {s with heap:=h',toks:=t'}:=I.un (Un.kept k) (I.hok.kept k)
theorem Inv.laid{a:Addr}{o:HO}{t':Nat}(I:Inv X ao Z H s)(k:∀b u,s.heap.get? b=some u->h'.get? b=some u)(hp:s.heap.objs.size<=a)(new:bH X.prog X.w (upd H a o) h' a o) :
  Inv X ao Z (upd H a o) {s with heap:=h',toks:=t'}:=I.un (Un.laid k hp (I.hok.fresh hp)) (I.hok.laid k hp new)
theorem Inv.write{x e:Addr}{o:HO}{t':Nat}(I:Inv X ao Z H s)(mu:FN (H x))(he:e=x\/H e=some (.own x))(k:∀b u,b≠e->s.heap.get? b=some u->h'.get? b=some u)(C_:∃u,h'.get? e=some u)
  (new:bH X.prog X.w (upd H x o) h' x o):Inv X ao Z (upd H x o) {s with heap:=h',toks:=t'}:=I.un (Un.write mu he k C_) (I.hok.write mu he k C_ new)
theorem Inv.lV{jd:List (Addr×Obj)}(I:Inv X ao Z H s)(h:∀p∈jd,s.heap.get? p.1=some p.2/\H p.1=none/\p.1≠X.env.locals/\p.1∉X.fs/\∀v,p.2.data≠.cell v):Inv X jd Z H s:=
 ⟨I.ok,I.os,I.bare,I.base,I.loc,I.cell,I.free,I.i_,λp hp=>(kO.mp hp).elim (λz=>I.pin p (Kf _ z)) (h p),I.hok,I.len⟩
theorem WK{N:List Str}(hN:N.Nodup){i j:Nat}{x:Str}(a:N[i]?=some x)(b:N[j]?=some x):i=j:=by
 obtain⟨h1,e1⟩:=cI.mp a;obtain⟨h2,e2⟩:=cI.mp b;exact(List.getElem_inj hN).mp (e1.trans e2.symm)
theorem WL{M:Model}{A:Around}{E:Value->Shared->Prop}{i:Nat}{x:Str}{v:V}{u:Value}{Q:Unit->Shared->Prop}(I:Inv X ao Z H s)(hN:X.N.Nodup)(hi:X.N[i]?=some x)(hx:Loc X.env.scope x)(r:RelV v u)
  (h:∀s',Inv X ao (Z.set i (some v)) H s'->(∃a,Heap.SameBut a s.heap s'.heap/\(a=X.env.locals\/X.env.cells.lookup x=some a))->Q () s') (hf:X.fn x=true\/X.env.scope.names.lookup x=some .local:=by first|exact .inl rfl|exact .inr rfl|assumption):wpAny M A (storeName X.env x u) Q E s:=by
 obtain⟨m,hn,hl⟩:=id I.loc;have Pn:(X.env.scope.kind==.class||(X.env.scope.kind==.module&&X.env.locals != X.env.globals))=false:=by rw[I.ok.kind];rfl
 have WM:i<Z.length:=by rw[I.len];exact(cI.mp hi).1
 have zW:=I.zW;have tracked:∀{a:Addr} {h':Heap},(∃o,s.heap.get? a=some o/\H a=none)->Heap.SameBut a s.heap h'->iC X.prog X.w H h':=λ{a h'} ha hs b ob e=>by
  obtain⟨_,_,pL⟩:=ha;refine(I.hok b ob e).stay (λc w' hc q=>(hs.2 c ?_).trans q) (λ_ q=>q) λ_ _ q=>q;rintro rfl;rcases hc with rfl|hc
  ·rw[pL] at e;cases e
  ·rw[pL] at hc;cases hc
 rcases hx with hk|hk
 ·refine wpAny_storeName_local hk hn (λh' hn' hs=>?_) Pn;obtain⟨oL,_,_,K4,_⟩:=id hn;refine h _ ⟨I.ok,I.os,I.bare,⟨λb o e n hb hx=>?_,λb o e n hb hx=>?_,I.base.free,λb o e hx=>?_,I.base.tups,I.base.jX,I.base.lO⟩,⟨_,hn',λj y v' e1 e2 e3=>?_⟩,λy c e=>?_,I.free,I.i_,λp hp=>?_,tracked ⟨oL,K4,I.free⟩ hs,by simpa using I.len⟩ ⟨_,hs,.inl rfl⟩
  ·exact(hs.2 b (dU (iB (bW e) I.ok.above))).trans (I.base.keep b o e n hb hx)
  ·obtain⟨sl,e1⟩:=I.base.slot b o e n hb hx;exact⟨sl,(hs.2 b (dU (iB (bW e) I.ok.above))).trans e1⟩
  ·obtain⟨o',e1⟩:=I.base.there b o e hx;exact⟨o',(hs.2 b (dU (iB (bW e) I.ok.above))).trans e1⟩
  ·by_cases hj:j=i
   ·subst hj;rw[hi] at e1;cases e1;rw[pH WM] at e2;cases e2;exact⟨u,r,.inl ⟨hk,by simp⟩⟩
   ·rw[mW (Ne.symm hj)] at e2;obtain⟨u',r',q⟩:=hl j y v' e1 e2 e3;refine⟨u',r',?_⟩;rcases q with ⟨k,e⟩|⟨k,c,e,z⟩
    ·refine .inl ⟨k,?_⟩;have:y≠x:=λe=>hj (WK hN e1 (e▸hi));simp[this,e]
    ·exact .inr ⟨k,c,e,z.sameBut hs (zW y c e)⟩
  ·obtain⟨w',z⟩:=I.cell y c e;exact⟨w',z.sameBut hs (zW y c e)⟩
  ·obtain⟨e,n,ne,nf,d⟩:=I.pin p hp;exact⟨(hs.2 p.1 ne).trans e,n,ne,nf,d⟩
 ·have Pq:X.fn x=true:=by
   rcases hf with z|z
   ·exact z
   ·rw[z] at hk;cases hk
  obtain⟨c,hc⟩:=I.ok.has x (.inl hk);obtain⟨w',z⟩:=I.cell x c hc;refine wpAny_storeName_cell I.ok.kind hk hc z (λh' jZ hs=>?_);obtain⟨oc,WQ,Pu⟩:=id z;refine h {s with heap:=h'} ⟨I.ok,I.os,I.bare,⟨λb o e n hb hx=>?_,λb o e n hb hx=>?_,I.base.free,λb o e hx=>?_,I.base.tups,I.base.jX,I.base.lO⟩,⟨m,hn.sameBut hs (Ne.symm (zW x c hc)),λj y v' e1 e2 e3=>?_⟩,λy c' e=>?_,I.free,I.i_,λp hp=>?_,tracked ⟨oc,WQ,I.i_ x c hc⟩ hs,by simpa using I.len⟩ ⟨c,hs,.inr hc⟩
  ·exact(hs.2 b (dU (iB (bW e) (I.ok.cab x c Pq hc)))).trans (I.base.keep b o e n hb hx)
  ·obtain⟨sl,e1⟩:=I.base.slot b o e n hb hx;exact⟨sl,(hs.2 b (dU (iB (bW e) (I.ok.cab x c Pq hc)))).trans e1⟩
  ·obtain⟨o',e1⟩:=I.base.there b o e hx;exact⟨o',(hs.2 b (dU (iB (bW e) (I.ok.cab x c Pq hc)))).trans e1⟩
  ·by_cases hj:j=i
   ·subst hj;rw[hi] at e1;cases e1;rw[pH WM] at e2;cases e2;exact⟨u,r,.inr ⟨.inl hk,c,hc,jZ⟩⟩
   ·rw[mW (Ne.symm hj)] at e2;obtain⟨u',r',q⟩:=hl j y v' e1 e2 e3;refine⟨u',r',?_⟩;rcases q with q|⟨k,c',e,z'⟩
    ·exact .inl q
    ·refine .inr ⟨k,c',e,z'.sameBut hs ?_⟩;rintro rfl;exact hj (WK hN e1 (I.ok.inj _ _ _ e hc▸hi))
  ·by_cases WR:c'=c
   ·subst WR;exact⟨_,jZ⟩
   ·obtain⟨w2,z2⟩:=I.cell y c' e;exact⟨w2,z2.sameBut hs WR⟩
  ·obtain⟨e,n,ne,nf,d⟩:=I.pin p hp;refine⟨(hs.2 p.1 ?_).trans e,n,ne,nf,d⟩;intro q;rw[q,WQ] at e;have q':oc=p.2:=cW e;exact d w' (by rw[<-q'];exact Pu)
theorem WT{M:Model}{A:Around}{E:Value->Shared->Prop}{i:Nat}{x:Str}{v:V}{u:Value}{Q:Unit->Shared->Prop}(I:Inv X ao Z H s)(hN:X.N.Nodup)(hi:X.N[i]?=some x)(hx:Loc X.env.scope x)(r:RelV v u)
  (h:∀s',Inv X ao (Z.set i (some v)) H s'->Q () s') (hf:X.fn x=true\/X.env.scope.names.lookup x=some .local:=by first|exact .inl rfl|exact .inr rfl|assumption):wpAny M A (storeName X.env x u) Q E s:=
 WL I hN hi hx r (λs' I' _=>h s' I') hf
theorem Inv.call'{s':Shared}{ch:List Addr}(I:Inv X ao Z H s)(ho:s'.os=s.os)(u:Un (frs X.stack) ch H H' s.heap s'.heap)(hok:iC X.prog X.w H' s'.heap)(hg:AllBare s'.gens)
  (uM:∀b∈ch,(b∈X.ex\/X.s₀.heap.get? b=none)/\b≠X.env.locals/\(∀x c,X.env.cells.lookup x=some c->c≠b)/\∀p∈X.pn++ao,p.1≠b):Inv X ao Z H' s':=by
 obtain⟨h',g',d',t',o'⟩:=s';have e:o'=s.os:=ho;subst e;exact I.call (g':=g') (t':=t') (d':=d') u hok hg uM
end
noncomputable abbrev XK:=Value->Option Addr->Hp->Prop
noncomputable abbrev St:=List (Option V)
noncomputable abbrev VK:=V->Hp->Prop
noncomputable abbrev TE:=St->Hp->VK->Prop
noncomputable abbrev TT:=St->Hp->(Bool->Hp->Prop)->Prop
noncomputable abbrev TA:=St->Hp->(List V->Hp->Prop)->Prop
structure Ends where
 nx:St->Hp->Prop
 rt:VK
 bk:St->Hp->Prop:=λ_ _=>False
 ct:St->Hp->Prop:=λ_ _=>False
noncomputable abbrev TS:=Ends->St->Hp->Prop
def EP(X:Cx)(ao:List (Addr×Obj))(Z:St)(Q:VK)(u:Value)(s':Shared):Prop:=∃v H',Inv X ao Z H' s'/\RelV v u/\Q v H'
def TP(X:Cx)(ao:List (Addr×Obj))(Z:St)(Q:Bool->Hp->Prop)(b:Bool)(s':Shared):Prop:=∃H',Inv X ao Z H' s'/\Q b H'
def AP(X:Cx)(ao:List (Addr×Obj))(Z:St)(Q:List V->Hp->Prop)(us:List Value)(s':Shared):Prop:=∃vs H',Inv X ao Z H' s'/\Vals vs us/\Q vs H'
def SP(X:Cx)(ao:List (Addr×Obj))(D:Ends)(f:Flow)(s':Shared):Prop:=
 match f with
 |.next=>∃Z' H',Inv X ao Z' H' s'/\D.nx Z' H'
 |.brk=>∃Z' H',Inv X ao Z' H' s'/\D.bk Z' H'
 |.cont=>∃Z' H',Inv X ao Z' H' s'/\D.ct Z' H'
 |.ret u=>∃v Z' H',Inv X ao Z' H' s'/\RelV v u/\D.rt v H'
def PE(X:Cx)(e:Expr)(t:TE):Prop:=
 ∀(ao:List (Addr×Obj)) (s:Shared) (Z:St) (H:Hp) (Q:VK),Inv X ao Z H s->t Z H Q->wpAny (model X.prog X.w) X.A (eval e X.env) (EP X ao Z Q) X.xe s
def PT(X:Cx)(e:Expr)(t:TT):Prop:=
 ∀(ao:List (Addr×Obj)) (s:Shared) (Z:St) (H:Hp) (Q:Bool->Hp->Prop),Inv X ao Z H s->t Z H Q->wpAny (model X.prog X.w) X.A (isTrue e X.env (eval e X.env)) (TP X ao Z Q) X.xe s
def PW(X:Cx)(e:Expr)(t:TT):Prop:=
 ∀(whole:Sem Value) (ao:List (Addr×Obj)) (s:Shared) (Z:St) (H:Hp) (Q:Bool->Hp->Prop),Inv X ao Z H s->t Z H Q->wpAny (model X.prog X.w) X.A (isTrue e X.env whole) (TP X ao Z Q) X.xe s
theorem Kac{X:Cx}{e:Expr}{t:TT}(h:PW X e t):PT X e t:=h _
def PA(X:Cx)(es:List Expr)(t:TA):Prop:=
 ∀(pos:Pos) (ao:List (Addr×Obj)) (s:Shared) (Z:St) (H:Hp) (Q:List V->Hp->Prop),Inv X ao Z H s->t Z H Q->wpAny (model X.prog X.w) X.A (spliced (backTo pos (starEach es X.env))) (AP X ao Z Q) X.xe s
def PS(X:Cx)(st:Stmt)(t:TS):Prop:=
 ∀(ao:List (Addr×Obj)) (s:Shared) (Z:St) (H:Hp) (D:Ends),Inv X ao Z H s->t D Z H->wpAny (model X.prog X.w) X.A (exec st X.env) (SP X ao D) X.xe s
def oU(X:Cx)(st:List Stmt)(t:TS):Prop:=
 ∀(ao:List (Addr×Obj)) (s:Shared) (Z:St) (H:Hp) (D:Ends),Inv X ao Z H s->t D Z H->wpAny (model X.prog X.w) X.A (execs st X.env) (SP X ao D) X.xe s
theorem aX{α:Type}{t:Sem α}{Q Q':α->Shared->Prop}{M:Model}{A:Around}{E:Value->Shared->Prop}{s:Shared}(h:wpAny M A t Q E s)(hQ:∀a s,Q a s->Q' a s):wpAny M A t Q' E s:=mX h hQ λ_ _ x=>x
section
variable {X:Cx}
noncomputable def Px(i:Nat):TE:=λZ H Q=>∃v,Z[i]?=some (some v)/\Q v H
noncomputable def tC(v:V):TE:=λ_ H Q=>Q v H
theorem WW{i:Nat}{x:Str}{pos:Pos}(hN:X.N[i]?=some x)(hv:Pg X.env.scope x)(hd:(x==("__debug__" : Str))=false:=by decide)(jP:(x==("__classdict__" : Str))=false:=by decide):PE X (.Name x pos) (Px i):=by
 intro ao s Z H Q I h;obtain⟨v,e,h⟩:=h;obtain⟨m,hn,hl⟩:=I.loc;obtain⟨u,r,l⟩:=hl i x v hN e hv;have fin:EP X ao Z Q u s:=⟨v,H,I,r,h⟩;rcases l with ⟨hk,hm⟩|⟨hk,c,hc,xV⟩
 ·exact wpAny_Name (wpAny_loadName_local I.ok.kind hk hn hm fin) hd
 ·rcases hk with hk|hk
  ·exact wpAny_Name (wpAny_loadName_cell I.ok.kind hk hc xV fin) hd
  ·exact wpAny_Name (wpAny_loadName_free I.ok.kind hk hc xV fin jP) hd
theorem zlj{i j pos}:PE X (.Constant (.int i) j pos) (tC (.int i)):=λ_ _ _ H _ I h=>wpAny_Constant_int ⟨.int i,H,I.tok _,⟨_,rfl⟩,h⟩
theorem znn{b j pos}:PE X (.Constant (.bool b) j pos) (tC (.bl b)):=λ_ _ _ H _ I h=>Constant_bool ⟨.bl b,H,I,rfl,h⟩
theorem zlk{j pos}:PE X (.Constant .none j pos) (tC .non):=λ_ _ _ H _ I h=>Constant_none ⟨.non,H,I,rfl,h⟩
theorem zkM{x j pos}:PE X (.Constant (.str x) j pos) (tC (.str x)):=λ_ _ _ H _ I h=>Calls.Constant_str ⟨.str x,H,I.tok _,⟨_,rfl⟩,h⟩
def Gl(X:Cx)(x:Str):Prop:=X.env.kindOf x=some .globalImplicit
theorem Py{E:Value->Shared->Prop}{ao:List (Addr×Obj)}{s:Shared}{Z:St}{H:Hp}{x:Str}{u:Value}{pos:Pos}{Q:Value->Shared->Prop}(I:Inv X ao Z H s)(hg:Gl X x)(hm:X.mg x=some u)(h:Q u s)
  (hd:(x==("__debug__" : Str))=false:=by decide):wpAny (model X.prog X.w) X.A (eval (.Name x pos) X.env) Q E s:=
 Calls.Name_function_global I.ok.kind hg (Calls.loadGlobal_global (by rw[I.ok.glob];exact I.mod.glob.keeps I.bk) hm h) hd
theorem uN{E:Value->Shared->Prop}{ao:List (Addr×Obj)}{s:Shared}{Z:St}{H:Hp}{x:Str}{u:Value}{pos:Pos}{Q:Value->Shared->Prop}(I:Inv X ao Z H s)(hg:Gl X x)(hm:X.mg x=none)(hv:bootBuiltins x=some u)(h:Q u s)
  (hn:x≠"__name__":=by decide) (hd:(x==("__debug__" : Str))=false:=by decide):wpAny (model X.prog X.w) X.A (eval (.Name x pos) X.env) Q E s:=by
 obtain⟨mb,h1,h2⟩:=I.mod.blt;exact Calls.Name_function_global I.ok.kind hg (Calls.loadGlobal_builtin (by rw[I.ok.glob];exact I.mod.glob.keeps I.bk) hm (by rw[I.ok.blt];exact h1.keeps I.bk) ((h2 x hn).trans hv) h) hd
theorem WX{x:Str}{v:V}{u:Value}{pos:Pos}(hg:Gl X x)(hm:X.mg x=some u)(r:RelV v u)(hd:(x==("__debug__" : Str))=false:=by decide):PE X (.Name x pos) (tC v):=
 λ_ _ _ H _ I h=>Py I hg hm ⟨v,H,I,r,h⟩ hd
variable {a b:Expr}{ta tb:TE}{pos:Pos}
def PC(X:Cx)(op:CmpOp)(a b:Expr)(t:TE):Prop:=
 ∀(ao:List (Addr×Obj)) (s:Shared) (Z:St) (H:Hp) (Q:VK),Inv X ao Z H s->t Z H Q->
  wpAny (model X.prog X.w) X.A (eval a X.env) (λv s₁=>wpAny (model X.prog X.w) X.A (eval b X.env) (λu s₂=>wpAny (model X.prog X.w) X.A (compareOp op v u) (EP X ao Z Q) X.xe s₂) X.xe s₁) X.xe s
theorem m8(b:Expr){op:CmpOp}(h:op≠.In)(h2:op≠.NotIn):behindInMarks op b=false:=by
 have e1:(op==CmpOp.In)=false:=by cases op<;>first|rfl|exact absurd rfl h
 have e2:(op==CmpOp.NotIn)=false:=by cases op<;>first|rfl|exact absurd rfl h2
 cases b<;>simp[behindInMarks,e1,e2]
noncomputable def Pz(ta:TE):TE:=λZ H Q=>ta Z H λx H1=>Q (.bl (decide (x=.non))) H1
noncomputable def Ga(ta:TE):TE:=λZ H Q=>ta Z H λx H1=>Q (.bl (!decide (x=.non))) H1
theorem RelV.m9{x:V}{v:Value}(r:RelV x v):(v==Value.none)=decide (x=.non):=by
 cases x with
 |non=>cases r;rfl
 |bl _=>cases r;rfl
 |int _=>obtain⟨t,rfl⟩:=r;rfl
 |str _=>obtain⟨t,rfl⟩:=r;rfl
 |zQ _=>obtain⟨t,rfl⟩:=r;rfl
 |flt _=>obtain⟨t,rfl⟩:=r;rfl
 |ref _=>cases r;rfl
 |ty _=>cases r;rfl
theorem WY{j pos'}(ha:PE X a ta):PC X .Is a (.Constant .none j pos') (Pz ta):=by
 intro ao s Z H Q I h;refine aX (ha ao s Z H _ I h) λv s1 hx=>dX hx λx H1 I1 r1 q1=>?_;exact Constant_none (is_none_gen ⟨.bl _,H1,I1,by rw[r1.m9];rfl,q1⟩)
theorem W0{j pos'}(ha:PE X a ta):PC X .IsNot a (.Constant .none j pos') (Ga ta):=by
 intro ao s Z H Q I h;refine aX (ha ao s Z H _ I h) λv s1 hx=>dX hx λx H1 I1 r1 q1=>?_;exact Constant_none (isnot_none_gen ⟨.bl _,H1,I1,by rw[r1.m9];rfl,q1⟩)
noncomputable def tB(t:TE):TT:=λZ H Q=>t Z H λx H1=>∃c,x=.bl c/\Q c H1
theorem W2{op:CmpOp}{t:TE}(h:PC X op a b t)(h1:behindInMarks op b=false:=by first|exact m8 _ J0 J0|rfl):PE X (.Compare a [op] [b] pos) t:=λao s Z H Q I hw=>wpAny_Compare1 (h ao s Z H Q I hw) h1
theorem PB{op:CmpOp}{t:TE}(h:PC X op a b t)(h1:behindInMarks op b=false:=by first|exact m8 _ J0 J0|rfl):PT X (.Compare a [op] [b] pos) (tB t):=by
 intro ao s Z H Q I hw;refine Oh (aX (h ao s Z H _ I hw) λv s1 h1=>aX h1 λu s2 h2=>aX h2 λc s3 hx=>dX hx λx H1 I1 r1 q1=>?_) h1;obtain⟨d,rfl,q⟩:=q1;cases r1;exact rz ⟨H1,I1,q⟩
theorem zlG{e:Expr}{t:TE}(h:PE X e t)(he:∀whole,isTrue e X.env whole=(do let v <-whole;standAt e.pos;holding [v] (truthy v)):=by intro _;rfl):PT X e (tB t):=by
 intro ao s Z H Q I hw;refine isTrue_plain (aX (h ao s Z H _ I hw) λv s1 hx=>dX hx λx H1 I1 r1 q1=>?_) (he _);obtain⟨d,rfl,q⟩:=q1;cases r1;exact rz ⟨H1,I1,q⟩
variable {tA K5:TT}{rest:List Expr}
noncomputable def PJ(t u:TT):TT:=λZ H Q=>t Z H λc H1=>if c=true then u Z H1 Q else Q false H1
noncomputable def tOr(t u:TT):TT:=λZ H Q=>t Z H λc H1=>if c=true then Q true H1 else u Z H1 Q
noncomputable def PK(t:TT):TT:=λZ H Q=>t Z H λc H1=>Q (!c) H1
theorem ziZ(ha:PT X a tA):PW X (.BoolOp .And [a] pos) tA:=by
 intro wh ao s Z H Q I h;refine isTrue_and (aX (ha ao s Z H Q I h) λc s1 e=>?_);cases c with
 |true=>exact isTrue_and_nil e
 |false=>exact e
theorem zl8(ha:PT X a tA):PW X (.BoolOp .Or [a] pos) tA:=by
 intro wh ao s Z H Q I h;refine isTrue_or (aX (ha ao s Z H Q I h) λc s1 e=>?_);cases c with
 |false=>exact isTrue_or_nil e
 |true=>exact e
theorem zmo(ha:PT X a tA)(hb:PW X (.BoolOp .And (b::rest) pos) K5):PW X (.BoolOp .And (a::b::rest) pos) (PJ tA K5):=by
 intro wh ao s Z H Q I h;refine isTrue_and (aX (ha ao s Z H _ I h) λc s1 hx=>uK hx λH1 I1 q1=>?_);cases c with
 |true=>exact hb wh ao s1 Z H1 Q I1 q1
 |false=>exact⟨H1,I1,q1⟩
theorem znT(ha:PT X a tA)(hb:PW X (.BoolOp .Or (b::rest) pos) K5):PW X (.BoolOp .Or (a::b::rest) pos) (tOr tA K5):=by
 intro wh ao s Z H Q I h;refine isTrue_or (aX (ha ao s Z H _ I h) λc s1 hx=>uK hx λH1 I1 q1=>?_);cases c with
 |true=>exact⟨H1,I1,q1⟩
 |false=>exact hb wh ao s1 Z H1 Q I1 q1
theorem zlJ(ha:PT X a tA):PT X (.UnaryOp .Not a pos) (PK tA):=by
 intro ao s Z H Q I h;exact isTrue_not (ha ao s Z H (λc H1=>Q (!c) H1) I h)
noncomputable def Gb(ta tb:TE):TE:=λZ H Q=>ta Z H λx H1=>∃c,x=.bl c/\if c=true then tb Z H1 Q else Q (.bl false) H1
noncomputable def PL(ta tb:TE):TE:=λZ H Q=>ta Z H λx H1=>∃c,x=.bl c/\if c=true then Q (.bl true) H1 else tb Z H1 Q
noncomputable def Gd(ta:TE):TE:=λZ H Q=>ta Z H λx H1=>∃c,x=.bl c/\Q (.bl (!c)) H1
theorem zma{op}{t:TE}(h:PE X a t):PE X (.BoolOp op [a] pos) t:=λao s Z H Q I hw=>BoolOp_one (h ao s Z H Q I hw)
theorem zmJ(ha:PE X a ta)(hb:PE X (.BoolOp .And (b::rest) pos) tb):PE X (.BoolOp .And (a::b::rest) pos) (Gb ta tb):=by
 intro ao s Z H Q I h;refine BoolOp_and (aX (ha ao s Z H _ I h) λv s1 hx=>dX hx λx H1 I1 r1 q1=>?_);obtain⟨c,rfl,q1⟩:=q1;cases r1;refine rz ?_;cases c with
 |true=>exact hb ao s1 Z H1 Q I1 q1
 |false=>exact⟨.bl false,H1,I1,rfl,q1⟩
theorem znu(ha:PE X a ta)(hb:PE X (.BoolOp .Or (b::rest) pos) tb):PE X (.BoolOp .Or (a::b::rest) pos) (PL ta tb):=by
 intro ao s Z H Q I h;refine BoolOp_or (aX (ha ao s Z H _ I h) λv s1 hx=>dX hx λx H1 I1 r1 q1=>?_);obtain⟨c,rfl,q1⟩:=q1;cases r1;refine rz ?_;cases c with
 |false=>exact hb ao s1 Z H1 Q I1 q1
 |true=>exact⟨.bl true,H1,I1,rfl,q1⟩
theorem zm3(ha:PE X a ta):PE X (.UnaryOp .Not a pos) (Gd ta):=by
 intro ao s Z H Q I h;refine UnaryOp_ (aX (ha ao s Z H _ I h) λv s1 hx=>dX hx λx H1 I1 r1 q1=>?_);obtain⟨c,rfl,q1⟩:=q1;cases r1;exact not_of (rz ⟨.bl (!c),H1,I1,rfl,q1⟩)
noncomputable def tIf(t:TT)(ta tb:TE):TE:=λZ H Q=>t Z H λc H1=>if c=true then ta Z H1 Q else tb Z H1 Q
theorem zhm{c:Expr}(hc:PT X c tA)(ha:PE X a ta)(hb:PE X b tb):PE X (.IfExp c a b pos) (tIf tA ta tb):=by
 intro ao s Z H Q I h;refine wpAny_IfExp (aX (hc ao s Z H _ I h) λd s1 hx=>uK hx λH1 I1 q1=>?_);cases d with
 |true=>exact ha ao s1 Z H1 Q I1 q1
 |false=>exact hb ao s1 Z H1 Q I1 q1
end
def cR(K:W.Frag)(H:Hp)(a:Addr)(xs:List V):Prop:=
 Rd H a (.lst xs) \/
  ∃(o:Obj) (its:Array Value) (n:Nat),K.lookup a=some o/\o.cls=.type "list"/\o.dict=none/\o.data=.seq its n/\its.size<=sizeLine/\Vals xs its.toList
def fD(K:W.Frag)(H:Hp)(a:Addr)(xs:List V):Prop:=
 Rd H a (.tup xs) \/
  ∃(o:Obj) (its:Array Value) (n:Nat),K.lookup a=some o/\o.cls=.type "tuple"/\o.dict=none/\o.data=.seq its n/\its.size<=sizeLine/\Vals xs its.toList
noncomputable def PN:Value->Option V
 |.none=>some .non
 |.bool b=>some (.bl b)
 |.int i _=>some (.int i)
 |.str x _=>some (.str x)
 |.bytes b _=>some (.zQ b)
 |.float b _=>some (.flt b)
 |.ref a=>some (.ref a)
 |.type n=>some (.ty n)
 |_=>none
theorem RelV.abs{x:V}{u:Value}(r:RelV x u):PN u=some x:=by
 cases x with
 |non=>cases r;rfl
 |bl _=>cases r;rfl
 |int _=>obtain⟨t,rfl⟩:=r;rfl
 |str _=>obtain⟨t,rfl⟩:=r;rfl
 |zQ _=>obtain⟨t,rfl⟩:=r;rfl
 |flt _=>obtain⟨t,rfl⟩:=r;rfl
 |ref _=>cases r;rfl
 |ty _=>cases r;rfl
theorem RelV.inj{x y:V}{u:Value}(r:RelV x u)(q:RelV y u):x=y:=cW (r.abs.symm.trans q.abs)
theorem Vals.inj{xs ys:List V}{us:List Value}(h:Vals xs us)(h':Vals ys us):xs=ys:=by
 induction h generalizing ys with
 |nil=>cases h';rfl
 |cons r _ ih=>
  cases h' with
  |cons r' t'=>rw[r.inj r',ih t']
section
variable {X:Cx}{ao:List (Addr×Obj)}{Z:St}{H:Hp}{s:Shared}{a:Addr}{xs ys:List V}
theorem cR.of{K:W.Frag}(h:H a=some (.lst xs)):cR K H a xs:=.inl (.inl h)
theorem Inv.list(I:Inv X ao Z H s)(h:cR X.K H a xs):∃its:List Value,Vals xs its/\PlainL s.heap a its.toArray/\xs.length<=sizeLine:=by
 rcases h with h|⟨o,its,n,hk,hc,hd,hs,hz,r⟩
 ·obtain⟨z,its,n,r,e⟩:=h.ok I.hok;exact⟨its,r,⟨_,n,e,rfl,rfl,rfl⟩,z⟩
 ·refine⟨its.toList,r,⟨o,n,I.oA a o hk,hc,hd,by simpa using hs⟩,?_⟩;have e:=r.length;simp only[xg] at e
  lia
theorem Inv.tuple(I:Inv X ao Z H s)(h:fD X.K H a xs):∃its:List Value,Vals xs its/\IsTup s.heap a its.toArray/\xs.length<=sizeLine:=by
 rcases h with h|⟨o,its,n,hk,hc,_,hs,hz,r⟩
 ·obtain⟨z,its,r,p⟩:=h.ok I.hok;exact⟨its,r,p.tup,z⟩
 ·refine⟨its.toList,r,⟨o,I.oA a o hk,hc,n,by simpa using hs⟩,?_⟩;have e:=r.length;simp only[xg] at e
  lia
theorem Inv.PX(I:Inv X ao Z H s)(h:fD X.K H a xs):∃o,s.heap.get? a=some o/\o.cls=.type "tuple"/\o.dict=none:=by
 rcases h with h|⟨o,its,n,hk,hc,hd,_⟩
 ·obtain⟨_,_,_,o,h1,h2,_,_,h3⟩:=h.ok I.hok;exact⟨o,h1,h2,h3⟩
 ·exact⟨o,I.oA a o hk,hc,hd⟩
theorem Inv.m_(I:Inv X ao Z H s)(h:cR X.K H a xs)(h':cR X.K H a ys):xs=ys:=by
 obtain⟨its,r,⟨o,n,e,_,_,d⟩,_⟩:=I.list h;obtain⟨its',r',⟨o',n',e',_,_,d'⟩,_⟩:=I.list h';rw[e] at e';cases e';rw[d] at d';injection d' with d1 _;have:its=its':=by simpa using mY Array.toList d1
 subst this;exact r.inj r'
theorem Inv.kZ(I:Inv X ao Z H s)(h:fD X.K H a xs)(h':fD X.K H a ys):xs=ys:=by
 obtain⟨its,r,⟨o,e,_,n,d⟩,_⟩:=I.tuple h;obtain⟨its',r',⟨o',e',_,n',d'⟩,_⟩:=I.tuple h';rw[e] at e';cases e';rw[d] at d';injection d' with d1 _;have:its=its':=by simpa using mY Array.toList d1
 subst this;exact r.inj r'
end
section
variable {X:Cx}{st:Stmt}{rest:List Stmt}{t u:TS}{e:Expr}{te:TE}{pos:Pos}
noncomputable def Gf:TS:=λD Z H=>D.nx Z H
noncomputable def P0(t u:TS):TS:=λD Z H=>t {D with nx:=u D} Z H
theorem W3:oU X [] Gf:=λ_ _ Z H _ I h=>wpAny_execs_nil ⟨Z,H,I,h⟩
theorem W4(h1:PS X st t)(h2:oU X rest u):oU X (st::rest) (P0 t u):=by
 intro ao s Z H D I h;refine wpAny_execs_cons (aX (h1 ao s Z H {D with nx:=u D} I h) λf s1 q=>?_);cases f with
 |next=>
  obtain⟨Z',H',I',q⟩:=q;exact h2 ao s1 Z' H' D I' q
 |ret v=>exact q
 |brk=>exact q
 |cont=>exact q
theorem Inv.quiet{ao:List (Addr×Obj)}{Z:St}{H:Hp}{s:Shared}(I:Inv X ao Z H s):interactive X.env=false:=by simp[interactive,I.ok.kind]
noncomputable def Gg(te:TE):TS:=λD Z H=>te Z H λ_ H1=>D.nx Z H1
theorem ziM(he:PE X e te)(hs:swapsWith e none pos.line X.env=pure false:=by rfl):PS X (.Expr e pos) (Gg te):=by
 intro ao s Z H D I h;exact wpAny_Expr_any (aX (he ao s Z H _ I h) λv s1 hx=>dX hx λx H1 I1 r1 q1=>⟨Z,H1,I1,q1⟩) I.quiet hs
noncomputable def P_(te:TE):TS:=λD Z H=>te Z H D.rt
theorem zkI(he:PE X e te):PS X (.Return (some e) pos) (P_ te):=by
 intro ao s Z H D I h;exact wpAny_Return_some (aX (he ao s Z H _ I h) λv s1 hx=>dX hx λx H1 I1 r1 q1=>⟨x,Z,H1,I1,r1,q1⟩)
noncomputable def Qa(c:TT)(t u:TS):TS:=λD Z H=>c Z H λb H1=>if b=true then t D Z H1 else u D Z H1
theorem zna{c:Expr}{a b:List Stmt}{tc:TT}(hc:PT X c tc)(ha:oU X a t)(hb:oU X b u):PS X (.If c a b pos) (Qa tc t u):=by
 intro ao s Z H D I h;refine wpAny_If (aX (hc ao s Z H _ I h) λd s1 hx=>uK hx λH1 I1 q1=>?_);cases d with
 |true=>exact ha ao s1 Z H1 D I1 q1
 |false=>exact hb ao s1 Z H1 D I1 q1
end
noncomputable abbrev TG:=V->St->Hp->(St->Hp->Prop)->Prop
noncomputable abbrev zX:=List V->St->Hp->(St->Hp->Prop)->Prop
def PG(X:Cx)(target:Expr)(t:TG):Prop:=
 ∀(ao:List (Addr×Obj)) (s:Shared) (Z:St) (H:Hp) (v:V) (u:Value) (Q:St->Hp->Prop),Inv X ao Z H s->RelV v u->t v Z H Q->
  wpAny (model X.prog X.w) X.A (assign target X.env u) (λ_ s'=>∃Z' H',Inv X ao Z' H' s'/\Q Z' H') X.xe s
def K6(X:Cx)(ts:List Expr)(t:zX):Prop:=
 ∀(ao:List (Addr×Obj)) (s:Shared) (Z:St) (H:Hp) (vs:List V) (us:List Value) (Q:St->Hp->Prop),Inv X ao Z H s->Vals vs us->t vs Z H Q->
  wpAny (model X.prog X.w) X.A (assignInOrder ((assignEach ts X.env).map (·.2)) us) (λ_ s'=>∃Z' H',Inv X ao Z' H' s'/\Q Z' H') X.xe s
noncomputable abbrev zY:=V->V->V->Hp->(Hp->Prop)->Prop
def Gh(X:Cx)(t:zY):Prop:=
 ∀(ao:List (Addr×Obj)) (s:Shared) (Z:St) (H:Hp) (o i v:V) (ov iv u:Value) (Q:Hp->Prop),Inv X ao Z H s->RelV o ov->RelV i iv->RelV v u->t o i v H Q->
  wpAny (model X.prog X.w) X.A (setItem ov iv u) (λ_ s'=>∃H',Inv X ao Z H' s'/\Q H') X.xe s
section
variable {X:Cx}{pos:Pos}
noncomputable def dO(i:Nat):TG:=λv Z H Q=>Q (Z.set i (some v)) H
theorem K7{i:Nat}{x:Str}(hN:X.N.Nodup)(hi:X.N[i]?=some x)(hx:Loc X.env.scope x)(hf:X.fn x=true\/X.env.scope.names.lookup x=some .local:=by first|exact .inl rfl|exact .inr rfl|assumption):PG X (.Name x pos) (dO i):=by
 intro ao s Z H v u Q I r h;exact wpAny_assign_Name (WT I hN hi hx r (λs' I'=>⟨_,H,I',h⟩) hf)
noncomputable def sH:zX:=λvs Z H Q=>vs=[]/\Q Z H
noncomputable def gR(t:TG)(u:zX):zX:=λvs Z H Q=>∃v r,vs=v::r/\t v Z H λZ' H'=>u r Z' H' Q
theorem zje:K6 X [] sH:=by
 intro ao s Z H vs us Q I r h;obtain⟨e,h⟩:=h;subst e;cases r;exact assignInOrder_nil ⟨Z,H,I,h⟩
theorem W5{e:Expr}{es:List Expr}{t:TG}{u:zX}(h1:PG X e t)(h2:K6 X es u)
  (hs:(assignEach (e::es) X.env).map (·.2)=assign e X.env::(assignEach es X.env).map (·.2):=by rfl):K6 X (e::es) (gR t u):=by
 intro ao s Z H vs us Q I r h;obtain⟨v,vr,e1,h⟩:=h;subst e1;cases r with
 |cons r rr=>
  rw[hs];refine assignInOrder_cons (aX (h1 ao s Z H _ _ _ I r h) λ_ s1 hz=>?_);obtain⟨Z1,H1,I1,q1⟩:=hz;exact h2 ao s1 Z1 H1 _ _ Q I1 rr q1
noncomputable def sI(K:W.Frag)(n:Nat)(t:zX):TG:=λv Z H Q=>∃a xs,v=.ref a/\fD K H a xs/\xs.length=n/\t xs Z H Q
theorem zmU{es:List Expr}{k:Nat}{t:zX}{n:Nat}(hc:X.aj=true)(h:K6 X es t)
  (hn:(assignEach es X.env).length=n:=by rfl) (qG:(assignEach es X.env).findIdx? (·.1)=none:=by rfl):PG X (.Tuple es k pos) (sI X.K n t):=by
 intro ao s Z H v u Q I r hw;obtain⟨a,xs,e1,hq,hl,hw⟩:=hw;subst e1;cases r;obtain⟨its,rv,ht,hz⟩:=I.tuple hq;refine assign_Tuple_tuple (I.ok.hd hc) ht (by simp[hn,<-hl,rv.length]) qG λh' hx=>?_;have I1:Inv X ao Z H {s with heap:=h'}:=I.kept (t':=s.toks) λb o e=>hx b o (dU (bW e)) e;exact h ao _ Z H xs _ Q I1 (by simpa using rv) hw
noncomputable def Qc(to ti:TE)(t:zY):TG:=λv Z H Q=>to Z H λo H1=>ti Z H1 λi H2=>t o i v H2 λH3=>Q Z H3
theorem zlr{o i:Expr}{to ti:TE}{t:zY}(ho:PE X o to)(hi:PE X i ti)(hs:Gh X t)
  (ha:∀v,assign (.Subscript o i pos) X.env v=(do
   let ov <-holding [v] (eval o X.env)
   let iv <-holding [v,ov] (eval i X.env)
   standAt pos
   holding [v,ov,iv] (setItem ov iv v)
   release [v,ov,iv] []):=by intro _;rfl):PG X (.Subscript o i pos) (Qc to ti t):=by
 intro ao s Z H v u Q I r h;rw[ha];refine aD (rA (aX (ho ao s Z H _ I h) λov s1 hx=>dX hx λx H1 I1 r1 q1=>?_));refine aD (rA (aX (hi ao s1 Z H1 _ I1 q1) λiv s2 hx=>dX hx λy H2 I2 r2 q2=>?_));refine aD (wpAny_standAt (aD (rA (aX (hs ao s2 Z H2 x y v ov iv u _ I2 r1 r2 r q2) λ_ s3 hx=>uK hx λH3 I3 q3=>?_))));exact wpAny_release ⟨Z,H3,I3,q3⟩
noncomputable def zZ(te:TE)(g:TG):TS:=λD Z H=>te Z H λx H1=>g x Z H1 D.nx
theorem W6{tg e:Expr}{te:TE}{g:TG}(he:PE X e te)(hg:PG X tg g)(hs:swapsWithSole [tg] e pos.line X.env=pure false:=by rfl)(hw:swappedStores [tg] e X.env=pure none:=by rfl)
  (h1:(assignEach [tg] X.env).map (·.2)=[assign tg X.env]:=by rfl):PS X (.Assign [tg] e pos) (zZ te g):=by
 intro ao s Z H D I h;refine wpAny_Assign_stores (aX (he ao s Z H _ I h) λv s1 hx=>dX hx λx H1 I1 r1 q1=>?_) hs hw;rw[h1];exact aX (hg ao s1 Z H1 x v _ I1 r1 q1) λ_ s2 q=>q
theorem zl0{i:Nat}{x:Str}{e:Expr}{te:TE}{pos':Pos}(hN:X.N.Nodup)(hi:X.N[i]?=some x)(hx:Loc X.env.scope x)(he:PE X e te)(hs:swapsWith e (some (.Name x pos')) pos.line X.env=pure false:=by rfl)(hf:X.fn x=true\/X.env.scope.names.lookup x=some .local:=by first|exact .inl rfl|exact .inr rfl|assumption) :
  PS X (.Assign [.Name x pos'] e pos) (zZ te (dO i)):=by
 intro ao s Z H D I h;refine wpAny_Assign_Name (aX (he ao s Z H _ I h) λv s1 hz=>?_) hs;obtain⟨y,H1,I1,r1,q1⟩:=hz;exact WT I1 hN hi hx r1 (λs2 I2=>⟨_,H1,I2,q1⟩) hf
end
section
variable {X:Cx}{pos:Pos}
noncomputable def z_(c:TT)(tb:TS):TS:=λD Z H=>∃W:Nat->St->Hp->Prop,(∃m,W m Z H)/\∀m Z H,W m Z H->
 c Z H λb H1=>if b=true then ∃N:St->Hp->Prop,(∀Z' H',N Z' H'->∃m',m'<m/\W m' Z' H')/\tb {D with nx:=N,ct:=N,bk:=D.nx} Z H1 else D.nx Z H1
theorem zhh{c:Expr}{body:List Stmt}{tc:TT}{tb:TS}(hp:PassesOwn (model X.prog X.w) X.A X.env X.xe)(hc:PT X c tc)(hb:oU X body tb):PS X (.While c body [] pos) (z_ tc tb):=by
 intro ao s Z H D I h;obtain⟨W,⟨m0,w0⟩,turn⟩:=h;refine wpAny_While (codeAny_whileLoop (λn s'=>∃Z' H',Inv X ao Z' H' s'/\W n Z' H') ?_ m0 ⟨Z,H,I,w0⟩);rintro n s1 ⟨Z1,H1,I1,w1⟩;refine zE hp (aX (hc ao s1 Z1 H1 _ I1 (turn n Z1 H1 w1)) λb s2 hx=>uK hx λH2 I2 q2=>?_);cases b with
 |true=>
  obtain⟨N,hN,q2⟩:=q2;rw[if_pos rfl];refine zE hp (aX (hb ao s2 Z1 H2 _ I2 q2) λf s3 q3=>?_);cases f with
  |next=>
   obtain⟨Z3,H3,I3,n3⟩:=q3;obtain⟨m',hm,w3⟩:=hN Z3 H3 n3;exact⟨m',hm,Z3,H3,I3,w3⟩
  |cont=>
   obtain⟨Z3,H3,I3,n3⟩:=q3;obtain⟨m',hm,w3⟩:=hN Z3 H3 n3;exact⟨m',hm,Z3,H3,I3,w3⟩
  |brk=>exact q3
  |ret v=>exact q3
 |false=>
  rw[if_neg El];exact wpAny_execs_nil ⟨Z1,H2,I2,q2⟩
end
structure It where
 go:Nat->Hp->Prop
 Aa:Nat->Hp->V->Hp->Prop
 stop:Nat->Hp->Prop
def iI(X:Cx)(ao:List (Addr×Obj))(H:Hp)(b:Addr):Prop:=
 H b=none/\b≠X.env.locals/\b∉X.fs/\(b∈X.ex\/X.s₀.heap.objs.size<=b)/\(∀x c,X.env.cells.lookup x=some c->c≠b)/\∀p∈X.pn++ao,p.1≠b
theorem Inv.sJ{X:Cx}{ao:List (Addr×Obj)}{Z:St}{H H':Hp}{s:Shared}{b:Addr}(I:Inv X ao Z H s)(hb:s.heap.objs.size<=b)(hn:H' b=none):iI X ao H' b:=by
 refine⟨hn,vp (iB I.lt hb),I.Pk hb,.inr (kW I.sz hb),λx c e z=>?_,λp hp z=>?_⟩
 ·obtain⟨v,q⟩:=I.cell x c e;exact absurd (iB q.lt (by rw[z];exact hb)) (qC _)
 ·exact absurd (iB (bW (I.pin p hp).1) (by rw[z];exact hb)) (qC _)
structure Turn(P:Program)(w:World)(K:W.Frag)(tg:Expr)(cG:It)(fp:List Addr)(it:Addr)(tn:Nat->Heap->Prop):Prop where
 mem:it∈fp
 obj:∀i h,tn i h->∀b∈fp,∃o,h.get? b=some o/\∀v,o.data≠.cell v
 keep:∀i h h',tn i h->(∀b∈fp,∀o,h.get? b=some o->h'.get? b=some o)->tn i h'
 item:∀(X:Cx),X.prog=P->X.w=w->X.K=K->X.aj=true->∀(i:Nat) (ao:List (Addr×Obj)) (s:Shared) (Z:St) (H:Hp) (E:Value->Shared->Prop),Inv X ao Z H s->(∀b∈fp,iI X ao H b)->tn i s.heap->cG.go i H->
  wpAny (model P w) X.A (pyNext (.ref it)) (λr s1=>∃u,r=some u /\
   wpAny (model P w) X.A (letOwnedTupleGo tg (.ref it) u) (λ_ s2=>∃x H',Inv X ao Z H' s2/\RelV x u/\cG.Aa i H x H'/\tn (i+1) s2.heap/\∀b∈fp,H' b=none) E s1) E s
 done:∀(X:Cx),X.prog=P->X.w=w->X.K=K->X.aj=true->∀(i:Nat) (ao:List (Addr×Obj)) (s:Shared) (Z:St) (H:Hp) (E:Value->Shared->Prop),Inv X ao Z H s->(∀b∈fp,iI X ao H b)->tn i s.heap->cG.stop i H->
  wpAny (model P w) X.A (pyNext (.ref it)) (λr s1=>r=none/\Inv X ao Z H s1) E s
 self:∀(A:Around) (i:Nat) (s:Shared) (Q:Value->Shared->Prop) (E:Value->Shared->Prop),tn i s.heap->Q (.ref it) s->wpAny (model P w) A (pyIter (.ref it)) Q E s
noncomputable abbrev TI:=St->Hp->(It->Hp->Prop)->Prop
def PIE(X:Cx)(ao:List (Addr×Obj))(Z:St)(tg:Expr)(R:It->Hp->Prop)(itv:Value)(s2:Shared):Prop:=
 ∃(it:Addr) (fp:List Addr) (tn:Nat->Heap->Prop) (cG:It) (H':Hp),itv=.ref it/\Inv X ao Z H' s2/\Turn X.prog X.w X.K tg cG fp it tn/\tn 0 s2.heap/\(∀b∈fp,iI X ao H' b)/\R cG H'
def PI(X:Cx)(tg iter:Expr)(wi:TI):Prop:=
 ∀(ao:List (Addr×Obj)) (s:Shared) (Z:St) (H:Hp) (R:It->Hp->Prop),Inv X ao Z H s->wi Z H R->
  wpAny (model X.prog X.w) X.A (eval iter X.env) (λv s1=>wpAny (model X.prog X.w) X.A (pyIter v) (PIE X ao Z tg R) X.xe s1) X.xe s
theorem Qd{M:Model}{A:Around}{E:Value->Shared->Prop}{s:Shared}{tg:Expr}{it:Addr}{u:Value}{o:Obj}{n:String}{vs:Array Value}{Q:Unit->Shared->Prop}(ho:s.heap.get? it=some o)(hc:o.cls=.type n)(hd:o.data=.fields vs)
  (hn:["enumerate","zip","dict_itemiterator","dict_reverseitemiterator","odict_iterator","itertools.zip_longest","itertools.pairwise"].contains n=false) (hQ:Q () s):wpAny M A (letOwnedTupleGo tg (.ref it) u) Q E s:=by
 unfold letOwnedTupleGo;cases tg<;>first
  |exact bw hQ
  | (cases u<;>first
    |exact bw hQ
    | (refine aD (wpAny_load ho ?_)
       rw[hc,hd];show wpAny M A (if (["enumerate","zip","dict_itemiterator","dict_reverseitemiterator","odict_iterator","itertools.zip_longest","itertools.pairwise"].contains n&&vs[0]?==some (rawInt _))=true then _ else _) Q E s;rw[if_neg (by intro h;rw[hn,Bool.false_and] at h;cases h)];exact bw hQ))
noncomputable def K8(K:W.Frag)(a:Addr):It:=
 ⟨λi H=>∃xs x,cR K H a xs/\xs[i]?=some x,λi H x H'=>H'=H/\∀xs,cR K H a xs->xs[i]?=some x,λi H=>∃xs,cR K H a xs/\xs.length<=i⟩
noncomputable def Qe(K:W.Frag)(a:Addr):It:=
 ⟨λi H=>∃xs x,fD K H a xs/\xs[i]?=some x,λi H x H'=>H'=H/\∀xs,fD K H a xs->xs[i]?=some x,λi H=>∃xs,fD K H a xs/\xs.length<=i⟩
noncomputable def Gi(lo:Int)(n:Nat):It:=⟨λi _=>i<n,λi H x H'=>H'=H/\x=.int (lo+i),λi _=>n<=i⟩
theorem zfY{P:Program}{w:World}{K:W.Frag}{tg:Expr}(a it:Addr):Turn P w K tg (K8 K a) [it] it (λi h=>h.IsListIter it a i) where
 mem:=by simp
 obj:=λi h st b hb=>by
  have e:b=it:=by simpa using hb
  subst e;obtain⟨o,e,c,d⟩:=st;exact⟨o,e,λv z=>by rw[d] at z;cases z⟩
 keep:=λi h h' st k=>st.at λo e=>k it Rb o e
 item:=by
  intro X hP hw hK hc i ao s Z H E I hf st hg;subst hP hw hK;obtain⟨xs,x,hq,hx⟩:=hg;obtain⟨its,rv,p,hz⟩:=I.list hq;obtain⟨u,hu,ru⟩:=rv.get hx;obtain⟨f0,f1,f2,f3,f4,f5⟩:=hf it Rb;refine wpAny_pyNext_list_item st p.isList (x:=u) (by simpa using hu) λh' st' sb=>?_;have I1:Inv X ao Z H {s with heap:=h'}:=I.turned (t':=s.toks) (λb o hb e=>(sb.2 b hb).trans e) f0 f1 f3 f4 f5;obtain⟨o,e,c,d⟩:=id st';exact⟨u,rfl,Qd (s:={s with heap:=h'}) e c d J0 ⟨x,H,I1,ru,⟨rfl,λys hy=>by rw[I.m_ hy hq];exact hx⟩,st',λb hb=>(hf b hb).1⟩⟩
 done:=by
  intro X hP hw hK hc i ao s Z H E I hf st hg;subst hP hw hK;obtain⟨xs,hq,hx⟩:=hg;obtain⟨its,rv,p,hz⟩:=I.list hq;obtain⟨f0,f1,f2,f3,f4,f5⟩:=hf it Rb;have hl:=rv.length;exact wpAny_pyNext_list_end (I.ok.hd hc) st p.isList (by simp;lia) λh' eb=>⟨rfl,I.turned (t':=s.toks) (λb o hb e=>eb b o hb e) f0 f1 f3 f4 f5⟩
 self:=λ_ _ _ _ _ st h=>wpAny_pyIter_listiter st h
theorem ze6{P:Program}{w:World}{K:W.Frag}{tg:Expr}(a it:Addr):Turn P w K tg (Qe K a) [it] it (λi h=>h.IsTupleIter it a i) where
 mem:=by simp
 obj:=λi h st b hb=>by
  have e:b=it:=by simpa using hb
  subst e;obtain⟨o,e,c,d⟩:=st;exact⟨o,e,λv z=>by rw[d] at z;cases z⟩
 keep:=λi h h' st k=>st.at λo e=>k it Rb o e
 item:=by
  intro X hP hw hK hc i ao s Z H E I hf st hg;subst hP hw hK;obtain⟨xs,x,hq,hx⟩:=hg;obtain⟨its,rv,p,hz⟩:=I.tuple hq;obtain⟨u,hu,ru⟩:=rv.get hx;obtain⟨f0,f1,f2,f3,f4,f5⟩:=hf it Rb;refine wpAny_pyNext_tuple_item st (show s.heap.IsTuple a its.toArray from p) (x:=u) (by simpa using hu) λh' st' sb=>?_;have I1:Inv X ao Z H {s with heap:=h'}:=I.turned (t':=s.toks) (λb o hb e=>(sb.2 b hb).trans e) f0 f1 f3 f4 f5;obtain⟨o,e,c,d⟩:=id st';exact⟨u,rfl,Qd (s:={s with heap:=h'}) e c d J0 ⟨x,H,I1,ru,⟨rfl,λys hy=>by rw[I.kZ hy hq];exact hx⟩,st',λb hb=>(hf b hb).1⟩⟩
 done:=by
  intro X hP hw hK hc i ao s Z H E I hf st hg;subst hP hw hK;obtain⟨xs,hq,hx⟩:=hg;obtain⟨its,rv,p,hz⟩:=I.tuple hq;obtain⟨f0,f1,f2,f3,f4,f5⟩:=hf it Rb;have hl:=rv.length;exact wpAny_pyNext_tuple_end (I.ok.hd hc) st (show s.heap.IsTuple a its.toArray from p) (by simp;lia) λh' eb=>⟨rfl,I.turned (t':=s.toks) (λb o hb e=>eb b o hb e) f0 f1 f3 f4 f5⟩
 self:=λ_ _ _ _ _ st h=>wpAny_pyIter_tupleiter st h
theorem zeV{P:Program}{w:World}{K:W.Frag}{tg:Expr}(it:Addr)(lo:Int)(n:Nat):Turn P w K tg (Gi lo n) [it] it (λi h=>IsRangeIter h it (lo+(i:Nat)*1) ((n:Int)-(i:Nat)) 1) where
 mem:=by simp
 obj:=λi h st b hb=>by
  have e:b=it:=by simpa using hb
  subst e;exact⟨_,st,λv z=>by
   have z':Data.fields _=Data.cell v:=z;cases z'⟩
 keep:=λi h h' st k=>k it Rb _ st
 item:=by
  intro X hP hw hK hc i ao s Z H E I hf st hg;subst hP hw hK;obtain⟨f0,f1,f2,f3,f4,f5⟩:=hf it Rb;have W:=Walks.range (prog:=X.prog) (w:=X.w) (I.ok.hd hc) it lo 1 n;refine W.item i s _ _ hg st λv h' tk hv st' kk=>?_;obtain⟨t,rfl⟩:=hv;have I1:Inv X ao Z H {s with heap:=h',toks:=tk}:=I.turned (λb o hb e=>kk b o (by simpa using hb) e) f0 f1 f3 f4 f5;refine⟨_,rfl,Qd (s:={s with heap:=h',toks:=tk}) (n:="range_iterator") st' rfl rfl J0 ⟨.int (lo+i),H,I1,⟨t,?_⟩,⟨rfl,rfl⟩,st',λb hb=>(hf b hb).1⟩⟩;rw[Int.mul_one]
 done:=by
  intro X hP hw hK hc i ao s Z H E I hf st hg;subst hP hw hK;obtain⟨f0,f1,f2,f3,f4,f5⟩:=hf it Rb;exact wpAny_pyNext_range_end (I.ok.hd hc) st (by have:n<=i:=hg;lia) λh' eb=>⟨rfl,I.turned (t':=s.toks) (λb o hb e=>eb b o hb e) f0 f1 f3 f4 f5⟩
 self:=λ_ _ _ _ _ st h=>wpAny_pyIter_rangeiter st h
section
variable {X:Cx}{tg:Expr}
theorem W7{ao:List (Addr×Obj)}{Z:St}{H:Hp}{s:Shared}{R:It->Hp->Prop}{E:Value->Shared->Prop}{lo hi:Int}{t u v:Tok}{tk:Nat}(I:Inv X ao Z H s)(h1 : -(2^62)<=lo)(h2:lo<2^62)(h3 : -(2^62)<=hi)(h4:hi<2^62)
  (q:R (Gi lo (hi-lo).toNat) H):wpAny (model X.prog X.w) X.A (pyIter (.ref s.heap.objs.size)) (PIE X ao Z tg R) E {s with heap:=s.heap.push {cls:=.type "range",data:=.fields #[.int lo t,.int hi u,.int 1 v]},toks:=tk}:=by
 refine wpAny_pyIter_range (IsRange.new ..) (small_one h1 h2 h3 h4) ?_;have I1:Inv X ao Z H {s with heap:=s.heap.push {cls:=.type "range",data:=.fields #[.int lo t,.int hi u,.int 1 v]},toks:=tk}:=I.kept λb o e=>cQ _ e;refine⟨(s.heap.push {cls:=.type "range",data:=.fields #[.int lo t,.int hi u,.int 1 v]}).objs.size,[(s.heap.push {cls:=.type "range",data:=.fields #[.int lo t,.int hi u,.int 1 v]}).objs.size],_,_,H,rfl,
  I1.kept (t':=tk) λb o e=>cQ _ e,zeV _ lo (hi-lo).toNat,?_,λb hb=>?_,q⟩
 ·have e1:lo+((0:Nat):Int)*1=lo:=by simp
  have e2:(((hi-lo).toNat:Nat):Int)-((0:Nat):Int)=Builtin.Range.rangeSize lo hi 1:=by rw[rangeSize_one];split<;>lia
  show IsRangeIter _ _ (lo+((0:Nat):Int)*1) ((((hi-lo).toNat:Nat):Int)-((0:Nat):Int)) 1;rw[e1,e2];exact fu _ rfl
 ·have e:b=(s.heap.push {cls:=.type "range",data:=.fields #[.int lo t,.int hi u,.int 1 v]}).objs.size:=by simpa using hb
  subst e;exact I1.sJ (bU _) (I1.hok.fresh (bU _))
noncomputable def Gj(ta:TA):TI:=λZ H R=>ta Z H λvs H1=>∃j:Int,vs=[.int j]/\-(2^62)<=j/\j<2^62/\R (Gi 0 j.toNat) H1
noncomputable def Gk(ta:TA):TI:=λZ H R=>ta Z H λvs H1=>∃i j:Int,vs=[.int i,.int j]/\(-(2^62)<=i/\i<2^62/\-(2^62)<=j/\j<2^62)/\R (Gi i (j-i).toNat) H1
theorem zfJ{a:Expr}{ta:TA}{p pos:Pos}(hg:Gl X "range")(hm:X.mg "range"=none)(ha:PA X [a] ta)(hs:starEach [a] X.env=[(false,eval a X.env)]:=by rfl):PI X tg (.Call (.Name "range" p) [a] [] pos) (Gj ta):=by
 intro ao s Z H R I h;refine Call_ (uN I hg hm boot_range (wX (aX (ha pos ao s Z H _ I h) λus s1 hx=>dX hx λvs H1 I1 r1 q1=>?_) hs rfl));obtain⟨j,e,q1,q2,q⟩:=q1;subst e;cases r1 with
 |cons r rr=>
  cases rr;obtain⟨t,rfl⟩:=r;exact call_range_1 (W7 I1 gV gV q1 q2 (by simpa using q))
theorem zgj{a b:Expr}{ta:TA}{p pos:Pos}(hg:Gl X "range")(hm:X.mg "range"=none)(ha:PA X [a,b] ta)(hs:starEach [a,b] X.env=[(false,eval a X.env),(false,eval b X.env)]:=by rfl)(vB:starEach [b] X.env=[(false,eval b X.env)]:=by rfl) :
  PI X tg (.Call (.Name "range" p) [a,b] [] pos) (Gk ta):=by
 intro ao s Z H R I h;refine Call_ (uN I hg hm boot_range (wX (aX (ha pos ao s Z H _ I h) λus s1 hx=>dX hx λvs H1 I1 r1 q1=>?_) (by rw[hs,vB]) (by rw[vB];rfl)));obtain⟨i,j,e,⟨q1,q2,q3,q4⟩,q⟩:=q1;subst e;cases r1 with
 |cons r rr=>
  cases rr with
  |cons r' rr=>
   cases rr;obtain⟨t,rfl⟩:=r;obtain⟨t',rfl⟩:=r';exact call_range_2 (W7 I1 q1 q2 q3 q4 q)
noncomputable def Qf(wi:TI)(g:TG)(tb:TS):TS:=λD Z H=>wi Z H λcG H1=>∃W:Nat->Nat->St->Hp->Prop,(∃m,W 0 m Z H1)/\∀i m Z H,W i m Z H->
 (cG.stop i H/\D.nx Z H)\/(cG.go i H/\∃N:St->Hp->Prop,(∀Z' H',N Z' H'->∃m',m'<m/\W (i+1) m' Z' H')/\∀x H',cG.Aa i H x H'->g x Z H' λZ2 H2=>tb {D with nx:=N,ct:=N,bk:=D.nx} Z2 H2)
noncomputable def jC(fp:List Addr)(h:Heap):List (Addr×Obj):=fp.filterMap λb=>(h.get? b).map λo=>(b,o)
theorem K9{fp:List Addr}{h:Heap}{b:Addr}{o:Obj}(hb:b∈fp)(e:h.get? b=some o):(b,o)∈jC fp h:=qw.mpr ⟨b,hb,by rw[e];rfl⟩
theorem zge{fp:List Addr}{h:Heap}{p:Addr×Obj}(hp:p∈jC fp h):p.1∈fp/\h.get? p.1=some p.2:=by
 obtain⟨b,hb,e⟩:=qw.mp hp;cases q:h.get? b with
 |none=>rw[q] at e;cases e
 |some o=>
  rw[q] at e;have e':(b,o)=p:=cW e;subst e';exact⟨hb,q⟩
theorem Inv.pinned{ao:List (Addr×Obj)}{Z:St}{H:Hp}{s:Shared}{fp:List Addr}(I:Inv X ao Z H s)(hf:∀b∈fp,iI X ao H b)(ho:∀b∈fp,∃o,s.heap.get? b=some o/\∀v,o.data≠.cell v):Inv X (ao++jC fp s.heap) Z H s:=
 I.lV λp hp=>(kO.mp hp).elim (λz=>I.pin p (uz _ z)) λz=>by
  obtain⟨hb,e⟩:=zge z;obtain⟨f0,f1,f2,_⟩:=hf p.1 hb;obtain⟨o,e',d⟩:=ho p.1 hb;rw[e] at e';cases e';exact⟨e,f0,f1,f2,d⟩
theorem Inv.gU{ao pl:List (Addr×Obj)}{Z:St}{H:Hp}{s:Shared}(I:Inv X (ao++pl) Z H s):Inv X ao Z H s:=I.lV λp hp=>I.pin p (uz _ (Kf _ hp))
theorem zmB{iter:Expr}{body:List Stmt}{wi:TI}{g:TG}{tb:TS}{pos:Pos}(hp:PassesOwn (model X.prog X.w) X.A X.env X.xe)(hc:X.aj=true)(hi:PI X tg iter wi)(hg:PG X tg g)(hb:oU X body tb)
  (hs:∀x,foldedSetIterable iter X.env x=pure x:=by intro _;rfl):PS X (.For tg iter body [] pos) (Qf wi g tb):=by
 intro ao s Z H D I h;refine wpAny_For (aX (hi ao s Z H _ I h) λv s1 h1=>aX h1 λitv s2 h2=>?_) hs;obtain⟨it,fp,tn,cG,H2,e,I2,T,st2,f2,W,⟨m0,w0⟩,turn⟩:=h2;subst e;have stat:∀{H':Hp},(∀b∈fp,H' b=none)->∀b∈fp,iI X ao H' b:=λhn b hb=>⟨hn b hb,(f2 b hb).2⟩;refine codeAny_forLoop_any (λn s'=>∃i Z' H',Inv X ao Z' H' s'/\tn i s'.heap/\(∀b∈fp,H' b=none)/\W i n Z' H') ?_ m0 ⟨0,Z,H2,I2,st2,λb hb=>(f2 b hb).1,w0⟩;rintro n s3 ⟨i,Z3,H3,I3,st3,W8,w3⟩;rcases turn i n Z3 H3 w3 with ⟨stop,qn⟩|⟨go,N,hN,step⟩
 ·refine zE hp (aX (T.done X rfl rfl rfl hc i ao s3 Z3 H3 X.xe I3 (stat W8) st3 stop) λr s4 ⟨hr,I4⟩=>?_);subst hr;exact wpAny_execs_nil ⟨Z3,H3,I4,qn⟩
 ·refine zE hp (aX (T.item X rfl rfl rfl hc i ao s3 Z3 H3 X.xe I3 (stat W8) st3 go) λr s4 hx=>uK hx λu hr h4=>?_);subst hr;refine zE hp (aX h4 λ_ s5 hz=>?_);obtain⟨x,H5,I5,r5,y5,Dg,K_⟩:=hz;have I5':=I5.pinned (stat K_) (T.obj _ _ Dg);refine zE hp (aX (hg _ s5 Z3 H5 x u _ I5' r5 (step x H5 y5)) λ_ s6 hz=>?_);obtain⟨Z6,H6,I6,q6⟩:=hz;refine zE hp (aX (hb _ s6 Z6 H6 _ I6 q6) λf s7 q7=>?_);have again:∀{Z7:St} {H7:Hp},Inv X (ao++jC fp s5.heap) Z7 H7 s7->N Z7 H7->∃m,m<n/\∃i Z' H',Inv X ao Z' H' s7/\tn i s7.heap/\(∀b∈fp,H' b=none)/\W i m Z' H':=λ{Z7 H7} I7 n7=>by
   obtain⟨m',hm,w7⟩:=hN Z7 H7 n7;refine⟨m',hm,i+1,Z7,H7,I7.gU,T.keep _ _ _ Dg λb hb o e=>(I7.pin (b,o) (uz _ (uz _ (K9 hb e)))).1,λb hb=>?_,w7⟩;obtain⟨o,e,d⟩:=T.obj _ _ Dg b hb;exact(I7.pin (b,o) (uz _ (uz _ (K9 hb e)))).2.1
  cases f with
  |next=>obtain⟨Z7,H7,I7,n7⟩:=q7;exact again I7 n7
  |cont=>obtain⟨Z7,H7,I7,n7⟩:=q7;exact again I7 n7
  |brk=>obtain⟨Z7,H7,I7,q7⟩:=q7;exact⟨Z7,H7,I7.gU,q7⟩
  |ret v=>obtain⟨x7,Z7,H7,I7,r7,q7⟩:=q7;exact⟨x7,Z7,H7,I7.gU,r7,q7⟩
end
noncomputable abbrev R2:=V->V->Hp->VK->Prop
def eF(X:Cx)(f:Value->Value->Sem Value)(r:R2):Prop:=
 ∀(ao:List (Addr×Obj)) (s:Shared) (Z:St) (H:Hp) (x y:V) (v u:Value) (Q:VK),Inv X ao Z H s->RelV x v->RelV y u->r x y H Q->
  wpAny (model X.prog X.w) X.A (f v u) (EP X ao Z Q) X.xe s
def La(X:Cx)(f:Value->Sem Value)(r:V->Hp->VK->Prop):Prop:=
 ∀(ao:List (Addr×Obj)) (s:Shared) (Z:St) (H:Hp) (x:V) (v:Value) (Q:VK),Inv X ao Z H s->RelV x v->r x H Q->
  wpAny (model X.prog X.w) X.A (f v) (EP X ao Z Q) X.xe s
def cT(X:Cx)(f:Value)(r:List V->Hp->VK->Prop):Prop:=
 ∀(ao:List (Addr×Obj)) (s:Shared) (Z:St) (H:Hp) (xs:List V) (us:List Value) (Q:VK),Inv X ao Z H s->Vals xs us->r xs H Q->
  wpAny (model X.prog X.w) X.A (call f us) (EP X ao Z Q) X.xe s
def Qg(X:Cx)(r:V->Hp->(Bool->Hp->Prop)->Prop):Prop:=
 ∀(ao:List (Addr×Obj)) (s:Shared) (Z:St) (H:Hp) (x:V) (v:Value) (Q:Bool->Hp->Prop),Inv X ao Z H s->RelV x v->r x H Q->
  wpAny (model X.prog X.w) X.A (truthy v) (TP X ao Z Q) X.xe s
noncomputable def Dh(r:R2)(ta tb:TE):TE:=λZ H Q=>ta Z H λx H1=>tb Z H1 λy H2=>r x y H2 Q
noncomputable def tUn(r:V->Hp->VK->Prop)(ta:TE):TE:=λZ H Q=>ta Z H λx H1=>r x H1 Q
noncomputable def rI(C:Int->Int->Prop)(g:Int->Int->V):R2:=λx y H Q=>∃i j,x=.int i/\y=.int j/\C i j/\Q (g i j) H
noncomputable def nj(g:Int->Int->V):R2:=λx y H Q=>∃i j,x=.int i/\y=.int j/\Q (g i j) H
noncomputable def rU(g:Int->V):V->Hp->VK->Prop:=λx H Q=>∃i,x=.int i/\Q (g i) H
section
variable {X:Cx}{a b c:Expr}{ta tb tc:TE}{pos:Pos}
theorem Ab(ha:PE X a ta)(hb:PE X b tb){ao:List (Addr×Obj)}{s:Shared}{Z:St}{H:Hp}{R:V->V->Hp->Prop}(I:Inv X ao Z H s)
  (h:ta Z H λx H1=>tb Z H1 λy H2=>R x y H2) {Q:Value->Shared->Prop} {f:Value->Value->Sem Value}
  (hf:∀v u s2 x y H2,Inv X ao Z H2 s2->RelV x v->RelV y u->R x y H2->wpAny (model X.prog X.w) X.A (f v u) Q X.xe s2) :
  wpAny (model X.prog X.w) X.A (eval a X.env) (λv s₁=>wpAny (model X.prog X.w) X.A (eval b X.env) (λu s₂=>wpAny (model X.prog X.w) X.A (f v u) Q X.xe s₂) X.xe s₁) X.xe s:=by
 refine aX (ha ao s Z H _ I h) λv s1 hx=>dX hx λx H1 I1 r1 q1=>?_;refine aX (hb ao s1 Z H1 _ I1 q1) λu s2 hx=>dX hx λy H2 I2 r2 q2=>?_;exact hf v u s2 x y H2 I2 r1 r2 q2
theorem znQ{op:Operator}{r:R2}(ho:eF X (binaryOp op) r)(ha:PE X a ta)(hb:PE X b tb):PE X (.BinOp a op b pos) (Dh r ta tb):=by
 intro ao s Z H Q I h;exact wpAny_BinOp (Ab ha hb I h λv u s2 x y H2 I2 rx ry q=>ho ao s2 Z H2 x y v u Q I2 rx ry q)
theorem zoi{op:UnaryOp}{r:V->Hp->VK->Prop}(ho:La X (unaryOp op) r)(ha:PE X a ta):PE X (.UnaryOp op a pos) (tUn r ta):=by
 intro ao s Z H Q I h;exact UnaryOp_ (aX (ha ao s Z H _ I h) λv s1 hx=>dX hx λx H1 I1 r1 q1=>ho ao s1 Z H1 x v Q I1 r1 q1)
theorem Lb{f:Value->Value->Sem Value}{C:Int->Int->Prop}{g:Int->Int->Int}
  (rule:∀(i j:Int) (t u:Tok) (s:Shared) (Q:Value->Shared->Prop) (E:Value->Shared->Prop),C i j->Q (.int (g i j) s.toks) {s with toks:=s.toks+1}->wpAny (model X.prog X.w) X.A (f (.int i t) (.int j u)) Q E s) :
  eF X f (rI C λi j=>.int (g i j)):=by
 intro ao s Z H x y v u Q I rx ry h;obtain⟨i,j,rfl,rfl,hc,q⟩:=h;obtain⟨t,rfl⟩:=rx;obtain⟨t',rfl⟩:=ry;exact rule i j t t' s _ _ hc ⟨.int (g i j),H,I.tok _,⟨_,rfl⟩,q⟩
theorem Gm{f:Value->Value->Sem Value}{g:Int->Int->Int}
  (rule:∀(i j:Int) (t u:Tok) (s:Shared) (Q:Value->Shared->Prop) (E:Value->Shared->Prop),Q (.int (g i j) s.toks) {s with toks:=s.toks+1}->wpAny (model X.prog X.w) X.A (f (.int i t) (.int j u)) Q E s) :
  eF X f (nj λi j=>.int (g i j)):=by
 intro ao s Z H x y v u Q I rx ry h;obtain⟨i,j,rfl,rfl,q⟩:=h;obtain⟨t,rfl⟩:=rx;obtain⟨t',rfl⟩:=ry;exact rule i j t t' s _ _ ⟨.int (g i j),H,I.tok _,⟨_,rfl⟩,q⟩
theorem vC{f:Value->Value->Sem Value}{g:Int->Int->Bool}
  (rule:∀(i j:Int) (t u:Tok) (s:Shared) (Q:Value->Shared->Prop) (E:Value->Shared->Prop),Q (.bool (g i j)) s->wpAny (model X.prog X.w) X.A (f (.int i t) (.int j u)) Q E s) :
  eF X f (nj λi j=>.bl (g i j)):=by
 intro ao s Z H x y v u Q I rx ry h;obtain⟨i,j,rfl,rfl,q⟩:=h;obtain⟨t,rfl⟩:=rx;obtain⟨t',rfl⟩:=ry;exact rule i j t t' s _ _ ⟨.bl (g i j),H,I,rfl,q⟩
def vD(i j:Int):Prop:=0<j/\j<1073741824
def Gn(i j:Int):Prop:=0<=j/\j<=1000000/\i.natAbs<2^64
def vG(i j:Int):Prop:=(-(2^64)<i/\i<2^64)\/(-(2^64)<j/\j<2^64)
theorem vG.ok{i j:Int}(h:vG i j):IntMulOk i j:=by
 rcases h with ⟨h1,h2⟩|⟨h1,h2⟩
 ·exact .of_left (intBits_le_64 h1 h2)
 ·exact .of_right (intBits_le_64 h1 h2)
theorem Ac:eF X (binaryOp .Add) (nj λi j=>.int (i+j)):=Gm λ_ _ _ _ _ _ _ q=>add_int q
theorem zmC:eF X (binaryOp .Sub) (nj λi j=>.int (i-j)):=Gm λ_ _ _ _ _ _ _ q=>sub_int q
theorem zlq:eF X (binaryOp .Mult) (rI vG λi j=>.int (i*j)):=Lb λ_ _ _ _ _ _ _ hc q=>mul_int q hc.ok
theorem zjV:eF X (binaryOp .FloorDiv) (rI vD λi j=>.int (i/j)):=Lb λi j _ _ _ _ _ hc q=>by
 have h1:(0:Int)<j:=hc.1;have h2:j<1073741824:=hc.2;exact floordiv_int gV (by rw[Int.fdiv_eq_ediv_of_nonneg i gV];exact q) (.inl (PyProof.noPylong_small gV))
theorem zlH:eF X (binaryOp .Mod) (rI (λ_ j=>0<j) λi j=>.int (i%j)):=Lb λi j _ _ _ _ _ hc q=>by
 have h1:(0:Int)<j:=hc;exact mod_int' gV (by rw[Int.fmod_eq_emod_of_nonneg i gV];exact q)
theorem zmZ:eF X (binaryOp .Pow) (rI Gn λi j=>.int (i^j.toNat)):=Lb λ_ _ _ _ _ _ _ hc q=>pow_int_small hc.1 hc.2.1 hc.2.2 q
theorem unI{f:Value->Sem Value}{g:Int->Int}
  (rule:∀(i:Int) (t:Tok) (s:Shared) (Q:Value->Shared->Prop) (E:Value->Shared->Prop),Q (.int (g i) s.toks) {s with toks:=s.toks+1}->wpAny (model X.prog X.w) X.A (f (.int i t)) Q E s) :
  La X f (rU λi=>.int (g i)):=by
 intro ao s Z H x v Q I rx h;obtain⟨i,rfl,q⟩:=h;obtain⟨t,rfl⟩:=rx;exact rule i t s _ _ ⟨.int (g i),H,I.tok _,⟨_,rfl⟩,q⟩
theorem zmG:La X (unaryOp .USub) (rU λi=>.int (-i)):=unI λ_ _ _ _ _ q=>neg_int q
end
section
variable {X:Cx}{a b c:Expr}{ta tb tc:TE}{pos:Pos}
theorem Gp:eF X (compareOp .Lt) (nj λi j=>.bl (decide (i<j))):=vC λ_ _ _ _ _ _ _ q=>lt_int q
theorem zob:eF X (compareOp .LtE) (nj λi j=>.bl (decide (i<=j))):=vC λ_ _ _ _ _ _ _ q=>le_int q
theorem znM:eF X (compareOp .Gt) (nj λi j=>.bl (decide (j<i))):=vC λ_ _ _ _ _ _ _ q=>gt_int q
theorem znb:eF X (compareOp .GtE) (nj λi j=>.bl (decide (j<=i))):=vC λ_ _ _ _ _ _ _ q=>ge_int q
theorem eF.or{f:Value->Value->Sem Value}{r r':R2}(h:eF X f r)(h':eF X f r'):eF X f (λx y H Q=>r x y H Q\/r' x y H Q):=by
 intro ao s Z H x y v u Q I rx ry q;rcases q with q|q
 ·exact h ao s Z H x y v u Q I rx ry q
 ·exact h' ao s Z H x y v u Q I rx ry q
theorem zjK{op:CmpOp}{r:R2}(ho:eF X (compareOp op) r)(ha:PE X a ta)(hb:PE X b tb)(hm:behindInMarks op b=false):PE X (.Compare a [op] [b] pos) (Dh r ta tb):=by
 intro ao s Z H Q I h;exact wpAny_Compare1 (Ab ha hb I h λv u s2 x y H2 I2 rx ry q=>ho ao s2 Z H2 x y v u Q I2 rx ry q) hm
noncomputable def xW(t:TE):TT:=λZ H Q=>t Z H λx H'=>∃k,x=.bl k/\Q k H'
theorem zj8{op:CmpOp}{r:R2}(ho:eF X (compareOp op) r)(ha:PE X a ta)(hb:PE X b tb)(hm:behindInMarks op b=false):PT X (.Compare a [op] [b] pos) (xW (Dh r ta tb)):=by
 intro ao s Z H Q I h;refine Oh (aX (ha ao s Z H _ I h) λv s1 hx=>dX hx λx H1 I1 r1 q1=>aX (hb ao s1 Z H1 _ I1 q1) λu s2 hx=>dX hx λy H2 I2 r2 q2=>
  aX (ho ao s2 Z H2 x y v u _ I2 r1 r2 q2) λc s3 hx=>KZ hx λz H3 I3 r3 k e q3=>?_) hm
 subst e;cases r3;exact rz ⟨H3,I3,q3⟩
noncomputable def Ad(r r':R2)(ta tb tc:TE):TE:=λZ H Q=>ta Z H λx H1=>tb Z H1 λy H2=>r x y H2 λz H3=>∃k,z=.bl k /\
 (if k=true then tc Z H3 λw' H4=>r' y w' H4 Q else Q (.bl false) H3)
theorem zhW{op op':CmpOp}{r r':R2}(ho:eF X (compareOp op) r)(sG:eF X (compareOp op') r')(ha:PE X a ta)(hb:PE X b tb)(hc:PE X c tc)
  (hm:lastMarks [op,op'] [b,c]=false:=by with_unfolding_all rfl):PE X (.Compare a [op,op'] [b,c] pos) (Ad r r' ta tb tc):=by
 intro ao s Z H Q I h;refine Compare_chain (aX (ha ao s Z H _ I h) λv s1 hx=>dX hx λx H1 I1 r1 q1=>chain_link (aX (hb ao s1 Z H1 _ I1 q1) λu s2 hx=>dX hx λy H2 I2 r2 q2=>
  aX (ho ao s2 Z H2 x y v u _ I2 r1 r2 q2) λd s3 hx=>KZ hx λz H3 I3 r3 k e q3=>?_)) hm
 subst e;cases r3;refine rz ?_;cases k with
 |false=>exact ite_ff ⟨.bl false,H3,I3,rfl,q3⟩
 |true=>exact ite_tt (chain_last (aX (hc ao s3 Z H3 _ I3 q3) λw' s4 hx=>dX hx λz' H4 I4 r4 q4=>sG ao s4 Z H4 y z' u w' Q I4 r2 r4 q4))
def Ae(K:W.Frag)(x:V)(H:Hp)(k:Bool):Prop:=
 match x with
 |.non=>k=false
 |.bl b=>k=b
 |.int i=>k=(i != 0)
 |.str y=>y.length<=sizeLine/\k=((y.length:Int) != 0)
 |.zQ y=>y.size<=sizeLine/\k=((y.size:Int) != 0)
 |.ref p=>(∃xs,cR K H p xs/\k = !xs.isEmpty)\/(∃xs,fD K H p xs/\k = !xs.isEmpty)\/∃kvs,H p=some (.dK kvs)/\k = !kvs.isEmpty
 |_=>False
theorem zeO{κ:Type}{kvs:List (κ×V)}{vs:List (κ×Value)}(r:KV kvs vs):(!vs.isEmpty) = !kvs.isEmpty:=by
 cases r<;>rfl
theorem W9{xs:List V}{its:List Value}(r:Vals xs its):(!its.toArray.isEmpty) = !xs.isEmpty:=by
 cases r<;>simp
theorem iJ:(sizeLine:Nat)<2^63:=by rw[uI];decide
theorem zlc:Qg X (λx H Q=>∃k,Ae X.K x H k/\Q k H):=by
 intro ao s Z H x v Q I rx h;obtain⟨k,e,q⟩:=h;have hl:=iJ;have hs:sizeLine=16777216:=uI;cases x with
 |non=>
  cases rx;have e':k=false:=e;subst e';exact truthy_none ⟨H,I,q⟩
 |bl b=>
  cases rx;have e':k=b:=e;subst e';exact rz ⟨H,I,q⟩
 |int i=>
  obtain⟨t,rfl⟩:=rx;have e':k=(i != 0):=e;subst e';exact PySem.P.truthy_int ⟨H,I,q⟩
 |str y=>
  obtain⟨t,rfl⟩:=rx;obtain⟨hy,e'⟩ : y.length<=sizeLine/\k=((y.length:Int) != 0):=e;subst e';exact PySem.P.truthy_str gV ⟨H,I.tok _,q⟩
 |zQ y=>
  obtain⟨t,rfl⟩:=rx;obtain⟨hy,e'⟩ : y.size<=sizeLine/\k=((y.size:Int) != 0):=e;subst e';exact PySem.W.truthy_bytes gV ⟨H,I.tok _,q⟩
 |ref p=>
  cases rx;have e':(∃xs,cR X.K H p xs/\k = !xs.isEmpty)\/(∃xs,fD X.K H p xs/\k = !xs.isEmpty)\/∃kvs,H p=some (.dK kvs)/\k = !kvs.isEmpty:=e;rcases e' with ⟨xs,hx,e'⟩|⟨xs,hx,e'⟩|⟨kvs,hx,e'⟩
  ·subst e';obtain⟨its,r,pl,hz⟩:=I.list hx;have hlen:=r.length;exact wpAny_truthy_list pl.isList (by simp only[eY];lia) ⟨H,I.tok _,by rw[W9 r];exact q⟩
  ·subst e';obtain⟨its,r,pl,hz⟩:=I.tuple hx;have hlen:=r.length;exact truthy_tuple pl (by simp only[eY];lia) ⟨H,I.tok _,by rw[W9 r];exact q⟩
  ·subst e';obtain⟨hz,hS,vs,r,m⟩ : kvs.length<=sizeLine/\(p==sysModules)=false/\∃vs,KV kvs vs/\s.heap.DictOf (lN X.prog X.w) p vs:=I.hok p _ hx;have hlen:kvs.length=vs.length:=Paired.length r;exact wpAny_truthy_dict hS m gV ⟨H,I.tok _,by rw[zeO r];exact q⟩
 |_=>exact(show False from e).elim
theorem zeM:eF X (binaryOp .Add) (λx y H Q=>∃i j,x=.str i/\y=.str j/\i.length+j.length<=sizeLine/\Q (.str (i++j)) H):=by
 intro ao s Z H x y v u Q I rx ry h;obtain⟨i,j,rfl,rfl,hz,q⟩:=h;obtain⟨t,rfl⟩:=rx;obtain⟨t',rfl⟩:=ry;exact add_str (λt' tk=>⟨.str (i++j),H,I.tok _,⟨_,rfl⟩,q⟩) hz
theorem vals1{x:V}{us:List Value}(r:Vals [x] us):∃u,us=[u]/\RelV x u:=by
 cases r with
 |cons r1 r2=>cases r2;exact⟨_,rfl,r1⟩
theorem vals2{x y:V}{us:List Value}(r:Vals [x,y] us):∃u w',us=[u,w']/\RelV x u/\RelV y w':=by
 cases r with
 |cons r1 r2=>
  cases r2 with
  |cons r3 r4=>cases r4;exact⟨_,_,rfl,r1,r3⟩
theorem zg5:cT X (.builtin "abs") (λxs H Q=>∃i,xs=[.int i]/\Q (.int (if i<0 then -i else i)) H):=by
 intro ao s Z H xs us Q I r h;obtain⟨i,rfl,q⟩:=h;obtain⟨u,rfl,t,rfl⟩:=vals1 r;exact call_abs_int λu tk=>⟨.int (if i<0 then -i else i),H,I.tok _,⟨_,rfl⟩,q⟩
theorem zfw(hc:X.aj=true):cT X (.builtin "max") (λxs H Q=>∃i j,xs=[.int i,.int j]/\Q (.int (if j>i then j else i)) H):=by
 intro ao s Z H xs us Q I r h;obtain⟨i,j,rfl,q⟩:=h;obtain⟨u,w',rfl,⟨t,rfl⟩,⟨t',rfl⟩⟩:=vals2 r;refine max_two_ints (I.ok.hd hc) λh' tk k=>⟨_,H,I.kept k,?_,q⟩;by_cases hj:j>i
 ·rw[if_pos hj,if_pos hj];exact⟨_,rfl⟩
 ·rw[if_neg hj,if_neg hj];exact⟨_,rfl⟩
theorem zfl(hc:X.aj=true):cT X (.builtin "min") (λxs H Q=>∃i j,xs=[.int i,.int j]/\Q (.int (if j<i then j else i)) H):=by
 intro ao s Z H xs us Q I r h;obtain⟨i,j,rfl,q⟩:=h;obtain⟨u,w',rfl,⟨t,rfl⟩,⟨t',rfl⟩⟩:=vals2 r;refine min_two_ints (I.ok.hd hc) λh' tk k=>⟨_,H,I.kept k,?_,q⟩;by_cases hj:j<i
 ·rw[if_pos hj,if_pos hj];exact⟨_,rfl⟩
 ·rw[if_neg hj,if_neg hj];exact⟨_,rfl⟩
theorem zgG:cT X (.type "int") (λxs H Q=>(∃i,xs=[.int i]/\Q (.int i) H)\/∃k,xs=[.bl k]/\Q (.int (if k then 1 else 0)) H):=by
 intro ao s Z H xs us Q I r h;rcases h with ⟨i,rfl,q⟩|⟨k,rfl,q⟩
 ·obtain⟨u,rfl,t,rfl⟩:=vals1 r;exact call_int_int ⟨.int i,H,I,⟨_,rfl⟩,q⟩
 ·obtain⟨u,rfl,r1⟩:=vals1 r;cases r1;exact call_int_bool ⟨.int (if k then 1 else 0),H,I.tok _,⟨_,rfl⟩,q⟩
theorem zdu:cT X (.builtin "divmod") (λxs H Q=>∃i j,xs=[.int i,.int j]/\vD i j/\∀p,H p=none->Q (.ref p) (upd H p (.tup [.int (i/j),.int (i%j)]))):=by
 intro ao s Z H xs us Q I r h;obtain⟨i,j,rfl,⟨h1,h2⟩,q⟩:=h;obtain⟨u,w',rfl,⟨t,rfl⟩,⟨t',rfl⟩⟩:=vals2 r;refine divmod_int gV ?_ (.inl (PyProof.noPylong_small gV));rw[Int.fdiv_eq_ediv_of_nonneg i gV,Int.fmod_eq_emod_of_nonneg i gV];have hn:H s.heap.objs.size=none:=I.hok.fresh (bU _);refine⟨.ref s.heap.objs.size,_,?_,rfl,q _ hn⟩;refine I.laid (λb o e=>cQ _ e) (bU _) ⟨by simp only[fX,Eu];rw[uI];decide,[.int (i/j) s.toks,.int (i%j) (s.toks+1)],.cons ⟨_,rfl⟩ (.cons ⟨_,rfl⟩ .nil),?_⟩;exact⟨_,fu s.heap rfl,rfl,0,rfl,rfl⟩
end
structure oV(h:Heap)(x dx C:Addr)(mA:Str->Option Value):Prop where
 obj:h.get? x=some (PySem.W.instObj C dx)
 ns:h.Ns1 dx mA
 ne:dx≠x
theorem zfS{h:Heap}{dx:Addr}{mA:Str->Option Value}(n:h.Ns1 dx mA):∃od,h.get? dx=some od/\∀name,PySem.W.lookIn name od=some (mA name):=by
 obtain⟨o,es,ep,ho,hd,hk,_,hm⟩:=n;refine⟨o,ho,λname=>?_⟩;have e:=hm name;unfold nsFind findBy at e;rw[<-Array.find?_toList] at e;unfold PySem.W.lookIn;rw[hd];dsimp only
 split
 ·rename_i y q;rw[q] at e;exact mY some e
 ·rename_i q;rw[q] at e;have a:es.toList.any (·.refKey)=false:=by
   rw[List.any_eq_false];intro y hy;obtain⟨z,t,Qh⟩:=hk y (Array.mem_toList_iff.mp hy);simp[DictEntry.refKey,Qh]
  have a':¬es.toList.any (·.refKey)=true:=by rw[a];exact El
  rw[if_neg a'];exact mY some e
theorem oV.look{h:Heap}{x dx C:Addr}{mA:Str->Option Value}(I:oV h x dx C mA):∃od,PySem.W.InstAt h x (PySem.W.instObj C dx) C (some od)/\∀name,PySem.W.lookIn name od=some (mA name):=
 let ⟨od,ho,hl⟩:=zfS I.ns
 ⟨od,⟨I.obj,rfl,rfl,ho⟩,hl⟩
section
variable {prog:Program}{w:World}{A:Around}{E:Value->Shared->Prop}{s:Shared}{K:W.Frag}{x dx C f:Addr}{mA:Str->Option Value}{name:Str}{v:Value}
theorem zjY{expr:Bool}{Q:Value->Shared->Prop}(X:K.In s.heap)(I:oV s.heap x dx C mA)(hg:PySem.W.plainGet K C name=true)(hh:PySem.W.hasDictIn K C=true)
  (ha:PySem.W.findIn K (.ref C) name=some none) (hv:mA name=some v) (Qi:PySem.W.handedIn v=true) (h:Q v {s with toks:=s.toks+1}) :
  wpAny (model prog w) A (getAttr (.ref x) name expr) Q E s:=by
 obtain⟨od,cG,hl⟩:=I.look;exact PySem.W.get_value X cG (Oo hg).1 (PySem.W.findObj_own hh ha rfl (by rw[hl,hv])) Qi h
theorem zg1{pl:Sem Bool}{Q:Value×List Value->Shared->Prop}(X:K.In s.heap)(I:oV s.heap x dx C mA)(hg:PySem.W.plainGet K C name=true)
  (hf:PySem.W.findIn K (.ref C) name=some (some (.ref f))) (ht:PySem.W.isFn K (.ref f)=true) (hv:mA name=none) (h:Q (.ref f,[.ref x]) s) :
  wpAny (model prog w) A (getMethod (.ref x) name pl) Q E s:=by
 obtain⟨od,cG,hl⟩:=I.look;exact PySem.W.method_fn X cG (Oo hg).1 (Oo hg).2 hf (pI.mp ht) (by show (PySem.W.lookIn name od).map (·.isSome)=some false;rw[hl,hv];rfl) h
theorem zi7{ns:List Str}{Q:Unit->Shared->Prop}(X:K.In s.heap)(I:oV s.heap x dx C mA)
  (hs:PySem.W.findIn K (.ref C) "__setattr__"=some (some (.builtin "object.__setattr__"))) (hp:PySem.W.plainOver K C=true) (ht:PySem.W.takerIn K C name=some none) (hh:PySem.W.hasDictIn K C=true)
  (hw:PySem.Within mA ns) (hsz:ns.length<=sizeLine)
  (h:∀h',oV h' x dx C (λy=>if y=name then some v else mA y)->Heap.SameBut dx s.heap h'->Q () {s with heap:=h',toks:=s.toks+2}) :
  wpAny (model prog w) A (setAttr (.ref x) name v) Q E s:=by
 obtain⟨od,cG,hl⟩:=I.look;refine PySem.W.set_plain X cG hs (PySem.W.osa_open (s:={s with toks:=s.toks+1}) (r:=none) X cG hp ht λb=>?_);obtain⟨cd,hc,FW⟩:=PySem.W.any_some hh;have hx:s.heap.get? x=some ⟨.ref C,some dx,.plain,#[]⟩:=I.obj;refine aD (bw (aD (aD (wpAny_loadPart hx (aD (PySem.W.Looks.here (s:={s with toks:=s.toks+1}) (PySem.W.looks_clsIn X hc) ?_))))));rw[FW];refine bw (a:=some dx) (aD (bw (aD ?_)));refine wpAny_nsSet1 (s:={s with toks:=s.toks+1}) I.ns λh' hn2 vB=>?_;obtain⟨oD,esD,epD,hoD,hdD,hcD⟩:=hn2.count (PySem.Within.cons name v hw);refine aD (wpAny_lookBehind hoD (by rw[hdD];exact pastItsLine_dict (kW hcD (by rw[fX];lia))) ?_);exact bw (h _ ⟨(vB.2 _ (Ne.symm I.ne)).trans I.obj,hn2,I.ne⟩ vB)
theorem zhX{R:Result->Shared->Prop}{vs:List Value}{kw:List (Str×Value)}(X:K.In s.heap)(hm:PySem.W.makesIn K C=true)
  (hi:PySem.W.findIn K (.ref C) "__init__"=some (some (.ref f))) (hf:PySem.W.typeIn K (.ref f)=some (.type "function"))
  (h:codeAny (model prog w) (A.under (.builtin "type.__call__" ⟨.ref C::vs,kw⟩)) (.call (.ref f) ⟨.ref (s.heap.objs.size+1)::vs,kw⟩) (PySem.W.InitBack (s.heap.objs.size+1) R)
   {s with heap:=(s.heap.push PySem.W.emptyDict).push (PySem.W.instObj C s.heap.objs.size)}) :
  codeAny (model prog w) A (.call (.ref C) ⟨vs,kw⟩) R s:=by
 obtain⟨hh,g,d,t,os⟩:=s;exact PySem.W.make_core (PySem.W.makes_of X hm) (PySem.W.looks_findIn X hi) (λself=>PySem.W.bind_fn X self hf) (.inl rfl) h
end
noncomputable def eZ(f:Str)(v:V):List (Str×V)->List (Str×V)
 |[]=>[(f,v)]
 |(g,x)::r=>if g=f then (g,v)::r else (g,x)::eZ f v r
theorem W_(f g:Str)(v:V):∀fs:List (Str×V),(eZ f v fs).lookup g=if g=f then some v else fs.lookup g
 |[]=>by
  show List.lookup g [(f,v)]=_;by_cases h:g=f
  ·have hb:(g==f)=true:=pI.mpr h;simp only[List.lookup,hb,if_pos h]
  ·have hb:(g==f)=false:=w6.mpr h;simp only[List.lookup,hb,if_neg h]
 |(k,x)::r=>by
  have ih:=W_ f g v r;rw[show eZ f v ((k,x)::r)=(if k=f then (k,v)::r else (k,x)::eZ f v r) from rfl];by_cases hk:k=f
  ·rw[if_pos hk];by_cases h:g=k
   ·have hb:(g==k)=true:=pI.mpr h;simp only[List.lookup,hb,if_pos (h.trans hk)]
   ·have hb:(g==k)=false:=w6.mpr h;simp only[List.lookup,hb,if_neg (λe:g=f=>h (e.trans hk.symm))]
  ·rw[if_neg hk];by_cases h:g=k
   ·have hb:(g==k)=true:=pI.mpr h;simp only[List.lookup,hb,if_neg (λe:g=f=>hk (h.symm.trans e))]
   ·have hb:(g==k)=false:=w6.mpr h;simp only[List.lookup,hb];exact ih
theorem Qj(f:Str)(v:V):∀fs:List (Str×V),f∈(eZ f v fs).map (·.1)/\∀g,g∈fs.map (·.1)->g∈(eZ f v fs).map (·.1)
 |[]=>⟨by simp[eZ],λg h=>by simp at h⟩
 |(k,x)::r=>by
  obtain⟨i1,i2⟩:=Qj f v r;rw[show eZ f v ((k,x)::r)=(if k=f then (k,v)::r else (k,x)::eZ f v r) from rfl];by_cases hk:k=f
  ·rw[if_pos hk];subst hk;exact⟨by simp,λg h=>by simpa using h⟩
  ·rw[if_neg hk];refine⟨?_,λg h=>?_⟩
   ·rw[jr];exact iz _ i1
   ·rw[jr] at h ⊢;rcases iG.mp h with e|e
    ·exact iG.mpr (.inl e)
    ·exact iz _ (i2 g e)
theorem Xa(f:Str)(v:V):∀fs:List (Str×V),(eZ f v fs).length<=fs.length+1
 |[]=>by simp[eZ]
 |(k,x)::r=>by
  have ih:=Xa f v r;rw[show eZ f v ((k,x)::r)=(if k=f then (k,v)::r else (k,x)::eZ f v r) from rfl];by_cases hk:k=f
  ·rw[if_pos hk,fX,fX];lia
  ·rw[if_neg hk,fX,fX];lia
theorem Kaf{v:V}{o:Option Value}(r:qF (some v) o):∃u,o=some u/\RelV v u:=by
 cases o with
 |none=>exact(show False from r).elim
 |some u=>exact⟨u,rfl,r⟩
theorem Kae{o:Option Value}(r:qF none o):o=none:=by
 cases o with
 |none=>rfl
 |some u=>exact(show False from r).elim
theorem zfI{v:V}{u:Value}(r:RelV v u):PySem.W.handedIn u=true:=by
 cases v with
 |non=>cases (show u=Value.none from r);rfl
 |bl b=>cases (show u=Value.bool b from r);rfl
 |int i=>obtain⟨t,e⟩:=(show ∃t,u=Value.int i t from r);cases e;rfl
 |str x=>obtain⟨t,e⟩:=(show ∃t,u=Value.str x t from r);cases e;rfl
 |zQ b=>obtain⟨t,e⟩:=(show ∃t,u=Value.bytes b t from r);cases e;rfl
 |flt b=>obtain⟨t,e⟩:=(show ∃t,u=Value.float b t from r);cases e;rfl
 |ref a=>cases (show u=Value.ref a from r);rfl
 |ty n=>cases (show u=Value.type n from r);rfl
section
variable {P:Program}{w:World}{H H':Hp}{h h':Heap}{a C dx:Addr}{fs fs':List (Str×V)}
theorem Qk(hok:iC P w H h)(e:H a=some (.ins C dx fs)):∃mA,oV h a dx C mA/\(∀f,qF (fs.lookup f) (mA f))/\PySem.Within mA (fs.map (·.1))/\fs.length<=1000/\H dx=some (.own a):=by
 obtain⟨d,z,ne,ob,mA,n,r,q⟩:=(show bH P w H h a (.ins C dx fs) from hok a _ e);exact⟨mA,⟨ob,n,ne⟩,r,q,z,d⟩
end
structure Cls(K:W.Frag)(C:Addr):Prop where
 pg:PySem.W.plainGet K C Str.empty=true
 hd:PySem.W.hasDictIn K C=true
 po:PySem.W.plainOver K C=true
 sa:PySem.W.findIn K (.ref C) "__setattr__"=some (some (.builtin "object.__setattr__"))
theorem Cls.get{K:W.Frag}{C:Addr}(c:Cls K C)(f:Str):PySem.W.plainGet K C f=true:=c.pg
def gG(K:W.Frag)(C:Addr)(f:Str):Prop:=PySem.W.findIn K (.ref C) f=some none
theorem gG.taker{K:W.Frag}{C:Addr}{f:Str}(n:gG K C f):PySem.W.takerIn K C f=some none:=by
 unfold PySem.W.takerIn;rw[show PySem.W.findIn K (.ref C) f=some none from n];rfl
structure Meth(K:W.Frag)(C:Addr)(m:Str)(f:Addr):Prop where
 at_:PySem.W.findIn K (.ref C) m=some (some (.ref f))
 fn:PySem.W.isFn K (.ref f)=true
 kp:PySem.W.keepIn K (.ref f)=true
section
variable {X:Cx}{ao:List (Addr×Obj)}{Z:St}{H:Hp}{s:Shared}{a C dx:Addr}{fs:List (Str×V)}{f:Str}{v:V}{A:Around}{E:Value->Shared->Prop}
theorem ze4{b:Bool}{Q:Value->Shared->Prop}(I:Inv X ao Z H s)(e:H a=some (.ins C dx fs))(c:Cls X.K C)(n:gG X.K C f)(l:fs.lookup f=some v)
  (h:∀u s',Inv X ao Z H s'->RelV v u->Q u s'):wpAny (model X.prog X.w) A (getAttr (.ref a) f b) Q E s:=by
 obtain⟨mA,O,r,_,_,_⟩:=Qk I.hok e;obtain⟨u,hu,ru⟩:=Kaf (v:=v) (o:=mA f) (by rw[<-l];exact r f);exact zjY I.oA O (c.get f) c.hd n hu (zfI ru) (h u _ (I.tok _) ru)
theorem zeQ{m:Str}{g:Addr}{pl:Sem Bool}{Q:Value×List Value->Shared->Prop}(I:Inv X ao Z H s)(e:H a=some (.ins C dx fs))(c:Cls X.K C)(k:Meth X.K C m g)(l:fs.lookup m=none)
  (h:Q (.ref g,[.ref a]) s):wpAny (model X.prog X.w) A (getMethod (.ref a) m pl) Q E s:=by
 obtain⟨mA,O,r,_,_,_⟩:=Qk I.hok e;have hn:mA m=none:=Kae (by rw[<-l];exact r m);exact zg1 I.oA O (c.get m) k.at_ k.fn hn h
theorem zeU{y:V}{u:Value}{Q:Unit->Shared->Prop}(I:Inv X ao Z H s)(e:H a=some (.ins C dx fs))(c:Cls X.K C)(n:gG X.K C f)(hl:fs.length<1000)(ry:RelV y u)
  (h:∀s',Inv X ao Z (upd H a (.ins C dx (eZ f y fs))) s'->Q () s'):wpAny (model X.prog X.w) A (setAttr (.ref a) f u) Q E s:=by
 obtain⟨mA,O,r,wi,_,ho⟩:=Qk I.hok e;have hz:(fs.map (·.1)).length<=sizeLine:=by rw[cj,uI];lia
 refine zi7 I.oA O c.sa c.po n.taker c.hd wi hz λh' O' sb=>h _ ?_;have hd:∃o,h'.get? dx=some o:=let ⟨o,_,_,e',_⟩:=O'.ns;⟨o,e'⟩;refine I.write (x:=a) (e:=dx) (by rw[e];exact True.intro) (.inr ho) (λb q hb z=>(sb.2 b hb).trans z) hd ?_;refine⟨by rw[eE O.ne];exact ho,?_,O.ne,O'.obj,_,O'.ns,λg=>?_,λg hg=>?_⟩
 ·have:=Xa f y fs;lia
 ·show qF ((eZ f y fs).lookup g) (if g=f then some u else mA g);rw[W_];by_cases q:g=f
  ·rw[if_pos q,if_pos q];exact ry
  ·rw[if_neg q,if_neg q];exact r g
 ·by_cases q:g=f
  ·rw[q];exact(Qj f y fs).1
  ·refine(Qj f y fs).2 g (wi g λz=>hg ?_);show (if g=f then some u else mA g)=none;rw[if_neg q];exact z
theorem Inv.made(I:Inv X ao Z H s):Inv X ao Z (upd (upd H s.heap.objs.size (.own (s.heap.objs.size+1))) (s.heap.objs.size+1) (.ins C s.heap.objs.size []))
  {s with heap:=(s.heap.push PySem.W.emptyDict).push (PySem.W.instObj C s.heap.objs.size)}:=by
 have e1:(s.heap.push PySem.W.emptyDict).get? s.heap.objs.size=some PySem.W.emptyDict:=fu s.heap rfl;have e2:((s.heap.push PySem.W.emptyDict).push (PySem.W.instObj C s.heap.objs.size)).get? (s.heap.objs.size+1)=some (PySem.W.instObj C s.heap.objs.size):=by
  have:=fu (s.heap.push PySem.W.emptyDict) (o:=PySem.W.instObj C s.heap.objs.size) rfl
  rwa [uH] at this
 have e3:(s.heap.push PySem.W.emptyDict).Ns s.heap.objs.size (λ_=>none):=⟨PySem.W.emptyDict,#[],_,e1,rfl,(λe he=>absurd he Rb),λ_=>rfl⟩;have I1:=I.laid (a:=s.heap.objs.size) (o:=.own (s.heap.objs.size+1)) (h':=s.heap.push PySem.W.emptyDict) (t':=s.toks) (λb u q=>cQ _ q) (bU _) ⟨_,e1⟩;refine I1.laid (a:=s.heap.objs.size+1) (o:=.ins C s.heap.objs.size []) (t':=s.toks) (λb u q=>cQ _ q) (Nat.le_of_eq (uH _ _)) ?_;have ne:s.heap.objs.size≠s.heap.objs.size+1:=dU (Er _);refine⟨by rw[eE ne,jO],vq _,ne,e2,λ_=>none,(Heap.Ns1.of_empty e3).at λo q=>cQ _ q,λ_=>True.intro,λy hy=>absurd rfl hy⟩
theorem zj1{prog:Program}{w:World}{env:Env}{e:Expr}{f:Str}{pos:Pos}{s:Shared}{Q:Value->Shared->Prop}(hb:attributeBase e f env (eval e env)=eval e env)
  (h:wpAny (model prog w) A (eval e env) (λo s₁=>wpAny (model prog w) A (getAttr o f true) Q E s₁) E s):wpAny (model prog w) A (eval (.Attribute e f pos) env) Q E s:=
 Attribute_any_ h (by rw[arm_eval_Attribute,hb])
end
noncomputable def Ql(K:W.Frag)(ta:TE)(f:Str):TE:=λZ H Q=>ta Z H λx H1=>∃a C dx fs v,x=.ref a/\H1 a=some (.ins C dx fs)/\Cls K C/\gG K C f/\fs.lookup f=some v/\Q v H1
noncomputable def Qm(K:W.Frag)(ta tv:TE)(f:Str):TS:=λD Z H=>tv Z H λy H1=>ta Z H1 λx H2=>∃a C dx fs,x=.ref a/\H2 a=some (.ins C dx fs)/\Cls K C/\gG K C f/\fs.length<1000 /\
 D.nx Z (upd H2 a (.ins C dx (eZ f y fs)))
section
variable {X:Cx}{o e value:Expr}{f:Str}{pos pos' tpos:Pos}{ta tv:TE}
theorem zkT(he:PE X e ta)(hb:attributeBase e f X.env (eval e X.env)=eval e X.env):PE X (.Attribute e f pos) (Ql X.K ta f):=by
 intro ao s Z H Q I h;refine zj1 hb (aX (he ao s Z H _ I h) λu s1 hz=>?_);obtain⟨x,H1,I1,rx,a,C,dx,fs,v,ex,ea,c,n,l,q⟩:=hz;subst ex;obtain rfl:u=Value.ref a:=rx;exact ze4 I1 ea c n l λu' s2 I2 ru=>⟨v,H1,I2,ru,q⟩
theorem zlu(ha:PE X o ta)(hv:PE X value tv)(hs:swapsWith value (some (.Attribute o f pos')) pos.line X.env=pure false):PS X (.Assign [.Attribute o f pos'] value pos) (Qm X.K ta tv f):=by
 intro ao s Z H D I h;refine plainObj_wpAny_Assign_Attribute (aX (hv ao s Z H _ I h) λu s1 hx=>dX hx λy H1 I1 ry q=>aX (ha ao s1 Z H1 _ I1 q) λov s2 hz=>?_) hs;obtain⟨x,H2,I2,rx,a,C,dx,fs,ex,ea,c,n,l,q2⟩:=hz;subst ex;obtain rfl:ov=Value.ref a:=rx;exact zeU I2 ea c n l ry λs3 I3=>⟨Z,_,I3,q2⟩
end
structure bD(k:Nat)(A:Around):Prop where
 dp:A.depth+3*k+5<recursionLimit
 un:A.units+16*k+200<cLine
 gd:A.guards=some []
theorem bD.deeper{k:Nat}{A:Around}(r:bD (k+1) A)(env:Env):bD k (A.deeper env):=
 ⟨by have:=r.dp;show A.depth+1+3*k+5<_;lia,by have:=r.un;show A.units+3+16*k+200<_;lia,r.gd⟩
theorem zeY{A:Around}{C:Addr}{us:List Value}{kw:List (Str×Value)}:(A.under (.builtin "type.__call__" ⟨.ref C::us,kw⟩)).depth=A.depth+1:=by
 first|rfl|simp[Around.under,Code.weight,Code.isCreation,Code.isGuard,Code.isCaller,Code.frames,Code.isFrame,guardIds]
theorem ze3{A:Around}{C:Addr}{us:List Value}{kw:List (Str×Value)}:(A.under (.builtin "type.__call__" ⟨.ref C::us,kw⟩)).units=A.units+1:=by
 first|rfl|simp[Around.under,Code.cUnits,Code.frames,Code.isFrame]
theorem bD.depth{k:Nat}{A:Around}(r:bD k A):A.depth<recursionLimit:=by have:=r.dp;lia
noncomputable def Qn:TA:=λ_ H Q=>Q [] H
noncomputable def Gq(ta:TE)(tr:TA):TA:=λZ H Q=>ta Z H λx H1=>tr Z H1 λxs H2=>Q (x::xs) H2
section
variable {X:Cx}{e:Expr}{es:List Expr}{te:TE}{t:TA}{pos:Pos}
theorem Af:PA X [] Qn:=λ_ _ _ _ H Q I h=>Calls.spliced_nil ⟨[],H,I,.nil,h⟩
theorem uO(ha:PE X e te)(hr:PA X es t)(hs:starEach (e::es) X.env=(false,eval e X.env)::starEach es X.env:=by rfl):PA X (e::es) (Gq te t):=by
 intro pos ao s Z H Q I h;rw[hs];show wpAny _ _ (spliced ((false,eval e X.env)::backTo pos (starEach es X.env))) _ _ s;refine Calls.spliced_cons (aX (ha ao s Z H _ I h) λu s1 hx=>dX hx λx H1 I1 r1 q1=>?_);exact aX (hr pos ao s1 Z H1 _ I1 q1) λus s2 hx=>dX hx λxs H2 I2 r2 q2=>⟨x::xs,H2,I2,.cons r1 r2,q2⟩
noncomputable def Qo(t:TA):TE:=λZ H Q=>t Z H λxs H1=>xs.length<=sizeLine/\∀p,H1 p=none->Q (.ref p) (upd H1 p (.tup xs))
noncomputable def Qp(t:TA):TE:=λZ H Q=>t Z H λxs H1=>xs.length<=sizeLine/\∀p,H1 p=none->Q (.ref p) (upd H1 p (.lst xs))
theorem zkS{x1}(h:PA X es t):PE X (.Tuple es x1 pos) (Qo t):=by
 intro ao s Z H Q I hq;refine wpAny_Tuple_spliced (aX (h pos ao s Z H _ I hq) λus s1 ⟨xs,H1,I1,r,z,q⟩=>⟨by rw[<-r.length];exact z,?_⟩);have hf:H1 s1.heap.objs.size=none:=I1.hok.fresh (bU _);refine⟨.ref s1.heap.objs.size,upd H1 s1.heap.objs.size (.tup xs),I1.laid (t':=s1.toks) (λb u e=>cQ _ e) (bU _) ?_,rfl,q _ hf⟩;exact⟨z,us,r,⟨_,fu _ rfl,rfl,_,rfl,rfl⟩⟩
theorem zmX(h:PA X es t):PE X (.List es pos) (Qp t):=by
 intro ao s Z H Q I hq;refine wpAny_List_spliced (aX (h pos ao s Z H _ I hq) λus s1 ⟨xs,H1,I1,r,z,q⟩=>⟨by rw[<-r.length];exact z,?_⟩);have hf:H1 s1.heap.objs.size=none:=I1.hok.fresh (bU _);refine⟨.ref s1.heap.objs.size,upd H1 s1.heap.objs.size (.lst xs),I1.laid (t':=s1.toks) (λb u e=>cQ _ e) (bU _) ?_,rfl,q _ hf⟩;exact⟨z,us,0,r,fu _ rfl⟩
end
noncomputable abbrev Sp:=List V->Hp->VK->XK->Prop
noncomputable abbrev qH:=List Env->Hp->Shared->XK->Value->Shared->Prop
structure oW(P:Program)(w:World)(K:W.Frag)(mg:Str->Option Value)(base:Heap)(A:Around)(outer:List Env)(s:Shared)(H:Hp):Prop where
 frames:A.frames=some outer
 mod:Mod K mg base
 bs:∀b o,base.get? b=some o->s.heap.get? b=some o/\H b=none
 zU:base.objs.size<=s.heap.objs.size
 jY:s.heap.FunFrames base outer
 FT:∀b∈frs outer,H b=none
 hok:iC P w H s.heap
 bare:AllBare s.gens
def CE(outer:List Env)(P:Program)(w:World)(H:Hp)(s:Shared)(Q:VK)(u:Value)(s':Shared):Prop:=
 ∃v H',s'.os=s.os/\AllBare s'.gens/\Un (frs outer) [] H H' s.heap s'.heap/\iC P w H' s'.heap/\RelV v u/\Q v H'
def CR(CX:qH)(outer:List Env)(P:Program)(w:World)(H:Hp)(s:Shared)(Q:VK)(E:XK)(r:Result)(s':Shared):Prop:=
 match r with
 |.ok (.ret u)=>CE outer P w H s Q u s'
 |.ok _=>False
 |.error e=>CX outer H s E e s'
structure bZ(P:Program)(w:World)(K:W.Frag)(mg:Str->Option Value)(base:Heap)(CX:qH)(cm:Bool)(k:Nat)(f:Addr)(fd:FuncData)(ps:List Str)(sp:Sp):Prop where
 len:∀vs H Q E,sp vs H Q E->vs.length=ps.length
 run:∀(A:Around) (outer:List Env) (s:Shared) (H:Hp) (args:Args) (us:List Value) (vs:List V) (Q:VK) (E:XK),(cm=true->A.handled=none)->bD k A->oW P w K mg base A outer s H->BindsTo s fd args (ps.zip us)->Vals vs us->sp vs H Q E->
  codeAny (model P w) A (.call (.ref f) args) (CR CX outer P w H s Q E) s
theorem bZ.imp{P:Program}{w:World}{K:W.Frag}{mg:Str->Option Value}{base:Heap}{CX:qH}{cm:Bool}{k:Nat}{f:Addr}{fd:FuncData}{ps:List Str}{sp Xb:Sp}(F:bZ P w K mg base CX cm k f fd ps sp)
  (h:∀vs H Q E,Xb vs H Q E->sp vs H Q E):bZ P w K mg base CX cm k f fd ps Xb:=
 ⟨λvs H Q E q=>F.len vs H Q E (h _ _ _ _ q),λA outer s H args us vs Q E ji hr he hb hv hs=>F.run A outer s H args us vs Q E ji hr he hb hv (h _ _ _ _ hs)⟩
theorem oW.make{P:Program}{w:World}{K:W.Frag}{mg:Str->Option Value}{base:Heap}{A:Around}{outer:List Env}{s:Shared}{H:Hp}(e:oW P w K mg base A outer s H)(C:Addr)(us:List Value)(kw:List (Str×Value)) :
  oW P w K mg base (A.under (.builtin "type.__call__" ⟨.ref C::us,kw⟩)) outer s H:=⟨by first|exact e.frames|(simpa [Around.under,Code.envs,Code.isFrame,pushEnvs] using e.frames),e.mod,e.bs,e.zU,e.jY,e.FT,e.hok,e.bare⟩
section
variable {X:Cx}{ao:List (Addr×Obj)}{Z:St}{H:Hp}{s s':Shared}
theorem Inv.env0(I:Inv X ao Z H s):oW X.prog X.w X.K X.mg X.base X.A X.stack s H:=
 ⟨I.ok.frames,I.ok.mod,I.bs,kW I.ok.zU I.sz,I.stack,I.lU,I.hok,I.bare⟩
theorem Inv.after{Q:VK}{u:Value}(I:Inv X ao Z H s)(h:CE X.stack X.prog X.w H s Q u s'):EP X ao Z Q u s':=by
 obtain⟨v,H',os,bare,un,hok,r,q⟩:=h;obtain⟨hh,g,d,t,os'⟩:=s';obtain rfl:os'=s.os:=os;exact⟨v,H',I.call (h':=hh) (g':=g) (d':=d) (t':=t) (ch:=[]) un hok bare (λb z=>absurd z Rb),r,q⟩
end
noncomputable def Gs(C:Addr)(m:Str)(sp:Sp)(nq:List V)(E:XK)(ta:TE)(t:TA):TE:=λZ H Q=>ta Z H λx H1=>∃a dx fs,x=.ref a/\H1 a=some (.ins C dx fs)/\fs.lookup m=none /\
 t Z H1 λvs H2=>sp (x::(vs++nq)) H2 Q E
noncomputable def Gu(C:Addr)(sp:Sp)(nq:List V)(E:XK)(t:TA):TE:=λZ H Q=>t Z H λvs H1=>∀x dx,H1 x=none->H1 dx=none->dx≠x->
 sp (.ref x::(vs++nq)) (upd (upd H1 dx (.own x)) x (.ins C dx [])) (λv H2=>v=.non/\Q (.ref x) H2) E
def Binds(K:W.Frag)(fd:FuncData)(ps:List Str)(ds:List Value):Prop:=
 ∀(s:Shared) (us:List Value),K.In s.heap->(us++ds).length=ps.length->BindsTo s fd ⟨us,[]⟩ (ps.zip (us++ds))
theorem Binds.all{K:W.Frag}{fd:FuncData}{ps:List Str}(h:∀us:List Value,us.length=ps.length->bindArgs fd ⟨us,[]⟩=pure (ps.zip us)):Binds K fd ps []:=λs us _ hl=>by
 rw[vo] at hl ⊢;exact .of_eq (h us hl)
def Passes(CX:qH)(X:Cx)(E:XK):Prop:=∀(ao:List (Addr×Obj)) (Z:St) (H:Hp) (s:Shared) (e:Value) (s':Shared),Inv X ao Z H s->CX X.stack H s E e s'->X.xe e s'
section
variable {X:Cx}{CX:qH}{cm:Bool}{k:Nat}{f C:Addr}{fd:FuncData}{ps:List Str}{sp:Sp}{nq:List V}{ds:List Value}{E:XK}{x m:Str}{p pos apos:Pos}{e o:Expr}{es:List Expr}{ta:TE}{t:TA}
theorem zkQ{ao:List (Addr×Obj)}{Z:St}{H:Hp}{s:Shared}{Q:VK}{us:List Value}{vs:List V}(F:bZ X.prog X.w X.K X.mg X.base CX cm k f fd ps sp)(ji:cm=true->X.aj=true)(hr:bD k X.A)(hb:Binds X.K fd ps ds)(hd:Vals nq ds)(hx:Passes CX X E)
  (I:Inv X ao Z H s) (r:Vals vs us) (h:sp (vs++nq) H Q E):wpAny (model X.prog X.w) X.A (call (.ref f) us) (EP X ao Z Q) X.xe s:=by
 have r2:Vals (vs++nq) (us++ds):=r.append hd;have hl:(us++ds).length=ps.length:=by rw[<-r2.length];exact F.len _ _ _ _ h
 refine wpAny_call (CJ (F.run X.A X.stack s H ⟨us,[]⟩ (us++ds) (vs++nq) Q E (λz=>I.ok.hd (ji z)) hr I.env0 (hb s us I.oA hl) r2 h) λr s' hq=>?_);cases r with
 |error e=>exact hx ao Z H s e s' I hq
 |ok fl=>
  cases fl with
  |ret u=>exact I.after hq
  |next=>exact False.elim hq
  |brk=>exact False.elim hq
  |cont=>exact False.elim hq
theorem ziK{pl:Sem Bool}(he:PE X o ta)(c:Cls X.K C)(hm:Meth X.K C m f)(F:bZ X.prog X.w X.K X.mg X.base CX cm k f fd ps sp)(ji:cm=true->X.aj=true)(hr:bD k X.A)(hb:Binds X.K fd ps ds)(hd:Vals nq ds)(hx:Passes CX X E)(ha:PA X (e::es) t)
  (qG:starEach (e::es) X.env=(false,eval e X.env)::starEach es X.env:=by rfl) (hpl:(backTo pos (starEach es X.env)).any (·.1)=false:=by rfl)
  (ht:eval (.Call (.Attribute o m apos) (e::es) [] pos) X.env=(do
   let ov <-eval o X.env
   standAt apos.atName
   let (f,first) <-holding [ov] (getMethod ov m pl)
   callWith pos f first (backTo pos (starEach (e::es) X.env)) (backToKw pos (keywordEach [] X.env))):=by rfl) :
  PE X (.Call (.Attribute o m apos) (e::es) [] pos) (Gs C m sp nq E ta t):=by
 intro ao s Z H Q I h;refine PySem.W.methodCall_KW (pl:=pl) (aX (he ao s Z H _ I h) λu s1 hz=>?_) ht;obtain⟨x,H1,I1,rx,a,dx,fs,ex,ea,l,q⟩:=hz;subst ex;obtain rfl:u=Value.ref a:=rx;refine zeQ I1 ea c hm l ?_;refine Ou (first:=[.ref a]) (h₀:=X.base) I.ok.mod.xP hm.kp (aX (ha pos ao s1 Z H1 _ I1 q) λus s2 ⟨vs,H2,I2,r,q2⟩=>⟨I2.oA,?_⟩) qG hpl;exact zkQ (us:=.ref a::us) (vs:=.ref a::vs) F ji hr hb hd hx I2 (.cons rfl r) q2
structure Mk(K:W.Frag)(C f:Addr):Prop where
 makes:PySem.W.makesIn K C=true
 init:PySem.W.findIn K (.ref C) "__init__"=some (some (.ref f))
 fn:PySem.W.isFn K (.ref f)=true
 kp:PySem.W.keepIn K (.ref C)=true
theorem zhC{ao:List (Addr×Obj)}{Z:St}{H:Hp}{s:Shared}{Q:VK}{us:List Value}{vs:List V}(M:Mk X.K C f)(F:bZ X.prog X.w X.K X.mg X.base CX cm k f fd ps sp)(ji:cm=true->X.aj=true)(hr:∀us,bD k (X.A.under (.builtin "type.__call__" ⟨.ref C::us,[]⟩)))(hb:Binds X.K fd ps ds)(hd:Vals nq ds)
  (hx:Passes CX X E) (I:Inv X ao Z H s) (r:Vals vs us)
  (h:∀x dx,H x=none->H dx=none->dx≠x->sp (.ref x::(vs++nq)) (upd (upd H dx (.own x)) x (.ins C dx [])) (λv H2=>v=.non/\Q (.ref x) H2) E) :
  wpAny (model X.prog X.w) X.A (call (.ref C) us) (EP X ao Z Q) X.xe s:=by
 have hq:=h (s.heap.objs.size+1) s.heap.objs.size (I.hok.fresh (Nat.le_succ _)) (I.hok.fresh (bU _)) (dU (Er _));have I2:=Inv.made (C:=C) I;have r2:Vals (V.ref (s.heap.objs.size+1)::(vs++nq)) (Value.ref (s.heap.objs.size+1)::(us++ds)):=.cons rfl (r.append hd);have hl:(Value.ref (s.heap.objs.size+1)::us++ds).length=ps.length:=by
  have e:=r2.length;rw[F.len _ _ _ _ hq] at e;exact e.symm
 refine wpAny_call (zhX (f:=f) I.oA M.makes M.init (pI.mp M.fn) (CJ (F.run _ X.stack _ _ ⟨Value.ref (s.heap.objs.size+1)::us,[]⟩ (Value.ref (s.heap.objs.size+1)::(us++ds)) _ _ E (λz=>I.ok.hd (ji z)) (hr us)
  (I2.env0.make C us []) (hb _ (Value.ref (s.heap.objs.size+1)::us) I2.oA hl) r2 hq) λr s' Gv=>?_))
 cases r with
 |error e=>exact hx ao Z _ _ e s' I2 Gv
 |ok fl=>
  cases fl with
  |ret u=>
   obtain⟨v,H',I3,rv,ev,q3⟩:=I2.after Gv;subst ev;exact⟨rv,⟨V.ref (s.heap.objs.size+1),H',I3,rfl,q3⟩⟩
  |next=>exact False.elim Gv
  |brk=>exact False.elim Gv
  |cont=>exact False.elim Gv
theorem zju(M:Mk X.K C f)(F:bZ X.prog X.w X.K X.mg X.base CX cm k f fd ps sp)(ji:cm=true->X.aj=true)(hr:∀us,bD k (X.A.under (.builtin "type.__call__" ⟨.ref C::us,[]⟩)))(hg:Gl X x)(hm:X.mg x=some (.ref C))(hb:Binds X.K fd ps ds)(hd:Vals nq ds)(hx:Passes CX X E)
  (ha:PA X (e::es) t) (qI:(x==("__debug__" : Str))=false:=by decide) (he:starEach (e::es) X.env=(false,eval e X.env)::starEach es X.env:=by rfl) (hpl:(backTo pos (starEach es X.env)).any (·.1)=false:=by rfl) :
  PE X (.Call (.Name x p) (e::es) [] pos) (Gu C sp nq E t):=by
 intro ao s Z H Q I h;refine zy (Py I hg hm ?_ qI);refine Ou (h₀:=X.base) I.ok.mod.xP M.kp (aX (ha pos ao s Z H _ I h) λus s1 ⟨vs,H1,I1,r,q⟩=>⟨I1.oA,?_⟩) he hpl;exact zhC M F ji hr hb hd hx I1 r q
end
structure cX(N P:List Str)(sc:Scope):Prop where
 kind:sc.kind=.function
 co:sc.isCoroutine=false
 gen:sc.isGenerator=false
 nd:N.Nodup
 pre:N.take P.length=P
 par:∀x∈P,sc.names.lookup x=some .local\/sc.names.lookup x=some .cell
 Ag:∀y∈sc.names,y.2≠.free
theorem Xc{kindOf:Str->Option NameKind}{x:Str}:∀{binds:List (Str×Value)} {m:Str->Option Value},(∀v,(x,v)∉binds)->bindL kindOf binds m x=m x
 |[],_,_=>rfl
 |(n,v)::r,m,h=>by
  unfold bindL;rw[Xc λw hw=>h w (iz _ hw)]
  split
  ·have:x≠n:=by rintro rfl;exact h v lG
   simp[this]
  ·rfl
theorem Xd{kindOf:Str->Option NameKind}{x:Str}:∀{binds:List (Str×Value)} {m:Str->Option Value},(∀v,(x,v)∉binds)->bindC kindOf binds m x=m x
 |[],_,_=>rfl
 |(n,v)::r,m,h=>by
  unfold bindC;rw[Xd λw hw=>h w (iz _ hw)]
  split
  ·rfl
  ·have:x≠n:=by rintro rfl;exact h v lG
   simp[this]
theorem Xe{kindOf:Str->Option NameKind}{x:Str}{v:Value}:∀{P:List Str} {vs:List Value} {i:Nat} {m:Str->Option Value},P.Nodup->P[i]?=some x->vs[i]?=some v->kindOf x=some .local->
  bindL kindOf (P.zip vs) m x=some v
 |[],_,_,_,_,h,_,_=>by simp at h
 |_::_,[],_,_,_,_,h,_=>by simp at h
 |p::P,w::vs,0,m,nd,h1,h2,hk=>by
  simp at h1 h2;subst h1;subst h2;show bindL kindOf ((p,w)::P.zip vs) m p=_;unfold bindL;rw[Xc λv hv=>(xJ.mp nd).1 (List.of_mem_zip hv).1,if_pos hk];simp
 |p::P,w::vs,i+1,m,nd,h1,h2,hk=>by
  show bindL kindOf ((p,w)::P.zip vs) m x=_;unfold bindL;exact Xe (i:=i) (xJ.mp nd).2 (by simpa using h1) (by simpa using h2) hk
theorem Xf{kindOf:Str->Option NameKind}{x:Str}{v:Value}:∀{P:List Str} {vs:List Value} {i:Nat} {m:Str->Option Value},P.Nodup->P[i]?=some x->vs[i]?=some v->kindOf x≠some .local->
  bindC kindOf (P.zip vs) m x=some v
 |[],_,_,_,_,h,_,_=>by simp at h
 |_::_,[],_,_,_,_,h,_=>by simp at h
 |p::P,w::vs,0,m,nd,h1,h2,hk=>by
  simp at h1 h2;subst h1;subst h2;show bindC kindOf ((p,w)::P.zip vs) m p=_;unfold bindC;rw[Xd λv hv=>(xJ.mp nd).1 (List.of_mem_zip hv).1,if_neg hk];simp
 |p::P,w::vs,i+1,m,nd,h1,h2,hk=>by
  show bindC kindOf ((p,w)::P.zip vs) m x=_;unfold bindC;exact Xf (i:=i) (xJ.mp nd).2 (by simpa using h1) (by simpa using h2) hk
noncomputable def start(N:List Str)(vs:List V):St:=vs.map some++List.replicate (N.length-vs.length) none
noncomputable def f9(CX:qH)(P:Program)(w:World)(K:W.Frag)(mg:Str->Option Value)(base:Heap)(N:List Str)(qual:Str)(scope:Scope)(f:Addr)(cd:Value)(A:Around)(outer:List Env)(s:Shared)(H:Hp)(E:XK)(cm:Bool):Cx where
 prog:=P
 w:=w
 K:=K
 mg:=mg
 base:=base
 A:=A.deeper (envOfC qual scope s.heap.objs.size f cd)
 N:=N
 s₀:=s
 H₀:=H
 env:=envOfC qual scope s.heap.objs.size f cd
 outer:=outer
 stack:=envOfC qual scope s.heap.objs.size f cd::outer
 ex:=[]
 aj:=cm
 fn:=λ_=>true
 pn:=[]
 xe:=λe s'=>wpAny (model P w) (A.deeper (envOfC qual scope s.heap.objs.size f cd)) (leaving (envOfC qual scope s.heap.objs.size f cd) e) (λ_ s''=>CX outer H s E e s'') (λe' s''=>CX outer H s E e' s'') s'
theorem Xg{sc:Scope}{n:Nat}{x:Str}(h:sc.names.lookup x=some .cell):∃c,(cellsFrom n sc.names []).lookup x=some c:=by
 have q:=Od sc.names n [] (.inl h);exact Oa.mp q
theorem zgH{CX:qH}{P:Program}{w:World}{K:W.Frag}{mg:Str->Option Value}{base:Heap}{N ps:List Str}{qual:Str}{scope:Scope}{f:Addr}{cd:Value}{A:Around}{outer:List Env}{s s1:Shared}{H:Hp}{E:XK}{us:List Value}{vs:List V}
  {cm:Bool} (S:cX N ps scope) (hd:cm=true->A.handled=none) (e0:oW P w K mg base A outer s H) (hl:vs.length=ps.length) (r:Vals vs us)
  (x:InCallC s s.heap.objs.size (bindL (envOfC qual scope s.heap.objs.size f cd).kindOf (ps.zip us) λ_=>none) (cellsFrom (s.heap.objs.size+1) scope.names []) (bindC (envOfC qual scope s.heap.objs.size f cd).kindOf (ps.zip us) λ_=>none) s1) :
  Inv (f9 CX P w K mg base N qual scope f cd A outer s H E cm) [] (start N vs) H s1:=by
 have hpl:ps.length<=N.length:=by have:=mY List.length S.pre;rw[uF] at this;lia
 obtain⟨h1,tk,rfl,hk⟩:=x.done;have Gw:∀b:Addr,b∉(f9 CX P w K mg base N qual scope f cd A outer s H E cm).ex:=λb z=>absurd (show b∈([]:List Addr) from z) Rb;refine⟨⟨e0.mod,S.kind,rfl,rfl,bU _,λy z c h1 h2=>?_,λy hy=>?_,λy c _ h=>?_,hd,Around.frames_deeper e0.frames,.inr ⟨rfl,rfl⟩,λb z=>absurd z (Gw b),e0.bs,e0.zU,λb _ _=>Gw b,λb z=>absurd z (Gw b),e0.jY,e0.FT⟩,
  rfl,e0.bare,Un.kept hk,⟨_,x.toInCall.ns,λi y v h1 h2 h3=>?_⟩,λy c h=>⟨_,x.cell y c h⟩,e0.hok.fresh (bU _),λy c h=>?_,λp hp=>absurd (show p∈([]:List (Addr×Obj)) from hp) Rb,e0.hok.kept hk,?_⟩
 ·exact name_of_addr x.apart (Cj h1) (Cj h2)
 ·have hy:scope.names.lookup y=some .cell\/scope.names.lookup y=some .free:=hy;rcases hy with hy|hy
  ·exact Xg hy
  ·exact absurd rfl (S.Ag _ (Cj hy))
 ·exact xM (x.above y c (Cj h))
 ·have hi:i<vs.length:=by
   unfold start at h2;by_cases hi:i<vs.length
   ·exact hi
   ·rw[pG (by simpa using hi)] at h2;rw[Ka] at h2;split at h2<;>cases h2
  have ha:vs[i]?=some v:=by
   unfold start at h2;rw[oM (by simpa using hi),fB] at h2;cases e:vs[i]? with
   |none=>rw[e] at h2;cases h2
   |some a=>rw[e] at h2;cases h2;rfl
  obtain⟨u,hu,rv⟩:=r.get ha;have hp:ps[i]?=some y:=by
   rw[<-S.pre,List.getElem?_take_of_lt gV];exact h1
  have Xh:ps.Nodup:=by rw[<-S.pre];exact S.nd.sublist (List.take_sublist _ _)
  refine⟨u,rv,?_⟩;rcases S.par y (dM hp) with k|k
  ·exact .inl ⟨k,Xe Xh hp hu k⟩
  ·obtain⟨c,e⟩:=Xg (n:=s.heap.objs.size+1) k;refine .inr ⟨.inl k,c,e,?_⟩;have q:=x.cell y c e;rw[Xf Xh hp hu (by show scope.names.lookup y≠_;rw[k];decide)] at q;exact q
 ·exact e0.hok.fresh (xM (x.above y c (Cj h)))
 ·unfold start;show _=N.length;rw[dH,cj,Ef]
  lia
theorem Xi{CX:qH}{cm:Bool}{P:Program}{w:World}{K:W.Frag}{mg:Str->Option Value}{base:Heap}{k:Nat}{f:Addr}{name qual:Str}{params:Arguments}{body:List Stmt}{scope:Scope}{dV kV doc pm cdv ct oc:Value}{an od:Option Addr}
  {osl:Array (Option Value)} {N ps:List Str} {sp:Sp} (lk:K.lookup f=some ⟨oc,od,.func (PySem.W.fnOf name qual params body scope dV kV doc pm an cdv ct),osl⟩) (jP:PySem.W.codeIn K cdv qual=true) (S:cX N ps scope)
  (len:∀vs H Q E,sp vs H Q E->vs.length=ps.length)
  (Gx:∀(A:Around) (outer:List Env) (s:Shared) (H:Hp) (vs:List V) (Q:VK) (E:XK),bD (k+1) A->sp vs H Q E->
   ∃t,oU (f9 CX P w K mg base N qual scope f cdv A outer s H E cm) body t/\t {nx:=λ_ H'=>Q .non H',rt:=Q} (start N vs) H) :
  bZ P w K mg base CX cm (k+1) f (PySem.W.fnOf name qual params body scope dV kV doc pm an cdv ct) ps sp:=by
 refine⟨len,λA outer s H args us vs Q E ji hr e0 hb r Ld=>?_⟩;have hl:=len _ _ _ _ Ld;have KX:K.In s.heap:=e0.mod.xP.keeps λb o e=>(e0.bs b o e).1;have lim:s.heap.NoLimit:=e0.mod.nolimit.keeps λb o e=>(e0.bs b o e).1;have Gy:∀y∈ps.zip us,scope.names.lookup y.1=some .local\/(scope.names.lookup y.1=some .cell/\((cellsFrom (s.heap.objs.size+1) scope.names []).lookup y.1).isSome=true):=λ⟨n,v⟩ hy=>by
  rcases S.par n (List.of_mem_zip hy).1 with q|q
  ·exact .inl q
  ·exact .inr ⟨q,Od _ _ _ (.inl q)⟩
 refine codeAny_call_function hr.depth (KX _ _ lk) rfl S.co S.gen rfl (PySem.W.codeRec_of KX jP) (hb _ _ _ _ ?_);refine wpAny_newFunctionEnv_cells S.kind Gy λenv he s1 x=>?_;subst he;refine⟨lim.keeps x.toInCall.keep,codeAny_func ?_⟩;obtain⟨t,ht,hq⟩:=Gx A outer s H vs Q E hr Ld;have I:Inv (f9 CX P w K mg base N qual scope f cdv A outer s H E cm) [] (start N vs) H s1:=zgH S ji e0 hl r x;refine mX (ht [] s1 (start N vs) H _ I hq) (λfl s' hs=>?_) λe s' hs=>hs;have fin:∀{Z':St} {H':Hp} {v:V} {u:Value},Inv (f9 CX P w K mg base N qual scope f cdv A outer s H E cm) [] Z' H' s'->RelV v u->Q v H'->CE outer P w H s Q u s':=
  λ{Z' H' v u} cG rv q=>⟨v,H',cG.os,cG.bare,cG.base,cG.hok,rv,q⟩
 cases fl with
 |ret u=>
  obtain⟨v,Z',H',cG,rv,q⟩:=hs;exact fin cG rv q
 |next=>
  obtain⟨Z',H',cG,q⟩:=hs;exact fin (v:=V.non) (u:=Value.none) cG rfl q
 |brk=>
  obtain⟨_,_,_,q⟩:=hs;exact False.elim q
 |cont=>
  obtain⟨_,_,_,q⟩:=hs;exact False.elim q
section
variable {X:Cx}{x:Str}{p pos:Pos}{e:Expr}{es:List Expr}{t:TA}{id T:String}{r:List V->Hp->VK->Prop}
noncomputable def Qq(r:List V->Hp->VK->Prop)(t:TA):TE:=λZ H Q=>t Z H λvs H1=>r vs H1 Q
theorem Xj(hc:cT X (.builtin id) r)(hg:Gl X x)(hm:X.mg x=none)(hv:bootBuiltins x=some (.builtin id))(ha:PA X (e::es) t)(hn:x≠"__name__":=by decide)(qI:(x==("__debug__" : Str))=false:=by decide)
  (he:starEach (e::es) X.env=(false,eval e X.env)::starEach es X.env:=by rfl) (hpl:(backTo pos (starEach es X.env)).any (·.1)=false:=by rfl):PE X (.Call (.Name x p) (e::es) [] pos) (Qq r t):=by
 intro ao s Z H Q I h;refine zy (uN I hg hm hv ?_ hn qI);exact PyProof.Rows.callWith_builtin1 (aX (ha pos ao s Z H _ I h) λus s1 hx=>dX hx λvs H1 I1 r1 q1=>hc ao s1 Z H1 vs us Q I1 r1 q1) he hpl
theorem zgm(hc:cT X (.type T) r)(hg:Gl X x)(hm:X.mg x=none)(hv:bootBuiltins x=some (.type T))(ha:PA X (e::es) t)(hn:x≠"__name__":=by decide)(qI:(x==("__debug__" : Str))=false:=by decide)
  (he:starEach (e::es) X.env=(false,eval e X.env)::starEach es X.env:=by rfl) (hpl:(backTo pos (starEach es X.env)).any (·.1)=false:=by rfl):PE X (.Call (.Name x p) (e::es) [] pos) (Qq r t):=by
 intro ao s Z H Q I h;refine zy (uN I hg hm hv ?_ hn qI);exact wX (aX (ha pos ao s Z H _ I h) λus s1 hx=>dX hx λvs H1 I1 r1 q1=>hc ao s1 Z H1 vs us Q I1 r1 q1) he hpl
end
end L2
namespace HT
open PySem PyProof.Rows
noncomputable def lexLt:List Int->List Int->Bool
 |[],[]=>false
 |[],_::_=>true
 |_::_,[]=>false
 |x::xs,y::ys=>if x=y then lexLt xs ys else decide (x<y)
theorem jD(x y:Int)(xs ys:List Int):lexLt (x::xs) (y::ys)=if x=y then lexLt xs ys else decide (x<y):=rfl
theorem zcA:lexLt [] []=false:=rfl
theorem zb7(y:Int)(ys:List Int):lexLt [] (y::ys)=true:=rfl
theorem zb9(x:Int)(xs:List Int):lexLt (x::xs) []=false:=rfl
theorem zhO(A:Around)(s:Shared)(a:Int)(t:Tok)(c:Int)(u:Tok):∃e,SeqAt.EqAt A s (.int a t) (.int c u) e/\(e=true↔a=c):=
 ⟨(a==c),SeqAt.EqAt.int_int a t c u,by simp⟩
theorem zgX(A:Around)(s:Shared)(a:Int)(t:Tok)(c:Int)(u:Tok)(prog:Program)(w:World)(E:Value->Shared->Prop)(Q:Value->Shared->Prop)(h:Q (.bool (decide (a<c))) s) :
  wpAny (model prog w) A (richCompare .Lt (.int a t) (.int c u)) Q E s:=
 (PyProof.Rows.lt_int h:wpAny (model prog w) A (compareOp .Lt (.int a t) (.int c u)) Q E s)
section
open PySem.SeqAt
open PySem.AutoSeq1 (wpAny_loadPart')
open PySem.MeetsSeq PySem.MeetsSeq2 PySem.MeetsSeq3
theorem zcx(l b:Addr)(items items2:Array Value)(n n2:Nat)(dd dd2:Option Addr)(sl sl2:Array (Option Value))(ns ms:List Int)(hi:IntsAre items.toList ns)(hj:IntsAre items2.toList ms) :
  Meets (Builtin.«tuple.__lt__» ⟨[.ref l,.ref b],[]⟩)
   (λ_ R s=>s.heap.get? l=some {cls:=.type "tuple",dict:=dd,data:=.seq items n,slots:=sl}/\s.heap.get? b=some {cls:=.type "tuple",dict:=dd2,data:=.seq items2 n2,slots:=sl2} /\
    R (.ok (.ret (.bool (lexLt ns ms)))) s):=
 .of_wp λprog w A R s h=>by
  obtain⟨hp,g,d,tk,os⟩:=s;obtain⟨hl,hb,h⟩:=h;have f2:=AutoSeq1.sub_tuple_tuple;have z1:items.size=ns.length:=by rw[<-hi.length];simp
  have z2:items2.size=ms.length:=by rw[<-hj.length];simp
  wp_walk using Oq hl,Oq hb,Kr _ (λrest b s'=>b.1=none/\s'=⟨hp,g,d,tk,os⟩/\∃(vs ws:List Value) (ns' Di:List Int),rest=vs.zip ws /\
   IntsAre vs ns'/\IntsAre ws Di/\ns'.length+items2.size=Di.length+items.size/\R (.ok (.ret (.bool (lexLt ns' Di)))) ⟨hp,g,d,tk,os⟩) _
  case turn=>
   rintro⟨y,x⟩ rest b s' ⟨hb',rfl,vs,ws,ns',Di,hz,Qs,Le,hlen,hR⟩;cases Qs with
   |nil=>rw[List.zip_nil_left] at hz;cases hz
   |cons a t Qt=>
    cases Le with
    |nil=>rw[List.zip_nil_right] at hz;cases hz
    |cons c u Qu=>
     rw[Em] at hz;injection hz with hyx Gz;injection hyx with hy hx;subst hy hx;rw[jD] at hR;simp only[fX] at hlen;obtain⟨e,he,GC⟩:=zhO A.in1 ⟨hp,g,d,tk,os⟩ a t c u;refine aD (he prog w _ _ ?_);cases e with
     |true=>
      rw[if_pos (GC.mp rfl)] at hR
      wp_walk
      exact⟨rfl,rfl,_,_,_,_,Gz,Qt,Qu,by lia,hR⟩
     |false=>
      rw[if_neg (λq=>absurd (GC.mpr q) El)] at hR;have hri:=zgX A.in1 ⟨hp,g,d,tk,os⟩ a t c u prog w
      wp_walk using hri
      exact⟨_,rfl,by simpa using hR⟩
  case fin=>
   rintro⟨b1,b2⟩ s' ⟨hb',rfl,vs,ws,ns',Di,hz,Qs,Le,hlen,hR⟩;simp only at hb';subst hb';have hv:lexLt ns' Di=decide (items.size<items2.size):=by
    cases Qs with
    |nil=>
     cases Le with
     |nil=>
      simp only[Eu] at hlen;rw[zcA];exact(gQ gV).symm
     |cons c u hw=>
      simp only[Eu,fX] at hlen;rw[zb7];exact(fZ gV).symm
    |cons a t hv=>
     cases Le with
     |nil=>
      simp only[Eu,fX] at hlen;rw[zb9];exact(gQ gV).symm
     |cons c u hw=>
      rw[Em] at hz;cases hz
   rw[hv] at hR
   wp_walk
   exact⟨_,rfl,by simpa [Builtin.Tuple.tupleCompareSizes] using hR⟩
  case h=>
   exact⟨rfl,rfl,items.toList,items2.toList,ns,ms,rfl,hi,hj,by lia,h⟩
end
section
variable {prog:Program}{w:World}{A:Around}{E:Value->Shared->Prop}{s:Shared}
theorem jE{l b:Addr}{items items2:Array Value}{ns ms:List Int}{Q:Value->Shared->Prop}(hl:IsTup s.heap l items)(hb:IsTup s.heap b items2)(hi:IntsAre items.toList ns)(hj:IntsAre items2.toList ms)
  (hu:A.units<cLine) (h:Q (.bool (lexLt ns ms)) s):wpAny (model prog w) A (compareOp .Lt (.ref l) (.ref b)) Q E s:=by
 obtain⟨⟨cls,dd,data,sl⟩,ho,hc,n,hd⟩:=id hl;obtain⟨⟨cls2,dd2,data2,sl2⟩,oX,lW,n2,hd2⟩:=id hb;simp only at hc hd lW hd2;subst hc hd lW hd2;exact richCompare_meets_room (op:=.Lt) ⟨_,ho,rfl⟩ ⟨_,oX,rfl⟩ PySem.F.slot_tuple_lt PySem.F.entry_tuple_lt (PySem.F.args_tuple_lt_2 _ _) (zcx l b items items2 n n2 dd dd2 sl sl2 ns ms hi hj)
  ⟨ho,oX,show Value.bool (lexLt ns ms)≠Value.notImplemented/\Q (.bool (lexLt ns ms)) s from ⟨(λx=>nomatch x),h⟩⟩ hu
theorem vH{t b:Addr}{vs ws:List Value}{Q:Value->Shared->Prop}(ht:IsTup s.heap t vs.toArray)(hb:IsTup s.heap b ws.toArray)(hv:vs≠[])
  (h1:ws=[]->Q (.ref t) s) (h2:ws≠[]->Q (.ref s.heap.objs.size) {s with heap:=s.heap.push {cls:=.type "tuple",data:=.seq (vs++ws).toArray}})
  (hsz:vs.length+ws.length<=sizeLine):wpAny (model prog w) A (binaryOp .Add (.ref t) (.ref b)) Q E s:=by
 obtain⟨⟨cls,dd,data,sl⟩,ho,hc,n,hd⟩:=id ht;obtain⟨⟨cls2,dd2,data2,sl2⟩,oX,lW,n2,hd2⟩:=id hb;simp only at hc hd lW hd2;subst hc hd lW hd2;have e:vs.toArray++ws.toArray=(vs++ws).toArray:=by simp
 by_cases hw:ws=[]
 ·exact concat_meets ⟨_,ho,rfl⟩ ⟨_,oX,rfl⟩ noFill_tuple_add seq_tuple_add Oe Oc (Ob _ _)
   (tuple_addW1 t b vs.toArray ws.toArray n n2 dd dd2 sl sl2 (by simpa using hv) (by simp[hw])) ⟨ho,oX,h1 hw⟩
 ·refine concat_meets ⟨_,ho,rfl⟩ ⟨_,oX,rfl⟩ noFill_tuple_add seq_tuple_add Oe Oc (Ob _ _)
   (tuple_addW2 t b vs.toArray ws.toArray n n2 dd dd2 sl sl2 (by simpa using hv) (by simpa using hw) (by rw[eY,eY];exact hsz)) ⟨ho,oX,?_⟩
  rw[e];exact h2 hw
noncomputable def bL(n d:Nat):Option Int->Nat
 |none=>d
 |some v=>if v<0 then (v+(n:Int)).toNat else min v.toNat n
theorem jF(n d:Nat):bL n d none=d:=rfl
theorem lX(n d k:Nat):bL n d (some (k:Int))=min k n:=by
 show (if (k:Int)<0 then ((k:Int)+(n:Int)).toNat else min (k:Int).toNat n)=min k n;rw[if_neg gV,jA]
theorem zmb(n d:Nat)(hd:d<=n)(o:Option Int):bL n d o<=n:=by
 cases o with
 |none=>exact hd
 |some v=>
  show (if v<0 then (v+(n:Int)).toNat else min v.toNat n)<=n;by_cases hv:v<0
  ·rw[if_pos hv];lia
  ·rw[if_neg hv];exact Nat.min_le_right _ _
theorem Xk(v:Int)(n d:Nat):(if v<0 then max (v+(n:Int)) 0 else min v (n:Int))=((bL n d (some v):Nat):Int):=by
 show (if v<0 then max (v+(n:Int)) 0 else min v (n:Int))=(((if v<0 then (v+(n:Int)).toNat else min v.toNat n):Nat):Int);by_cases hv:v<0
 ·simp only[if_pos hv];lia
 ·simp only[if_neg hv];lia
theorem zeH(lo hi:Option Int)(n:Nat):Builtin.Slice.sliceAdjust lo hi 1 (n:Int)=(((bL n 0 lo:Nat):Int),((bL n n hi:Nat):Int)):=by
 have h1:¬((1:Int)<0):=by lia
 unfold Builtin.Slice.sliceAdjust;simp only[h1,rC];refine Prod.ext ?_ ?_
 ·cases lo with
  |none=>rfl
  |some v=>exact Xk v n 0
 ·cases hi with
  |none=>rfl
  |some v=>exact Xk v n n
theorem zeI(i j:Nat):Builtin.Slice.slicePlaces (i:Int) (j:Int) 1=j-i:=by
 unfold Builtin.Slice.slicePlaces;have h1:(1:Int)>0:=by lia
 simp only[h1,if_true,Int.ediv_one]
 split<;>lia
theorem Xl{v:Value}{o:Option Int}{Q:Option Int->Shared->Prop}(p:IsPart v o)(h:Q o s):wpAny (model prog w) A (Builtin.Slice.slicePartIndex v) Q E s:=by
 cases p with
 |none=>exact slicePart_none h
 |int i t=>exact slicePart_int h
theorem Xm{sl:Addr}{vl vu:Value}{lo hi:Option Int}{n:Nat}{Q:Int×Int×Nat->Shared->Prop}(hs:s.heap.IsSliceOf sl vl vu .none)(pl:IsPart vl lo)(pu:IsPart vu hi)
  (h:Q (((bL n 0 lo:Nat):Int),1,bL n n hi-bL n 0 lo) s):wpAny (model prog w) A (Builtin.Slice.sliceApplied (.ref sl) (pure (n:Int))) Q E s:=by
 obtain⟨os,Ah,Lf,GD⟩:=id hs;unfold Builtin.Slice.sliceApplied Builtin.Slice.sliceFields;refine aD (aD (lH Ah GD (x:=vl) rfl (aD (lH Ah GD (x:=vu) rfl (aD (lH Ah GD (x:=.none) rfl (bw ?_)))))));refine aD (slicePart_none ?_);show wpAny _ _ (if ((1:Int)==0)=true then _ else _) _ _ s;rw[if_neg J0];refine aD (Xl pl (aD (Xl pu (aD (bw ?_)))));show wpAny _ _ (match Builtin.Slice.sliceAdjust lo hi 1 (n:Int) with|(lo,hi)=>pure (lo,(1:Int),Builtin.Slice.slicePlaces lo hi 1)) _ _ s;rw[zeH lo hi n];show wpAny _ _ (pure (((bL n 0 lo:Nat):Int),(1:Int),Builtin.Slice.slicePlaces ((bL n 0 lo:Nat):Int) ((bL n n hi:Nat):Int) 1)) _ _ s;rw[zeI];exact bw h
theorem zhy(xs:Array Value)(i k:Nat):((List.range k).filterMap λ(m:Nat)=>xs[((i:Int)+(m:Int)*1).toNat]?).toArray=((xs.toList.drop i).take k).toArray:=by
 have e:(λ(m:Nat)=>xs[((i:Int)+(m:Int)*1).toNat]?)=λm=>xs[i+m]?:=by
  funext m
  have:((i:Int)+(m:Int)*1).toNat=i+m:=by lia
  rw[this]
 rw[e];have:=pick_run xs i k;rw[List.filterMap_map] at this;have e2:((λx=>xs[x]?)∘λx=>i+x)=λm=>xs[i+m]?:=rfl;rw[e2] at this;rw[this]
theorem gW{t sl:Addr}{items:Array Value}{vl vu:Value}{lo hi:Option Int}{Q:Value->Shared->Prop}(ht:IsTup s.heap t items)(hs:s.heap.IsSliceOf sl vl vu .none)(pl:IsPart vl lo)(pu:IsPart vu hi)
  (hw:¬(bL items.size 0 lo=0/\bL items.size items.size hi=items.size))
  (h:Q (.ref s.heap.objs.size) {s with heap:=s.heap.push {cls:=.type "tuple",data:=.seq ((items.toList.drop (bL items.size 0 lo)).take (bL items.size items.size hi-bL items.size 0 lo)).toArray}})
  (hsz:items.size<=sizeLine):wpAny (model prog w) A (getItem (.ref t) (.ref sl)) Q E s:=by
 have pN:sizeOk (.seq ((items.toList.drop (bL items.size 0 lo)).take (bL items.size items.size hi-bL items.size 0 lo)).toArray):=by
  show ((items.toList.drop (bL items.size 0 lo)).take (bL items.size items.size hi-bL items.size 0 lo)).toArray.size<=sizeLine;rw[eY,uF,Et,xg]
  lia
 have hj:bL items.size items.size hi<=items.size:=zmb _ _ (bU _) hi;obtain⟨os,Ah,Lf,GD⟩:=id hs;have Qv:s.TypeIs (.ref sl) "slice":=⟨os,Ah,Lf⟩;unfold getItem
 try with_reducible refine rA ?_
 first|refine aD (bw ?_)|skip
 refine aD (wpAny_sequenceKey ht.typeIs J0 ?_);refine aD (zj (name:=Str.ofString "__getitem__") ht.typeIs Ce
  (xG Ce ht.typeIs entry_tuple_getitem ?_ (args_tuple_getitem _ _)))
 show wpAny _ _ (Builtin.Tuple.tupleItemsOf (.ref t) >>= _) _ _ s;refine aD (tupleItemsOf_ ht ?_);refine aD (wpAny_typeOf Qv ?_);rw[if_pos J0];refine aD (Xm hs pl pu ?_);have jQ:¬((((bL items.size 0 lo:Nat):Int)==0&&(1:Int)==1&&(bL items.size items.size hi-bL items.size 0 lo)==items.size)=true):=by
  intro q;rw[gw,gw] at q;have q1:((bL items.size 0 lo:Nat):Int)=0:=eq_of_beq q.1.1;have q2:bL items.size items.size hi-bL items.size 0 lo=items.size:=eq_of_beq q.2;exact hw ⟨by lia,by lia⟩
 show wpAny _ _ (if (((bL items.size 0 lo:Nat):Int)==0&&(1:Int)==1&&(bL items.size items.size hi-bL items.size 0 lo)==items.size)=true then _ else _) _ _ s;rw[if_neg jQ,zhy]
 first
  |exact aD (m:=Builtin.Tuple.tupleExact _) (uD (bw ⟨_,rfl,bw h⟩) pN)
  |exact aD (m:=Builtin.Tuple.tupleExact _) (uD (aD (bw (bw ⟨_,rfl,bw h⟩))) pN)
  |exact aD (aD (m:=Builtin.Tuple.tupleExact _) (uD (bw (bw ⟨_,rfl,bw h⟩)) pN))
  |exact aD (aD (m:=Builtin.Tuple.tupleExact _) (uD (bw ⟨_,rfl,bw h⟩) pN))
end
end HT
namespace L2
open PySem PySem.Spec PyProof.Rows
noncomputable abbrev TO:=St->Hp->(Option Int->Hp->Prop)->Prop
def PO(X:Cx)(e:Option Expr)(t:TO):Prop:=
 ∀(ao:List (Addr×Obj)) (s:Shared) (Z:St) (H:Hp) (Q:Option Int->Hp->Prop),Inv X ao Z H s->t Z H Q->
  wpAny (model X.prog X.w) X.A (evalPart e X.env) (λu s'=>∃o H',Inv X ao Z H' s'/\IsPart u o/\Q o H') X.xe s
noncomputable def vI:TO:=λ_ H Q=>Q none H
noncomputable def GF(t:TE):TO:=λZ H Q=>t Z H λx H1=>∃i,x=.int i/\Q (some i) H1
theorem Xn{ns:List Int}:∀{us:List Value},Vals (ns.map V.int) us->IntsAre us ns:=by
 induction ns with
 |nil=>intro us r;rw[List.map_nil] at r;cases r;exact .nil
 |cons n ns ih=>
  intro us r;rw[jr] at r;cases r with
  |cons r1 r2=>
   obtain⟨t,e⟩:=r1;subst e;exact .cons n t (ih r2)
section
variable {X:Cx}{e:Expr}{te:TE}{lo hi:Option Expr}{tl th:TO}{pos p2:Pos}
theorem zja:PO X none vI:=by
 intro ao s Z H Q I h;rw[evalPart_none];exact bw ⟨none,H,I,.none,h⟩
theorem zjS(h:PE X e te):PO X (some e) (GF te):=by
 intro ao s Z H Q I hw;rw[evalPart_some];refine aX (h ao s Z H _ I hw) λu s1 hx=>dX hx λx H1 I1 r1 q1=>?_;obtain⟨i,rfl,q⟩:=q1;obtain⟨t,rfl⟩:=r1;exact⟨some i,H1,I1,.int i t,q⟩
def vJ(X:Cx)(r:V->Option Int->Option Int->Hp->VK->Prop):Prop:=
 ∀(ao:List (Addr×Obj)) (s:Shared) (Z:St) (H:Hp) (x:V) (v vl vu:Value) (lo hi:Option Int) (sl:Addr) (Q:VK),Inv X ao Z H s->RelV x v->s.heap.IsSliceOf sl vl vu .none->IsPart vl lo->IsPart vu hi->r x lo hi H Q->
  ∃T id,typeLookup (.type T) "__getitem__"=pure (some (.builtin id))/\s.TypeIs v T/\wpAny (model X.prog X.w) X.A (getItem v (.ref sl)) (EP X ao Z Q) X.xe s
theorem vJ.or{r r':V->Option Int->Option Int->Hp->VK->Prop}(h:vJ X r)(h':vJ X r'):vJ X (λx lo hi H Q=>r x lo hi H Q\/r' x lo hi H Q):=by
 intro ao s Z H x v vl vu lo hi sl Q I rx hs pl pu q;rcases q with q|q
 ·exact h ao s Z H x v vl vu lo hi sl Q I rx hs pl pu q
 ·exact h' ao s Z H x v vl vu lo hi sl Q I rx hs pl pu q
noncomputable def tSl(r:V->Option Int->Option Int->Hp->VK->Prop)(te:TE)(tl th:TO):TE:=λZ H Q=>te Z H λx H1=>tl Z H1 λl H2=>th Z H2 λu H3=>r x l u H3 Q
theorem zhd{r:V->Option Int->Option Int->Hp->VK->Prop}(hr:vJ X r)(he:PE X e te)(hl:PO X lo tl)(hu:PO X hi th):PE X (.Subscript e (.Slice lo hi none p2) pos) (tSl r te tl th):=by
 intro ao s Z H Q I h;refine Subscript_ (aX (he ao s Z H _ I h) λv s1 hx=>dX hx λx H1 I1 r1 q1=>?_);refine wpAny_Slice (aX (hl ao s1 Z H1 _ I1 q1) λvl s2 hx=>dX hx λl H2 I2 pl q2=>aX (hu ao s2 Z H2 _ I2 q2) λvu s3 hx=>dX hx λu H3 I3 pu q3=>?_);rw[evalPart_none];refine bw ?_;have I4:Inv X ao Z H3 {s3 with heap:=s3.heap.push {cls:=.type "slice",data:=.fields #[vl,vu,.none]}}:=I3.kept (t':=s3.toks) λb ob q=>cQ _ q;obtain⟨T,id,hT,ht,hg⟩:=hr ao {s3 with heap:=s3.heap.push {cls:=.type "slice",data:=.fields #[vl,vu,.none]}} Z H3 x v vl vu l u s3.heap.objs.size Q I4 r1 (Heap.IsSliceOf.new ..) pl pu q3;show wpAny (model X.prog X.w) X.A (subscriptTail e (.Slice lo hi none p2) v (.ref s3.heap.objs.size)) (EP X ao Z Q) X.xe {s3 with heap:=s3.heap.push {cls:=.type "slice",data:=.fields #[vl,vu,.none]}};exact tail_any (ops:=[.ref s3.heap.objs.size,v]) ht hT hg (by with_unfolding_all rfl)
noncomputable def lY(xs:List V)(lo hi:Option Int):List V:=(xs.drop (HT.bL xs.length 0 lo)).take (HT.bL xs.length xs.length hi-HT.bL xs.length 0 lo)
theorem Xo(xs:List V)(lo hi:Option Int):(lY xs lo hi).length<=xs.length:=by
 unfold lY;rw[uF,Et]
 lia
noncomputable def Qw(K:W.Frag):V->Option Int->Option Int->Hp->VK->Prop:=λx lo hi H Q=>∃a xs,x=.ref a/\fD K H a xs /\
 ¬(HT.bL xs.length 0 lo=0/\HT.bL xs.length xs.length hi=xs.length)/\∀p,H p=none->Q (.ref p) (upd H p (.tup (lY xs lo hi)))
theorem zmx:vJ X (Qw X.K):=by
 intro ao s Z H x v vl vu lo hi sl Q I rx hs pl pu h;obtain⟨a,xs,rfl,hx,hw,q⟩:=h;cases rx;obtain⟨its,r,ht,hz⟩:=I.tuple hx;have hlen:its.toArray.size=xs.length:=by rw[eY];exact r.length.symm
 refine⟨"tuple",_,Ce.lookup,ht.typeIs,?_⟩;refine HT.gW ht hs pl pu (by rw[hlen];exact hw) ?_ (by rw[hlen];exact hz);rw[hlen];refine⟨.ref s.heap.objs.size,_,I.laid (t':=s.toks) (o:=.tup (lY xs lo hi)) (λb ob q=>cQ _ q) (bU _) ?_,rfl,q _ (I.hok.fresh (bU _))⟩;exact⟨kW (Xo xs lo hi) hz,_,(r.drop (HT.bL xs.length 0 lo)).take (HT.bL xs.length xs.length hi-HT.bL xs.length 0 lo),jB.new _ _⟩
noncomputable def GJ(K:W.Frag):R2:=λx y H Q=>∃a b ns ms,x=.ref a/\y=.ref b/\fD K H a (ns.map V.int)/\fD K H b (ms.map V.int)/\Q (.bl (HT.lexLt ns ms)) H
theorem zlD(hu:X.A.units<cLine):eF X (compareOp .Lt) (GJ X.K):=by
 intro ao s Z H x y v u Q I rx ry h;obtain⟨a,b,ns,ms,rfl,rfl,ha,hb,q⟩:=h;cases rx;cases ry;obtain⟨its,r1,p1,_⟩:=I.tuple ha;obtain⟨its2,r2,p2,_⟩:=I.tuple hb;have i1:IntsAre its.toArray.toList ns:=Xn r1;have i2:IntsAre its2.toArray.toList ms:=Xn r2;exact HT.jE p1 p2 i1 i2 hu ⟨.bl (HT.lexLt ns ms),H,I,rfl,q⟩
theorem Vals.lZ{xs:List V}{us:List Value}(r:Vals xs us):us=[]↔xs=[]:=by
 cases r with
 |nil=>simp
 |cons _ _=>simp
end
noncomputable def oE(n:Nat)(i:Int):Option Nat:=if 0<=i then (if i<n then some i.toNat else none) else if -(n:Int)<=i then some (i+n).toNat else none
noncomputable def nu{α:Type}(xs:List α)(i:Int):Option α:=(oE xs.length i).bind λj=>xs[j]?
theorem Xp{n:Nat}{i:Int}{j:Nat}(h:oE n i=some j):seqIndex? i n=some j/\j<n/\-(n:Int)<=i/\i<n:=by
 unfold oE at h;by_cases h0:0<=i
 ·rw[if_pos h0] at h;by_cases h1:i<n
  ·rw[if_pos h1] at h;have e:i.toNat=j:=cW h;exact⟨by rw[seqIndex_of h0 h1,e],by lia,by lia,h1⟩
  ·rw[if_neg h1] at h;cases h
 ·rw[if_neg h0] at h;by_cases h1 : -(n:Int)<=i
  ·rw[if_pos h1] at h;have e:(i+n).toNat=j:=cW h;exact⟨by rw[seqIndex_neg gV h1,e],by lia,h1,by lia⟩
  ·rw[if_neg h1] at h;cases h
theorem Qx{α:Type}{xs:List α}{i:Int}{v:α}(h:nu xs i=some v):∃j,seqIndex? i xs.length=some j/\xs[j]?=some v/\j<xs.length/\-(xs.length:Int)<=i/\i<xs.length:=by
 unfold nu at h;cases e:oE xs.length i with
 |none=>rw[e] at h;cases h
 |some j=>
  rw[e] at h;obtain⟨h1,h2,h3,h4⟩:=Xp e;exact⟨j,h1,h,h2,h3,h4⟩
def pO(b:Expr):Prop:=∀o i,subscripted b false o i=operate [o,i] (getItem o i)
def vK(X:Cx)(r:R2):Prop:=
 ∀(value slice:Expr) (ao:List (Addr×Obj)) (s:Shared) (Z:St) (H:Hp) (x y:V) (v u:Value) (Q:VK),Inv X ao Z H s->RelV x v->RelV y u->r x y H Q->
  subscripted slice false v u=operate [v,u] (getItem v u)->wpAny (model X.prog X.w) X.A (subscriptTail value slice v u) (EP X ao Z Q) X.xe s
def Lg(X:Cx)(id:String)(r:V->List V->Hp->VK->Prop):Prop:=
 ∀(ao:List (Addr×Obj)) (s:Shared) (Z:St) (H:Hp) (x:V) (xs:List V) (v:Value) (us:List Value) (Q:VK),Inv X ao Z H s->RelV x v->Vals xs us->r x xs H Q->
  wpAny (model X.prog X.w) X.A (call (.builtin id) (v::us)) (EP X ao Z Q) X.xe s
section
variable {X:Cx}{a b:Expr}{ta tb:TE}{pos:Pos}
theorem vK.or{r r':R2}(h:vK X r)(h':vK X r'):vK X (λx y H Q=>r x y H Q\/r' x y H Q):=by
 intro value slice ao s Z H x y v u Q I rx ry q hs;rcases q with q|q
 ·exact h value slice ao s Z H x y v u Q I rx ry q hs
 ·exact h' value slice ao s Z H x y v u Q I rx ry q hs
theorem znp{r:R2}(hr:vK X r)(ha:PE X a ta)(hb:PE X b tb)(hs:pO b):PE X (.Subscript a b pos) (Dh r ta tb):=by
 intro ao s Z H Q I h;exact Subscript_ (Ab ha hb I h λv u s2 x y H2 I2 rx ry q=>hr a b ao s2 Z H2 x y v u Q I2 rx ry q (hs _ _))
noncomputable def GK(K:W.Frag):R2:=λx y H Q=>∃p xs i v,x=.ref p/\y=.int i/\cR K H p xs/\nu xs i=some v/\Q v H
noncomputable def GP(K:W.Frag):R2:=λx y H Q=>∃p xs i v,x=.ref p/\y=.int i/\fD K H p xs/\nu xs i=some v/\Q v H
noncomputable def GQ:R2:=λx y H Q=>∃z i c,x=.str z/\y=.int i/\z.length<=sizeLine/\nu z.cps.toList i=some c/\Q (.str ⟨#[c]⟩) H
theorem vL:vK X (GK X.K):=by
 intro value slice ao s Z H x y v u Q I rx ry h hs;obtain⟨p,xs,i,z,rfl,rfl,hq,he,q⟩:=h;cases rx;obtain⟨t,rfl⟩:=ry;obtain⟨its,r,pl,hz⟩:=I.list hq;obtain⟨j,h1,h2,h3,h4,h5⟩:=Qx he;obtain⟨w,ew,j8⟩:=r.get h2;have hl:=r.length;have hn:=iJ;have fin:EP X ao Z Q w s:=⟨z,H,I,j8,q⟩;by_cases h0:0<=i
 ·have hj:i.toNat=j:=by
   rw[seqIndex_of h0 h5] at h1;exact cW h1
  exact item_listR pl.isList h0 gV (by rw[hj];simpa using ew) fin hs
 ·have hj:(i+(its.toArray.size:Int)).toNat=j:=by
   rw[seqIndex_neg gV h4] at h1;rw[eY,<-hl];exact cW h1
  exact subscriptTail_builtinR (x:=w) pl.isList.typeIs slot_list_getitem.lookup
   (wpAny_getItem_list_neg (Q:=λr s'=>r=w/\EP X ao Z Q r s') pl.isList gV (by rw[eY]<;>lia) gV (by rw[hj];simpa using ew) ⟨rfl,fin⟩) hs
theorem Ai:vK X (GP X.K):=by
 intro value slice ao s Z H x y v u Q I rx ry h hs;obtain⟨p,xs,i,z,rfl,rfl,hq,he,q⟩:=h;cases rx;obtain⟨t,rfl⟩:=ry;obtain⟨its,r,pl,hz⟩:=I.tuple hq;obtain⟨j,h1,h2,h3,h4,h5⟩:=Qx he;obtain⟨w,ew,j8⟩:=r.get h2;have hl:=r.length;have hn:=iJ;have fin:EP X ao Z Q w s:=⟨z,H,I,j8,q⟩;exact subscriptTail_builtinR (x:=w) pl.typeIs slot_tuple_getitem.lookup
  (getItem_tuple (j:=j) (Q:=λr s'=>r=w/\EP X ao Z Q r s') pl gV gV (by rw[eY,<-hl];exact h1) (by simpa using ew) ⟨rfl,fin⟩) hs
theorem zkH:vK X GQ:=by
 intro value slice ao s Z H x y v u Q I rx ry h hs;obtain⟨z,i,c,rfl,rfl,hz,he,q⟩:=h;obtain⟨t,rfl⟩:=rx;obtain⟨t',rfl⟩:=ry;obtain⟨j,h1,h2,h3,h4,h5⟩:=Qx he;have hl:z.cps.toList.length=z.length:=by simp[Str.length]
 rw[hl] at h1 h4 h5;have hn:=iJ;exact tail_any (typeIs_str s z t) slot_str_getitem.lookup (getItem_str (c:=c) (by
  have e1:decide (i < -(2^63:Int))=false:=gQ gV;have e2:decide (i>=2^63)=false:=gQ gV;rw[e1,e2,Bool.or_false]) (by rw[h1];simpa using h2) ⟨.str ⟨#[c]⟩,H,I.tok _,⟨_,rfl⟩,q⟩) hs
noncomputable def Qy(K:W.Frag):R2:=λx y H Q=>GK K x y H Q\/GP K x y H Q\/GQ x y H Q
theorem zlN:vK X (Qy X.K):=vL.or (Ai.or zkH)
theorem ze5(its:List Value)(n j:Nat)(u:Value):Obj.mapSeq (·.setIfInBounds j u) {cls:=.type "list",data:=.seq its.toArray n}={cls:=.type "list",data:=.seq (its.set j u).toArray n}:=by
 simp[Obj.mapSeq]
theorem Inv.lst{ao:List (Addr×Obj)}{Z:St}{H:Hp}{s:Shared}{p:Addr}{xs:List V}(I:Inv X ao Z H s)(h:H p=some (.lst xs)) :
  ∃(its:List Value) (n:Nat),Vals xs its/\s.heap.get? p=some {cls:=.type "list",data:=.seq its.toArray n}/\xs.length<=sizeLine:=by
 obtain⟨z,its,n,r,e⟩:=I.hok p _ h;exact⟨its,n,r,e,z⟩
theorem Inv.Aj{ao:List (Addr×Obj)}{Z:St}{H:Hp}{s:Shared}{p:Addr}{xs ys:List V}{its its':List Value}{n n':Nat}{f:Obj->Obj}(I:Inv X ao Z H s)(h:H p=some (.lst xs))
  (ho:s.heap.get? p=some {cls:=.type "list",data:=.seq its.toArray n}) (hf:f {cls:=.type "list",data:=.seq its.toArray n}={cls:=.type "list",data:=.seq its'.toArray n'}) (r:Vals ys its') (hz:ys.length<=sizeLine) (t:Nat) :
  Inv X ao Z (upd H p (.lst ys)) {s with heap:=s.heap.update p f,toks:=t}:=by
 have e:(s.heap.update p f).get? p=some {cls:=.type "list",data:=.seq its'.toArray n'}:=by
  rw[zm f ho (by rw[hf]<;>rfl),hf]
 refine I.write (x:=p) (e:=p) (by rw[h];trivial) (.inl rfl) (λb u hb q=>(vm _ _ (Ne.symm hb)).trans q) ⟨_,e⟩ ?_;exact⟨hz,its',n',r,e⟩
noncomputable def GR:V->V->V->Hp->(Hp->Prop)->Prop:=λo i v H Q=>∃p xs k j,o=.ref p/\i=.int k/\H p=some (.lst xs)/\oE xs.length k=some j/\Q (upd H p (.lst (xs.set j v)))
theorem zhz:Gh X GR:=by
 intro ao s Z H o i v ov iv u Q I ro ri rv h;obtain⟨p,xs,k,j,rfl,rfl,hp,hj,q⟩:=h;cases ro;obtain⟨t,rfl⟩:=ri;obtain⟨its,n,r,ho,hz⟩:=I.lst hp;obtain⟨h1,h2,h3,h4⟩:=Xp hj;have hl:=r.length;have hn:=iJ;have I':Inv X ao Z (upd H p (.lst (xs.set j v))) {s with heap:=s.heap.update p (Obj.mapSeq (·.setIfInBounds j u))}:=
  I.Aj hp ho (ze5 its n j u) (r.set rv j) (by rw[ou];exact hz) s.toks
 by_cases h0:0<=k
 ·have hk:k.toNat=j:=by
   rw[seqIndex_of h0 h4] at h1;exact cW h1
  exact PySem.W.ki_setAt ho h0 gV (by rw[eY,<-hl];exact h4) (by rw[hk];exact⟨_,I',q⟩)
 ·have hk:(k+(its.toArray.size:Int)).toNat=j:=by
   rw[seqIndex_neg gV h3] at h1;rw[eY,<-hl];exact cW h1
  exact PySem.W.ki_setBack ho gV (by rw[eY,<-hl];exact h3) gV (by rw[hk];exact⟨_,I',q⟩)
theorem zc3(lo hi:Option Int)(n:Nat):(sliceBounds lo hi none n).1=((HT.bL n 0 lo:Nat):Int)/\(sliceBounds lo hi none n).2.1=((HT.bL n n hi:Nat):Int)/\(sliceBounds lo hi none n).2.2=1:=by
 refine⟨?_,?_,rfl⟩
 ·cases lo with
  |none=>simp[sliceBounds,HT.bL]
  |some i=>
   simp only[sliceBounds,HT.bL,Option.getD_none,show (1:Int)>0 by decide,if_true];by_cases h:i<0
   ·simp only[h,if_true]<;>lia
   ·simp only[h,rC]<;>lia
 ·cases hi with
  |none=>simp[sliceBounds,HT.bL]
  |some i=>
   simp only[sliceBounds,HT.bL,Option.getD_none,show (1:Int)>0 by decide,if_true];by_cases h:i<0
   ·simp only[h,if_true]<;>lia
   ·simp only[h,rC]<;>lia
theorem zcs(its:List Value)(lo hi:Option Int):slicePick its.toArray lo hi none=((its.drop (HT.bL its.length 0 lo)).take (HT.bL its.length its.length hi-HT.bL its.length 0 lo)).toArray:=by
 obtain⟨h1,h2,h3⟩:=zc3 lo hi its.toArray.size;unfold slicePick;rw[h1,h2,h3];simp only[sliceRange_one,pick_run,eY]<;>rfl
noncomputable def GX(K:W.Frag):V->Option Int->Option Int->Hp->VK->Prop:=λx lo hi H Q=>∃a xs,x=.ref a/\cR K H a xs/\∀p,H p=none->Q (.ref p) (upd H p (.lst (lY xs lo hi)))
theorem vM:vJ X (GX X.K):=by
 intro ao s Z H x v vl vu lo hi sl Q I rx hs pl pu h;obtain⟨a,xs,rfl,hx,q⟩:=h;cases rx;obtain⟨its,r,ht,hz⟩:=I.list hx;have hlen:=r.length;refine⟨"list",_,slot_list_getitem.lookup,ht.isList.typeIs,?_⟩;refine wpAny_getItem_list_slice ht.isList hs pl pu .none Rb ?_ (by rw[eY]<;>lia);rw[zcs,<-hlen];refine⟨.ref s.heap.objs.size,_,I.laid (t':=s.toks) (o:=.lst (lY xs lo hi)) (λb ob q=>cQ _ q) (bU _) ?_,rfl,q _ (I.hok.fresh (bU _))⟩;exact⟨kW (Xo xs lo hi) hz,_,0,(r.drop (HT.bL xs.length 0 lo)).take (HT.bL xs.length xs.length hi-HT.bL xs.length 0 lo),fu _ rfl⟩
theorem zc9:cT X (.builtin "len") (λxs H Q=>∃p ys,xs=[.ref p]/\(cR X.K H p ys\/fD X.K H p ys)/\Q (.int ys.length) H):=by
 intro ao s Z H xs us Q I r h;obtain⟨p,ys,rfl,hq,q⟩:=h;obtain⟨u,rfl,rx⟩:=vals1 r;cases rx;have hn:=iJ;rcases hq with hq|hq
 ·obtain⟨its,r',pl,hz⟩:=I.list hq;have hlen:=r'.length;exact Calls.call_len_list pl.isList (by simp only[eY]<;>lia) ⟨.int ys.length,H,I.tok _,⟨s.toks+1,by rw[eY,hlen]⟩,q⟩
 ·obtain⟨its,r',pl,hz⟩:=I.tuple hq;have hlen:=r'.length;exact len_tuple pl (by simp only[eY]<;>lia) ⟨.int ys.length,H,I.tok _,⟨s.toks+1,by rw[eY,hlen]⟩,q⟩
theorem zcY:cT X (.type "list") (λxs H Q=>∃p ys,xs=[.ref p]/\(cR X.K H p ys\/fD X.K H p ys)/\∀l,H l=none->Q (.ref l) (upd H l (.lst ys))):=by
 intro ao s Z H xs us Q I r h;obtain⟨p,ys,rfl,hq,q⟩:=h;obtain⟨u,rfl,rx⟩:=vals1 r;cases rx;have fin:∀(its:List Value),Vals ys its->ys.length<=sizeLine->∀(h':Heap) (c':Nat),(∀b o',s.heap.get? b=some o'->h'.get? b=some o')->
   h'.get? s.heap.objs.size=some {cls:=.type "list",dict:=none,data:=.seq its.toArray c',slots:=#[]}->EP X ao Z Q (.ref s.heap.objs.size) {s with heap:=h'}:=λits r' hz h' c' kp e=>
  ⟨.ref s.heap.objs.size,_,I.laid (t':=s.toks) kp (bU _) (show bH X.prog X.w _ h' _ (.lst ys) from ⟨hz,its,c',r',e⟩),rfl,q _ (I.hok.fresh (bU _))⟩
 rcases hq with hq|hq
 ·obtain⟨its,r',pl,hz⟩:=I.list hq;have hlen:=r'.length;obtain⟨o,ho,hc,n,hd⟩:=pl.isList;exact call_list_seq p (.inl rfl) ho hc hd (λh' c' kp e=>fin its r' hz h' c' kp e) (by simp only[eY]<;>lia)
 ·obtain⟨its,r',pl,hz⟩:=I.tuple hq;have hlen:=r'.length;obtain⟨o,ho,hc,n,hd⟩:=pl;exact call_list_seq p (.inr rfl) ho hc hd (λh' c' kp e=>fin its r' hz h' c' kp e) (by simp only[eY]<;>lia)
theorem zcy:cT X (.type "tuple") (λxs H Q=>∃p ys,xs=[.ref p]/\((cR X.K H p ys/\∀l,H l=none->Q (.ref l) (upd H l (.tup ys)))\/(fD X.K H p ys/\Q (.ref p) H))):=by
 intro ao s Z H xs us Q I r h;obtain⟨p,ys,rfl,h⟩:=h;obtain⟨u,rfl,rx⟩:=vals1 r;cases rx;rcases h with ⟨hq,q⟩|⟨hq,q⟩
 ·obtain⟨its,r',pl,hz⟩:=I.list hq;have hlen:=r'.length;refine call_tuple_list pl.isList (λh' kp=>?_) (by simp only[eY]<;>lia);have I1:Inv X ao Z H {s with heap:=h'}:=I.kept (t':=s.toks) kp;have I2:Inv X ao Z (upd H h'.objs.size (.tup ys)) {s with heap:=h'.push {cls:=.type "tuple",data:=.seq its.toArray}}:=
   I1.laid (t':=s.toks) (λb o e=>cQ _ e) (bU _) (show bH X.prog X.w _ _ _ (.tup ys) from ⟨hz,its,r',jB.new _ _⟩)
  exact⟨.ref h'.objs.size,_,I2,rfl,q _ (I1.hok.fresh (bU _))⟩
 ·obtain⟨its,r',pl,hz⟩:=I.tuple hq;exact call_tuple_same pl ⟨.ref p,H,I,rfl,q⟩
def Lh(K:W.Frag)(T:String)(x:V)(H:Hp):Prop:=match x with
 |.str _=>T="str"
 |.int _=>T="int"
 |.ref p=>(T="list"/\∃xs,cR K H p xs)\/(T="tuple"/\∃xs,fD K H p xs) \/
   (T="dict"/\((∃kvs,H p=some (.dK kvs))\/∃kvs,H p=some (.dT kvs)))\/(T="set"/\∃S n,H p=some (.set S n))
 |_=>False
theorem Xq{ao:List (Addr×Obj)}{Z:St}{H:Hp}{s:Shared}{T:String}{x:V}{v:Value}(I:Inv X ao Z H s)(r:RelV x v)(ty:Lh X.K T x H) :
  s.TypeIs v T/\∀a,v=.ref a->∃ob,s.heap.get? a=some ob/\ob.dict=none:=by
 cases x with
 |str z=>
  obtain⟨t,rfl⟩:=r;cases (show T="str" from ty);exact⟨typeIs_str s z t,λ_ e=>nomatch e⟩
 |int i=>
  obtain⟨t,rfl⟩:=r;cases (show T="int" from ty);exact⟨typeIs_int s i t,λ_ e=>nomatch e⟩
 |ref p=>
  cases r;rcases ty with ⟨rfl,xs,hq⟩|⟨rfl,xs,hq⟩|⟨rfl,hk⟩|⟨rfl,S,n,hk⟩
  ·obtain⟨its,_,pl,_⟩:=I.list hq;refine⟨pl.isList.typeIs,λa e=>?_⟩;cases e;obtain⟨o,n,e,c,hd,_⟩:=pl;exact⟨o,e,hd⟩
  ·obtain⟨o,h1,h2,h3⟩:=I.PX hq;refine⟨⟨o,h1,h2⟩,λa e=>?_⟩;cases e;exact⟨o,h1,h3⟩
  ·have z:∃o,s.heap.get? p=some o/\o.ExactDict:=by
    rcases hk with ⟨kvs,hk⟩|⟨kvs,hk⟩
    ·obtain⟨_,_,_,_,o,_,_,e,ex,_⟩:=I.hok p _ hk;exact⟨o,e,ex⟩
    ·obtain⟨_,_,_,_,o,_,_,e,ex,_⟩:=I.hok p _ hk;exact⟨o,e,ex⟩
   obtain⟨o,e,ex⟩:=z;refine⟨⟨o,e,ex.1⟩,λa e2=>?_⟩;cases e2;exact⟨o,e,ex.2.1⟩
  ·obtain⟨o,_,_,_,e,ex,_⟩:=I.hok p _ hk;refine⟨⟨o,e,ex.1⟩,λa e2=>?_⟩;cases e2;exact⟨o,e,ex.2.1⟩
 |_=>exact False.elim ty
noncomputable def Qz(K:W.Frag)(T:String)(r:V->List V->Hp->VK->Prop)(to:TE):TE:=λZ H Q=>to Z H λx H1=>Lh K T x H1/\r x [] H1 Q
noncomputable def tBM(K:W.Frag)(T:String)(r:V->List V->Hp->VK->Prop)(to:TE)(t:TA):TE:=λZ H Q=>to Z H λx H1=>Lh K T x H1/\t Z H1 λxs H2=>r x xs H2 Q
variable {o e:Expr}{es:List Expr}{to:TE}{t:TA}{name:Str}{apos cpos:Pos}{T id:String}{r:V->List V->Hp->VK->Prop}
theorem zmz(pa:PlainAttrs T)(slot:Slot T name id)(GZ:typeOf (.builtin id)=pure (.type "method_descriptor"))(hm:Lg X id r)(ho:PE X o to)
  (cZ:attributeBase o name X.env (eval o X.env)=eval o X.env:=by rfl) (c7:(apos.endLine==cpos.line)=true:=by rfl):PE X (.Call (.Attribute o name apos) [] [] cpos) (Qz X.K T r to):=by
 intro ao s Z H Q I h;refine wpAny_Call_method0_late cZ c7 (aX (ho ao s Z H _ I h) λv s1 hz=>?_);obtain⟨x,H1,I1,r1,ty,q1⟩:=hz;obtain⟨h1,h2⟩:=Xq I1 r1 ty;exact⟨T,id,pa,slot,GZ,h1,h2,Calls.callWith_builtin rfl (PySem.evalArgs_none (hm ao s1 Z H1 x [] v [] Q I1 r1 .nil q1))⟩
theorem Xr(pa:PlainAttrs T)(slot:Slot T name id)(GZ:typeOf (.builtin id)=pure (.type "method_descriptor"))(hm:Lg X id r)(ho:PE X o to)(ha:PA X (e::es) t)
  (cZ:attributeBase o name X.env (eval o X.env)=eval o X.env:=by rfl)
  (oY:((backTo cpos (starEach (e::es) X.env)).all (λx=>!x.1)&&(backToKw cpos (keywordEach [] X.env)).all (λx=>x.1.isSome)
  &&decide ((e::es).length+([]:List Keyword).length+(if ([]:List Keyword).isEmpty then 0 else 1)<30))=true:=by rfl)
  (c7:(apos.endLine==cpos.line)=true:=by rfl) (hs:starEach (e::es) X.env=(false,eval e X.env)::starEach es X.env:=by rfl) (fG:(backTo cpos (starEach es X.env)).any (·.1)=false:=by rfl) :
  PE X (.Call (.Attribute o name apos) (e::es) [] cpos) (tBM X.K T r to t):=by
 intro ao s Z H Q I h;refine wpAny_Call_method_late cZ oY c7 rfl (aX (ho ao s Z H _ I h) λv s1 hz=>?_);obtain⟨x,H1,I1,r1,ty,q1⟩:=hz;obtain⟨h1,h2⟩:=Xq I1 r1 ty;refine⟨T,id,pa,slot,GZ,h1,h2,?_⟩;have hA:=ha cpos ao s1 Z H1 _ I1 q1;rw[hs] at hA ⊢;refine Calls.callWith_builtin (by show (false||(backTo cpos (starEach es X.env)).any (·.1))=false;rw[fG]<;>rfl) (Calls.evalArgs_plain ?_);exact aX hA λus s2 hx=>dX hx λvs H2 I2 r2 q2=>hm ao s2 Z H2 x vs v us Q I2 r1 r2 q2
end
def Xu(X:Cx)(id:String)(r:V->List V->Hp->VK->Prop):Prop:=
 ∀(ao:List (Addr×Obj)) (s:Shared) (Z:St) (H:Hp) (x:V) (xs:List V) (v:Value) (us:List Value) (Q:VK),Inv X ao Z H s->RelV x v->Vals xs us->r x xs H Q->
  wpAny (model X.prog X.w) X.A (call (.builtin id) (v::us)) (EP X ao Z Q) X.xe s
theorem Vals.one{x:V}{us:List Value}(h:Vals [x] us):∃u,us=[u]/\RelV x u:=by
 cases h with
 |cons r t=>cases t;exact⟨_,rfl,r⟩
theorem Vals.two{x y:V}{us:List Value}(h:Vals [x,y] us):∃u v,us=[u,v]/\RelV x u/\RelV y v:=by
 cases h with
 |cons r t=>
  obtain⟨v,rfl,q⟩:=Vals.one t;exact⟨_,_,rfl,r,q⟩
theorem Vals.zero:∀{us:List Value},Vals [] us->us=[]
 |_,.nil=>rfl
theorem Vals.dropLast{xs:List V}{us:List Value}(h:Vals xs us):Vals xs.dropLast us.dropLast:=by
 induction h with
 |nil=>exact .nil
 |cons r t ih=>
  cases t with
  |nil=>exact .nil
  |cons q t'=>exact .cons r ih
theorem zeA{α:Type}(l:List α):l.eraseIdx (l.length-1)=l.dropLast:=by
 induction l with
 |nil=>rfl
 |cons a r ih=>
  cases r with
  |nil=>rfl
  |cons b r=>
   have e:(a::b::r).length-1=((b::r).length-1)+1:=by
    have h1:(a::b::r).length=r.length+2:=rfl;have h2:(b::r).length=r.length+1:=rfl
    lia
   rw[e,List.eraseIdx_cons_succ,ih]
   all_goals rfl
section
variable {X:Cx}{ao:List (Addr×Obj)}{Z:St}{H:Hp}{s:Shared}{l b:Addr}{xs ys zs:List V}
theorem Inv.G3{its its':List Value}{n:Nat}{f:Array Value->Array Value}{t':Nat}(I:Inv X ao Z H s)(hH:H l=some (.lst xs))
  (e:s.heap.get? l=some {cls:=.type "list",data:=.seq its.toArray n}) (hf:f its.toArray=its'.toArray) (hv:Vals ys its') (hz:ys.length<=sizeLine) :
  Inv X ao Z (upd H l (.lst ys)) {s with heap:=s.heap.update l (Obj.mapSeq f),toks:=t'}:=by
 have q:=PySem.IsL.update e f;rw[hf] at q;refine I.write (x:=l) (e:=l) (by rw[hH];exact trivial) (.inl rfl) (λb' u hb hu=>(vm s.heap (Obj.mapSeq f) (Ne.symm hb)).trans hu) ⟨_,q⟩ ?_;exact⟨hz,its',_,hv,q⟩
theorem Inv.QB{its:List Value}{t':Nat}(I:Inv X ao Z H s)(hv:Vals ys its)(hz:ys.length<=sizeLine) :
  Inv X ao Z (upd H s.heap.objs.size (.lst ys)) {s with heap:=s.heap.push {cls:=.type "list",data:=.seq its.toArray},toks:=t'}:=
 I.laid (λ_ _ q=>cQ _ q) (bU _) ⟨hz,its,0,hv,fu _ rfl⟩
theorem Inv.fresh(I:Inv X ao Z H s):H s.heap.objs.size=none:=I.hok.fresh (bU _)
theorem Inv.G4(I:Inv X ao Z H s)(hH:H l=some (.lst xs)):xs.length<=sizeLine/\∃(its:List Value) (n:Nat),Vals xs its/\xs.length=its.length/\s.heap.get? l=some {cls:=.type "list",data:=.seq its.toArray n}:=by
 obtain⟨z,its,n,r,e⟩:=I.hok l _ hH;exact⟨z,its,n,r,r.length,e⟩
end
section
variable {X:Cx}
noncomputable def vN:V->List V->Hp->VK->Prop:=λx vs H Q=>∃l xs y,x=.ref l/\vs=[y]/\H l=some (.lst xs)/\xs.length<sizeLine/\Q .non (upd H l (.lst (xs++[y])))
theorem Xw:Xu X "list.append" vN:=by
 intro ao s Z H x vs v us Q I rx rv h;obtain⟨l,xs,y,rfl,rfl,hH,hz,q⟩:=h;cases rx;obtain⟨u,rfl,ru⟩:=rv.one;obtain⟨z,its,n,r,hl,e⟩:=I.G4 hH;refine zK F.slot_list_append ⟨_,e,rfl⟩ F.entry_list_append (F.args_list_append_2 _ _) (PySem.list_append l its.toArray n u (by rw[eY];lia)) ⟨e,?_⟩;refine⟨.non,_,I.G3 (its':=its++[u]) hH e Rb (r.append (.cons ru .nil)) ?_,rfl,q⟩;rw[dH,List.length_singleton]
 lia
noncomputable def QC:V->List V->Hp->VK->Prop:=λx vs H Q=>∃l xs y,x=.ref l/\vs=[]/\H l=some (.lst xs)/\xs[xs.length-1]?=some y/\Q y (upd H l (.lst xs.dropLast))
theorem zly:Xu X "list.pop" QC:=by
 intro ao s Z H x vs v us Q I rx rv h;obtain⟨l,xs,y,rfl,rfl,hH,hy,q⟩:=h;cases rx;have hus:=rv.zero;subst hus;obtain⟨z,its,n,r,hl,e⟩:=I.G4 hH;obtain⟨u,hu,ru⟩:=r.get hy;have hy':its.toArray[its.toArray.size-1]?=some u:=by
  show its.toArray[its.length-1]?=some u;rw[<-Array.getElem?_toList,<-hl];exact hu
 refine zK F.slot_list_pop ⟨_,e,rfl⟩ F.entry_list_pop (F.args_list_pop_1 _) (MeetsSeq.list_pop_last l its.toArray n u hy' (by rw[eY];lia)) ⟨e,?_⟩;refine⟨y,_,I.G3 (its':=its.dropLast) hH e ?_ r.dropLast ?_,ru,q⟩
 ·show its.toArray.eraseIdxIfInBounds (its.toArray.size-1)=its.dropLast.toArray;rw[eY,List.eraseIdxIfInBounds_toArray,zeA]
 ·rw[List.length_dropLast]
  lia
end
section
variable {prog:Program}{w:World}{A:Around}{E:Value->Shared->Prop}{s:Shared}
set_option maxRecDepth 100000 in
end
end L2
namespace Xx
open PySem PySem.W PySem.Calls PyProof.Rows
theorem zb5{P:Params}{h:Heap}:∀(ns:List Int) (vs:List Value),WellAll P h vs (ns.map WData.int)->IntsAre vs ns:=by
 intro ns
 induction ns with
 |nil=>
  intro vs w;rw[List.map_nil] at w;cases w;exact .nil
 |cons n ns ih=>
  intro vs w;rw[jr] at w;cases w with
  |cons a b=>
   cases a;exact .cons _ _ (ih _ b)
theorem zfN{l:OpenLaw}{n:Nat}(hn:l.most=some n){P:Params}{h:Heap}{args:List WData}{vals:List Value}
  (hpre:l.row.toRowW.claim.pre args=true) (QD:WellAll P h vals args) :
  ∃a vs ns,vals=[Value.ref a]/\args=[WData.list (ns.map WData.int)]/\h.get? a=some {cls:=.type "list",data:=.seq vs.toArray}/\IntsAre vs ns/\ns.length<=n:=by
 have hsh:WShape.hasAll [] args [.list .int]=true:=(pre_splitW hpre).1;have hc:l.pre.holds [] {args:=args}=true:=(pre_splitW hpre).2;obtain⟨d,r,rfl,h1,h2⟩:=hasAllW_cons hsh;obtain rfl:=hasAllW_nil h2;obtain⟨xs,rfl,h3⟩:=hasW_list h1;obtain⟨ns,rfl⟩:=items_int h3;have hlen:ns.length<=n:=by
  unfold OpenLaw.pre at hc;have h4:(WTm.not (.lt (.lit (.int (n:Int))) (.len (.arg 0)))).holds [] {args:=[.list (ns.map .int)]}=true:=by
   have h4:=(holds_andW hc).1;rw[hn] at h4;exact h4
  have h5:=condW_of h4 (w_not (w_lt w_lit (w_len_list (w_arg rfl))));rw[cj] at h5;refine Ks λq=>?_;have q':(n:Int)<((ns.length:Nat):Int):=by lia
  first
   |(rw[fZ q'] at h5;exact absurd h5 J0)
   |(simp at h5;lia)
 cases QD with
 |cons w1 w2=>
  cases w2;cases w1 with
  |list ho jG=>exact⟨_,_,ns,rfl,rfl,ho,zb5 ns _ jG,hlen⟩
theorem zgz(l:OpenLaw)(args:List WData):l.row.toRowW.claim.post args (.bool true) args=true:=
 postW_of (r:=l.row.toRowW) (X:=(true==true))
  (show WShape.has [] (.bool true) .bool=true by first|rfl|decide|simp[WShape.has,WShape.arms,WShape.armsAll])
  (show (WTm.eq .res (.lit (.bool true))).value [] {args:=args,res:=some (.bool true),after:=args}=some (.bool (true==true)) from w_eq_bool (w_res rfl) w_lit) rfl
theorem nA{l:OpenLaw}{n:Nat}{q:Program}{loose:List Str}{XP:(Str->Option Value)->Heap->Prop}{YP:World->Heap->Prop}{d:DefRec}
  (hn:l.most=some n) (QF:d.params.defaults=[])
  (call:∀(w:World) (s₀ s₁:Shared) (mg mb:Str->Option Value) (fa:Addr) (o:Obj) (pm cd doc:Value) (a:Addr) (vs:List Value) (ns:List Int),
   Ground q loose [] XP w s₀ mg mb s₁.heap->YP w s₁.heap->
   s₁.heap.get? fa=some o->o.data=.func (docDef d.name d.params d.body d.scope pm cd doc)->s₁.heap.CodeRec cd d.name->mg d.name=some (.ref fa)->
   s₁.heap.get? a=some {cls:=.type "list",data:=.seq vs.toArray}->IntsAre vs ns->ns.length<=n->s₁.gens=#[]->
   codeAny (model l.prog w) callerA (.call (.ref fa) ⟨[.ref a],[]⟩) (λr s'=>r=.ok (.ret (.bool true))/\OldK s₁.heap s'.heap/\s'.os=s₁.os/\AllBare s'.gens) s₁) :
  WalkO q loose XP YP l.row.toRowW d [] (λf vs=>PySem.call f vs):=by
 intro w s₀ s₁ mg mb G Y fa o pm cd doc dV kV ho hd jP hD hmg hg args vals as hpre aac hrd QD G5;obtain rfl:dV=.none:=Dflts.none hD QF;obtain rfl:kV=.none:=Dflts.noKw hD;obtain⟨a,vs,ns,rfl,rfl,Ak,hints,hlen⟩:=zfN hn hpre QD;refine enter_call (CJ (call w s₀ s₁ mg mb fa o pm cd doc a vs ns G Y ho (fd_plain hd) jP hmg Ak hints hlen hg) λr s' hq=>?_);obtain⟨rfl,h2,h3,h4⟩:=hq;exact⟨.inl ⟨.bool true,.bool true,[],rfl,λ_=>rfl,.bool true,zgz l _,λ_=>⟨List.Pairwise.nil,λ_ hm=>(nomatch hm)⟩⟩,h2,h3,h4⟩
end Xx
namespace L2
open PySem PySem.Spec PyProof.Rows
theorem Xy:∀{vs:List Value} {ns:List Int},IntsAre vs ns->Vals (ns.map V.int) vs
 |_,_,.nil=>.nil
 |_,_,.cons n t h=>.cons ⟨t,rfl⟩ (Xy h)
def Only(H:Hp):Prop:=∀b,H b=none\/∃o xs,H b=some (.uL o (.lst xs))
theorem zhR{P:Program}{w:World}{K:W.Frag}{mg mb:Str->Option Value}{CX:qH}{k:Nat}{fa a:Addr}{fd:FuncData}{x:Str}{sp:Sp}{s₁:Shared}{vs:List Value}{ns:List Int}
  (KX:K.In s₁.heap) (Dj:s₁.heap.Ns mainGlobals mg) (hb:s₁.heap.Ns builtinsNs mb) (hbb:∀x:Str,x≠"__name__"->mb x=bootBuiltins x) (QG:s₁.heap.NoLimit) (hg:s₁.gens=#[])
  (ha:s₁.heap.get? a=some {cls:=.type "list",data:=.seq vs.toArray}) (hi:IntsAre vs ns) (hl:ns.length<=sizeLine) (hr:bD k callerA)
  (F:∀base:Heap,K.In base->base.Ns mainGlobals mg->bZ P w K mg base CX true k fa fd [x] sp) (G6:∀(s:Shared) (u:Value),BindsTo s fd ⟨[u],[]⟩ [(x,u)])
  (Ld:∀H:Hp,Only H->cR K H a (ns.map V.int)->sp [.ref a] H (λv _=>v=.bl true) λ_ _ _=>False)
  (hCX:∀H e s',CX [] H s₁ (λ_ _ _=>False) e s'->False) :
  codeAny (model P w) callerA (.call (.ref fa) ⟨[.ref a],[]⟩) (λr s'=>r=.ok (.ret (.bool true))/\OldK s₁.heap s'.heap/\s'.os=s₁.os/\AllBare s'.gens) s₁:=by
 have rv:=Xy hi;have lenV:=hi.length;have core:∀H:Hp,Only H->cR K H a (ns.map V.int)->iC P w H s₁.heap->(∀b,H b≠none->b=a)->(H a≠none->K.lookup a=none)->
   codeAny (model P w) callerA (.call (.ref fa) ⟨[.ref a],[]⟩) (λr s'=>r=.ok (.ret (.bool true))/\OldK s₁.heap s'.heap/\s'.os=s₁.os/\AllBare s'.gens) s₁:=by
  intro H hO hS hok hA hK;have pP:∀{b:Addr} {o:Obj},s₁.heap.get? b=some o->H b=none->(lQ s₁.heap H).get? b=some o:=λe n=>zht e n;have Gw:∀{b:Addr} {o:Obj} {es:Array DictEntry} {ep:Nat},s₁.heap.get? b=some o->o.data=.dict es ep->H b=none:=λ{b o es ep} e d=>by
   cases q:H b with
   |none=>rfl
   |some u=>
    have e':b=a:=hA b (by rw[q];simp);subst e';rw[ha] at e;cases e;have d':Data.seq vs.toArray _=Data.dict es ep:=d;cases d'
  have Li:∀{b:Addr} {m:Str->Option Value},s₁.heap.Ns b m->(lQ s₁.heap H).Ns b m:=λ{b m} ⟨o,es,ep,e,d,r⟩=>⟨o,es,ep,pP e (Gw e d),d,r⟩;have Xz:K.In (lQ s₁.heap H):=λb o e=>pP (KX b o e) (by
   cases q:H b with
   |none=>rfl
   |some u=>
    have e':b=a:=hA b (by rw[q];simp);subst e';rw[hK (by rw[q];simp)] at e;cases e)
  have hM:Mod K mg (lQ s₁.heap H):=⟨Xz,Li Dj,⟨mb,Li hb,hbb⟩,let ⟨mc,h1,h2⟩:=QG;⟨mc,Li h1,h2⟩⟩;have e0:oW P w K mg (lQ s₁.heap H) callerA [] s₁ H:=⟨rfl,hM,λb o e=>zjc e,Nat.le_of_eq (zfu _ _),trivial,λb hb=>absurd (show b∈([]:List Addr) from hb) Rb,hok,.of_eq hg⟩;refine CJ ((F _ Xz (Li Dj)).run callerA [] s₁ H ⟨[.ref a],[]⟩ [.ref a] [.ref a] _ _ (λ_=>rfl) hr e0 (G6 s₁ (.ref a)) (.cons rfl .nil) (Ld H hO hS)) λr s' h=>?_;cases r with
  |error e=>exact(hCX H e s' h).elim
  |ok fl=>
   cases fl with
   |next=>exact False.elim h
   |brk=>exact False.elim h
   |cont=>exact False.elim h
   |ret u=>
    obtain⟨v,H',os,bare,un,QJ,r',q⟩:=h;have q':v=.bl true:=q;subst q';obtain rfl:u=Value.bool true:=r';refine⟨rfl,OldK.of_keep λb o e=>?_,os,bare⟩;cases q:H b with
    |none=>exact un.keep b o e q (by intro z;exact absurd (show b∈([]:List Addr) from z) Rb) Rb
    |some u=>
     rcases hO b with z|⟨ob,xs,z⟩
     ·rw[q] at z;cases z
     ·have z2:=un.jX b ob _ z;obtain⟨e1,_⟩:=hok b _ z;obtain⟨e2,_⟩:=QJ b _ z2;rw[e] at e1;cases e1;exact e2
 cases hk:K.lookup a with
 |some o=>
  have e:=KX a o hk;rw[ha] at e;cases e;refine core (λ_=>none) (λ_=>.inl rfl) (.inr ⟨_,vs.toArray,_,hk,rfl,rfl,rfl,by rw[eY,lenV];exact hl,by simpa using rv⟩) (λb u z=>by have z':(none:Option HO)=some u:=z;cases z') (λb z=>absurd rfl z) λz=>absurd rfl z
 |none=>
  refine core (λb=>if b=a then some (.uL {cls:=.type "list",data:=.seq vs.toArray} (.lst (ns.map V.int))) else none) (λb=>?_) (.inl (.inr ⟨{cls:=.type "list",data:=.seq vs.toArray},if_pos rfl⟩)) (λb u z=>?_) (λb z=>?_) λ_=>hk
  ·by_cases hb:b=a
   ·exact .inr ⟨_,_,if_pos hb⟩
   ·exact .inl (if_neg hb)
  ·by_cases hb:b=a
   ·have z':=(if_pos hb).symm.trans z;cases z';subst hb;exact⟨ha,by rw[cj];exact hl,vs,_,rv,ha⟩
   ·have z':=(if_neg hb).symm.trans z;cases z'
  ·by_cases hb:b=a
   ·exact hb
   ·exact absurd (if_neg hb) z
def QK(h0:Heap)(H:Hp)(h:Heap)(e:Addr)(hd:Value):Prop:=
 hd=.none\/∃T oT ts,hd=.ref T/\h0.get? T=none/\H T=none/\T≠e/\h.get? T=some oT/\oT.data=.fields ts/\ts[3]?=some .none
structure Exc(h0:Heap)(H:Hp)(h:Heap)(e C:Addr)(dx:Option Addr):Prop where
 new:h0.get? e=none
 un:H e=none
 ob:∃oe vs hd,h.get? e=some oe/\oe.cls=.ref C/\oe.dict=dx/\oe.data=.fields vs/\vs[1]?=some hd/\QK h0 H h e hd
structure QL(h0:Heap)(H:Hp)(fr:List Addr)(h h':Heap)(ch:List Addr):Prop where
 rec_:∀b∈ch,h0.get? b=none/\H b=none/\∃o vs,h.get? b=some o/\o.data=.fields vs
 keep:∀b o,h.get? b=some o->b∉fr->b∉ch->h'.get? b=some o
 slot:∀b o,h.get? b=some o->b∈fr->∃sl,h'.get? b=some {o with slots:=sl}
 there:∀b o,h.get? b=some o->∃o',h'.get? b=some o'
noncomputable def sO(head:Value)(L:Addr)(pl:List Value):Obj:=
 {cls:=.type "traceback",dict:=none,data:=.fields ([head,.ref L,.none,rawInt L,.none]++(if pl.isEmpty then List.replicate 6 Value.none else pl)).toArray}
theorem XD(o:Obj)(f:Array Value->Array Value):(o.mapFields f).dict=o.dict:=by
 obtain⟨c,d,dt,sl⟩:=o;cases dt<;>rfl
theorem XH(o:Obj)(f:Array Value->Array Value):(o.mapFields f).cls=o.cls:=by
 obtain⟨c,d,dt,sl⟩:=o;cases dt<;>rfl
section
variable {M:Model}{A:Around}{E:Value->Shared->Prop}{s:Shared}{base h0:Heap}{env:Env}{outer:List Env}{L e C:Addr}{dx:Option Addr}{H:Hp}{Q:Unit->Shared->Prop}
theorem XJ(rD:A.frames=some (env::outer))(hl:s.heap.FunFrames base (env::outer))(hf:env.frame=some L)
  (he:s.heap.get? e=some oe) (hd:oe.data=.fields vs) (hsz:1<vs.size)
  (k:∀h' T oT ts,s.heap.objs.size<=T->(∀b o,s.heap.get? b=some o->b∉frs (env::outer)->b≠e->h'.get? b=some o)->(∀b o,s.heap.get? b=some o->b∈frs (env::outer)->∃sl,h'.get? b=some {o with slots:=sl})->
   h'.get? e=some (oe.mapFields (·.setIfInBounds 1 (.ref T)))->h'.get? T=some oT->oT.data=.fields ts->3<ts.size->ts[3]?=some (rawInt L)->Q () {s with heap:=h'}) :
  wpAny M A (do let a <-frameOf env;let pl <-entryPlaceOf L hn;let b <-EntryCells.newEntry head a .none (rawInt L) .none pl;setField (.ref e) 1 b) Q E s:=by
 have G7:e∉frs (env::outer):=λhm=>by
  obtain⟨_,o,ho,hx⟩:=hl.mem hm;rw[he] at ho;cases ho;exact hx vs hd
 refine aD (wpAny_frameOf_fun rD hl hf λh₁ sl₁=>?_);refine aD (wpAny_entryPlaceOf λpl hpl=>?_);unfold EntryCells.newEntry newFields;refine aD (uD ?_ (hpl.sizeOk5 _ _ _ _ _));have e1:h₁.get? e=some oe:=(sl₁.2.1 e G7).trans he;have e2:(h₁.push (sO head L pl)).get? e=some oe:=cQ _ e1;refine EY e2 hd hsz ?_;have ne:h₁.objs.size≠e:=vp (bW e1);have d3:=xr hd (·.setIfInBounds 1 (Value.ref h₁.objs.size));have kp:∀b o,h₁.get? b=some o->b≠e->((h₁.push (sO head L pl)).update e (Obj.mapFields (·.setIfInBounds 1 (Value.ref h₁.objs.size)))).get? b=some o:=λb o q n=>by
  rw[vm _ _ n.symm];exact cQ _ q
 refine k _ h₁.objs.size (sO head L pl) _ (by rw[sl₁.1];exact bU _) (λb o q n1 n2=>kp b o ((sl₁.2.1 b n1).trans q) n2) (λb o q m=>?_) (zm _ e2 (Kc d3)) ?_ rfl ?_ ?_
 ·obtain⟨sl,z⟩:=sl₁.2.2 b o q;exact⟨sl,kp b _ z λy=>G7 (y▸m)⟩
 ·rw[vm _ _ ne.symm];exact fu _ rfl
 ·simp only[eY,dH,fX,Eu]<;>lia
 ·first
   |(simp;done)
   |(rcases hpl with rfl|⟨_,_,_,_,_,_,_,rfl⟩<;>simp)
theorem zg9(rD:A.frames=some (env::outer))(hl:s.heap.FunFrames base (env::outer))(hf:env.frame=some L)(x:Exc h0 H s.heap e C dx)
  (k:∀h' T oT oe ts vs ch,QL h0 H (frs (env::outer)) s.heap h' ch->s.heap.objs.size<=T->h'.get? e=some oe->oe.cls=.ref C->oe.dict=dx->oe.data=.fields vs->vs[1]?=some (.ref T)->h'.get? T=some oT->oT.data=.fields ts->
   3<ts.size->ts[3]?=some (rawInt L)->Q () {s with heap:=h'}):wpAny M A (noteFrame (.ref e) env) Q E s:=by
 obtain⟨oe,vs,hd,he,hc,Lj,qJ,h1,tb⟩:=x.ob;have hsz:1<vs.size:=(N7.mp h1).1;have G7:∀b o ws,s.heap.get? b=some o->o.data=.fields ws->b∉frs (env::outer):=λb o ws q d hm=>by
  obtain⟨_,o',ho,hx⟩:=hl.mem hm;rw[q] at ho;cases ho;exact hx ws d
 unfold noteFrame;simp only[hf];refine aD (lH he qJ h1 ?_);rcases tb with rfl|⟨T,oT,ts,rfl,nT,uT,neT,gT,dT,h3⟩
 ·rw[if_neg J0];refine XJ rD hl hf he qJ hsz λh' T oT ts lt kp sl ge gT dT z3 z4=>?_;refine k h' T oT _ ts _ [e] ⟨λb hb=>?_,λb o q n1 n2=>kp b o q n1 λz=>n2 (by rw[z];exact .head _),sl,λb o q=>?_⟩ lt ge ((XH _ _).trans hc) ((XD _ _).trans Lj) (xr qJ _) (by simp[hsz]) gT dT z3 z4
  ·obtain rfl:b=e:=by simpa using hb
   exact⟨x.new,x.un,oe,vs,he,qJ⟩
  ·by_cases z:b=e
   ·subst z;exact⟨_,ge⟩
   ·by_cases m:b∈frs (env::outer)
    ·obtain⟨w,q'⟩:=sl b o q m;exact⟨_,q'⟩
    ·exact⟨o,kp b o q m z⟩
 ·rw[if_pos (show (Value.ref T != Value.none)=true from by simp)];refine aD (lH gT dT h3 ?_);rw[if_neg (show ¬((Value.none==rawInt L)=true) from by simp[rawInt])];have z3:3<ts.size:=(N7.mp h3).1;refine aD (EY gT dT z3 ?_);have oth:∀b,b≠T->(s.heap.update T (Obj.mapFields (·.setIfInBounds 3 Value.none))).get? b=s.heap.get? b:=λb n=>vm _ _ n.symm;have hl':(s.heap.update T (Obj.mapFields (·.setIfInBounds 3 Value.none))).FunFrames base (env::outer):=hl.of_keeps λb o q nd=>⟨o,(oth b λz=>by subst z;rw[gT] at q;cases q;exact nd ts dT).trans q,rfl⟩;have sT:(s.heap.update T (Obj.mapFields (·.setIfInBounds 3 Value.none))).get? T=some (oT.mapFields (·.setIfInBounds 3 Value.none)):=zm _ gT (Kc (xr dT _));refine XJ rD hl' hf ((oth e neT.symm).trans he) qJ hsz λh' T' oT' ts' lt kp sl ge gT' dT' z3' z4'=>?_;have lt':s.heap.objs.size<=T':=by
   have:=lt;simp only[Heap.size_after_update] at this;exact this
  refine k h' T' oT' _ ts' _ [e,T] ⟨λb hb=>?_,λb o q n1 n2=>kp b o ((oth b λz=>n2 (by simp[z])).trans q) n1 λz=>n2 (by simp[z]),λb o q m=>?_,λb o q=>?_⟩ lt' ge ((XH _ _).trans hc) ((XD _ _).trans Lj) (xr qJ _) (by simp[hsz]) gT' dT' z3' z4'
  ·have hb':b=e\/b=T:=by simpa using hb
   rcases hb' with rfl|rfl
   ·exact⟨x.new,x.un,oe,vs,he,qJ⟩
   ·exact⟨nT,uT,oT,ts,gT,dT⟩
  ·exact sl b o ((oth b λz=>by subst z;exact G7 b o ts q (by rw[gT] at q;cases q;exact dT) m).trans q) m
  ·by_cases z:b=e
   ·subst z;exact⟨_,ge⟩
   ·by_cases y:b=T
    ·subst y;exact⟨_,kp b _ sT (G7 b oT ts gT dT) z⟩
    ·by_cases m:b∈frs (env::outer)
     ·obtain⟨w,q'⟩:=sl b o ((oth b y).trans q) m;exact⟨_,q'⟩
     ·exact⟨o,kp b o ((oth b y).trans q) m z⟩
theorem zhj(he:s.heap.get? e=some oe)(hd:oe.data=.fields vs)(h1:vs[1]?=some (.ref T))(gT:s.heap.get? T=some oT)(dT:oT.data=.fields ts)(z3:3<ts.size)
  (k:∀h',(∀b o,b≠T->s.heap.get? b=some o->h'.get? b=some o)->h'.get? T=some (oT.mapFields (·.setIfInBounds 3 Value.none))->Q () {s with heap:=h'}):wpAny M A (setFlight (.ref e) none) Q E s:=by
 unfold setFlight;refine aD (lH he hd h1 ?_);rw[if_pos (show (Value.ref T != Value.none)=true from by simp)];exact EY gT dT z3 (k _ (λb o n q=>(vm _ _ n.symm).trans q) (zm _ gT (Kc (xr dT _))))
theorem zgd(rD:A.frames=some (env::outer))(hl:s.heap.FunFrames base (env::outer))(hf:env.frame=some L)(x:Exc h0 H s.heap e C dx)
  (pL:∀b,s.heap.objs.size<=b->H b=none) (h0s:∀b o,h0.get? b=some o->∃o',s.heap.get? b=some o')
  (k:∀h' ch,QL h0 H (frs (env::outer)) s.heap h' ch->Exc h0 H h' e C dx->Q () {s with heap:=h'}) :
  wpAny M A (noteFrame (.ref e) env) (λ_ s₁=>wpAny M A (setFlight (.ref e) none) Q E s₁) E s:=by
 have ele:∃o,s.heap.get? e=some o:=let ⟨oe,_,_,he,_⟩:=x.ob;⟨oe,he⟩;refine zg9 rD hl hf x λh' T oT oe ts vs ch t lt ge hc Lj qJ h1 gT dT z3 z4=>?_;have neT:T≠e:=λz=>by
  obtain⟨o,q⟩:=ele;exact absurd (iB (bW q) (z▸lt)) (qC _)
 refine zhj (s:={s with heap:=h'}) ge qJ h1 gT dT z3 λh2 kp gT2=>?_;have nT:∀b o,s.heap.get? b=some o->b≠T:=λb o q z=>absurd (iB (bW q) (z▸lt)) (qC _);refine k h2 ch ⟨t.rec_,λb o q n1 n2=>kp b o (nT b o q) (t.keep b o q n1 n2),λb o q m=>?_,λb o q=>?_⟩ ⟨x.new,x.un,oe,vs,.ref T,kp e oe neT.symm ge,hc,Lj,qJ,h1,.inr ⟨T,_,_,rfl,?_,pL T lt,neT,gT2,xr dT _,by simp[z3]⟩⟩
 ·obtain⟨sl,q'⟩:=t.slot b o q m;exact⟨sl,kp b _ (nT b o q) q'⟩
 ·obtain⟨o',q'⟩:=t.there b o q;exact⟨o',kp b o' (nT b o q) q'⟩
 ·cases z:h0.get? T with
  |none=>rfl
  |some o=>
   obtain⟨o',q⟩:=h0s T o z;exact absurd rfl (nT T o' q)
end
noncomputable abbrev XS:=St->Value->Option Addr->Hp->Prop
def Sub(h0 h:Heap):Prop:=∀b o,h0.get? b=some o->∃o',h.get? b=some o'
theorem Sub.none{h0 h:Heap}(x:Sub h0 h){b:Addr}(e:h.get? b=none):h0.get? b=none:=by
 cases q:h0.get? b with
 |none=>rfl
 |some o=>
  obtain⟨o',z⟩:=x b o q;rw[e] at z;cases z
theorem Exc.older{h0 h1:Heap}{H:Hp}{h:Heap}{e C:Addr}{dx:Option Addr}(x:Exc h1 H h e C dx)(y:Sub h0 h1):Exc h0 H h e C dx:=by
 obtain⟨oe,vs,hd,a,b,c,d,f,tb⟩:=x.ob;refine⟨y.none x.new,x.un,oe,vs,hd,a,b,c,d,f,?_⟩;rcases tb with z|⟨T,oT,ts,z1,z2,z3⟩
 ·exact .inl z
 ·exact .inr ⟨T,oT,ts,z1,y.none z2,z3⟩
section
variable {X:Cx}{ao:List (Addr×Obj)}{Z:St}{H:Hp}{s:Shared}{h0 h':Heap}{ch fr:List Addr}
theorem iC.tbd{P:Program}{w:World}{h:Heap}(x:iC P w H h)(t:QL h0 H fr h h' ch)(hf:∀b∈fr,H b=none):iC P w H h':=λa o e=>by
 have st:∀b u,(b=a\/H b=some (.own a))->h.get? b=some u->h'.get? b=some u:=λb u z q=>by
  have nb:H b≠none:=by
   rcases z with z|z
   ·rw[z,e];simp
   ·rw[z];simp
  exact t.keep b u q (λm=>nb (hf b m)) λm=>nb (t.rec_ b m).2.1
 exact(x a o e).stay st (λ_ z=>z) λ_ _ z=>z
end
def Raises(X:Cx)(EX:XS):Prop:=
 ∀(ao:List (Addr×Obj)) (Z:St) (H:Hp) (s:Shared) (h0:Heap) (e C:Addr) (dx:Option Addr),Inv X ao Z H s->(∀b o,X.s₀.heap.get? b=some o->b∉X.ex->∃o',h0.get? b=some o')->
  (∀p∈X.pn++ao,∃o,h0.get? p.1=some o)->Sub h0 s.heap->Exc h0 H s.heap e C dx->EX Z (.ref C) dx H->X.xe (.ref e) s
noncomputable def gA(P:Program)(w:World):qH:=λouter H s E e s'=>
 ∃(a C:Addr) (dx:Option Addr) (H':Hp),e=.ref a/\s'.os=s.os/\AllBare s'.gens/\Un (frs outer) [] H H' s.heap s'.heap/\iC P w H' s'.heap/\Exc s.heap H' s'.heap a C dx/\E (.ref C) dx H'
theorem zeZ{P:Program}{w:World}{K:W.Frag}{mg:Str->Option Value}{base:Heap}{N:List Str}{qual:Str}{scope:Scope}{f:Addr}{cd:Value}{A:Around}{outer:List Env}{s:Shared}{H:Hp}{E:XK}{cm:Bool} :
  Raises (f9 (gA P w) P w K mg base N qual scope f cd A outer s H E cm) (λ_ C dx H'=>E C dx H'):=by
 intro ao Z H1 s1 h0 e C dx I hs hp h01 x ex;have I0:Inv (f9 (gA P w) P w K mg base N qual scope f cd A outer s H E cm) [] Z H1 s1:=I.lV λp z=>absurd z Rb;show wpAny (model P w) (A.deeper (envOfC qual scope s.heap.objs.size f cd)) (leaving (envOfC qual scope s.heap.objs.size f cd) (.ref e)) _ _ s1;unfold leaving;have hsub:Sub s.heap h0:=λb o q=>hs b o q (by show b∉([]:List Addr);simp);refine aD (zgd (base:=base) (outer:=outer) (L:=s.heap.objs.size) I0.ok.frames I0.stack rfl x (λb z=>I0.hok.fresh z) h01 λh' ch t x'=>?_);have fin:∀b o,s.heap.get? b=some o->b∉ch:=λb o q m=>by
  have z:=hsub.none (t.rec_ b m).1;rw[q] at z;cases z
 have nL:∀b o,s.heap.get? b=some o->b∉frs outer->b∉frs (envOfC qual scope s.heap.objs.size f cd::outer):=λb o q n m=>by
  have m':b∈s.heap.objs.size::frs outer:=m;rcases iG.mp m' with z|z
  ·exact absurd (bW q) (by rw[z];exact qC _)
  ·exact n z
 refine⟨e,C,dx,H1,rfl,I0.os,I0.bare,⟨λb o q n hb _=>?_,λb o q n hb _=>?_,λb o q n _=>I0.base.free b o q n (by show b∉([]:List Addr);simp),λb o q _=>?_,I0.base.tups,I0.base.jX,I0.base.lO⟩,I0.hok.tbd t I0.lU,x'.older hsub,ex⟩
 ·exact t.keep b o (I0.base.keep b o q n hb (by show b∉([]:List Addr);simp)) (nL b o q hb) (fin b o q)
 ·obtain⟨sl,q1⟩:=I0.base.slot b o q n hb (by show b∉([]:List Addr);simp);obtain⟨sl',q2⟩:=t.slot b _ q1 (show b∈s.heap.objs.size::frs outer from iz _ hb);exact⟨sl',q2⟩
 ·obtain⟨o',q1⟩:=I0.base.there b o q (by show b∉([]:List Addr);simp);exact t.there b o' q1
section
variable {X:Cx}{cm:Bool}{k:Nat}{f C:Addr}{fd:FuncData}{ps:List Str}{sp:Sp}{EX:XS}{x m:Str}{p pos apos:Pos}{e o:Expr}{es:List Expr}{ta:TE}{t:TA}
theorem Raises.pass(R:Raises X EX)(I:Inv X ao Z H s)(h:gA X.prog X.w X.stack H s (EX Z) v s'):X.xe v s':=by
 obtain⟨a,C,dx,H',rfl,os,bare,un,hok,x,q⟩:=h;have aq:Sub s.heap s'.heap:=λb o z=>un.there b o z Rb;refine R ao Z H' s' s.heap a C dx (I.call' os un hok bare λb z=>absurd z Rb) (λb o z n=>I.base.there b o z n) (λp hp=>?_) aq x q;exact⟨p.2,(I.pin p hp).1⟩
noncomputable def Al(sp:Sp)(EX:XS)(t:TA):TE:=λZ H Q=>t Z H λvs H1=>sp vs H1 Q (EX Z)
theorem zj5(F:bZ X.prog X.w X.K X.mg X.base (gA X.prog X.w) cm k f fd ps sp)(ji:cm=true->X.aj=true)(hr:bD k X.A)(hb:Binds X.K fd ps [])(R:Raises X EX)
  (I:Inv X ao Z H s) (r:Vals vs us) (h:sp vs H Q (EX Z)):wpAny (model X.prog X.w) X.A (call (.ref f) us) (EP X ao Z Q) X.xe s:=by
 have hl:us.length=ps.length:=by rw[<-r.length];exact F.len _ _ _ _ h
 have hb':=hb s us I.oA (by rw[vo];exact hl);rw[vo] at hb';refine wpAny_call (CJ (F.run X.A X.stack s H ⟨us,[]⟩ us vs Q (EX Z) (λz=>I.ok.hd (ji z)) hr I.env0 hb' r h) λr s' hq=>?_);cases r with
 |error v=>exact R.pass I hq
 |ok fl=>
  cases fl with
  |ret u=>exact I.after hq
  |next=>exact False.elim hq
  |brk=>exact False.elim hq
  |cont=>exact False.elim hq
theorem zhx(F:bZ X.prog X.w X.K X.mg X.base (gA X.prog X.w) cm k f fd ps sp)(ji:cm=true->X.aj=true)(hr:bD k X.A)(hg:Gl X x)(hm:X.mg x=some (.ref f))(hk:PySem.W.keepIn X.K (.ref f)=true)(hb:Binds X.K fd ps [])(R:Raises X EX)
  (ha:PA X (e::es) t) (qI:(x==("__debug__" : Str))=false:=by decide) (he:starEach (e::es) X.env=(false,eval e X.env)::starEach es X.env:=by rfl) (hpl:(backTo pos (starEach es X.env)).any (·.1)=false:=by rfl) :
  PE X (.Call (.Name x p) (e::es) [] pos) (Al sp EX t):=by
 intro ao s Z H Q I h;refine zy (Py I hg hm ?_ qI);exact Ou (h₀:=X.base) I.ok.mod.xP hk (aX (ha pos ao s Z H _ I h) λus s1 ⟨vs,H1,I1,r,q⟩=>⟨I1.oA,zj5 F ji hr hb R I1 r q⟩) he hpl
end
noncomputable def vO(a C:Addr)(dx:Option Addr):HO:=.ext λh=>∃oe vs,h.get? a=some oe/\oe.cls=.ref C/\oe.dict=dx/\oe.data=.fields vs
end L2
namespace L2
open PySem PySem.Spec PyProof.Rows PySem.W Builtin.ObjectAttr
section
variable {prog:Program}{w:World}{A:Around}{E:Value->Shared->Prop}{s:Shared}{K:Frag}{x C:Addr}{ox:Obj}{od:Option Obj}{name:Str}{tk:Tok}
theorem zjl(XI:K.In s.heap)(I:InstAt s.heap x ox C od)(hf:findObj K C od name=some r)
  (h:match r with|.value v=>Q (.done (.ret v)) s|.bind g a=>wpAny (model prog w) A (call g [a,.ref x,.ref C]) (λv s'=>Q (.done (.ret v)) s') E s|.missing=>False) :
  wpAny (model prog w) A (Builtin.«object.__getattribute__» ⟨[.ref x,.str name tk],[]⟩) Q E s:=by
 obtain⟨hh,g,d,t,os⟩:=s;have L0:=I.type (M:=model prog w);have L1:=looks_find (M:=model prog w) XI I hf;unfold Builtin.«object.__getattribute__»;refine aD (wpAny_of_eq (a:=(Value.ref x,[Value.str name tk])) (by rfl) ?_);refine aD (wpAny_of_eq (a:=name) (by rfl) ?_);refine aD (L0.at (aD (L1.at ?_)));cases r with
 |value v=>exact bw h
 |bind g a=>
  show wpAny _ _ (holding [a] (call g [a,.ref x,.ref C]) >>= ret) _ _ _;exact aD (rA (mX h (λv s' z=>bw z) λ_ _ z=>z))
 |missing=>exact h.elim
theorem zfZ(XI:K.In s.heap)(I:InstAt s.heap x ox C od)(hb:mroIn K C (.type "BaseException")=some true)(hf:findObj K C od name=some r)
  (h:match r with|.value v=>R (.ok (.ret v)) s|.bind g a=>wpAny (model prog w) A.in1 (call g [a,.ref x,.ref C]) (λv s'=>R (.ok (.ret v)) s') (λe s'=>R (.error e) s') s|.missing=>False) :
  codeAny (model prog w) A (.call (.builtin "BaseException.__getattribute__") ⟨[.ref x,.str name tk],[]⟩) R s:=by
 have hk:builtinKind "BaseException.__getattribute__"=some .slot:=by decide +kernel
 have Am:splitId "BaseException.__getattribute__"=some ("BaseException","__getattribute__"):=by decide +kernel
 have ha:=F.args_bexc_ga (.ref x) (.str name tk);refine codeAny_call_builtin F.attr_ValueError.ga.plain F.entry_bexc_ga ?_;have fin:wpAny (model prog w) A.in1 (Builtin.«object.__getattribute__» ⟨[.ref x,.str name tk],[]⟩) (λfin s'=>match fin with|.done f=>R (.ok f) s'|.again c'=>c'.quiet=true/\codeAny (model prog w) A c' R s') (λe s'=>R (.error e) s') s:=by
  refine zjl XI I hf ?_;cases r with
  |value v=>exact h
  |bind g a=>exact h
  |missing=>exact h.elim
 have chk:∀Q:Unit->Shared->Prop,Q () s->wpAny (model prog w) A.in1 (checkBuiltinCall "BaseException.__getattribute__" ⟨[.ref x,.str name tk],[]⟩) Q (λe s'=>R (.error e) s') s:=λQ hq=>by
  obtain⟨hh,g,d,t,os⟩:=s;have L0:=I.type (M:=model prog w);have L1:=looks_mroIn (M:=model prog w) XI hb;have LI:Looks (model prog w) hh (isInstance (.ref x) (.type "BaseException")) true:=L0.andThen L1;simp only[checkBuiltinCall,hk,Am];refine aD ?_
  repeat (first|with_reducible exact hq|with_reducible refine LI.at ?_|wp_step)
 exact chk _ fin
theorem bexc_get?(XI:K.In s.heap)(I:InstAt s.heap x ox C od)(hb:mroIn K C (.type "BaseException")=some true)(hga:findIn K (.ref C) "__getattribute__"=some (some (.builtin "BaseException.__getattribute__")))
  (hgn:findIn K (.ref C) "__getattr__"=some none) (hf:findObj K C od name=some r)
  (h:match r with|.value v=>wpAny (model prog w) A (handedOut v) (λu s'=>Q (some u) s') (λ_ _=>False) {s with toks:=s.toks+1}|.bind g a=>wpAny (model prog w) A.in1 (call g [a,.ref x,.ref C]) (λv s'=>wpAny (model prog w) A (handedOut v) (λu s''=>Q (some u) s'') (λ_ _=>False) s') (λ_ _=>False) {s with toks:=s.toks+1}|.missing=>False) :
  wpAny (model prog w) A (getAttr? (.ref x) name) Q E s:=by
 obtain⟨hh,g,d,t,os⟩:=s;have L0:=I.type (M:=model prog w);have L1:=looks_findIn (M:=model prog w) XI hga;have L2:=looks_findIn (M:=model prog w) XI hgn;have Ln:(Value.builtin "BaseException.__getattribute__"==Value.builtin "object.__getattribute__")=false:=by decide +kernel
 unfold getAttr? getAttrBy? getAttrBy;refine aD (wpAny_mkText (aD (Fb (rA (aD (L0.at (aD (L1.at ?_))))))));show wpAny _ _ (if (onTheHeap (.ref C)&&(Value.builtin "BaseException.__getattribute__"==Value.builtin "object.__getattribute__"))=true then _ else getAttrByItsOwn _ _ _ _ _ _) _ _ _;rw[Ln,E_,if_neg J0];unfold getAttrByItsOwn hookBefore callGetattribute boundAndCalled;refine aD (L2.at ?_);refine aD (Fb (rA (aD (wpAny_of_eq (F.attr_ValueError.ga.bind (.ref x)) ?_))));refine wpAny_call (zfZ XI I hb hf ?_);cases r with
 |value v=>exact mX h (λv s'' hv=>bw hv) (λ_ _ z=>z.elim)
 |bind g a=>exact mX h (λv s' hv=>mX hv (λu s'' z=>bw z) λ_ _ z=>z.elim) (λ_ _ z=>z.elim)
 |missing=>exact h.elim
end
structure XC(K:Frag)(C:Addr):Prop where
 ga:findIn K (.ref C) "__getattribute__"=some (some (.builtin "BaseException.__getattribute__"))
 gn:findIn K (.ref C) "__getattr__"=some none
 cl:findIn K (.ref C) "__class__"=some (some (.builtin "object.__class__"))
 mb:mroIn K C (.type "BaseException")=some true
 mo:mroIn K C (.type "object")=some true
 cd:(clsIn K C).isSome=true
 dg:specialIn K (.builtin "object.__class__") "__get__"=some (some (.builtin "getset_descriptor.__get__"))
 dt:takesIn K (.builtin "object.__class__")=some true
theorem zgC{K:Frag}{C:Addr}{od:Option Obj}{name:Str}{a g:Value}(hc:(clsIn K C).isSome=true)(ha:findIn K (.ref C) name=some (some a))(hg:specialIn K a "__get__"=some (some g))(ht:takesIn K a=some true):findObj K C od name=some (.bind g a):=by
 obtain⟨cd,z⟩:=Oa.mp hc;simp only[findObj,z,ha,hg,ht,Option.bind_some]
theorem XM{K:Frag}{e C:Addr}(c:XC K C):KitX K (.ref e) (.ref C) (λh=>∃ox od,InstAt h e ox C od) where
 ty:=λ_ _ _ ⟨_,_,I⟩=>I.type
 it:=λ_ _ XI _=>by
  have q:=c.cd;unfold clsIn at q;split at q
  ·rename_i c' d' cd' sl' lk;intro A' Q' E' s' k z;unfold isType loadHead;exact aD (wpAny_loadPart (k _ _ (XI _ _ lk)) (bw z))
  ·cases q
 ne:=λh tp dd its n sl XI htp=>by
  refine Kl.mpr λz=>?_;have ee:C=tp:=Value.ref.inj (pI.mp z);subst ee;have q:=c.cd;unfold clsIn at q;split at q
  ·rename_i c' d' cd' sl' lk;have y:=(XI _ _ lk).symm.trans htp;cases y
  ·cases q
 ca:=λ{prog w A E Q s} XI ⟨ox,od,I⟩ k=>by
  have hf:findObj K C od "__class__"=some (.bind (.builtin "getset_descriptor.__get__") (.builtin "object.__class__")):=zgC c.cd c.cl c.dg c.dt;refine bexc_get? XI I c.mb c.ga c.gn hf ?_;exact wpAny_call (class_get (s:={s with toks:=s.toks+1}) (ox:=ox) (od:=od) XI I c.mo (handed_on rfl k))
end L2
namespace L2
open PySem PySem.Spec PyProof.Rows
theorem ze0:∀(names:List (Str×NameKind)) (cs:List (Str×Addr)),(∀x∈names,x.2=.free->∃c,env.cells.lookup x.1=some c)->(∀x c,cs.lookup x=some c->env.cells.lookup x=some c)->
  ∃cl,(forIn names cs λx r=>(do
    if x.2==.free then
     let a <-cellOf env x.1
     pure (ForInStep.yield ((x.1,a)::r))
    else pure (ForInStep.yield r)):Sem (List (Str×Addr)))=pure cl/\(∀x c,cl.lookup x=some c->env.cells.lookup x=some c)/\(∀x c,cs.lookup x=some c->cl.lookup x=some c)/\∀x∈names,x.2=.free->∃c,cl.lookup x.1=some c:=by
 intro names
 induction names with
 |nil=>intro cs _ h;exact⟨cs,rfl,h,λ_ _ q=>q,λx z=>nomatch z⟩
 |cons y r ih=>
  intro cs h1 h2;obtain⟨n,k⟩:=y;by_cases hk:k=.free
  ·subst hk;obtain⟨c,hc⟩:=h1 (n,.free) lG rfl;have hc:env.cells.lookup n=some c:=hc;have h3:∀x d,((n,c)::cs).lookup x=some d->env.cells.lookup x=some d:=λx d q=>by
    rw[oO] at q;by_cases z:x=n
    ·subst z;simp at q;subst q;exact hc
    ·have z':(x==n)=false:=by simpa using z
     rw[z'] at q;exact h2 x d q
   obtain⟨cl,e,a,b,d⟩:=ih ((n,c)::cs) (λx z=>h1 x (iz _ z)) h3;have hco:cellOf env n=pure c:=by
    unfold cellOf;rw[hc]
   refine⟨cl,?_,a,λx q z=>?_,λx z q=>?_⟩
   ·rw[Cv];simp only[zA,if_true,hco];exact e
   ·by_cases y:x=n
    ·subst y;have z1:=h2 x q z;rw[hc] at z1;cases z1;exact b x c Rb
    ·have y':(x==n)=false:=by simpa using y
     exact b x q (by rw[oO,y'];exact z)
   ·rcases iG.mp z with z|z
    ·subst z;exact⟨c,b n c Rb⟩
    ·exact d x z q
  ·have hb:(k==NameKind.free)=false:=by simpa using hk
   obtain⟨cl,e,a,b,d⟩:=ih cs (λx z=>h1 x (iz _ z)) h2;refine⟨cl,?_,a,b,λx z q=>?_⟩
   ·rw[Cv];simp only[hb,xu,rC];exact e
   ·rcases iG.mp z with z|z
    ·subst z;exact absurd q hk
    ·exact d x z q
theorem zeW(h:∀x∈scope.names,x.2=.free->∃c,env.cells.lookup x.1=some c):∃cl,closureFor scope env=pure cl/\(∀x c,cl.lookup x=some c->env.cells.lookup x=some c)/\∀x∈scope.names,x.2=.free->∃c,cl.lookup x.1=some c:=by
 obtain⟨cl,e,a,_,d⟩:=ze0 scope.names [] h (λx c q=>by cases q);refine⟨cl,?_,a,d⟩;unfold closureFor;have e':=e;simp only[pure_bind,bind_pure] at e' ⊢;exact e'
theorem QM{env:Env}{k:NameKind}:∀{names:List (Str×NameKind)} {x:Str},(names.map λ(n,k)=>if (k==NameKind.free&&env.scope.kind==.function&&env.kindOf n==some .cell) then (n,NameKind.cell) else (n,k)).lookup x=some k->
  names.lookup x=some k\/(k=.cell/\names.lookup x=some .free)
 |[],x,h=>by simp at h
 |(n,q)::r,x,h=>by
  rw[jr,oO] at h;rw[oO];have hd:∀c:Bool,(if c=true then (n,NameKind.cell) else (n,q)).1=n:=λc=>by cases c<;>rfl
  rw[hd] at h;by_cases z:x=n
  ·subst z;simp only[zA] at h ⊢;split at h
   ·rename_i y;simp only[gw,pI] at y;cases h;exact .inr ⟨rfl,by rw[y.1.1]⟩
   ·cases h;exact .inl rfl
  ·have z':(x==n)=false:=by simpa using z
   simp only[z'] at h ⊢;exact QM h
theorem Lp{env:Env}:∀{names:List (Str×NameKind)} {x:Str},names.lookup x=some .free->
  (names.map λ(n,k)=>if (k==NameKind.free&&env.scope.kind==.function&&env.kindOf n==some .cell) then (n,NameKind.cell) else (n,k)).lookup x=some .cell \/
  (names.map λ(n,k)=>if (k==NameKind.free&&env.scope.kind==.function&&env.kindOf n==some .cell) then (n,NameKind.cell) else (n,k)).lookup x=some .free
 |[],x,h=>by simp at h
 |(n,q)::r,x,h=>by
  rw[oO] at h;rw[jr,oO];have hd:∀c:Bool,(if c=true then (n,NameKind.cell) else (n,q)).1=n:=λc=>by cases c<;>rfl
  rw[hd];by_cases z:x=n
  ·subst z;simp only[zA] at h ⊢;cases h
   split
   ·exact .inl rfl
   ·exact .inr rfl
  ·have z':(x==n)=false:=by simpa using z
   simp only[z'] at h ⊢;exact Lp h
structure nD(n:Nat)(h1:Heap)(names:List (Str×NameKind))(cl jt:List (Str×Addr)):Prop where
 d1:∀x c,jt.lookup x=some c->(cl.lookup x=some c/\(x,NameKind.cell)∉names)\/((x,NameKind.cell)∈names/\n<c/\h1.IsCell c none)
 d2:∀x y c,n<c->jt.lookup x=some c->jt.lookup y=some c->x=y
 d3:∀x,names.lookup x=some .cell->∃c,jt.lookup x=some c
 d4:∀x c,(x,NameKind.cell)∉names->cl.lookup x=some c->jt.lookup x=some c
theorem cc:(NameKind.cell==NameKind.cell)=true:=by decide
theorem G8:∀(names:List (Str×NameKind)) (h:Heap) (b:Addr) (o:Obj),h.get? b=some o->(pushCells h names).get? b=some o
 |[],h,b,o,e=>e
 |(x,k)::r,h,b,o,e=>by
  rw[pushCells]
  split
  ·exact G8 r _ b o (cQ _ e)
  ·exact G8 r h b o e
theorem QS:∀(names:List (Str×NameKind)) (h:Heap) (acc:List (Str×Addr)) (x:Str) (c:Addr),(cellsFrom h.objs.size names acc).lookup x=some c->
  (acc.lookup x=some c/\(x,NameKind.cell)∉names)\/((x,NameKind.cell)∈names/\h.objs.size<=c/\(pushCells h names).IsCell c none)
 |[],h,acc,x,c,e=>.inl ⟨e,by simp⟩
 |(y,k)::r,h,acc,x,c,e=>by
  rw[cellsFrom] at e;rw[pushCells];by_cases hk:k=.cell
  ·subst hk;rw[if_pos cc] at e ⊢;have sz:(h.push {cls:=Value.type "cell",data:=Data.cell none}).objs.size=h.objs.size+1:=by unfold Heap.push;simp
   rw[<-sz] at e;rcases QS r _ _ x c e with ⟨a,b⟩|⟨a,b,d⟩
   ·rw[oO] at a;by_cases z:x=y
    ·subst z;simp at a;subst a;exact .inr ⟨lG,bU _,_,G8 r _ _ _ (fu _ rfl),rfl⟩
    ·have z':(x==y)=false:=by simpa using z
     rw[z'] at a;exact .inl ⟨a,by simp[z,b]⟩
   ·exact .inr ⟨iz _ a,by lia,d⟩
  ·have hb:(k==NameKind.cell)=false:=by simpa using hk
   rw[if_neg (by rw[hb];decide)] at e ⊢;rcases QS r _ _ x c e with ⟨a,b⟩|⟨a,b,d⟩
   ·exact .inl ⟨a,by simp[b];intro _ q;exact hk q.symm⟩
   ·exact .inr ⟨iz _ a,b,d⟩
theorem QT:∀(names:List (Str×NameKind)) (n:Nat) (acc:List (Str×Addr)) (x y:Str) (c:Addr),(∀u v,acc.lookup u=some c->acc.lookup v=some c->u=v)->(∀u a,acc.lookup u=some a->a<n\/a≠c)->(cellsFrom n names acc).lookup x=some c->(cellsFrom n names acc).lookup y=some c->x=y
 |[],n,acc,x,y,c,h,_,e1,e2=>h x y e1 e2
 |(z,k)::r,n,acc,x,y,c,h,hl,e1,e2=>by
  rw[cellsFrom] at e1 e2;by_cases hk:k=.cell
  ·subst hk;rw[if_pos cc] at e1 e2;refine QT r (n+1) _ x y c (λu v a b=>?_) (λu a q=>?_) e1 e2
   ·rw[oO] at a b;by_cases u1:u=z
    ·by_cases v1:v=z
     ·rw[u1,v1]
     ·have v':(v==z)=false:=by simpa using v1
      subst u1;simp at a;rw[v'] at b;subst a;have b:acc.lookup v=some n:=b;rcases hl v n b with q|q
      ·exact absurd q (qC _)
      ·exact absurd rfl q
    ·have u':(u==z)=false:=by simpa using u1
     rw[u'] at a;have a:acc.lookup u=some c:=a;by_cases v1:v=z
     ·subst v1;simp at b;subst b;rcases hl u n a with q|q
      ·exact absurd q (qC _)
      ·exact absurd rfl q
     ·have v':(v==z)=false:=by simpa using v1
      rw[v'] at b;exact h u v a b
   ·rw[oO] at q;by_cases u1:u=z
    ·subst u1;simp at q;subst q;exact .inl (Er _)
    ·have u':(u==z)=false:=by simpa using u1
     rw[u'] at q;exact(hl u a q).imp (λq=>uE q) id
  ·have hb:(k==NameKind.cell)=false:=by simpa using hk
   rw[if_neg (by rw[hb];decide)] at e1 e2;exact QT r n acc x y c h hl e1 e2
theorem QV:∀(names:List (Str×NameKind)) (n:Nat) (acc:List (Str×Addr)) (x:Str) (c:Addr),(x,NameKind.cell)∉names->acc.lookup x=some c->(cellsFrom n names acc).lookup x=some c
 |[],n,acc,x,c,_,e=>e
 |(z,k)::r,n,acc,x,c,h,e=>by
  rw[cellsFrom];have hr:(x,NameKind.cell)∉r:=λq=>h (iz _ q);by_cases hk:k=.cell
  ·subst hk;rw[if_pos cc];refine QV r (n+1) _ x c hr ?_;have:x≠z:=λq=>h (by rw[q];exact lG);have z':(x==z)=false:=by simpa using this
   rw[oO,z'];exact e
  ·have hb:(k==NameKind.cell)=false:=by simpa using hk
   rw[if_neg (by rw[hb];decide)];exact QV r n acc x c hr e
theorem QW:∀(names:List (Str×NameKind)) (acc:List (Str×Addr)) (s:Shared) (Q:List (Str×Addr)->Shared->Prop),
  Q (cellsFrom s.heap.objs.size names acc) {s with heap:=pushCells s.heap names}->
  wpAny M A (forIn names acc λx (cells:List (Str×Addr))=>match x with
   |(name,kind)=>if (kind==NameKind.cell)=true then do
     let a <-alloc {cls:=Value.type "cell",data:=Data.cell none}
     pure (ForInStep.yield ((name,a)::cells))
    else pure (ForInStep.yield cells)) Q E s
 |[],acc,s,Q,h=>by
  rw[KH];exact bw h
 |(z,k)::r,acc,s,Q,h=>by
  rw[Cv];rw[cellsFrom,pushCells] at h;by_cases hk:k=.cell
  ·subst hk;rw[if_pos cc,if_pos cc] at h;refine aD ?_;dsimp only;rw[if_pos cc];refine aD (wpAny_alloc (bw ?_));refine QW r _ _ Q ?_;have sz:(s.heap.push {cls:=Value.type "cell",data:=Data.cell none}).objs.size=s.heap.objs.size+1:=by unfold Heap.push;simp
   rw[sz];exact h
  ·have hb:(k==NameKind.cell)=false:=by simpa using hk
   rw[if_neg (by rw[hb];decide),if_neg (by rw[hb];decide)] at h;refine aD ?_;dsimp only;rw[if_neg (by rw[hb];decide)];exact bw (QW r _ _ Q h)
theorem zf9(old:∀x c,cl.lookup x=some c->c<s.heap.objs.size)(inj:∀x y c,cl.lookup x=some c->cl.lookup y=some c->x=y)
  (h:∀h1 jt,h1.Ns s.heap.objs.size (λ_=>none)->(∀b o,s.heap.get? b=some o->h1.get? b=some o)->nD s.heap.objs.size h1 scope.names cl jt->Q {scope:=scope,locals:=s.heap.objs.size,globals:=globals,cells:=jt,qual:=qual,func:=none,code:=env.code,frame:=env.frame,builtins:=env.builtins} {s with heap:=h1}) :
  wpAny M A (newFunctionEnv scope globals cl [] qual none .none (some env)) Q E s:=by
 unfold newFunctionEnv;refine aD (wpAny_alloc ?_);refine aD ?_;refine QW scope.names cl _ _ ?_;dsimp only;rw[KH];refine aD (bw (bw ?_));have sz:(s.heap.push {cls:=Value.type (if (some env).isSome=true then "dict" else "frame"),data:=Data.dict #[]}).objs.size=s.heap.objs.size+1:=by unfold Heap.push;simp
 refine h _ _ ?_ (λb o e=>G8 _ _ _ _ (cQ _ e)) ⟨λx c e=>?_,λx y c hc e1 e2=>?_,λx e=>?_,λx c hx e=>QV _ _ _ x c hx e⟩
 ·refine⟨_,#[],_,G8 _ _ _ _ (fu _ rfl),rfl,?_,λ_=>rfl⟩;intro e he;simp at he
 ·rcases QS _ _ _ x c e with ⟨a,b⟩|⟨a,b,d⟩
  ·exact .inl ⟨a,b⟩
  ·rw[sz] at b;exact .inr ⟨a,by lia,d⟩
 ·exact QT _ _ _ x y c (λu v a b=>inj u v c a b) (λu a q=>.inl (by rw[sz];exact uE (old u a q))) e1 e2
 ·have:=Od scope.names (s.heap.push {cls:=Value.type (if (some env).isSome=true then "dict" else "frame"),data:=Data.dict #[]}).objs.size cl (.inl e);exact Oa.mp this
noncomputable def Cx.blk(X:Cx)(scope:Scope)(cl:List (Str×Addr))(N:List Str)(C:Addr)(s3:Shared)(H3:Hp)(fp:List Addr)(ao:List (Addr×Obj)):Cx where
 prog:=X.prog
 w:=X.w
 K:=X.K
 mg:=X.mg
 base:=X.base
 A:=X.A
 N:=N
 s₀:=s3
 H₀:=H3
 env:=compEnvC scope cl C X.env
 outer:=X.stack
 stack:=X.stack
 ex:=fp
 fn:=λx=>scope.names.lookup x==some .cell
 aj:=X.aj
 pn:=X.pn++ao
 xe:=λ_ _=>False
structure dD(sc scope:Scope):Prop where
 kind:scope.kind=.function
 XQ:∀y∈scope.names,y.2=.cell->scope.names.lookup y.1=some .cell
 free:∀y∈scope.names,y.2=.free->sc.names.lookup y.1=some .cell\/sc.names.lookup y.1=some .free
 loc:∀y∈scope.names,y.2=.local->scope.names.lookup y.1=some .local
section
variable {X:Cx}{ao:List (Addr×Obj)}{Z:St}{H:Hp}{s:Shared}{scope:Scope}{cl:List (Str×Addr)}{N:List Str}{fp:List Addr}{ZY:St}
theorem zjm{h1:Heap}{t:Nat}{jt:List (Str×Addr)}(I:Inv X ao Z H s)(B:dD X.env.scope scope)(c1:∀x c,cl.lookup x=some c->X.env.cells.lookup x=some c)(c2:∀x∈scope.names,x.2=.free->∃c,cl.lookup x.1=some c)
  (f:∀b∈fp,iI X ao H b) (fo:∀b∈fp,∃o,s.heap.get? b=some o) (hn:h1.Ns s.heap.objs.size (λ_=>none)) (kp:∀b o,s.heap.get? b=some o->h1.get? b=some o) (CN:nD s.heap.objs.size h1 scope.names cl jt)
  (hl:ZY.length=N.length) (hZ:∀(i:Nat) (x:Str) (v:V),N[i]?=some x->ZY[i]?=some (some v)->scope.names.lookup x=some .free/\∃j:Nat,X.N[j]?=some x/\Z[j]?=some (some v)) :
  Inv (X.blk scope jt N s.heap.objs.size s H fp ao) [] ZY H {s with heap:=h1,toks:=t}:=by
 have lt:∀b o,s.heap.get? b=some o->b≠s.heap.objs.size:=λb o q=>dU (bW q);have XR:∀b,b≠X.env.locals->b∉X.fs->b∉frs X.stack:=λb a c z=>(iG.mp (I.lR b z)).elim a c;have mem_of:∀x k,scope.names.lookup x=some k->(x,k)∈scope.names:=λx k q=>Cj q;have old:∀x c,cl.lookup x=some c->c<s.heap.objs.size:=λx c q=>by
  obtain⟨v,o,q1,q2⟩:=I.cell x c (c1 x c q);exact bW q1
 have X3:∀x,scope.names.lookup x=some .free->(x,NameKind.cell)∉scope.names:=λx q z=>by
  have:=B.XQ _ z rfl;have this:scope.names.lookup x=some .cell:=this;rw[q] at this;cases this
 refine⟨⟨I.ok.mod,B.kind,I.ok.glob,I.ok.blt,bU _,λx y c a b=>?_,λx hx=>?_,λx c z q=>?_,I.ok.hd,I.ok.frames,.inl rfl,λb hb=>?_,I.bs,kW I.ok.zU I.sz,λb o q hb=>?_,λb hb=>XR b (f b hb).2.1 (f b hb).2.2.1,I.stack,I.lU⟩,
  rfl,I.bare,Un.kept kp,⟨_,hn,λi x v e1 e2 e3=>?_⟩,λx c q=>?_,I.hok.fresh (bU _),λx c q=>?_,λp hp=>?_,I.hok.kept kp,hl⟩
 ·by_cases hc:s.heap.objs.size<c
  ·exact CN.d2 x y c hc a b
  ·rcases CN.d1 x c a with ⟨a1,_⟩|⟨_,a1,_⟩
   ·rcases CN.d1 y c b with ⟨b1,_⟩|⟨_,b1,_⟩
    ·exact I.ok.inj x y c (c1 x c a1) (c1 y c b1)
    ·exact absurd b1 hc
   ·exact absurd a1 hc
 ·have hx:(relabel scope X.env).names.lookup x=some .cell\/(relabel scope X.env).names.lookup x=some .free:=hx;have fr:scope.names.lookup x=some .cell\/scope.names.lookup x=some .free:=by
   rcases hx with hx|hx
   ·rcases QM hx with z|⟨_,z⟩
    ·exact .inl z
    ·exact .inr z
   ·rcases QM hx with z|⟨z,_⟩
    ·exact .inr z
    ·cases z
  rcases fr with fr|fr
  ·exact CN.d3 x fr
  ·obtain⟨c,hc⟩:=c2 (x,.free) (mem_of x _ fr) rfl;exact⟨c,CN.d4 x c (X3 x fr) hc⟩
 ·rcases CN.d1 x c q with ⟨_,q1⟩|⟨_,q1,_⟩
  ·have z:(scope.names.lookup x==some NameKind.cell)=true:=z;exact absurd (mem_of x _ (by simpa using z)) q1
  ·exact xM q1
 ·obtain⟨o,q⟩:=fo b hb;refine⟨lt b o q,λx c z=>?_⟩;rcases CN.d1 x c z with ⟨q1,_⟩|⟨_,q1,_⟩
  ·exact(f b hb).2.2.2.2.1 x c (c1 x c q1)
  ·exact λe=>absurd (bW q) (by rw[<-e];exact Nat.not_lt.mpr (xM q1))
 ·obtain⟨_,_,_,z,_⟩:=f b hb;rcases z with z|z
  ·exact I.ok.zV b o q z
  ·exact absurd (iB (bW q) (kW I.ok.zU z)) (qC _)
 ·obtain⟨fr,j,hj,hv⟩:=hZ i x v e1 e2;have hk:=B.free (x,.free) (mem_of x _ fr) rfl;obtain⟨m,hm,QX⟩:=I.loc;obtain⟨u,r,l⟩:=QX j x v hj hv (hk.elim (λz=>.inr (.inl z)) λz=>.inr (.inr z));obtain⟨c',jZ⟩:=c2 (x,.free) (mem_of x _ fr) rfl;have jZ:cl.lookup x=some c':=jZ;refine⟨u,r,.inr ⟨Lp fr,c',CN.d4 x c' (X3 x fr) jZ,?_⟩⟩;rcases l with ⟨k1,_⟩|⟨_,c,k2,oc,k3,k4⟩
  ·have k1:X.env.scope.names.lookup x=some .local:=k1;rcases hk with hk|hk
   ·have hk:X.env.scope.names.lookup x=some .cell:=hk;rw[k1] at hk;cases hk
   ·have hk:X.env.scope.names.lookup x=some .free:=hk;rw[k1] at hk;cases hk
  ·have e:=c1 x c' jZ;rw[k2] at e;cases e;exact⟨oc,kp _ oc k3,k4⟩
 ·rcases CN.d1 x c q with ⟨q1,_⟩|⟨_,_,q1⟩
  ·obtain⟨v,o,q1,q2⟩:=I.cell x c (c1 x c q1);exact⟨v,o,kp c o q1,q2⟩
  ·exact⟨none,q1⟩
 ·rcases CN.d1 x c q with ⟨q1,_⟩|⟨_,q1,_⟩
  ·exact I.i_ x c (c1 x c q1)
  ·exact I.hok.fresh (xM q1)
 ·have hp:p∈X.pn++ao:=by
   have z:p∈(X.pn++ao)++[]:=hp;simpa using z
  obtain⟨a1,a2,a3,a4,a5⟩:=I.pin p hp;exact⟨kp _ _ a1,a2,lt _ _ a1,XR _ a3 a4,a5⟩
theorem zdG(I:Inv X ao Z H s)(f:∀b∈fp,iI X ao H b)(cG:Inv (X.blk scope cl N s.heap.objs.size s H fp ao) [] Z' H' s'):Inv X ao Z H' s':=
 I.call' (ch:=fp) cG.os cG.base cG.hok cG.bare λb hb=>by
  obtain⟨_,a2,_,a4,a5,a6⟩:=f b hb;exact⟨a4.imp id λz=>Ej z,a2,a5,a6⟩
theorem X4{Z':St}{H':Hp}{s':Shared}{h2:Heap}{C:Addr}(cG:Inv X ao Z H' s')(hC:X.s₀.heap.objs.size<=C)(n1:H' C=none)(n2:C≠X.env.locals)(n3:∀x c,X.env.cells.lookup x=some c->c≠C)(n4:∀p∈X.pn++ao,p.1≠C)
  (sb:Heap.SameBut C s'.heap h2):Inv X ao Z H' {s' with heap:=h2}:=
 cG.turned (t':=s'.toks) (λb o z q=>(sb.2 b z).trans q) n1 n2 (.inr hC) n3 n4
end
noncomputable abbrev pQ(ifs:List Expr)(env:Env):Sem Bool:=forIn ifs true λc r=>if r=true then do let ok <-isTrue c env (eval c env);pure (ForInStep.yield ok) else pure (ForInStep.yield r)
theorem zff{prog:Program}{w:World}{A:Around}{R:Result->Shared->Prop}{s:Shared}{elt target iter:Expr}{ifs:List Expr}{scope:Scope}{pos:Pos}{it acc:Value}{env:Env}(V:Nat->Shared->Prop)
  (turn:∀n s,V n s->wpAny (model prog w) A (pyNext it) (λr s₁=>match r with
   |none=>R (.ok .next) s₁
   |some v=>wpAny (model prog w) A (letOwnedTupleGo target it v) (λ_ s₂=>wpAny (model prog w) A (assign target env v) (λ_ s₃=>
     wpAny (model prog w) A (pQ ifs env) (λok s₄=>
      if ok=true then wpAny (model prog w) A (eval elt env) (λx s₅=>wpAny (model prog w) A (call (.builtin "list.append") [acc,x]) (λ_ s₆=>∃m,m<n/\V m s₆) (λ_ _=>False) s₅) (λ_ _=>False) s₄
      else ∃m,m<n/\V m s₄) (λ_ _=>False) s₃) (λ_ _=>False) s₂) (λ_ _=>False) s₁) (λ_ _=>False) s)
  (n:Nat) (h:V n s):codeAny (model prog w) A (.compLoop (.ListComp elt [⟨target,iter,ifs,0⟩] scope pos) 0 it acc env) R s:=by
 refine codeAny_loop rfl V (λn s hV=>?_) n h;show wpAny _ A ((compTurn (.ListComp elt [⟨target,iter,ifs,0⟩] scope pos) 0 it acc env).onRaise (λx=>do noteFrame x env;theTreesLotGoes x)) _ _ s;refine wpAny_noted ?_;rw[compTurn_list];refine aD (wpAny_standAt (aD (mX (turn n s hV) (λr s₁ h₁=>?_) λ_ _ z=>z.elim)));cases r with
 |none=>exact bw h₁
 |some v=>
  refine aD (mX h₁ (λ_ s₂ h₂=>?_) λ_ _ z=>z.elim);refine aD (mX h₂ (λ_ s₃ h₃=>aD (mX h₃ (λok s₄ h₄=>?_) λ_ _ z=>z.elim)) λ_ _ z=>z.elim);cases ok with
  |true=>
   simp only[if_true] at h₄ ⊢;exact aD (aD (mX h₄ (λx s₅ h₅=>aD (mX h₅ (λ_ s₆ h₆=>bw (bw ⟨rfl,h₆⟩)) λ_ _ z=>z.elim)) λ_ _ z=>z.elim))
  |false=>
   simp only[xu,rC] at h₄ ⊢;exact bw ⟨rfl,h₄⟩
def Lq(X:Cx)(ifs:List Expr)(t:TT):Prop:=
 ∀(ao:List (Addr×Obj)) (s:Shared) (Z:St) (H:Hp) (Q:Bool->Hp->Prop),Inv X ao Z H s->t Z H Q->wpAny (model X.prog X.w) X.A (pQ ifs X.env) (TP X ao Z Q) X.xe s
noncomputable def QZ:TT:=λ_ H Q=>Q true H
theorem zkp:Lq X [] QZ:=λ_ _ _ H _ I h=>wpAny_tests_nil ⟨H,I,h⟩
theorem zj6(h:PT X c t):Lq X [c] t:=λao s Z H Q I hq=>wpAny_tests_one (h ao s Z H Q I hq)
def G9(ZY:St->St)(g:TG)(tt:TT)(te:TE)(cG:It)(Z:St)(H:Hp)(Q:VK):Prop:=∀D,H D=none->∃W:Nat->Nat->St->Hp->Prop,(∃m,W 0 m (ZY Z) (upd H D (.lst [])))/\∀i m Z' H',W i m Z' H'->
 (cG.stop i H'/\Q (.ref D) H')\/(cG.go i H'/\∃N:St->Hp->Prop,(∀Z2 H2,N Z2 H2->∃m',m'<m/\W (i+1) m' Z2 H2)/\∀x H2,cG.Aa i H' x H2->g x Z' H2 λZ3 H3=>tt Z3 H3 λok H4=>
  if ok=true then te Z3 H4 λy H5=>∃ys,H5 D=some (.lst ys)/\ys.length<sizeLine/\N Z3 (upd H5 D (.lst (ys++[y]))) else N Z3 H4)
section
variable {X:Cx}{elt tg iter:Expr}{ifs:List Expr}{scope:Scope}{pos:Pos}{N:List Str}{ZY:St->St}{wi:TI}{g:TG}{tt:TT}{te:TE}
structure Parts(X:Cx)(elt tg:Expr)(ifs:List Expr)(scope:Scope)(N:List Str)(g:TG)(tt:TT)(te:TE):Prop where
 tgt:∀cl C s3 H3 fp ao,PG (X.blk scope cl N C s3 H3 fp ao) tg g
 tst:∀cl C s3 H3 fp ao,Lq (X.blk scope cl N C s3 H3 fp ao) ifs tt
 el:∀cl C s3 H3 fp ao,PE (X.blk scope cl N C s3 H3 fp ao) elt te
theorem X5(hc:X.aj=true)(B:dD X.env.scope scope)(P:Parts X elt tg ifs scope N g tt te)(hl:∀Z,(ZY Z).length=N.length)
  (hZ:∀(Z:St) (i:Nat) (x:Str) (v:V),N[i]?=some x->(ZY Z)[i]?=some (some v)->scope.names.lookup x=some .free/\∃j:Nat,X.N[j]?=some x/\Z[j]?=some (some v))
  {ao:List (Addr×Obj)} {s:Shared} {Z:St} {H:Hp} {Q:VK} {it:Addr} {fp:List Addr} {tn:Nat->Heap->Prop} {cG:It} (I:Inv X ao Z H s) (T:Turn X.prog X.w X.K tg cG fp it tn) (st:tn 0 s.heap) (f:∀b∈fp,iI X ao H b) (h:G9 ZY g tt te cG Z H Q)
  {cl:List (Str×Addr)} (c1:∀x c,cl.lookup x=some c->X.env.cells.lookup x=some c) (c2:∀x∈scope.names,x.2=.free->∃c,cl.lookup x.1=some c) {R:Value->Addr->Result->Shared->Prop} {E:Value->Shared->Prop}
  (k:∀D C s' H',Inv X ao Z H' s'->X.s₀.heap.objs.size<=C->H' C=none->C≠X.env.locals->(∀x c,X.env.cells.lookup x=some c->c≠C)->(∀p∈X.pn++ao,p.1≠C)->(∃m,s'.heap.Ns C m)->Q (.ref D) H'->R (.ref D) C (.ok .next) s') :
  wpAny (model X.prog X.w) X.A (newList []) (λacc s₃=>wpAny (model X.prog X.w) X.A (newFunctionEnv scope X.env.globals cl [] X.env.qual none .none (some X.env)) (λcenv s₄=>
   codeAny (model X.prog X.w) X.A (.compStart (.ListComp elt [⟨tg,iter,ifs,0⟩] scope pos) 0 (.ref it) acc {cenv with scope:=relabel scope X.env}) (R acc cenv.locals) s₄) E s₃) E s:=by
 refine uD ?_;have hD:H s.heap.objs.size=none:=I.hok.fresh (bU _);have I3:Inv X ao Z (upd H s.heap.objs.size (.lst [])) {s with heap:=s.heap.push {cls:=.type "list",dict:=none,data:=.seq ([]:List Value).toArray}}:=
  I.laid (t':=s.toks) (λb u q=>cQ _ q) (bU _) ⟨vq _,[],0,.nil,fu _ rfl⟩
 have f3:∀b∈fp,iI X ao (upd H s.heap.objs.size (.lst [])) b:=λb hb=>by
  obtain⟨a1,a2⟩:=f b hb;obtain⟨o,q,_⟩:=T.obj 0 _ st b hb;exact⟨by rw[eE (dU (bW q))];exact a1,a2⟩
 have st3:tn 0 (s.heap.push {cls:=.type "list",dict:=none,data:=.seq ([]:List Value).toArray}):=T.keep _ _ _ st λb hb o q=>cQ _ q;obtain⟨W,⟨m0,w0⟩,turn⟩:=h s.heap.objs.size hD;generalize Q0:({s with heap:=s.heap.push {cls:=.type "list",dict:=none,data:=.seq ([]:List Value).toArray}}:Shared)=s3 at *;have Ao:tn 0 s3.heap:=by rw[<-Q0];exact st3
 generalize hH3:upd H s.heap.objs.size (.lst [])=H3 at *;refine zf9 (λx c q=>by obtain⟨v,o,q1,_⟩:=I3.cell x c (c1 x c q);exact bW q1) (λx y c a b=>I3.ok.inj x y c (c1 x c a) (c1 y c b)) λh1 jt hn kp CN=>?_;have Q5:Inv (X.blk scope jt N s3.heap.objs.size s3 H3 fp ao) [] (ZY Z) H3 {s3 with heap:=h1}:=
  zjm (t:=s3.toks) I3 B c1 c2 f3 (λb hb=>let ⟨o,q,_⟩:=T.obj 0 _ Ao b hb;⟨o,q⟩) hn kp CN (hl Z) (hZ Z)
 have X6:tn 0 h1:=T.keep _ _ _ Ao λb hb o q=>kp b o q;have fY:∀{H':Hp},(∀b∈fp,H' b=none)->∀b∈fp,iI (X.blk scope jt N s3.heap.objs.size s3 H3 fp ao) [] H' b:=λ{H'} z b hb=>by
  obtain⟨a1,a2,a3,a4,a5,a6⟩:=f3 b hb;obtain⟨o,q,_⟩:=T.obj 0 _ Ao b hb;refine⟨z b hb,dU (bW q),λy=>(iG.mp (I3.lR b y)).elim a2 a3,.inl hb,λx c y=>?_,λp hp=>a6 p ?_⟩
  ·rcases CN.d1 x c y with ⟨q1,_⟩|⟨_,q1,_⟩
   ·exact a5 x c (c1 x c q1)
   ·exact λe=>absurd (bW q) (by rw[<-e];exact Nat.not_lt.mpr (xM q1))
  have y:p∈(X.pn++ao)++[]:=hp;simpa using y
 have loop:codeAny (model X.prog X.w) X.A (.compLoop (.ListComp elt [⟨tg,iter,ifs,0⟩] scope pos) 0 (.ref it) (.ref s.heap.objs.size) (compEnvC scope jt s3.heap.objs.size X.env)) (R (.ref s.heap.objs.size) s3.heap.objs.size) {s3 with heap:=h1}:=by
  refine zff (λn s'=>∃i Z' H',Inv (X.blk scope jt N s3.heap.objs.size s3 H3 fp ao) [] Z' H' s'/\tn i s'.heap/\(∀b∈fp,H' b=none)/\W i n Z' H') ?_ m0 ⟨0,ZY Z,H3,Q5,X6,λb hb=>(f3 b hb).1,w0⟩;rintro n s5 ⟨i,Z5,H5,vP,Dg,K_,w5⟩;rcases turn i n Z5 H5 w5 with ⟨stop,q⟩|⟨go,Nx,hN,step⟩
  ·refine aX (T.done (X.blk scope jt N s3.heap.objs.size s3 H3 fp ao) rfl rfl rfl hc i [] s5 Z5 H5 _ vP (fY K_) Dg stop) λr s6 ⟨hr,Aq⟩=>?_;subst hr;have JX:=zdG I3 f3 Aq;refine k s.heap.objs.size s3.heap.objs.size s6 H5 JX I3.sz Aq.free (vp I3.lt) (λx c y z=>?_) (λp hp z=>?_) ?_ q
   ·obtain⟨v,qc⟩:=I3.cell x c y;exact absurd qc.lt (by rw[z];exact qC _)
   ·exact absurd (bW (I3.pin p hp).1) (by rw[z];exact qC _)
   ·obtain⟨m,hm,_⟩:=Aq.loc;exact⟨m,hm⟩
  ·refine aX (T.item (X.blk scope jt N s3.heap.objs.size s3 H3 fp ao) rfl rfl rfl hc i [] s5 Z5 H5 _ vP (fY K_) Dg go) λr s6 hx=>uK hx λu hr h6=>?_;subst hr;refine aX h6 λ_ s7 hz=>?_;obtain⟨x,H7,Q6,r7,y7,Q7,fr7⟩:=hz;have G_:=Q6.pinned (fY fr7) (T.obj _ _ Q7);refine aX (P.tgt jt s3.heap.objs.size s3 H3 fp ao _ s7 Z5 H7 x u _ G_ r7 (step x H7 y7)) λ_ s8 hz=>?_;obtain⟨Z8,H8,Q8,q8⟩:=hz;refine aX (P.tst jt s3.heap.objs.size s3 H3 fp ao _ s8 Z8 H8 _ Q8 q8) λok s9 hx=>uK hx λH9 Hg q9=>?_;have again:∀{H':Hp} {s':Shared},Inv (X.blk scope jt N s3.heap.objs.size s3 H3 fp ao) ([]++jC fp s7.heap) Z8 H' s'->Nx Z8 H'->∃m,m<n/\∃i Z' H',Inv (X.blk scope jt N s3.heap.objs.size s3 H3 fp ao) [] Z' H' s'/\tn i s'.heap/\(∀b∈fp,H' b=none)/\W i m Z' H':=λ{H' s'} oZ n'=>by
    obtain⟨m',hm,w'⟩:=hN Z8 H' n';refine⟨m',hm,i+1,Z8,H',oZ.gU,T.keep _ _ _ Q7 λb hb o e=>(oZ.pin (b,o) (uz _ (uz _ (K9 hb e)))).1,λb hb=>?_,w'⟩;obtain⟨o,e,d⟩:=T.obj _ _ Q7 b hb;exact(oZ.pin (b,o) (uz _ (uz _ (K9 hb e)))).2.1
   cases ok with
   |false=>
    rw[if_neg J0] at q9 ⊢;exact again Hg q9
   |true=>
    rw[if_pos rfl] at q9 ⊢;refine aX (P.el jt s3.heap.objs.size s3 H3 fp ao _ s9 Z8 H9 _ Hg q9) λv s10 hz=>?_;obtain⟨y,H10,Hj,r10,ys,Q9,hz,q10⟩:=hz;refine aX (Xw (X:=(X.blk scope jt N s3.heap.objs.size s3 H3 fp ao)) _ s10 Z8 H10 (.ref s.heap.objs.size) [y] (.ref s.heap.objs.size) [v] (λ_ H'=>Nx Z8 H') Hj rfl (.cons r10 .nil) ⟨s.heap.objs.size,ys,y,rfl,rfl,Q9,hz,q10⟩) λ_ s11 hx=>dX hx λ_ H11 Hl _ q11=>again Hl q11
 exact codeAny_compStart_list loop (T.self _ 0 _ _ _ X6 loop)
end
noncomputable def sS(wi:TI)(ZY:St->St)(g:TG)(tt:TT)(te:TE):TE:=λZ H Q=>wi Z H λcG H1=>G9 ZY g tt te cG Z H1 Q
section
variable {X:Cx}{elt tg iter:Expr}{ifs:List Expr}{scope:Scope}{pos spos py:Pos}{N:List Str}{ZY:St->St}{wi:TI}{g:TG}{tt:TT}{te:TE}{i:Nat}{y:Str}
theorem X7(I:Inv X ao Z H s)(B:dD X.env.scope scope):∃cl,closureFor scope X.env=pure cl/\(∀x c,cl.lookup x=some c->X.env.cells.lookup x=some c)/\∀x∈scope.names,x.2=.free->∃c,cl.lookup x.1=some c:=
 zeW λx hx hf=>I.ok.has x.1 (B.free x hx hf)
theorem zj2(hc:X.aj=true)(B:dD X.env.scope scope)(hi:PI X tg iter wi)(P:Parts X elt tg ifs scope N g tt te)(hl:∀Z,(ZY Z).length=N.length)
  (hZ:∀(Z:St) (i:Nat) (x:Str) (v:V),N[i]?=some x->(ZY Z)[i]?=some (some v)->scope.names.lookup x=some .free/\∃j:Nat,X.N[j]?=some x/\Z[j]?=some (some v))
  (hs:∀x,foldedSetIterable iter X.env x=pure x:=by intro _;rfl):PE X (.ListComp elt [⟨tg,iter,ifs,0⟩] scope pos) (sS wi ZY g tt te):=by
 intro ao s Z H Q I h;obtain⟨cl,Dk,c1,c2⟩:=X7 I B;rw[eval_ListComp];refine wpAny_comprehension_free (use:=none) rfl hs Dk B.kind B.loc (aX (hi ao s Z H _ I h) λxv s1 h1=>aX h1 λitv s2 h2=>?_);obtain⟨it,fp,tn,cG,H2,e,I2,T,st2,f2,hq⟩:=h2;subst e;exact X5 hc B P hl hZ I2 T st2 f2 hq c1 c2 (R:=λacc C=>compPost (model X.prog X.w) X.A X.xe none (EP X ao Z Q) acc C) λD C s' H' oZ a b c d e ⟨m,hm⟩ q=>⟨m,hm,λh' sb=>⟨.ref D,H',X4 (Z':=Z) oZ a b c d e sb,rfl,q⟩⟩
theorem zeT(hc:X.aj=true)(hN:X.N.Nodup)(Ho:X.N[i]?=some y)(hx:Loc X.env.scope y)(hf:X.fn y=true\/X.env.scope.names.lookup y=some .local)(B:dD X.env.scope scope)(hi:PI X tg iter wi)(P:Parts X elt tg ifs scope N g tt te)(hl:∀Z,(ZY Z).length=N.length)
  (hZ:∀(Z:St) (i:Nat) (x:Str) (v:V),N[i]?=some x->(ZY Z)[i]?=some (some v)->scope.names.lookup x=some .free/\∃j:Nat,X.N[j]?=some x/\Z[j]?=some (some v))
  (Hq:swapsWith (.ListComp elt [⟨tg,iter,ifs,0⟩] scope pos) (some (.Name y py)) spos.line X.env=pure true) (hs:∀x,foldedSetIterable iter X.env x=pure x:=by intro _;rfl) :
  PS X (.Assign [.Name y py] (.ListComp elt [⟨tg,iter,ifs,0⟩] scope pos) spos) (zZ (sS wi ZY g tt te) (dO i)):=by
 intro ao s Z H D I h;obtain⟨cl,Dk,c1,c2⟩:=X7 I B;rw[exec_Assign_Name_used _ _ _ _ Hq];refine aD (wpAny_standAt (aD ?_));show wpAny _ X.A (do let _ <-comprehension (.ListComp elt [⟨tg,iter,ifs,0⟩] scope pos) scope X.env _ (newList []) false (eval iter X.env) (some (assign (.Name y py) X.env))) _ _ s;refine aD (wpAny_comprehension_free (use:=some (assign (.Name y py) X.env)) rfl hs Dk B.kind B.loc (aX (hi ao s Z H _ I h) λxv s1 h1=>aX h1 λitv s2 h2=>?_));obtain⟨it,fp,tn,cG,H2,e,I2,T,st2,f2,hq⟩:=h2;subst e;refine X5 hc B P hl hZ I2 T st2 f2 hq c1 c2 (R:=λacc C=>compPost (model X.prog X.w) X.A X.xe (some (assign (.Name y py) X.env)) _ acc C) λD' C s' H' oZ a b c d e ⟨m,hm⟩ q=>?_;show wpAny _ _ (assign (.Name y py) X.env (.ref D')) _ _ s';refine wpAny_assign_Name (WL (v:=.ref D') oZ hN Ho hx rfl (λs5 vP ⟨ad,sb,had⟩=>?_) hf);have nC:C≠ad:=by
  rcases had with z|z
  ·rw[z];exact c
  ·exact(d y ad z).symm
 obtain⟨ol,es,ep,e1,r1⟩:=hm;refine⟨m,⟨ol,es,ep,(sb.2 C nC).trans e1,r1⟩,λh' sb'=>bw (bw ⟨_,H',X4 (Z':=Z) vP a b c d e sb',q⟩)⟩
end
end L2
namespace L2
open PySem PySem.Spec PyProof.Rows PySem.W
noncomputable def bN{α:Type}(lt:Nat->Nat->Option Bool):KasT α->Option α
 |.ret a=>some a
 |.ask i j k=>match lt i j with
  |some b=>bN lt (k b)
  |none=>none
theorem X8{α:Type}{lt:Nat->Nat->Option Bool}{cmp:Nat->Nat->(Bool->Shared->Prop)->Shared->Prop}{Q:α->Shared->Prop}{s:Shared}(hc:∀i j b C,lt i j=some b->C b s->cmp i j C s){a:α}(q:Q a s):∀{t:KasT α},bN lt t=some a->t.kasWp cmp Q s
 |.ret a',h=>by
  unfold bN at h;cases h;exact q
 |.ask i j k,h=>by
  unfold bN at h;cases e:lt i j with
  |none=>rw[e] at h;cases h
  |some b=>
   rw[e] at h;exact hc i j b _ e (X8 hc q h)
noncomputable def jk(vs:List Value)(p:Array Nat):Array Value:=if vs.length<2 then vs.toArray else List.toArray (p.toList.map λi=>vs.getD i Value.none)
section
variable {prog:Program}{w:World}{A:Around}{E:Value->Shared->Prop}{s:Shared}{κ:SortKind}{lt:Nat->Nat->Option Bool}{p:Array Nat}
theorem zcF{a:Addr}{vs:List Value}{n:Nat}{P:PySem.Fin->Shared->Prop}(ho:s.heap.get? a=some (seqObj "list" vs.toArray n))(sU:vs.length<64)
  (hk:2<=vs.length->∀(s':Shared) (Q:SortKind->Shared->Prop),(∀b o,b≠a->s.heap.get? b=some o->s'.heap.get? b=some o)->Q κ s'->wpAny (model prog w) A (keyKind' vs.toArray) Q E s')
  (dh:2<=vs.length->∀(s':Shared) i j b C,(∀b o,b≠a->s.heap.get? b=some o->s'.heap.get? b=some o)->lt i j=some b->C b s'->kas_ask prog w A κ vs i j C s') (hr:2<=vs.length->bN lt (kas_sort vs.length)=some p) (Q_:2<=vs.length->p.size=vs.length)
  (h:P (.done (.ret .none)) {s with heap:=sortedHeap s.heap a vs (jk vs p)}) :
  wpAny (model prog w) A (Builtin.«list.sort» ⟨[.ref a],[]⟩) P E s:=by
 rw[list_sort_plain];have ha:a<s.heap.objs.size:=bW ho;refine aD (listItems_at ho rfl ?_);refine aD (listUpdate_at ho rfl ?_ (by rw[eY,uI];lia) (vq _));obtain⟨e1,Lr⟩ : ∃e1,(s.heap.update a (Obj.mapSeq λ_=>#[])).get? a=some (seqObj "list" #[] e1):=⟨_,get?_update_seq ho (λ_=>#[])⟩;refine aD (seqEpoch_at Lr rfl ?_);refine aD (wpAny_newTuple ?_ (by show vs.length<=_;rw[uI];lia));refine aD (wpAny_newList ?_ (vq _));refine rA ?_;have keep:∀b o,b≠a->s.heap.get? b=some o->(((s.heap.update a (Obj.mapSeq λ_=>(#[]:Array Value))).push (seqObj "tuple" vs.toArray 0)).push (seqObj "list" #[] 0)).get? b=some o:=λb o nb e=>
  cQ _ (cQ _ ((Heap.get?_update_ne _ _ _ _ nb).trans e))
 have Ls:(((s.heap.update a (Obj.mapSeq λ_=>(#[]:Array Value))).push (seqObj "tuple" vs.toArray 0)).push (seqObj "list" #[] 0)).get? a=some (seqObj "list" #[] e1):=by
  rw[Km _ _ _ (by rw[size_push',Heap.size_update];exact dU (uE ha)),Km _ _ _ (by rw[Heap.size_update];exact dU ha)];exact Lr
 show wpAny (model prog w) A _ P E {s with heap:=((s.heap.update a (Obj.mapSeq λ_=>#[])).push (seqObj "tuple" vs.toArray 0)).push (seqObj "list" #[] 0)};dsimp only;have hsz:vs.toArray.size=vs.length:=by simp
 by_cases h2:vs.toArray.size<2
 ·rw[if_pos h2,if_pos h2];refine aD (bw ?_);rw[StateT.run_pure];refine aD (bw ?_);dsimp only;refine aD (seqEpoch_at Ls rfl ?_);refine aD (listUpdate_at Ls rfl ?_ (vq _) (by rw[Array.size_map];show (pairsOf vs).size<=_;rw[pairsOf_size,uI];lia));simp only[bne_self_eq_false,xu,rC];have e:((vs.toArray.zip vs.toArray).map (·.2))=jk vs p:=by
   unfold jk;rw[if_pos (by rw[hsz] at h2;exact h2)];apply Array.toList_inj.mp;simp[List.map_snd_zip]
  refine bw ?_;have h':=h;rw[<-e] at h';exact h'
 ·rw[if_neg h2,if_neg h2];have nF:2<=vs.length:=by lia
  refine aD (hk nF _ _ keep ?_);refine aD (mX (kat_run (κ:=κ) (ks:=vs) (vs:=vs) (G:=λp' s'=>p'=p/\s'={s with heap:=((s.heap.update a (Obj.mapSeq λ_=>#[])).push (seqObj "tuple" vs.toArray 0)).push (seqObj "list" #[] 0)})
   (Q:=λst' s'=>arrOf st'=p.map (kas_item (vs.toArray.zip vs.toArray))/\failedOf st'=none/\s'={s with heap:=((s.heap.update a (Obj.mapSeq λ_=>#[])).push (seqObj "tuple" vs.toArray 0)).push (seqObj "list" #[] 0)})
   rfl nF sU (λp' st' s' a1 a2 a3 a4=>⟨by rw[a2,a4.1],a3,a4.2⟩) (X8 (λi j b C hl hC=>dh nF _ i j b C keep hl hC) ⟨rfl,rfl⟩ (hr nF))) ?_ λ_ _ e=>e)
  rintro⟨⟨⟩,st'⟩ s' ⟨Lw,hf,rfl⟩;dsimp only;have hout:=kat_snds (ks:=vs) (vs:=vs) rfl Lw;have e:List.toArray (p.toList.map λi=>vs.getD i Value.none)=jk vs p:=by
   unfold jk;rw[if_neg gV]
  rw[hout,e];have hso:(jk vs p).size=vs.length:=by rw[<-e,eY,cj,xg,Q_ nF]
  refine aD (seqEpoch_at Ls rfl ?_);refine aD (listUpdate_at Ls rfl ?_ (vq _) (by rw[hso,uI];lia));rw[hf];simp only[bne_self_eq_false,xu,rC];exact bw h
theorem Ra(hl:s.heap.IsList l vs.toArray)(sU:vs.length<64)
  (hk:2<=vs.length->∀(s':Shared) (Q:SortKind->Shared->Prop) E,(∀b o,s.heap.get? b=some o->s'.heap.get? b=some o)->Q κ s'->wpAny (model prog w) A.in1.in1 (keyKind' vs.toArray) Q E s')
  (dh:2<=vs.length->∀(s':Shared) i j b C,(∀b o,s.heap.get? b=some o->s'.heap.get? b=some o)->lt i j=some b->C b s'->kas_ask prog w A.in1.in1 κ vs i j C s') (hr:2<=vs.length->bN lt (kas_sort vs.length)=some p) (Q_:2<=vs.length->p.size=vs.length)
  (h:Q (.ref (s.heap.objs.size+1)) {s with heap:=sortedAll s.heap vs (jk vs p)}) :
  wpAny (model prog w) A (call (.builtin "sorted") [.ref l]) Q E s:=by
 refine Calls.call_function_entry kind_sorted plain_sorted entry_sorted (args_sorted1 _) ?_;unfold Builtin.«sorted»;refine aD (m:=checkCount "sorted" 1 1 _) (bw ?_);refine aD (collect_list hl ?_ (by rw[uI];lia));refine aD (wpAny_newList ?_ (by rw[uI];lia));have hsz:((s.heap.push (seqObj "list" #[] 0)).update s.heap.objs.size (Obj.mapSeq (·++vs.toArray))).objs.size=s.heap.objs.size+1:=by
  rw[Heap.size_update,size_push']
 have K4:(((s.heap.push (seqObj "list" #[] 0)).update s.heap.objs.size (Obj.mapSeq (·++vs.toArray))).push (seqObj "list" vs.toArray 0)).get? (s.heap.objs.size+1)=some (seqObj "list" vs.toArray 0):=by
  rw[<-hsz];exact fu _ rfl
 have keep:∀b o,s.heap.get? b=some o->(((s.heap.push (seqObj "list" #[] 0)).update s.heap.objs.size (Obj.mapSeq (·++vs.toArray))).push (seqObj "list" vs.toArray 0)).get? b=some o:=λb o q=>by
  have dh:b<s.heap.objs.size:=bW q;rw[Km _ _ _ (by rw[hsz];exact dU (uE dh)),Heap.get?_update_ne _ _ _ _ (dU dh),Km _ _ _ (dU dh)];exact q
 show wpAny _ _ _ _ _ {s with heap:=((s.heap.push (seqObj "list" #[] 0)).update s.heap.objs.size (Obj.mapSeq (·++vs.toArray))).push (seqObj "list" vs.toArray 0)};rw[hsz];have nn:∀b o,s.heap.get? b=some o->b≠s.heap.objs.size+1:=λb o e=>dU (uE (bW e));refine aD (rA (xG slot_list_sort ⟨_,K4,rfl⟩ entry_list_sort (zcF (κ:=κ) (lt:=lt) (p:=p) K4 sU (λh2 s' Q' k q=>hk h2 s' Q' _ (λb o e=>k b o (nn b o e) (keep b o e)) q) (λh2 s' i j b C k e q=>dh h2 s' i j b C (λb o e=>k b o (nn b o e) (keep b o e)) e q) hr Q_ ⟨_,rfl,?_⟩) (args_list_sort _)));exact bw ⟨_,rfl,h⟩
end
noncomputable def j9:List V->List V->Option Bool
 |[],ys=>some (decide (0<ys.length))
 |_::_,[]=>some false
 |.int x::xs,.int y::ys=>if x=y then j9 xs ys else some (decide (x<y))
 |_::_,_::_=>none
theorem zlP{prog:Program}{w:World}{A:Around}{s:Shared}{fin:Bool}{C:Bool->Shared->Prop}{b:Bool}:∀{us ws:List V} {its jts:List Value} {i:Nat},Vals us its->Vals ws jts->j9 us ws=some b->fin=decide (us.length<ws.length)->C b s->KatLex prog w A true fin C (its.zip jts) i s:=by
 intro us ws its jts i r1
 induction r1 generalizing ws jts i with
 |nil=>
  intro _ h hf hc;rw[List.zip_nil_left];unfold j9 at h;cases h;rw[hf];exact kat_nil hc
 |@cons x u us its rx ri ih=>
  intro r2 h hf hc;cases r2 with
  |nil=>
   rw[List.zip_nil_right];unfold j9 at h;cases h;rw[hf];exact kat_nil (by simpa using hc)
  |@cons y v ws jts ry rj=>
   rw[Em];cases x with
   |int a=>
    cases y with
    |int c=>
     obtain⟨t,rfl⟩:=rx;obtain⟨t',rfl⟩:=ry;unfold j9 at h;refine kat_cons (wpAny_eqBool_int ?_);by_cases e:a=c
     ·rw[if_pos e] at h;subst e;rw[zA];exact kat_yes (ih rj h (by rw[hf];simp) hc)
     ·rw[if_neg e] at h;cases h;rw[show (a==c)=false by simpa using e];refine kat_no ?_;by_cases hi:i=0
      ·subst hi;exact oneLt_int hc
      ·rw[show (true&&i==0)=false by simpa using hi];exact kat_one _ _ (wpAny_lt_int hc)
    |_=>cases h
   |_=>cases y<;>cases h
def sV(K:W.Frag)(H:Hp)(ys:List V)(lt:Nat->Nat->Option Bool):Prop:=
 ((∀v∈ys,∃i,v=V.int i)/\∀i j b,lt i j=some b->∃x y,ys[i]?=some (.int x)/\ys[j]?=some (.int y)/\b=decide (x<y)) \/
 ((∀v∈ys,∃a i r,v=.ref a/\fD K H a (.int i::r))/\∀i j b,lt i j=some b->∃a c us ws,ys[i]?=some (.ref a)/\ys[j]?=some (.ref c)/\fD K H a us/\fD K H c ws/\j9 us ws=some b)
noncomputable def j_(ys:List V)(p:Array Nat):List V:=if ys.length<2 then ys else p.toList.map λi=>ys.getD i .non
theorem X_(r:Vals ys its):∀l:List Nat,Vals (l.map λi=>ys.getD i .non) (l.map λi=>its.getD i Value.none)
 |[]=>.nil
 |i::l=>by
  refine .cons ?_ (X_ r l);cases e:ys[i]? with
  |some y=>
   obtain⟨u,e1,e2⟩:=r.get e;show RelV (ys.getD i .non) (its.getD i Value.none);rw[jW,jW,e,e1];exact e2
  |none=>
   have e1:its[i]?=none:=by rw[oN] at e ⊢;rw[<-r.length];exact e
   show RelV (ys.getD i .non) (its.getD i Value.none);rw[jW,jW,e,e1];rfl
theorem zhG{ys:List V}{its:List Value}(r:Vals ys its)(p:Array Nat):Vals (j_ ys p) (jk its p).toList:=by
 unfold j_ jk;rw[r.length];by_cases h:its.length<2
 ·rw[if_pos h,if_pos h];exact r
 ·rw[if_neg h,if_neg h];exact X_ r p.toList
theorem zg8{ys:List V}{its:List Value}(r:Vals ys its):∀u∈its,∃v∈ys,RelV v u:=by
 induction r with
 |nil=>intro u hu;cases hu
 |cons h t ih=>
  intro u hu;rcases iG.mp hu with rfl|hu
  ·exact⟨_,lG,h⟩
  ·obtain⟨v,a,b⟩:=ih u hu;exact⟨v,iz _ a,b⟩
section
variable {X:Cx}
theorem zfP{prog:Program}{w:World}{A:Around}{E:Value->Shared->Prop}{s:Shared}{its:List Value}{Q:SortKind->Shared->Prop}(h2:2<=its.length)(hi:∀u∈its,∃i t,u=Value.int i t)(q:Q oneType' s):wpAny (model prog w) A (keyKind' its.toArray) Q E s:=
 kas_kind (T:=.type "int") h2 (λv hv=>by obtain⟨i,t,rfl⟩:=hi v hv;exact .of_pure rfl) J0 J0 q
theorem ziU{K:W.Frag}{ao:List (Addr×Obj)}{s:Shared}{Z:St}{H:Hp}(I:Inv X ao Z H s){h':Heap}(k:∀b o,s.heap.get? b=some o->h'.get? b=some o):∀{ys:List V} {its:List Value},Vals ys its->(∀v∈ys,∃a i r,v=.ref a/\fD X.K H a (.int i::r))->∃fs:List Value,fs.length=its.length/\(∀f∈fs,∃i t,f=Value.int i t)/\KatTups h' its fs:=by
 intro ys its r0
 induction r0 with
 |nil=>exact λ_=>⟨[],rfl,(λf hf=>by cases hf),trivial⟩
 |@cons v u ys its r rs ih=>
  intro h;obtain⟨a,i,r',rfl,hq⟩:=h _ lG;obtain⟨fs,l,hf,kt⟩:=ih λv hv=>h v (iz _ hv);obtain⟨its',rv,⟨o,ho,hc,n,hd⟩,_⟩:=I.tuple hq;cases (show u=Value.ref a from r);cases rv with
  |cons ri rr=>
   obtain⟨t,rfl⟩:=ri;refine⟨Value.int i t::fs,by simp[l],λf hf'=>?_,KatTups.cons (k _ _ ho) hc hd Rb kt⟩;rcases iG.mp hf' with rfl|z
   ·exact⟨i,t,rfl⟩
   ·exact hf f z
theorem zf6{prog:Program}{w:World}{A:Around}{E:Value->Shared->Prop}{s:Shared}{its fs:List Value}{Q:SortKind->Shared->Prop}(h2:2<=its.length)(hl:fs.length=its.length)(hi:∀u∈fs,∃i t,u=Value.int i t)(kt:KatTups s.heap its fs)(q:Q (tuples' true) s):wpAny (model prog w) A (keyKind' its.toArray) Q E s:=
 kat_kind (T:=.type "int") kt gV (λv hv=>by obtain⟨i,t,rfl⟩:=hi v hv;exact .of_pure rfl) J0 q
theorem Lx{its:List Value}{i:Nat}{u:Value}(h:its[i]?=some u):its.getD i Value.none=u:=by rw[jW,h];rfl
theorem zdJ:cT X (.builtin "sorted") (λxs H Q=>∃l ys lt p,xs=[.ref l]/\cR X.K H l ys/\ys.length<64/\(2<=ys.length->sV X.K H ys lt/\bN lt (kas_sort ys.length)=some p/\p.size=ys.length)/\∀r,H r=none->Q (.ref r) (upd H r (.lst (j_ ys p)))):=by
 intro ao s Z H xs us Q I r h;obtain⟨l,ys,lt,p,rfl,hq,sU,hs,q⟩:=h;obtain⟨u,rfl,rx⟩:=vals1 r;cases rx;obtain⟨its,rv,pl,hz⟩:=I.list hq;have hlen:=rv.length;have fin:EP X ao Z Q (.ref (s.heap.objs.size+1)) {s with heap:=sortedAll s.heap its (jk its p)}:=by
  obtain⟨e,he⟩:=sortedAll_at s.heap its (jk its p);have hn:H (s.heap.objs.size+1)=none:=I.hok.fresh (Nat.le_succ _);refine⟨.ref (s.heap.objs.size+1),_,I.laid (t':=s.toks) (λb u q=>sortedAll_old q) (Nat.le_succ _) (show bH X.prog X.w _ _ _ (.lst (j_ ys p)) from ⟨?_,(jk its p).toList,e,zhG rv p,by rw[Array.toArray_toList];exact he⟩),rfl,q _ hn⟩;unfold j_;by_cases h2:ys.length<2
  ·rw[if_pos h2];exact hz
  ·rw[if_neg h2,cj,xg,(hs gV).2.2];exact hz
 by_cases h2:2<=ys.length
 ·obtain⟨hS,hr,hp⟩:=hs h2;rcases hS with ⟨hI,dh⟩|⟨hT,dh⟩
  ·refine Ra (κ:=oneType') (lt:=lt) (p:=p) pl.isList gV (λnF s' Q' E' k q'=>zfP nF (λu hu=>?_) q') (λ_ s' i j b C k e hC=>?_) (λ_=>by rw[<-hlen];exact hr) (λ_=>by lia) fin
   ·obtain⟨v,hv,rr⟩:=zg8 rv u hu;obtain⟨i,rfl⟩:=hI v hv;obtain⟨t,rfl⟩:=rr;exact⟨i,t,rfl⟩
   ·obtain⟨x,y,e1,e2,rfl⟩:=dh i j b e;obtain⟨u1,f1,g1⟩:=rv.get e1;obtain⟨u2,f2,g2⟩:=rv.get e2;obtain⟨t1,rfl⟩:=g1;obtain⟨t2,rfl⟩:=g2;show wpAny _ _ (keyLt' oneType' (its.getD i Value.none) (its.getD j Value.none)) C _ s';rw[Lx f1,Lx f2];exact kat_lt_int hC
  ·refine Ra (κ:=tuples' true) (lt:=lt) (p:=p) pl.isList gV (λnF s' Q' E' k q'=>?_) (λ_ s' i j b C k e hC=>?_) (λ_=>by rw[<-hlen];exact hr) (λ_=>by lia) fin
   ·obtain⟨fs,l1,hf,kt⟩:=ziU (K:=X.K) I k rv hT;exact zf6 nF l1 hf kt q'
   ·obtain⟨a,c,us,ws,e1,e2,q1,q2,e3⟩:=dh i j b e;obtain⟨u1,f1,g1⟩:=rv.get e1;obtain⟨u2,f2,g2⟩:=rv.get e2;cases (show u1=Value.ref a from g1);cases (show u2=Value.ref c from g2);obtain⟨i1,r1,⟨o1,Lr,hc1,n1,hd1⟩,_⟩:=I.tuple q1;obtain⟨i2,r2,⟨o2,oX,lW,n2,hd2⟩,_⟩:=I.tuple q2;show wpAny _ _ (keyLt' (tuples' true) (its.getD i Value.none) (its.getD j Value.none)) C _ s';rw[Lx f1,Lx f2];refine kat_lt (k _ _ Lr) hd1 (k _ _ oX) hd2 (zlP r1 r2 e3 ?_ hC);rw[r1.length,r2.length];simp
 ·exact Ra (κ:=oneType') (lt:=lt) (p:=p) pl.isList gV (λnF=>absurd nF gV) (λnF=>absurd nF gV) (λnF=>absurd nF gV) (λnF=>absurd nF gV) fin
end
end L2
namespace L2
open PySem PySem.Spec PyProof.Rows PySem.W PySem.Calls
theorem Yb{α:Type}:∀{l:List (Str×α)} {f:Str} {u:α},(l.map (·.1)).Nodup->(f,u)∈l->l.lookup f=some u
 |(g,v)::r,f,u,hn,hm=>by
  rw[jr,xJ] at hn;rw[oO];rcases iG.mp hm with e|hm
  ·cases e;simp
  ·have:f≠g:=λz=>hn.1 (by rw[<-z];exact rB.mpr ⟨(f,u),hm,rfl⟩);rw[show (f==g)=false by simpa using this];exact Yb hn.2 hm
theorem zi4{α:Type}{fs:List Str}{us:List α}{i:Nat}{f:Str}{u:α}(h1:fs[i]?=some f)(h2:us[i]?=some u):(f,u)∈fs.zip us:=by
 refine dM (i:=i) ?_;exact(List.getElem?_zip_eq_some (z:=(f,u))).mpr ⟨h1,h2⟩
structure XF(K:Frag)(C:Addr)(f:Str):Prop where
 ga:findIn K (.ref C) "__getattribute__"=some (some (.builtin "BaseException.__getattribute__"))
 gn:findIn K (.ref C) "__getattr__"=some none
 mb:mroIn K C (.type "BaseException")=some true
 no:findIn K (.ref C) f=some none
 hd:hasDictIn K C=true
end L2
namespace L2
open PySem PySem.Spec PyProof.Rows
section
variable {X:Cx}{ao:List (Addr×Obj)}{Z:St}{H:Hp}{s:Shared}{h':Heap}
theorem Inv.k_{t':Nat}{ch:List Addr}{a:Addr}{o:HO}(I:Inv X ao Z H s)(k:∀b u,b∉ch->s.heap.get? b=some u->h'.get? b=some u)(hf:∀b∈ch,iI X ao H b)(ha:s.heap.objs.size<=a)(new:bH X.prog X.w (upd H a o) h' a o) :
  Inv X ao Z (upd H a o) {s with heap:=h',toks:=t'}:=by
 have xU:∀b u,H b=some u->b∉ch:=λb u e z=>by rw[(hf b z).1] at e;cases e
 have hn:H a=none:=I.hok.fresh ha;have na:∀b u,H b=some u->b≠a:=λb u e z=>by rw[z,hn] at e;cases e
 have la:∀b u,s.heap.get? b=some u->b≠a:=λb u e=>dU (iB (bW e) ha);refine I.step (g':=s.gens) (d':=s.drawn) (ch:=ch) (λb hb=>?_) (λb o _ _ hc e _=>k b o hc e) (λb o _ _ hc e _=>⟨o.slots,k b o hc e⟩) (λb o' _ e n=>by rw[eE (la b o' e)];exact n)
  (λb o hc e=>⟨o,k b o hc e⟩) (λb xs e=>by rw[eE (na b _ e)];exact e) (λb o u e=>by rw[eE (na b _ e)];exact e) (λb ps e=>⟨#[],by rw[eE (na b _ e),e];simp⟩) (λm hm=>?_) (λb u e=>?_) I.bare
 ·obtain⟨f0,f1,f2,f3,f4,f5⟩:=hf b hb;exact⟨f3.imp id λz=>Ej z,f1,f4,f5⟩
 ·obtain⟨o,es,ep,ho,r⟩:=hm;exact⟨o,es,ep,k _ o (λz=>(hf _ z).2.1 rfl) ho,r⟩
 ·by_cases z:b=a
  ·subst z;rw[jO] at e;cases e;exact new
  ·rw[eE z] at e;refine(I.hok b u e).stay (λc v hc q=>k c v ?_ q) (λc q=>by rw[eE (na c _ q)];exact q) λc _ q=>by rw[eE (na c _ q)];exact q
   rcases hc with y|y
   ·rw[y];exact xU b u e
   ·exact xU c _ y
theorem Inv.pR{t':Nat}{ch:List Addr}(I:Inv X ao Z H s)(k:∀b u,b∉ch->s.heap.get? b=some u->h'.get? b=some u)(hf:∀b∈ch,iI X ao H b):Inv X ao Z H {s with heap:=h',toks:=t'}:=by
 have xU:∀b u,H b=some u->b∉ch:=λb u e z=>by rw[(hf b z).1] at e;cases e
 refine I.step (g':=s.gens) (d':=s.drawn) (ch:=ch) (λb hb=>?_) (λb o _ _ hc e _=>k b o hc e) (λb o _ _ hc e _=>⟨o.slots,k b o hc e⟩) (λ_ _ _ _ n=>n)
  (λb o hc e=>⟨o,k b o hc e⟩) (λ_ _ e=>e) (λ_ _ _ e=>e) (λb ps e=>⟨#[],by rw[e];simp⟩) (λm hm=>?_) (λb u e=>?_) I.bare
 ·obtain⟨f0,f1,f2,f3,f4,f5⟩:=hf b hb;exact⟨f3.imp id λz=>Ej z,f1,f4,f5⟩
 ·obtain⟨o,es,ep,ho,r⟩:=hm;exact⟨o,es,ep,k _ o (λz=>(hf _ z).2.1 rfl) ho,r⟩
 ·refine(I.hok b u e).stay (λc v hc q=>k c v ?_ q) (λ_ q=>q) λ_ _ q=>q;rcases hc with y|y
  ·rw[y];exact xU b u e
  ·exact xU c _ y
end
structure lg(prog:Program)(w:World)(it src:Addr)(st:Nat->Heap->Prop)(its:Array Value):Prop where
 item:∀(A:Around) (E:Value->Shared->Prop) (s:Shared) (i:Nat) (x:Value) (Q:Value->Shared->Prop),st i s.heap->its[i]?=some x->(∀h',st (i+1) h'->Heap.SameBut it s.heap h'->Q x {s with heap:=h'})->wpAny (model prog w) A (Builtin.SmallTypes.nextOf (.ref it)) Q E s
 fin:∀(A:Around) (E:Value->Shared->Prop) (s:Shared) (i:Nat) (Q:Value->Shared->Prop),A.handled=none->st i s.heap->its[i]?=none->(∀h' e,Heap.ExtBut it s.heap h'->(∃o,h'.get? e=some o/\o.cls=.type "StopIteration")->E (.ref e) {s with heap:=h'})->wpAny (model prog w) A (Builtin.SmallTypes.nextOf (.ref it)) Q E s
 keep:∀i h h',st i h->(∀b o,b=it\/b=src->h.get? b=some o->h'.get? b=some o)->st i h'
theorem lg.list(o7:l≠it):lg prog w it l (λi h=>h.IsListIter it l i/\h.IsList l its) its where
 item:=λA E s i x Q ⟨h1,h2⟩ hx q=>wpAny_nextOf_list_item h1 h2 hx λh' a sb=>q h' ⟨a,h2.at λo e=>(sb.2 l o7).trans e⟩ sb
 fin:=λA E s i Q hh ⟨h1,h2⟩ hx q=>wpAny_nextOf_list_end hh h1 h2 hx q
 keep:=λi h h' ⟨h1,h2⟩ k=>⟨h1.at λo e=>k it o (.inl rfl) e,h2.at λo e=>k l o (.inr rfl) e⟩
theorem Yc(l:Addr):¬((Value.ref l==Value.none)=true):=λz=>by cases (show false=true from z)
theorem IsTupleIter.at'{h h':Heap}{it l:Addr}{i:Nat}(x:h.IsTupleIter it l i)(k:∀o,h.get? it=some o->h'.get? it=some o):h'.IsTupleIter it l i:=by
 obtain⟨o,e,r⟩:=x;exact⟨o,k o e,r⟩
theorem IsTuple.at'{h h':Heap}{l:Addr}{xs:Array Value}(x:h.IsTuple l xs)(k:∀o,h.get? l=some o->h'.get? l=some o):h'.IsTuple l xs:=by
 obtain⟨o,e,r⟩:=x;exact⟨o,k o e,r⟩
section
variable {prog:Program}{w:World}{A:Around}{E:Value->Shared->Prop}{s:Shared}{it l:Addr}{i:Nat}{its:Array Value}
theorem zeL{x:Value}{Q:Value->Shared->Prop}(hi:s.heap.IsTupleIter it l i)(hl:s.heap.IsTuple l its)(hx:its[i]?=some x)(q:∀h',h'.IsTupleIter it l (i+1)->Heap.SameBut it s.heap h'->Q x {s with heap:=h'}) :
  wpAny (model prog w) A (Builtin.SmallTypes.nextOf (.ref it)) Q E s:=by
 obtain⟨oi,ei,ci,di⟩:=id hi;obtain⟨ol,el,_,nl,dl⟩:=hl;unfold Builtin.SmallTypes.nextOf;refine aD (zj (name:=Str.ofString "__next__") hi.typeIs J9 (xG J9 hi.typeIs F.entry_tuple_iterator_next ?_ (F.args_tuple_iterator_next_1 _)));show wpAny _ A.in1 (field (.ref it) 0 >>= _) _ E s;refine aD (lH ei di (x:=.ref l) rfl ?_);show wpAny _ A.in1 (if (Value.ref l==Value.none)=true then _ else _) _ E s;rw[if_neg (Yc l)];show wpAny _ A.in1 (field (.ref it) 1 >>= _) _ E s;refine aD (lH ei di (x:=.int i 0) rfl ?_);show wpAny _ A.in1 (seqItems? (.ref l) >>= _) _ E s;refine aD (qz el dl ?_);simp only[jA,hx];refine aD (EY ei di Rb (bw ⟨x,rfl,bw (q _ ⟨_,zm _ ei (Kc (xr di _)),(Obj.cls_mapFields ..).trans ci,?_⟩ (Heap.SameBut.update ..))⟩));rw[xr di];simp[rawInt]
theorem zgk{Q:Value->Shared->Prop}(hh:A.handled=none)(hi:s.heap.IsTupleIter it l i)(hl:s.heap.IsTuple l its)(hx:its[i]?=none)(q:∀h' e,Heap.ExtBut it s.heap h'->(∃o,h'.get? e=some o/\o.cls=.type "StopIteration")->E (.ref e) {s with heap:=h'}) :
  wpAny (model prog w) A (Builtin.SmallTypes.nextOf (.ref it)) Q E s:=by
 obtain⟨oi,ei,ci,di⟩:=id hi;obtain⟨ol,el,_,nl,dl⟩:=hl;unfold Builtin.SmallTypes.nextOf;refine aD (zj (name:=Str.ofString "__next__") hi.typeIs J9 (xG J9 hi.typeIs F.entry_tuple_iterator_next ?_ (F.args_tuple_iterator_next_1 _)));show wpAny _ A.in1 (field (.ref it) 0 >>= _) _ E s;refine aD (lH ei di (x:=.ref l) rfl ?_);show wpAny _ A.in1 (if (Value.ref l==Value.none)=true then _ else _) _ E s;rw[if_neg (Yc l)];show wpAny _ A.in1 (field (.ref it) 1 >>= _) _ E s;refine aD (lH ei di (x:=.int i 0) rfl ?_);show wpAny _ A.in1 (seqItems? (.ref l) >>= _) _ E s;refine aD (qz el dl ?_);simp only[jA,hx];refine aD (wpAny_rule (aD (EY ei di Rb ?_)));show wpAny _ A.in1 (newExc (.type "StopIteration") [] >>= _) _ E _;refine aD ?_;simp only[newExc,newTuple];refine aD (uD (aD (m:=firstArgMember _ _) (wpAny_of_eq (a:=Value.none) (by first|rfl|(simp only[firstArgMember];rfl)) (uD ?_ (by size_fits)))) (by size_fits));simp only[raiseNew];refine aD (wpAny_handled ?_);rw[show A.in1.handled=none from hh];exact aD (bw (wpAny_throw (q _ _ (((Heap.SameBut.update ..).extBut.push _).push _) ⟨_,fu _ rfl,rfl⟩)))
end
theorem lg.tuple{prog:Program}{w:World}{it l:Addr}{its:Array Value}(o7:l≠it):lg prog w it l (λi h=>h.IsTupleIter it l i/\h.IsTuple l its) its where
 item:=λA E s i x Q ⟨h1,h2⟩ hx q=>zeL h1 h2 hx λh' a sb=>q h' ⟨a,IsTuple.at' h2 λo e=>(sb.2 l o7).trans e⟩ sb
 fin:=λA E s i Q hh ⟨h1,h2⟩ hx q=>zgk hh h1 h2 hx q
 keep:=λi h h' ⟨h1,h2⟩ k=>⟨IsTupleIter.at' h1 λo e=>k it o (.inl rfl) e,IsTuple.at' h2 λo e=>k l o (.inr rfl) e⟩
structure mj(z TI TO i1 i2 l1 l2:Addr):Prop where
 zs:z≠TI/\z≠TO/\z≠i1/\z≠i2/\z≠l1/\z≠l2
 os:TO≠TI/\TO≠i1/\TO≠i2/\TO≠l1/\TO≠l2
 is:TI≠i1/\TI≠i2/\i1≠i2/\i1≠l1/\i1≠l2/\i2≠l1/\i2≠l2
section
variable {prog:Program}{w:World}{A:Around}{E:Value->Shared->Prop}{s:Shared}{z TI TO i1 i2 l1 l2:Addr}{st1 st2:Nat->Heap->Prop}{xs ys:Array Value}{k:Nat}{a b:Value}
theorem zgS(N1:lg prog w i1 l1 st1 xs)(N2:lg prog w i2 l2 st2 ys)(D:mj z TI TO i1 i2 l1 l2)(hz:IsZip s.heap z TI TO .none)(Rf:IsPair s.heap TI (.ref i1) (.ref i2))(Rg:IsPair s.heap TO a b)
  (h1:st1 k s.heap) (h2:st2 k s.heap) (hx:xs[k]?=some x) (hy:ys[k]?=some y)
  (q:∀h',IsZip h' z TI TO (rawInt s.heap.objs.size)->IsPair h' TO x y->st1 (k+1) h'->st2 (k+1) h'->IsPair h' s.heap.objs.size x y->h'.objs.size=s.heap.objs.size+1->(∀c o,c≠z->c≠TO->c≠i1->c≠i2->s.heap.get? c=some o->h'.get? c=some o)->Q (some (.ref s.heap.objs.size)) {s with heap:=h'}) :
  wpAny (model prog w) A (pyNext (.ref z)) Q E s:=by
 obtain⟨⟨z1,z2,z3,z4,z5,z6⟩,⟨t1,t2,t3,t4,t5⟩,⟨j1,j2,j3,j4,j5,j6,j7⟩⟩:=D;have hT:s.TypeIs (.ref z) "zip":=⟨_,hz,rfl⟩;unfold pyNext;refine aD (Fb (zj (name:=Str.ofString "__next__") hT Kz (xG Kz hT F.entry_zip_next ?_ (F.args_zip_next_1 _))));show wpAny _ A.in1 (field (.ref z) 2 >>= _) _ _ s;refine aD (lH hz rfl (x:=.bool false) rfl ?_);show wpAny _ A.in1 (field (.ref z) 3 >>= _) _ _ s;refine aD (lH hz rfl (x:=.ref TI) rfl (aD (qz Rf rfl ?_)));show wpAny _ A.in1 (Builtin.SmallTypes.ownedTupleIsFree (.ref z) >>= _) _ _ s;refine aD ?_;unfold Builtin.SmallTypes.ownedTupleIsFree;refine aD (lH hz rfl (x:=.none) rfl (bw ?_));simp only[if_true];refine aD (wpAny_rule (aD (lH hz rfl (x:=.ref TO) rfl (aD (Cp hz Rb λha za sa=>aD ?_)))))
 replace za:IsZip ha z TI TO .ellipsis:=za
 simp only[List.zipIdx_cons,List.zipIdx_nil,Cv,KH];refine aD (aD (wpAny_onRaise ?_));show wpAny _ A.in1 (Builtin.SmallTypes.nextOf (.ref i1) >>= _) _ _ _;refine aD (N1.item _ _ {s with heap:=ha} k x _ (N1.keep _ _ _ h1 λc o hc e=>sa.extBut c o (by rcases hc with rfl|rfl;exact z3.symm;exact z5.symm) e) hx λhb Yd sb=>bw ?_);have tb:IsPair hb TO a b:=sb.extBut _ _ t2 (sa.extBut _ _ z2.symm Rg);refine aD (qz tb rfl (aD (Om tb λhc tc sc=>aD (zJ (bw ?_)))))
 replace tc:IsPair hc TO x b:=tc
 refine aD (aD (wpAny_onRaise ?_));show wpAny _ A.in1 (Builtin.SmallTypes.nextOf (.ref i2) >>= _) _ _ _;have k2:st2 k hc:=N2.keep _ _ _ h2 λc o jZ e=>by
  rcases jZ with rfl|rfl
  ·exact sc.extBut _ _ t3.symm (sb.extBut _ _ j3.symm (sa.extBut _ _ z4.symm e))
  ·exact sc.extBut _ _ t5.symm (sb.extBut _ _ j5.symm (sa.extBut _ _ z6.symm e))
 have k1:st1 (k+1) hc:=N1.keep _ _ _ Yd λc o jZ e=>by
  rcases jZ with rfl|rfl
  ·exact sc.extBut _ _ t2.symm e
  ·exact sc.extBut _ _ t4.symm e
 refine aD (N2.item _ _ {s with heap:=hc} k y _ k2 hy λhd sd2 sd=>bw ?_);have td:IsPair hd TO x b:=sd.extBut _ _ t3 tc;refine aD (qz td rfl (aD (Om td λhe te se=>aD (zJ (bw (bw ?_))))))
 replace te:IsPair he TO x y:=te
 refine aD (qz te rfl (aD (wpAny_newTuple ?_)));have size:he.objs.size=s.heap.objs.size:=by rw[se.1,sd.1,sc.1,sb.1,sa.1]
 have ze:IsZip he z TI TO .ellipsis:=se.extBut _ _ z2 (sd.extBut _ _ z4 (sc.extBut _ _ z2 (sb.extBut _ _ z3 za)));have kept:∀c o,c≠z->c≠TO->c≠i1->c≠i2->s.heap.get? c=some o->he.get? c=some o:=λc o c1 c2 c3 c4 e=>se.extBut _ _ c2 (sd.extBut _ _ c4 (sc.extBut _ _ c2 (sb.extBut _ _ c3 (sa.extBut _ _ c1 e))));have e1:st1 (k+1) he:=N1.keep _ _ _ k1 λc o jZ e=>by
  rcases jZ with rfl|rfl
  ·exact se.extBut _ _ t2.symm (sd.extBut _ _ j3 e)
  ·exact se.extBut _ _ t4.symm (sd.extBut _ _ j6.symm e)
 have e2:st2 (k+1) he:=N2.keep _ _ _ sd2 λc o jZ e=>by
  rcases jZ with rfl|rfl
  ·exact se.extBut _ _ t3.symm e
  ·exact se.extBut _ _ t5.symm e
 show wpAny _ A.in1 (Builtin.SmallTypes.ownedTupleHandOut (.ref z) (.ref he.objs.size) >>= _) _ _ _;refine aD ?_;unfold Builtin.SmallTypes.ownedTupleHandOut;have zf:IsZip (he.push {cls:=.type "tuple",data:=.seq #[x,y]}) z TI TO .ellipsis:=cQ _ ze;refine aD (Cp zf Rb λhg zg sg=>Cp zg Rb λhh zh sh=>bw ⟨_,rfl,bw ?_⟩)
 replace zh:IsZip hh z TI TO (rawInt he.objs.size):=zh
 have up:∀c o,c≠z->he.get? c=some o->hh.get? c=some o:=λc o c1 e=>sh.extBut _ _ c1 (sg.extBut _ _ c1 (cQ _ e));have lz:z<he.objs.size:=bW ze;have tn:IsPair hh he.objs.size x y:=sh.extBut _ _ (vp lz) (sg.extBut _ _ (vp lz) (fu _ rfl));have sz:hh.objs.size=he.objs.size+1:=by rw[sh.1,sg.1,uH]
 rw[size] at zh tn sz;show Q (some (.ref he.objs.size)) _;rw[size];exact q hh zh (up _ _ z2.symm te) (N1.keep _ _ _ e1 λc o jZ e=>up c o (by rcases jZ with rfl|rfl;exact z3.symm;exact z5.symm) e) (N2.keep _ _ _ e2 λc o jZ e=>up c o (by rcases jZ with rfl|rfl;exact z4.symm;exact z6.symm) e) tn sz λc o c1 c2 c3 c4 e=>up c o c1 (kept c o c1 c2 c3 c4 e)
theorem zjG(hn:A.handled=none)(N1:lg prog w i1 l1 st1 xs)(N2:lg prog w i2 l2 st2 ys)(D:mj z TI TO i1 i2 l1 l2)(hz:IsZip s.heap z TI TO .none)(Rf:IsPair s.heap TI (.ref i1) (.ref i2))(Rg:IsPair s.heap TO a b)
  (h1:st1 k s.heap) (h2:st2 k s.heap) (hx:xs[k]?=none\/ys[k]?=none) (q:∀h',(∀c o,c≠z->c≠TO->c≠i1->c≠i2->s.heap.get? c=some o->h'.get? c=some o)->Q none {s with heap:=h'}):wpAny (model prog w) A (pyNext (.ref z)) Q E s:=by
 obtain⟨⟨z1,z2,z3,z4,z5,z6⟩,⟨t1,t2,t3,t4,t5⟩,⟨j1,j2,j3,j4,j5,j6,j7⟩⟩:=D;have hT:s.TypeIs (.ref z) "zip":=⟨_,hz,rfl⟩;have stop:∀(h':Heap) (e:Addr),(∀c o,c≠z->c≠TO->c≠i1->c≠i2->s.heap.get? c=some o->h'.get? c=some o)->(∃o,h'.get? e=some o/\o.cls=.type "StopIteration")->
   wpAny (model prog w) A (do if <-isInstance (.ref e) (.type "StopIteration") then pure none else throw (.ref e):Sem (Option Value)) Q E {s with heap:=h'}:=λh' e kp ⟨o,ho,hc⟩=>
  aD (Ku (T:="StopIteration") (b:=true) ⟨o,ho,hc⟩ isSubtype_stop (bw (q h' kp)))
 unfold pyNext;refine aD (Fb (zj (name:=Str.ofString "__next__") hT Kz (xG Kz hT F.entry_zip_next ?_ (F.args_zip_next_1 _))));show wpAny _ A.in1 (field (.ref z) 2 >>= _) _ _ s;refine aD (lH hz rfl (x:=.bool false) rfl ?_);show wpAny _ A.in1 (field (.ref z) 3 >>= _) _ _ s;refine aD (lH hz rfl (x:=.ref TI) rfl (aD (qz Rf rfl ?_)));show wpAny _ A.in1 (Builtin.SmallTypes.ownedTupleIsFree (.ref z) >>= _) _ _ s;refine aD ?_;unfold Builtin.SmallTypes.ownedTupleIsFree;refine aD (lH hz rfl (x:=.none) rfl (bw ?_));simp only[if_true];refine aD (wpAny_rule (aD (lH hz rfl (x:=.ref TO) rfl (aD (Cp hz Rb λha za sa=>aD ?_)))))
 replace za:IsZip ha z TI TO .ellipsis:=za
 simp only[List.zipIdx_cons,List.zipIdx_nil,Cv,KH];refine aD (aD (wpAny_onRaise ?_));show wpAny _ A.in1 (Builtin.SmallTypes.nextOf (.ref i1) >>= _) _ _ _;have ka:st1 k ha:=N1.keep _ _ _ h1 λc o hc e=>sa.extBut c o (by rcases hc with rfl|rfl;exact z3.symm;exact z5.symm) e;cases ex:xs[k]? with
 |none=>
  refine aD (N1.fin _ _ {s with heap:=ha} k _ hn ka ex λhb e sb se=>?_);obtain⟨oe,ho,hc⟩:=se;have zb:IsZip hb z TI TO .ellipsis:=sb _ _ z3 za;have ne:e≠z:=λy=>by subst y;rw[zb] at ho;cases ho;simp at hc
  exact Cp zb Rb λhd _ sd=>stop hd e (λc o c1 _ c3 _ y=>sd.extBut _ _ c1 (sb _ _ c3 (sa.extBut _ _ c1 y))) ⟨oe,sd.extBut _ _ ne ho,hc⟩
 |some x=>
  have ey:ys[k]?=none:=by
   rcases hx with y|y
   ·rw[ex] at y;cases y
   ·exact y
  refine aD (N1.item _ _ {s with heap:=ha} k x _ ka ex λhb Yd sb=>bw ?_);have tb:IsPair hb TO a b:=sb.extBut _ _ t2 (sa.extBut _ _ z2.symm Rg);refine aD (qz tb rfl (aD (Om tb λhc tc sc=>aD (zJ (bw ?_)))));refine aD (aD (wpAny_onRaise ?_));show wpAny _ A.in1 (Builtin.SmallTypes.nextOf (.ref i2) >>= _) _ _ _;have k2:st2 k hc:=N2.keep _ _ _ h2 λc o jZ e=>by
   rcases jZ with rfl|rfl
   ·exact sc.extBut _ _ t3.symm (sb.extBut _ _ j3.symm (sa.extBut _ _ z4.symm e))
   ·exact sc.extBut _ _ t5.symm (sb.extBut _ _ j5.symm (sa.extBut _ _ z6.symm e))
  refine aD (N2.fin _ _ {s with heap:=hc} k _ hn k2 ey λhd e sd se=>?_);obtain⟨oe,ho,Dk⟩:=se;have zd:IsZip hd z TI TO .ellipsis:=sd _ _ z4 (sc.extBut _ _ z2 (sb.extBut _ _ z3 za));have ne:e≠z:=λy=>by subst y;rw[zd] at ho;cases ho;simp at Dk
  exact Cp zd Rb λhf _ sf=>stop hf e (λc o c1 c2 c3 c4 y=>sf.extBut _ _ c1 (sd _ _ c4 (sc.extBut _ _ c2 (sb.extBut _ _ c3 (sa.extBut _ _ c1 y))))) ⟨oe,sf.extBut _ _ ne ho,Dk⟩
end
noncomputable def Ck:Bool->Heap->Addr->Array Value->Prop
 |true,h,l,xs=>h.IsList l xs
 |false,h,l,xs=>h.IsTuple l xs
noncomputable def Rk:Bool->Addr->Addr->Nat->Heap->Prop
 |true,it,l,i,h=>h.IsListIter it l i
 |false,it,l,i,h=>h.IsTupleIter it l i
noncomputable def Sk:Bool->W.Frag->Hp->Addr->List V->Prop
 |true,K,H,l,xs=>cR K H l xs
 |false,K,H,l,xs=>fD K H l xs
noncomputable def fV:Bool->Addr->Obj
 |true,l=>{cls:=.type "list_iterator",data:=.fields #[.ref l,.int 0 0]}
 |false,l=>{cls:=.type "tuple_iterator",data:=.fields #[.ref l,.int 0 0]}
theorem lg.of(kd:Bool)(o7:l≠it):lg prog w it l (λi h=>Rk kd it l i h/\Ck kd h l its) its:=by
 cases kd
 ·exact lg.tuple o7
 ·exact lg.list o7
theorem Ck.keep(x:Ck kd h l xs)(k:∀o,h.get? l=some o->h'.get? l=some o):Ck kd h' l xs:=by
 cases kd
 ·exact IsTuple.at' x k
 ·exact Heap.IsList.at x k
theorem Rk.keep(x:Rk kd it l i h)(k:∀o,h.get? it=some o->h'.get? it=some o):Rk kd it l i h':=by
 cases kd
 ·exact IsTupleIter.at' x k
 ·exact Heap.IsListIter.at x k
theorem Rk.obj(x:Rk kd it l i h):∃o,h.get? it=some o/\∀v,o.data≠.cell v:=by
 cases kd
 ·obtain⟨o,e,c,d⟩:=x;exact⟨o,e,λv z=>by rw[d] at z;cases z⟩
 ·obtain⟨o,e,c,d⟩:=x;exact⟨o,e,λv z=>by rw[d] at z;cases z⟩
theorem Ck.lt(x:Ck kd h l xs):l<h.objs.size:=by
 cases kd
 ·obtain⟨o,e,_⟩:=x;exact bW e
 ·obtain⟨o,e,_⟩:=x;exact bW e
section
variable {prog:Program}{w:World}{A:Around}{E:Value->Shared->Prop}{s:Shared}
theorem Ly(c:Ck kd s.heap l xs)(q:Q (.ref s.heap.objs.size) {s with heap:=s.heap.push (fV kd l)}):wpAny (model prog w) A (pyIter (.ref l)) Q E s:=by
 cases kd
 ·exact wpAny_pyIter_tuple c q
 ·exact Ko c q
end
noncomputable def zH(h:Heap)(k1 k2:Bool)(l1 l2:Addr):Heap:=((((h.push (fV k1 l1)).push (fV k2 l2)).push {cls:=.type "tuple",data:=.seq #[.ref h.objs.size,.ref (h.push (fV k1 l1)).objs.size]}).push {cls:=.type "tuple",data:=.seq #[.none,.none]}).push
 {cls:=.type "zip",data:=.fields #[.none,.bool false,.bool false,.ref ((h.push (fV k1 l1)).push (fV k2 l2)).objs.size,.ref (((h.push (fV k1 l1)).push (fV k2 l2)).push {cls:=.type "tuple",data:=.seq #[.ref h.objs.size,.ref (h.push (fV k1 l1)).objs.size]}).objs.size]}
theorem zhn(k1 k2:Bool)(l1 l2:Addr)(xs ys:Array Value):Meets (Builtin.«zip.__new__» ⟨[.type "zip",.ref l1,.ref l2],[]⟩) (λ_ R s=>Ck k1 s.heap l1 xs/\Ck k2 s.heap l2 ys /\
   R (.ok (.ret (.ref ((((s.heap.push (fV k1 l1)).push (fV k2 l2)).push {cls:=.type "tuple",data:=.seq #[.ref s.heap.objs.size,.ref (s.heap.push (fV k1 l1)).objs.size]}).push {cls:=.type "tuple",data:=.seq #[.none,.none]}).objs.size))) {s with heap:=zH s.heap k1 k2 l1 l2}):=
 .of_wp λprog w A R s h=>by
  obtain⟨hp,g,d,tk,os⟩:=s;obtain⟨c1,c2,h⟩:=h;have hsub:=sub_zip;have C1:Ck k1 (Shared.heap ⟨hp,g,d,tk,os⟩) l1 xs:=c1;have C2:Ck k2 (Shared.heap ⟨hp.push (fV k1 l1),g,d,tk,os⟩) l2 ys:=c2.keep λo e=>cQ _ e
  wp_walk using Ly C1,Ly C2
  exact⟨_,rfl,h⟩
section
variable {prog:Program}{w:World}{A:Around}{E:Value->Shared->Prop}{s:Shared}
theorem zi5(c1:Ck k1 s.heap l1 xs)(c2:Ck k2 s.heap l2 ys)
  (h:∀h',IsZip h' (s.heap.objs.size+4) (s.heap.objs.size+2) (s.heap.objs.size+3) .none->IsPair h' (s.heap.objs.size+2) (.ref s.heap.objs.size) (.ref (s.heap.objs.size+1))->IsPair h' (s.heap.objs.size+3) .none .none->
   Rk k1 s.heap.objs.size l1 0 h'->Rk k2 (s.heap.objs.size+1) l2 0 h'->(∀c o,s.heap.get? c=some o->h'.get? c=some o)->Q (.ref (s.heap.objs.size+4)) {s with heap:=h'}) :
  wpAny (model prog w) A (call (.type "zip") [.ref l1,.ref l2]) Q E s:=by
 refine callType_new F.called_zip J0 (F.typeCall_zip_2 _ _) (F.newCall_zip_2 _ _) (λobj=>F.args_object_init_3 obj _ _) F.entry_zip_new (zhn k1 k2 l1 l2 xs ys) ⟨c1,c2,?_⟩;have n1:(s.heap.push (fV k1 l1)).objs.size=s.heap.objs.size+1:=uH ..;have n2:((s.heap.push (fV k1 l1)).push (fV k2 l2)).objs.size=s.heap.objs.size+2:=by rw[uH,n1]
 have fr:∀kd l,(fV kd l).isFreed=false:=λkd l=>by cases kd<;>rfl
 have rk:∀{h:Heap} {a:Addr} {kd:Bool} {l:Addr},h.get? a=some (fV kd l)->Rk kd a l 0 h:=λ{h a kd l} e=>by
  cases kd
  ·exact⟨_,e,rfl,rfl⟩
  ·exact⟨_,e,rfl,rfl⟩
 have o1:(s.heap.push (fV k1 l1)).get? s.heap.objs.size=some (fV k1 l1):=fu _ (fr _ _);have o2:((s.heap.push (fV k1 l1)).push (fV k2 l2)).get? (s.heap.objs.size+1)=some (fV k2 l2):=by
  have:=fu (s.heap.push (fV k1 l1)) (o:=fV k2 l2) (fr _ _);rw[n1] at this;exact this
 generalize hA:(s.heap.push (fV k1 l1)).push (fV k2 l2)=Lz at *;have eH:zH s.heap k1 k2 l1 l2=((Lz.push {cls:=.type "tuple",data:=.seq #[.ref s.heap.objs.size,.ref (s.heap.objs.size+1)]}).push {cls:=.type "tuple",data:=.seq #[.none,.none]}).push {cls:=.type "zip",data:=.fields #[.none,.bool false,.bool false,.ref (s.heap.objs.size+2),.ref (s.heap.objs.size+3)]}:=by
  unfold zH;rw[hA,n1,n2,uH,n2]
 have n3:(Lz.push {cls:=.type "tuple",data:=.seq #[.ref s.heap.objs.size,.ref (s.heap.objs.size+1)]}).objs.size=s.heap.objs.size+3:=by rw[uH,n2]
 have n4:((Lz.push {cls:=.type "tuple",data:=.seq #[.ref s.heap.objs.size,.ref (s.heap.objs.size+1)]}).push {cls:=.type "tuple",data:=.seq #[.none,.none]}).objs.size=s.heap.objs.size+4:=by rw[uH,n3]
 rw[n1,n4];have g5:(zH s.heap k1 k2 l1 l2).get? (s.heap.objs.size+4)=some {cls:=.type "zip",data:=.fields #[.none,.bool false,.bool false,.ref (s.heap.objs.size+2),.ref (s.heap.objs.size+3)]}:=by
  rw[eH,<-n4];exact fu _ rfl
 have g4:(zH s.heap k1 k2 l1 l2).get? (s.heap.objs.size+3)=some {cls:=.type "tuple",data:=.seq #[.none,.none]}:=by
  rw[eH,<-n3];exact cQ _ (fu _ rfl)
 have g3:(zH s.heap k1 k2 l1 l2).get? (s.heap.objs.size+2)=some {cls:=.type "tuple",data:=.seq #[.ref s.heap.objs.size,.ref (s.heap.objs.size+1)]}:=by
  rw[eH,<-n2];exact cQ _ (cQ _ (fu _ rfl))
 have up:∀c o,Lz.get? c=some o->(zH s.heap k1 k2 l1 l2).get? c=some o:=λc o e=>by rw[eH];exact cQ _ (cQ _ (cQ _ e))
 refine⟨⟨_,g5,rfl⟩,h _ g5 g3 g4 (rk (up _ _ ?_)) (rk (up _ _ o2)) λc o e=>up _ _ ?_⟩
 ·rw[<-hA];exact cQ _ o1
 ·rw[<-hA];exact cQ _ (cQ _ e)
end
noncomputable def Rh(K:W.Frag)(k1 k2:Bool)(l1 l2:Addr):It:=
 ⟨λi H=>∃xs ys x y,Sk k1 K H l1 xs/\Sk k2 K H l2 ys/\xs[i]?=some x/\ys[i]?=some y,
  λi H v H'=>∃a x y,H a=none/\v=.ref a/\H'=upd H a (.tup [x,y])/\(∀xs,Sk k1 K H l1 xs->xs[i]?=some x)/\∀ys,Sk k2 K H l2 ys->ys[i]?=some y,
  λi H=>∃xs ys,Sk k1 K H l1 xs/\Sk k2 K H l2 ys/\(xs.length<=i\/ys.length<=i)⟩
section
variable {X:Cx}{ao:List (Addr×Obj)}{Z:St}{H:Hp}{s:Shared}{kd:Bool}{l:Addr}{xs ys:List V}
theorem Inv.row(I:Inv X ao Z H s)(h:Sk kd X.K H l xs):∃its:List Value,Vals xs its/\Ck kd s.heap l its.toArray:=by
 cases kd
 ·obtain⟨its,rv,p,hz⟩:=I.tuple h;exact⟨its,rv,p⟩
 ·obtain⟨its,rv,p,hz⟩:=I.list h;exact⟨its,rv,p.isList⟩
theorem Inv.mz(I:Inv X ao Z H s)(h:Sk kd X.K H l xs)(h':Sk kd X.K H l ys):xs=ys:=by
 cases kd
 ·exact I.kZ h h'
 ·exact I.m_ h h'
end
theorem zg7{P:Program}{w:World}{K:W.Frag}{elts:List Expr}{kk:Nat}{pos:Pos}{k1 k2:Bool}{l1 l2 z TI TO i1 i2:Addr}(D:mj z TI TO i1 i2 l1 l2) :
  Turn P w K (.Tuple elts kk pos) (Rh K k1 k2 l1 l2) [z,TI,TO,i1,i2] z (λi h=>IsZip h z TI TO .none/\IsPair h TI (.ref i1) (.ref i2)/\(∃a b,IsPair h TO a b)/\Rk k1 i1 l1 i h/\Rk k2 i2 l2 i h) where
 mem:=by simp
 obj:=λi h ⟨a1,a2,⟨p,q,a3⟩,a4,a5⟩ b hb=>by
  have:b=z\/b=TI\/b=TO\/b=i1\/b=i2:=by simpa using hb
  rcases this with rfl|rfl|rfl|rfl|rfl
  ·exact⟨_,a1,λv y=>by cases y⟩
  ·exact⟨_,a2,λv y=>by cases y⟩
  ·exact⟨_,a3,λv y=>by cases y⟩
  ·exact a4.obj
  ·exact a5.obj
 keep:=λi h h' ⟨a1,a2,⟨p,q,a3⟩,a4,a5⟩ k=>⟨k z Rb _ a1,k TI Rb _ a2,⟨p,q,k TO Rb _ a3⟩,a4.keep λo e=>k i1 Rb o e,a5.keep λo e=>k i2 Rb o e⟩
 item:=by
  rintro X hP hw hK hc i ao s Z H E I hf ⟨a1,a2,⟨p,q,a3⟩,a4,a5⟩ hg;subst hP hw hK;obtain⟨xs,ys,x,y,xX,Dl,hx,hy⟩:=hg;obtain⟨Ye,LC,c1⟩:=I.row xX;obtain⟨Hr,LQ,c2⟩:=I.row Dl;obtain⟨u,hu,ru⟩:=LC.get hx;obtain⟨v,hv,rv⟩:=LQ.get hy;have D':=D;obtain⟨⟨z1,z2,z3,z4,z5,z6⟩,⟨t1,t2,t3,t4,t5⟩,⟨j1,j2,j3,j4,j5,j6,j7⟩⟩:=D';refine zgS (lg.of k1 j4.symm) (lg.of k2 j7.symm) D a1 a2 a3 ⟨a4,c1⟩ ⟨a5,c2⟩ (x:=u) (y:=v) (by simpa using hu) (by simpa using hv) λh1 b1 b2 b3 b4 b5 b6 kp=>?_;refine⟨_,rfl,wpAny_letOwnedTupleGo_zip (s:={s with heap:=h1}) b1 λh2 e2 sb=>?_⟩;have Ri:IsPair h2 s.heap.objs.size u v:=(sb.2 _ (vp (bW a1))).trans b5;have kk:∀b o,b∉[z,TI,TO,i1,i2]->s.heap.get? b=some o->h2.get? b=some o:=λb o hb e=>(sb.2 b λy=>hb (by simp[y])).trans (kp b o (λy=>hb (by simp[y])) (λy=>hb (by simp[y])) (λy=>hb (by simp[y])) (λy=>hb (by simp[y])) e);have I2:=I.k_ (t':=s.toks) (a:=s.heap.objs.size) (o:=.tup [x,y]) kk (λb hb=>hf b hb) (bU _) (show bH X.prog X.w _ h2 _ (.tup [x,y]) from ⟨by show 2<=sizeLine;decide,[u,v],.cons ru (.cons rv .nil),⟨_,Ri,rfl,_,rfl,rfl⟩⟩);have hn:H s.heap.objs.size=none:=I.hok.fresh (bU _);refine⟨.ref s.heap.objs.size,_,I2,rfl,⟨_,x,y,hn,rfl,rfl,λzs hz=>by rw[I.mz hz xX];exact hx,λzs hz=>by rw[I.mz hz Dl];exact hy⟩,⟨e2,(sb.2 _ z1.symm).trans (kp _ _ z1.symm t1.symm j1 j2 a2),⟨_,_,(sb.2 _ z2.symm).trans b2⟩,b3.1.keep λo e=>(sb.2 _ z3.symm).trans e,b4.1.keep λo e=>(sb.2 _ z4.symm).trans e⟩,λb hb=>?_⟩;have nb:b≠s.heap.objs.size:=by
   have:b=z\/b=TI\/b=TO\/b=i1\/b=i2:=by simpa using hb
   rcases this with rfl|rfl|rfl|rfl|rfl
   ·exact dU (bW a1)
   ·exact dU (bW a2)
   ·exact dU (bW a3)
   ·obtain⟨o,e,_⟩:=a4.obj;exact dU (bW e)
   ·obtain⟨o,e,_⟩:=a5.obj;exact dU (bW e)
  rw[eE nb];exact(hf b hb).1
 done:=by
  rintro X hP hw hK hc i ao s Z H E I hf ⟨a1,a2,⟨p,q,a3⟩,a4,a5⟩ hg;subst hP hw hK;obtain⟨xs,ys,xX,Dl,hx⟩:=hg;obtain⟨Ye,LC,c1⟩:=I.row xX;obtain⟨Hr,LQ,c2⟩:=I.row Dl;have n1:=LC.length;have n2:=LQ.length;refine zjG (I.ok.hd hc) (lg.of k1 D.is.2.2.2.1.symm) (lg.of k2 D.is.2.2.2.2.2.2.symm) D a1 a2 a3 ⟨a4,c1⟩ ⟨a5,c2⟩ ?_ λh' kp=>⟨rfl,I.pR (t':=s.toks) (ch:=[z,TI,TO,i1,i2]) (λb o hb e=>kp b o (λy=>hb (by simp[y])) (λy=>hb (by simp[y])) (λy=>hb (by simp[y])) (λy=>hb (by simp[y])) e) λb hb=>hf b hb⟩;rcases hx with y|y
  ·exact .inl (by simp;lia)
  ·exact .inr (by simp;lia)
 self:=λ_ _ _ _ _ ⟨a1,_⟩ h=>wpAny_pyIter_zip a1 h
section
variable {X:Cx}
noncomputable def Rj(K:W.Frag)(ta:TA):TI:=λZ H R=>ta Z H λvs H1=>∃k1 k2 l1 l2 xs ys,vs=[.ref l1,.ref l2]/\Sk k1 K H1 l1 xs/\Sk k2 K H1 l2 ys/\R (Rh K k1 k2 l1 l2) H1
theorem zgU:bootBuiltins "zip"=some (.type "zip"):=by decide +kernel
theorem zmH{a b:Expr}{ta:TA}{p pos tpos:Pos}{elts:List Expr}{kk:Nat}(hg:Gl X "zip")(hm:X.mg "zip"=none)(ha:PA X [a,b] ta)(hs:starEach [a,b] X.env=[(false,eval a X.env),(false,eval b X.env)]:=by rfl)(vB:starEach [b] X.env=[(false,eval b X.env)]:=by rfl) :
  PI X (.Tuple elts kk tpos) (.Call (.Name "zip" p) [a,b] [] pos) (Rj X.K ta):=by
 intro ao s Z H R I h;refine Call_ (uN I hg hm zgU (wX (aX (ha pos ao s Z H _ I h) λus s1 hz=>?_) (by rw[hs,vB]) (by rw[vB];rfl)));obtain⟨vs,H1,I1,r1,q1⟩:=hz;obtain⟨k1,k2,l1,l2,xs,ys,e,xX,Dl,q⟩:=q1;subst e;cases r1 with
 |cons r rr=>
  cases rr with
  |cons r' rr=>
   cases rr;cases r;cases r';obtain⟨Ye,LC,c1⟩:=I1.row xX;obtain⟨Hr,LQ,c2⟩:=I1.row Dl;have m1:=c1.lt;have m2:=c2.lt;refine zi5 c1 c2 λh' b1 b2 b3 b4 b5 kp=>?_;refine wpAny_pyIter_zip b1 ?_;have ne:∀{u v:Nat},u<v->u≠v:=λh=>dU h;have D:mj (s1.heap.objs.size+4) (s1.heap.objs.size+2) (s1.heap.objs.size+3) s1.heap.objs.size (s1.heap.objs.size+1) l1 l2:=
    ⟨⟨(ne gV).symm,(ne gV).symm,(ne gV).symm,(ne gV).symm,(ne (iB m1 gV)).symm,(ne (iB m2 gV)).symm⟩,
     ⟨(ne gV).symm,(ne gV).symm,(ne gV).symm,(ne (iB m1 gV)).symm,(ne (iB m2 gV)).symm⟩,
     ⟨(ne gV).symm,(ne gV).symm,ne gV,(ne m1).symm,(ne m2).symm,(ne (iB m1 gV)).symm,(ne (iB m2 gV)).symm⟩⟩
   refine⟨s1.heap.objs.size+4,[s1.heap.objs.size+4,s1.heap.objs.size+2,s1.heap.objs.size+3,s1.heap.objs.size,s1.heap.objs.size+1],_,_,H1,rfl,I1.kept (t':=s1.toks) kp,zg7 D,⟨b1,b2,⟨_,_,b3⟩,b4,b5⟩,λb hb=>?_,q⟩;have:s1.heap.objs.size<=b:=by
    have:b=s1.heap.objs.size+4\/b=s1.heap.objs.size+2\/b=s1.heap.objs.size+3\/b=s1.heap.objs.size\/b=s1.heap.objs.size+1:=by simpa using hb
    rcases this with rfl|rfl|rfl|rfl|rfl<;>lia
   exact I1.sJ this (I1.hok.fresh this)
end
noncomputable def Ite(K:W.Frag)(kd:Bool)(l:Addr):It:=
 ⟨λi H=>∃xs x,Sk kd K H l xs/\xs[i]?=some x,λi H v H'=>∃a x,H a=none/\v=.ref a/\H'=upd H a (.tup [.int i,x])/\∀xs,Sk kd K H l xs->xs[i]?=some x,λi H=>∃xs,Sk kd K H l xs/\xs.length<=i⟩
theorem Ar{prog:Program}{w:World}{A:Around}(hh:A.handled=none)(kd:Bool){it l:Addr}(o7:l≠it)(its:Array Value):Draws prog w A it [it,l] its.size (λi v=>its[i]?=some v) (λi h=>Rk kd it l i h/\Ck kd h l its) where
 live:=λ_ _ st=>let ⟨o,e,_⟩:=st.1.obj;⟨o,e⟩
 frame:=λ_ _ _ st k=>⟨st.1.keep λo e=>k it Rb o e,st.2.keep λo e=>k l Rb o e⟩
 item:=λi s Q E hi st q=>(lg.of kd o7).item A E s i its[i] Q st (by simp[hi]) λh' a b=>q _ h' s.toks (by simp[hi]) a b
 done:=λs Q E st q=>(lg.of kd o7).fin A E s its.size Q hh st Rb q
theorem zhl(kd:Bool)(l:Addr)(xs:Array Value):Meets (Builtin.«enumerate.__new__» ⟨[.type "enumerate",.ref l],[]⟩) (λ_ R s=>Ck kd s.heap l xs /\
   R (.ok (.ret (.ref (s.heap.push (fV kd l)).objs.size))) {s with heap:=(s.heap.push (fV kd l)).push {cls:=.type "enumerate",data:=.fields #[.none,.bool false,.ref s.heap.objs.size,rawInt 0,.none,.none]}}):=
 .of_wp λprog w A R s h=>by
  obtain⟨hp,g,d,tk,os⟩:=s;obtain⟨c1,h⟩:=h;have hsub:=sub_enumerate;have C1:Ck kd (Shared.heap ⟨hp,g,d,tk,os⟩) l xs:=c1;obtain⟨ol,el⟩ : ∃o,hp.get? l=some o:=by
   cases kd
   ·obtain⟨o,e,_⟩:=c1;exact⟨o,e⟩
   ·obtain⟨o,e,_⟩:=c1;exact⟨o,e⟩
  wp_walk using J_ el
  refine wpAny_stack_any λst=>bw ?_
  split
  ·rename_i c _ _ _ _ _;cases (c==Value.type "enumerate")<;>(wp_walk using J_ el,Ly C1;exact⟨_,rfl,h⟩)
  ·wp_walk using J_ el,Ly C1
   exact⟨_,rfl,h⟩
theorem zhA{prog:Program}{w:World}{A:Around}{E:Value->Shared->Prop}{s:Shared}{e it l:Addr}{its:Array Value}{st:Nat->Heap->Prop}{i:Nat}{old:Value}{Q:Option Value->Shared->Prop}(hh:A.handled=none)(N:lg prog w it l st its)(he:IsEnum s.heap e it i old)(qG:st i s.heap)(hx:its[i]?=none)
  (q:∀h',Heap.ExtBut it s.heap h'->Q none {s with heap:=h'}):wpAny (model prog w) A (pyNext (.ref e)) Q E s:=by
 have ty:s.TypeIs (.ref e) "enumerate":=⟨_,he,rfl⟩;have body:∀{E':Value->Shared->Prop},(∀h' x,Heap.ExtBut it s.heap h'->(∃o,h'.get? x=some o/\o.cls=.type "StopIteration")->E' (.ref x) {s with heap:=h'})->wpAny (model prog w) A.in1 (Builtin.«enumerate.__next__» ⟨[.ref e],[]⟩) (λ_ _=>False) E' s:=λk=>by
  show wpAny _ A.in1 (field (.ref e) 2 >>= _) _ _ _;exact aD (lH he rfl (x:=.ref it) rfl (aD (N.fin A.in1 _ s i _ hh qG hx k)))
 unfold pyNext;refine aD (Fb (zj (name:=Str.ofString "__next__") ty F.slot_enumerate_next (xG F.slot_enumerate_next ty F.entry_enumerate_next (mX (body λh' x a b=>?_) (λ_ _ z=>z.elim) λ_ _ z=>z) (F.args_enumerate_next_1 _))));obtain⟨o,a1,a2⟩:=b;exact aD (Ku (T:="StopIteration") (b:=true) ⟨o,a1,a2⟩ isSubtype_stop (bw (q h' a)))
theorem zgi{P:Program}{w:World}{K:W.Frag}{elts:List Expr}{kk:Nat}{pos:Pos}{kd:Bool}{l e it:Addr}(Rm:e≠it)(Yg:l≠it)(hle:l≠e) :
  Turn P w K (.Tuple elts kk pos) (Ite K kd l) [e,it] e (λi h=>(∃old,IsEnum h e it i old)/\Rk kd it l i h) where
 mem:=by simp
 obj:=λi h ⟨⟨old,he⟩,st⟩ b hb=>by
  have:b=e\/b=it:=by simpa using hb
  rcases this with rfl|rfl
  ·exact⟨_,he,λv z=>by cases z⟩
  ·exact st.obj
 keep:=λi h h' ⟨⟨old,he⟩,st⟩ k=>⟨⟨old,k e Rb _ he⟩,st.keep λo e=>k it Rb o e⟩
 item:=by
  rintro X hP hw hK hc i ao s Z H E I hf ⟨⟨old,he⟩,st⟩ hg;subst hP hw hK;obtain⟨xs,x,hq,hx⟩:=hg;obtain⟨its,rv,p⟩:=I.row hq;obtain⟨u,hu,ru⟩:=rv.get hx;have dh:i<its.toArray.size:=by simpa using (cI.mp hu).1
  refine wpAny_pyNext_enum_itemD (Ar (A:=X.A.in1) (I.ok.hd hc) kd Yg its.toArray) he ⟨st,p⟩ dh Rm (by simp[Rm,hle.symm]) λu' h1 tk hP ho Rn hT hsz hk=>?_;have eu:u'=u:=by
   have:its[i]?=some u':=by simpa using hP
   rw[hu] at this;cases this;rfl
  subst eu;refine⟨_,rfl,wpAny_letOwnedTupleGo_enum (s:={s with heap:=h1,toks:=tk+1}) ho λh2 he2 sb=>?_⟩;have Ri:h2.get? s.heap.objs.size=some {cls:=.type "tuple",data:=.seq #[.int i tk,u']}:=(sb.2 _ (vp (bW he))).trans hT;have kk:∀b o,b∉[e,it]->s.heap.get? b=some o->h2.get? b=some o:=λb o hb q=>(sb.2 b λz=>hb (by simp[z])).trans (hk b o (λz=>hb (by simp[z])) (λz=>hb (by simp[z])) q);have I2:=I.k_ (t':=tk+1) (a:=s.heap.objs.size) (o:=.tup [.int i,x]) kk (λb hb=>hf b hb) (bU _) (show bH X.prog X.w _ h2 _ (.tup [.int i,x]) from ⟨by show 2<=sizeLine;decide,[.int i tk,u'],.cons ⟨_,rfl⟩ (.cons ru .nil),⟨_,Ri,rfl,_,rfl,rfl⟩⟩);have hn:H s.heap.objs.size=none:=I.hok.fresh (bU _);refine⟨.ref s.heap.objs.size,_,I2,rfl,⟨_,x,hn,rfl,rfl,λys hy=>by rw[I.mz hy hq];exact hx⟩,⟨⟨_,by simpa using he2⟩,Rn.1.keep λo q=>(sb.2 it Rm.symm).trans q⟩,λb hb=>?_⟩;have nb:b≠s.heap.objs.size:=by
   have:b=e\/b=it:=by simpa using hb
   rcases this with rfl|rfl
   ·exact dU (bW he)
   ·obtain⟨o,q,_⟩:=st.obj;exact dU (bW q)
  rw[eE nb];exact(hf b hb).1
 done:=by
  rintro X hP hw hK hc i ao s Z H E I hf ⟨⟨old,he⟩,st⟩ hg;subst hP hw hK;obtain⟨xs,hq,hx⟩:=hg;obtain⟨its,rv,p⟩:=I.row hq;have hl:=rv.length;exact zhA (I.ok.hd hc) (lg.of kd Yg) he ⟨st,p⟩ (by simp;lia) λh' eb=>⟨rfl,I.pR (t':=s.toks) (ch:=[e,it]) (λb o hb q=>eb b o (λz=>hb (by simp[z])) q) λb hb=>hf b hb⟩
 self:=λ_ _ _ _ _ ⟨⟨old,he⟩,_⟩ h=>wpAny_pyIter_enum he h
section
variable {X:Cx}
noncomputable def Hs(K:W.Frag)(ta:TA):TI:=λZ H R=>ta Z H λvs H1=>∃kd l xs,vs=[.ref l]/\Sk kd K H1 l xs/\R (Ite K kd l) H1
theorem zgu:bootBuiltins "enumerate"=some (.type "enumerate"):=by decide +kernel
theorem zjO{a:Expr}{ta:TA}{p pos tpos:Pos}{elts:List Expr}{kk:Nat}(hg:Gl X "enumerate")(hm:X.mg "enumerate"=none)(ha:PA X [a] ta)(hs:starEach [a] X.env=[(false,eval a X.env)]:=by rfl):PI X (.Tuple elts kk tpos) (.Call (.Name "enumerate" p) [a] [] pos) (Hs X.K ta):=by
 intro ao s Z H R I h;refine Call_ (uN I hg hm zgu (wX (aX (ha pos ao s Z H _ I h) λus s1 hz=>?_) hs rfl));obtain⟨vs,H1,I1,r1,q1⟩:=hz;obtain⟨kd,l,xs,e,hq,q⟩:=q1;subst e;cases r1 with
 |cons r rr=>
  cases rr;cases r;obtain⟨its,rv,p⟩:=I1.row hq;have hl:l<s1.heap.objs.size:=p.lt;refine callType_new F.called_enumerate J0 (F.typeCall_enumerate_1 _) (F.newCall_enumerate_1 _) (λobj=>F.args_object_init_2 obj _) F.entry_enumerate_new (zhl kd l its.toArray) ⟨p,?_⟩;have n1:(s1.heap.push (fV kd l)).objs.size=s1.heap.objs.size+1:=uH ..;have he:IsEnum ((s1.heap.push (fV kd l)).push {cls:=.type "enumerate",data:=.fields #[.none,.bool false,.ref s1.heap.objs.size,rawInt 0,.none,.none]}) (s1.heap.objs.size+1) s1.heap.objs.size 0 .none:=by
   have:=fu (s1.heap.push (fV kd l)) (o:={cls:=.type "enumerate",data:=.fields #[.none,.bool false,.ref s1.heap.objs.size,rawInt 0,.none,.none]}) rfl;rw[n1] at this;exact this
  show _/\_;rw[n1];refine⟨⟨_,he,rfl⟩,wpAny_pyIter_enum (s:={s1 with heap:=(s1.heap.push (fV kd l)).push {cls:=.type "enumerate",data:=.fields #[.none,.bool false,.ref s1.heap.objs.size,rawInt 0,.none,.none]}}) he ?_⟩;have rk:Rk kd s1.heap.objs.size l 0 ((s1.heap.push (fV kd l)).push {cls:=.type "enumerate",data:=.fields #[.none,.bool false,.ref s1.heap.objs.size,rawInt 0,.none,.none]}):=by
   cases kd
   ·exact⟨_,cQ _ (fu _ rfl),rfl,rfl⟩
   ·exact⟨_,cQ _ (fu _ rfl),rfl,rfl⟩
  refine⟨s1.heap.objs.size+1,[s1.heap.objs.size+1,s1.heap.objs.size],_,_,H1,rfl,I1.kept (t':=s1.toks) λb o x=>cQ _ (cQ _ x),zgi (kd:=kd) (l:=l) (Nat.succ_ne_self _) (dU hl) (dU (uE hl)),⟨⟨_,he⟩,rk⟩,λb hb=>?_,q⟩;have:s1.heap.objs.size<=b:=by
   have:b=s1.heap.objs.size+1\/b=s1.heap.objs.size:=by simpa using hb
   rcases this with rfl|rfl
   ·exact Nat.le_succ _
   ·exact bU _
  exact I1.sJ this (I1.hok.fresh this)
end
end L2
set_option genSizeOf false
set_option genInjectivity false
namespace Mi
open PySem
inductive D where
 |non|bl (b:Bool)|int (i:Int)|str (s:Str)|tup (xs:List D)|fl (xs:List D)|fd (ks vs:List D)|exc (c:Nat) (fs:List D)|ob (c:Nat) (fs:List D)|any
inductive Xv where
 |d (x:D)|l (n:Nat)
inductive Kx where
 |non|int (i:Int)|row (is:List Int)
deriving DecidableEq
inductive SO where
 |lst (xs:List D)
 |dct (kvs:List (List Kx×D))
noncomputable abbrev S:=List SO
inductive Rs (α:Type) where
 |ok (a:α)|er (c:Nat) (fs:List D)
noncomputable abbrev M(α:Type):=S->Option (Rs α×S)
noncomputable def M.ret{α:Type}(a:α):M α:=λs=>some (.ok a,s)
noncomputable def M.bd{α β:Type}(m:M α)(k:α->M β):M β:=λs=>match m s with
 |some (.ok a,s')=>k a s'
 |some (.er c f,s')=>some (.er c f,s')
 |none=>none
noncomputable def M.qt{α:Type}(m:M α):M α:=λs=>match m s with
 |some (.ok a,s')=>some (.ok a,s')
 |_=>none
noncomputable def M.no{α:Type}:M α:=λ_=>none
noncomputable def M.opt{α:Type}:Option α->M α
 |some a=>M.ret a
 |none=>M.no
inductive Rz where
 |dat (d:D)|nw (xs:List D)
inductive Pr where
 |add|aq|mul|fdiv|mod|pow|neg
 |eq|ne|lt|le|gt|ge|inn|nin
 |pU|mZ
 |len|abs|max2|min2|Ht|Hu|qK|Dm|vQ|divmod|all|sum|list|tuple|sorted|pW|sW|str1
 |ix|rev|Yh|Hv|mult|xY
 |count|index|repr
 |LR|Ro|Rp|shl|shr|band|isT|noT|isF|oF|Av|Aw
inductive Kd where
 |int|bool|str|tuple|list|dict|cls (c:Nat)|qL
mutual
inductive E where
 |c (d:D)
 |v (i:Nat)
 |pr (fz:Bool) (p:Pr) (xs:Es)
 |xZ (p q:Pr) (a b c:E)
 |ch3 (p q r:Pr) (a b c d:E)
 |and (a b:E)
 |or (a b:E)
 |not (a:E)
 |ite (c a b:E)
 |tup (xs:Es)
 |lst (fz:Bool) (xs:Es)
 |Hw (k:Str) (i:Int)
 |call (f:Nat) (xs:Es)
 |mC (a:E) (k:Kd)
 |sl (fz:Bool) (a:E) (lo hi:Eo)
 |meth (fz:Bool) (p:Pr) (k:Kd) (o:E) (xs:Es)
 |push (o a:E)
 |pop (o:E)
 |comp (fz:Bool) (elt:E) (tg:List Nat) (it:Wk) (fr:List Nat) (many:Nat) (cond:Eo)
 |Hx (fz:Bool) (elt:E) (tg:List Nat) (it:Wk) (Yi:List Nat) (Hr:Wk) (fr:List Nat) (many:Nat) (cond:Eo)
 |fld (o:E) (cs:List Nat) (i:Nat)
 |of (o:E) (c i:Nat)
 |mk (c f:Nat) (xs:Es)
 |cm (c f:Nat) (o:E) (xs:Es)
 |nG
 |vR (b:Bool) (k d:E)
 |kh (d k:E)
 |Dn (a:E)
 |Hy (fz:Bool) (a:E) (b:E)
 |orv (a b:E)
 |ins (o i a:E)
 |no
inductive Wk where
 |seq (e:E)
 |rg (a b:E)
 |zip (a b:E)
 |enum (a:E)
 |rrg (a:E)
inductive Es where
 |nil
 |cons (a:E) (r:Es)
inductive Eo where
 |no
 |yes (a:E)
end
noncomputable abbrev Ea(a:E):Es:=.cons a .nil
noncomputable abbrev Eb(a b:E):Es:=.cons a (.cons b .nil)
noncomputable abbrev Ec(a b c:E):Es:=.cons a (.cons b (.cons c .nil))
noncomputable abbrev Ei(a b:E):E:=.pr true .ix (.cons a (.cons b .nil))
noncomputable abbrev Ci(i:Int):E:=.c (.int i)
noncomputable def Es.len:Es->Nat
 |.nil=>0
 |.cons _ r=>r.len+1
inductive Tg where
 |nm (i:Nat)
 |tp (is:List Nat)
 |aq (o i:E)
mutual
inductive St where
 |pass
 |ex (e:E)
 |asg (t:Tg) (e:E)
 |par (i j:Nat) (a b:E)
 |aug (i:Nat) (e:E)
 |ret (e:E)
 |rise (c:Nat) (kp:Bool) (xs:Es)
 |iff (c:E) (t e:bT)
 |wh (c:E) (b:bT)
 |fr (t:Tg) (w:Wk) (b:bT)
 |Rq (b:bT) (d:Nat) (i:Nat) (h:bT)
 |dput (d k v:E)
 |no
inductive bT where
 |nil
 |cons (a:St) (r:bT)
end
noncomputable def dI(eq:D->D->Option Bool):List D->List D->Option Bool
 |[],[]=>some true
 |[],_::_=>some false
 |_::_,[]=>some false
 |x::xs,y::ys=>match eq x y,dI eq xs ys with
  |some a,some b=>some (a&&b)
  |_,_=>none
noncomputable def kq:D->Option Nat
 |.non=>some 0
 |.bl _=>some 1
 |.int _=>some 1
 |.str _=>some 2
 |.tup _=>some 3
 |.fl _=>some 4
 |_=>none
noncomputable def bY:Nat->D->D->Option Bool
 |n+1,.tup xs,.tup ys=>dI (bY n) xs ys
 |n+1,.fl xs,.fl ys=>dI (bY n) xs ys
 |_,.non,.non=>some true
 |_,.bl a,.bl b=>some (a==b)
 |_,.int a,.int b=>some (a==b)
 |_,.str a,.str b=>some (a==b)
 |_,.bl a,.int b=>some ((if a then 1 else 0)==b)
 |_,.int a,.bl b=>some (a==(if b then 1 else 0))
 |_,a,b=>match kq a,kq b with
  |some i,some j=>if i=j then none else some false
  |_,_=>none
noncomputable def b_:List D->Option (List Int)
 |[]=>some []
 |.int i::r=>(b_ r).map (i::·)
 |_=>none
noncomputable def ltI:List Int->List Int->Bool
 |_,[]=>false
 |[],_::_=>true
 |x::xs,y::ys=>if x=y then ltI xs ys else decide (x<y)
noncomputable def eO:List D->Option (List Bool)
 |[]=>some []
 |.bl b::r=>(eO r).map (b::·)
 |_=>none
noncomputable def cut{α:Type}(xs:List α)(lo hi:Option Int):List α:=(xs.drop (HT.bL xs.length 0 lo)).take (HT.bL xs.length xs.length hi-HT.bL xs.length 0 lo)
noncomputable def jH:D->Option (List D)
 |.tup xs=>some xs
 |.fl xs=>some xs
 |_=>none
noncomputable def cutD(x:D)(lo hi:Option Int):Option Rz:=match x with
 |.tup xs=>some (.dat (.tup (cut xs lo hi)))
 |.fl xs=>some (.nw (cut xs lo hi))
 |_=>none
noncomputable def memD(d:D):List D->Option Bool
 |[]=>some false
 |x::r=>match bY 50 x d,memD d r with
  |some a,some b=>some (a||b)
  |_,_=>none
noncomputable def Hz(d:D):List D->Nat
 |[]=>0
 |x::r=>Hz d r+(if bY 50 x d=some true then 1 else 0)
noncomputable def mD:Kd->D->Bool
 |.list,.fl _=>true
 |.str,.str _=>true
 |.dict,.fd _ _=>true
 |.tuple,.tup _=>true
 |_,_=>false
noncomputable def insI(x:Int):List Int->List Int
 |[]=>[x]
 |y::r=>if x<y then x::y::r else y::insI x r
noncomputable def sortI:List Int->List Int
 |[]=>[]
 |x::r=>insI x (sortI r)
noncomputable def cg(f:Int->Int->Option D):List D->Option Rz
 |[.int i,.int j]=>(f i j).map .dat
 |_=>none
noncomputable def pX(f:Int->D):List D->Option Rz
 |[.int i]=>some (.dat (f i))
 |_=>none
noncomputable def qM(f:List D->Option Rz):List D->Option Rz
 |[a]=>(jH a).bind f
 |_=>none
noncomputable def Ax:List D->Option Rz
 |[.int i,.int j]=>some (.dat (.int (i+j)))
 |[.tup xs,.tup ys]=>if xs.length+ys.length<=sizeLine then some (.dat (.tup (xs++ys))) else none
 |[.fl xs,.fl ys]=>if xs.length+ys.length<=sizeLine then some (.nw (xs++ys)) else none
 |[.str x,.str y]=>if x.length+y.length<=sizeLine then some (.dat (.str (x++y))) else none
 |_=>none
noncomputable def HB:List D->Option Rz
 |[.int i,.int j]=>some (.dat (.bl (decide (i<j))))
 |[.tup xs,.tup ys]=>match b_ xs,b_ ys with
  |some a,some b=>some (.dat (.bl (ltI a b)))
  |_,_=>none
 |_=>none
noncomputable def yc(f:Bool->Bool):List D->Option Rz
 |[a,b]=>(bY 50 a b).map λk=>.dat (.bl (f k))
 |_=>none
noncomputable def yd(f:Bool->Bool):List D->Option Rz
 |[a,b]=>((jH b).bind (memD a)).map λk=>.dat (.bl (f k))
 |_=>none
noncomputable def D.jJ:D->Bool
 |.non=>true
 |_=>false
noncomputable def Ay(f:Bool->Bool):List D->Option Rz
 |[a]=>some (.dat (.bl (f a.jJ)))
 |_=>none
noncomputable def HD:List D->Option Rz
 |[.int i]=>some (.dat (.int i))
 |[.bl k]=>some (.dat (.int (if k then 1 else 0)))
 |_=>none
noncomputable def Az:List D->Option Rz
 |[.fl xs]=>(eO xs).map λbs=>.dat (.bl (bs.all id))
 |_=>none
noncomputable def iK:List D->Option (List Int)
 |[]=>some []
 |.int i::r=>(iK r).map (i::·)
 |_=>none
noncomputable def best(bt:Int->Int->Bool)(i:Int)(is:List Int):Int:=is.foldl (λm j=>if bt j m then j else m) i
noncomputable def HF(bt:Int->Int->Bool):Option (List Int)->Option Rz
 |some (i::is)=>some (.dat (.int (best bt i is)))
 |_=>none
noncomputable def yg(bt:Int->Int->Bool):List D->Option Rz
 |[a]=>(jH a).bind λxs=>HF bt (iK xs)
 |_=>none
noncomputable def okR(i j:Int):Bool:=decide (-(2^62)<=i/\i<2^62/\-(2^62)<=j/\j<2^62/\(j-i).toNat<=65536)
noncomputable def HJ(i:Int)(n:Nat):List D:=(List.range n).map λk=>.int (i+(k:Nat))
noncomputable def Rr:List D->Option Rz
 |[.int j]=>if okR 0 j then some (.nw (HJ 0 (j-0).toNat)) else none
 |[.int i,.int j]=>if okR i j then some (.nw (HJ i (j-i).toNat)) else none
 |_=>none
noncomputable def A_:List D->Option Rz
 |[.int j]=>if okR 0 j then some (.dat (.tup (HJ 0 (j-0).toNat))) else none
 |_=>none
noncomputable def o8:List D->Option Rz
 |[a]=>(jH a).map λxs=>.dat (.tup xs)
 |_=>none
noncomputable def Rt:List D->Option Rz
 |[a,.int i]=>((jH a).bind λxs=>L2.nu xs i).map .dat
 |_=>none
noncomputable def qN:List D->List D->Option Bool
 |[],ys=>some (decide (0<ys.length))
 |_::_,[]=>some false
 |.int x::xs,.int y::ys=>if x=y then qN xs ys else some (decide (x<y))
 |_::_,_::_=>none
noncomputable def yh(xs:List D)(i j:Nat):Option Bool:=match xs[i]?,xs[j]? with
 |some (.int x),some (.int y)=>some (decide (x<y))
 |some (.tup us),some (.tup ws)=>qN us ws
 |_,_=>none
noncomputable def fH(b:List Int):List (List Int)->List Int
 |[]=>b
 |x::r=>fH (if ltI x b=true then x else b) r
noncomputable def jK:List D->Option (List (List Int))
 |[]=>some []
 |.tup xs::r=>match b_ xs,jK r with
  |some a,some b=>some (a::b)
  |_,_=>none
 |_=>none
noncomputable def nH:List D->Option Rz
 |[.fl xs]=>match jK xs with
  |some (x::r)=>some (.dat (.tup ((fH x r).map .int)))
  |_=>none
 |_=>none
noncomputable def jL:D->Bool
 |.int _=>true
 |_=>false
noncomputable def iM:D->Bool
 |.tup (.int _::_)=>true
 |_=>false
noncomputable def pY(lt:Nat->Nat->Option Bool)(xs:List D):Option (List D):=if xs.length<2 then some xs else if xs.length<64 then (match L2.bN lt (PySem.W.kas_sort xs.length) with
  |some p=>if p.size=xs.length then some (p.toList.map λi=>xs.getD i .non) else none
  |none=>none) else none
noncomputable def yj(xs:List D):Option (List D):=if xs.all jL||xs.all iM then pY (yh xs) xs else none
noncomputable def mF:List D->Option Rz
 |[.fl xs]=>(yj xs).map .nw
 |_=>none
noncomputable def ltK(ks:List Int)(i j:Nat):Option Bool:=match ks[i]?,ks[j]? with
 |some x,some y=>some (decide (x<y))
 |_,_=>none
noncomputable def Ru:List D->Option Rz
 |[.tup xs]=>some (.dat (.tup xs.reverse))
 |_=>none
noncomputable def Ba:List D->Option Rz
 |[.fl xs,d]=>(memD d xs).map λ_=>.dat (.int (Hz d xs:Nat))
 |_=>none
noncomputable def Bb:List D->Option Rz
 |[.fl xs,.bl b]=>((eO xs).bind λbs=>bs.idxOf? b).map λ(i:Nat)=>.dat (.int i)
 |_=>none
noncomputable def Rx:List D->Option Rz
 |[.int i]=>if i.natAbs<2^62 then some (.dat (.str (Str.ofString (toString i)))) else none
 |_=>none
noncomputable def L_(f:D->Option PyData):List D->Option (List PyData)
 |[]=>some []
 |x::r=>match f x,L_ f r with
  |some a,some b=>some (a::b)
  |_,_=>none
noncomputable def pd:Nat->D->Option PyData
 |n+1,.tup xs=>(L_ (pd n) xs).map .tuple
 |n+1,.fl xs=>(L_ (pd n) xs).map .list
 |_,.non=>some .none
 |_,.bl b=>some (.bool b)
 |_,.int i=>some (.int i)
 |_,.str x=>some (.str x)
 |_,_=>none
noncomputable def pe:Nat->D->Option PyData
 |n+1,.tup xs=>(L_ (pe n) xs).map .tuple
 |n+1,.fd [.str k] [.int i]=>some (.dict [(.str k,.int i)])
 |_,.non=>some .none
 |_,.bl b=>some (.bool b)
 |_,.int i=>some (.int i)
 |_,.str x=>some (.str x)
 |_,_=>none
noncomputable def orE(a b:Option PyData):Option PyData:=match a with
 |some d=>some d
 |none=>b
noncomputable def pdT:D->Option PyData
 |.fd [.str k] [.int i]=>some (.dict [(.str k,.int i)])
 |x=>orE (pd 40 x) (pe 40 x)
noncomputable def shw(d:PyData):Option Rz:=if d.showable=true/\d.shown.length<=sizeLine then some (.dat (.str d.shown)) else none
noncomputable def HN:List D->Option Rz
 |[x]=>(pdT x).bind shw
 |_=>none
noncomputable def yp:List (Int×Int):=[(0,1),(0,2),(0,3),(0,4),(0,5),(0,6),(0,7),(1,2),(1,3),(1,4),(1,5),(1,6),(1,7),(2,3),(2,4),(2,5),(2,6),(2,7),(3,4),(3,5),(3,6),(3,7),(4,5),(4,6),(4,7),(5,6),(5,7),(6,7)]
noncomputable def ss(ts:List (Int×Int)):List (Int×Int):=yp.filter λt=>ts.contains t
noncomputable def Ry:D->Option (Int×Int)
 |.tup [.int a,.int b]=>if 0<=a/\a<b/\b<8 then some (a,b) else none
 |_=>none
noncomputable def yq:List D->Option (List (Int×Int))
 |[]=>some []
 |x::r=>match Ry x,yq r with
  |some a,some b=>some (a::b)
  |_,_=>none
noncomputable def pSs:List D->Option Rz
 |[.tup xs]=>(yq xs).map λts=>.nw ((ss ts).map λp=>.tup [.int p.1,.int p.2])
 |_=>none
noncomputable def HS(is:List Int):Bool:=decide (is.length<=1000)&&is.all λi=>decide (-1000000<=i/\i<=1000000)
noncomputable def RB(is:List Int):Option Rz:=match HS is with
 |true=>some (.dat (.int is.sum))
 |false=>none
noncomputable def RD:List D->Option Rz
 |[a]=>(jH a).bind λxs=>(iK xs).bind RB
 |_=>none
noncomputable def ju:List Int->List Int
 |[]=>[]
 |x::r=>if r.contains x then ju r else x::ju r
noncomputable def HW(x:Int):Bool:=decide (-1<=x/\x<=34)||decide (100000000000000000000<=x/\x<=100000000000000000034)
noncomputable def RG(is:List Int):Bool:=decide (is.length<=18)&&is.all HW
noncomputable def HX(is:List Int):Option Rz:=match RG is with
 |true=>some (.dat (.int (ju is).length))
 |false=>none
noncomputable def HY:List D->Option Rz
 |[.tup xs]=>(iK xs).bind HX
 |_=>none
noncomputable def RJ(is:List Int):Option Rz:=match RG is with
 |true=>some (.nw ((sortI (ju is)).map .int))
 |false=>none
noncomputable def RK:List D->Option Rz
 |[.tup xs]=>(iK xs).bind RJ
 |_=>none
noncomputable def vU:List D->Option Rz
 |[.fl xs,.int i]=>((iK xs).bind λis=>is.idxOf? i).map λ(k:Nat)=>.dat (.int k)
 |_=>none
noncomputable def rep{α:Type}(xs:List α)(n:Nat):List α:=(List.replicate n xs).flatten
noncomputable def H_:List D->Option Rz
 |[.fl xs,.int n]=>if 0<=n/\n<=1000/\xs.length<=1000 then some (.nw (rep xs n.toNat)) else none
 |_=>none
noncomputable def Bc:List D->Option Rz
 |[.tup xs]=>if xs.all jL=true then (yj xs).map .nw else none
 |_=>none
noncomputable def yr:List D->Option Rz
 |[.tup xs,.int n]=>if 1<=n/\n<=1000/\1<=xs.length/\xs.length<=1000 then some (.dat (.tup (rep xs n.toNat))) else none
 |_=>none
noncomputable def RL(xs ys:List D):List D:=List.zipWith (λp q=>.tup [p,q]) xs ys
noncomputable def zlO(xs ys:List D):Option Rz:=if xs.length<=65536 then some (.nw (RL xs ys)) else none
noncomputable def Ia:List D->Option Rz
 |[a,b]=>match jH a,jH b with
  |some xs,some ys=>zlO xs ys
  |_,_=>none
 |_=>none
noncomputable def Ib:List D->Option Rz
 |[.fl xs]=>some (.nw (xs.drop 1).reverse)
 |_=>none
noncomputable def D.isB(b:Bool):D->Bool
 |.bl c=>b==c
 |_=>false
noncomputable def Bf(b:Bool)(f:Bool->Bool):List D->Option Rz
 |[a]=>some (.dat (.bl (f (a.isB b))))
 |_=>none
noncomputable def oF:List D->Option Nat
 |[]=>none
 |.tup []::_=>some 0
 |.tup (_::_)::r=>(oF r).map (·+1)
 |.non::r=>(oF r).map (·+1)
 |_=>none
noncomputable def Bg:List D->Option Rz
 |[.tup xs,.tup []]=>(oF xs).map λ(i:Nat)=>.dat (.int i)
 |_=>none
noncomputable def vV:D->Option Bool
 |.non=>some false
 |.bl b=>some b
 |.int i=>some (i != 0)
 |.tup xs=>some (!xs.isEmpty)
 |.fl xs=>some (!xs.isEmpty)
 |_=>none
noncomputable def prim:Pr->List D->Option Rz
 |.add=>Ax
 |.aq=>cg λi j=>some (.int (i-j))
 |.mul=>cg λi j=>if (-(2^64)<i/\i<2^64)\/(-(2^64)<j/\j<2^64) then some (.int (i*j)) else none
 |.fdiv=>cg λi j=>if 0<j/\j<1073741824 then some (.int (i/j)) else none
 |.mod=>cg λi j=>if 0<j then some (.int (i%j)) else none
 |.pow=>cg λi j=>if 0<=j/\j<=1000000/\i.natAbs<2^64 then some (.int (i^j.toNat)) else none
 |.neg=>pX λi=>.int (-i)
 |.eq=>yc id
 |.ne=>yc not
 |.lt=>HB
 |.le=>cg λi j=>some (.bl (decide (i<=j)))
 |.gt=>cg λi j=>some (.bl (decide (j<i)))
 |.ge=>cg λi j=>some (.bl (decide (j<=i)))
 |.inn=>yd id
 |.nin=>yd not
 |.pU=>Ay id
 |.mZ=>Ay not
 |.len=>qM λxs=>some (.dat (.int xs.length))
 |.abs=>pX λi=>.int (if i<0 then -i else i)
 |.max2=>cg λi j=>some (.int (if j>i then j else i))
 |.min2=>cg λi j=>some (.int (if j<i then j else i))
 |.vQ=>HD
 |.divmod=>cg λi j=>if 0<j/\j<1073741824 then some (.tup [.int (i/j),.int (i%j)]) else none
 |.all=>Az
 |.Yh=>Rr
 |.Ht=>yg λa b=>decide (a>b)
 |.Hu=>yg λa b=>decide (a<b)
 |.qK=>nH
 |.Dm=>A_
 |.list=>qM λxs=>some (.nw xs)
 |.tuple=>o8
 |.ix=>Rt
 |.rev=>Ru
 |.sorted=>mF
 |.pW=>pSs
 |.Hv=>H_
 |.mult=>yr
 |.xY=>Bc
 |.sum=>RD
 |.sW=>HY
 |.count=>Ba
 |.index=>Bb
 |.repr=>HN
 |.str1=>Rx
 |.LR=>cg λi j=>some (.bl (!decide (0<=i/\i<j)))
 |.Ro=>Ia
 |.Rp=>Ib
 |.shl=>cg λi j=>if 0<=j/\j<=64/\i.natAbs<2^64 then some (.int (i*2^j.toNat)) else none
 |.shr=>cg λi j=>if 0<=j/\j<=64/\0<=i then some (.int (i/2^j.toNat)) else none
 |.band=>cg λi j=>if j=1/\0<=i then some (.int (i%2)) else none
 |.isT=>Bf true id
 |.noT=>Bf true not
 |.isF=>Bf false id
 |.oF=>Bg
 |.Av=>RK
 |.Aw=>vU
noncomputable def lq(aq:Nat->Nat->Bool):D->Kd->Option Bool
 |.exc c _,.cls e=>some (aq c e)
 |.exc _ _,.qL=>some true
 |.exc _ _,_=>none
 |.ob _ _,_=>none
 |.any,_=>none
 |_,.cls _=>none
 |_,.qL=>none
 |.bl _,.bool=>some true
 |.bl _,.int=>some true
 |.bl _,_=>some false
 |.int _,.int=>some true
 |.int _,_=>some false
 |.non,_=>some false
 |.str _,.str=>some true
 |.str _,_=>some false
 |.tup _,.tuple=>some true
 |.tup _,_=>some false
 |.fl _,.list=>some true
 |.fl _,_=>some false
 |.fd _ _,.dict=>some true
 |.fd _ _,_=>some false
noncomputable def rd(x:Xv):M D:=λs=>match x with
 |.d v=>some (.ok v,s)
 |.l n=>match s[n]? with
  |some (.lst xs)=>some (.ok (.fl xs),s)
  |_=>none
noncomputable def gb:List Xv->M (List D)
 |[]=>M.ret []
 |x::r=>M.bd (rd x) λd=>M.bd (gb r) λds=>M.ret (d::ds)
noncomputable def dat(x:Xv):M D:=match x with
 |.d v=>M.ret v
 |.l _=>M.no
noncomputable def cB:List Xv->M (List D)
 |[]=>M.ret []
 |x::r=>M.bd (dat x) λd=>M.bd (cB r) λds=>M.ret (d::ds)
noncomputable def bool(x:Xv):M Bool:=match x with
 |.d (.bl b)=>M.ret b
 |_=>M.no
noncomputable def int(x:Xv):M Int:=match x with
 |.d (.int b)=>M.ret b
 |_=>M.no
noncomputable def newL(fz:Bool)(xs:List D):M Xv:=match fz with
 |true=>M.ret (.d (.fl xs))
 |false=>λs=>some (.ok (.l s.length),s++[.lst xs])
noncomputable def bV(fz:Bool)(o:Option Rz):M Xv:=match o with
 |some (.dat d)=>M.ret (.d d)
 |some (.nw xs)=>newL fz xs
 |none=>M.no
noncomputable def cJ(x:Xv):M (Nat×List D):=λs=>match x with
 |.l n=>match s[n]? with
  |some (.lst xs)=>some (.ok (n,xs),s)
  |_=>none
 |_=>none
noncomputable def putL(n:Nat)(xs:List D):M Unit:=λs=>some (.ok (),s.set n (.lst xs))
noncomputable def sX:D->Option Kx
 |.non=>some .non
 |.int i=>some (.int i)
 |.tup xs=>(b_ xs).map .row
 |_=>none
noncomputable def Bh:List D->Option (List Kx)
 |[]=>some []
 |x::r=>match sX x,Bh r with
  |some a,some b=>some (a::b)
  |_,_=>none
noncomputable def kOf:D->Option (List Kx)
 |.tup xs=>Bh xs
 |_=>none
noncomputable abbrev gY:=List (List Kx×D)
noncomputable def bO(k:List Kx):gY->Option D
 |[]=>none
 |p::r=>if p.1=k then some p.2 else bO k r
noncomputable def iQ(k:List Kx)(d:D)(r:gY):gY:=if (bO k r).isSome=true then r.map λp=>if p.1=k then (p.1,d) else p else r++[(k,d)]
noncomputable def fK(x:Xv):M (Nat×gY):=λs=>match x with
 |.l n=>match s[n]? with
  |some (.dct kvs)=>some (.ok (n,kvs),s)
  |_=>none
 |_=>none
noncomputable def putD(n:Nat)(kvs:gY):M Unit:=λs=>some (.ok (),s.set n (.dct kvs))
noncomputable def key(x:Xv):M (List Kx):=match x with
 |.d v=>M.opt (kOf v)
 |.l _=>M.no
noncomputable def enumFrom:Nat->List D->List D
 |_,[]=>[]
 |i,x::r=>.tup [.int i,x]::enumFrom (i+1) r
inductive Src where
 |fix (xs:List D)|live (n:Nat)|lu (n:Nat)
noncomputable def Src.at(c:Src)(i:Nat)(s:S):Option (Option D):=match c with
 |.fix xs=>some xs[i]?
 |.live n=>match s[n]? with
  |some (.lst xs)=>some xs[i]?
  |_=>none
 |.lu n=>match s[n]? with
  |some (.lst xs)=>some (xs[i]?.map λx=>.tup [.int i,x])
  |_=>none
noncomputable def nJ(x:Xv):M (Src×Nat):=λs=>match x with
 |.d (.tup xs)=>some (.ok (.fix (enumFrom 0 xs),(enumFrom 0 xs).length),s)
 |.d (.fl xs)=>some (.ok (.fix (enumFrom 0 xs),(enumFrom 0 xs).length),s)
 |.l n=>match s[n]? with
  |some (.lst xs)=>some (.ok (.lu n,xs.length),s)
  |_=>none
 |_=>none
noncomputable def src(x:Xv):M (Src×Nat):=λs=>match x with
 |.d (.tup xs)=>some (.ok (.fix xs,xs.length),s)
 |.d (.fl xs)=>some (.ok (.fix xs,xs.length),s)
 |.l n=>match s[n]? with
  |some (.lst xs)=>some (.ok (.live n,xs.length),s)
  |_=>none
 |_=>none
noncomputable def o9(x:Xv):M (List D):=match x with
 |.d (.tup xs)=>M.ret xs
 |.d (.fl xs)=>M.ret xs
 |_=>M.no
noncomputable def gZ(a b:Int):List D:=(List.range (b-a).toNat).map λ(i:Nat)=>.int (a+i)
noncomputable def fL(a:Int):Bool:=decide (-(2^62)<a)&&decide (a<2^62)
noncomputable def walk(c:Src)(f:D->List D->M (List D)):Nat->Nat->List D->M (List D)
 |0,_,_=>M.no
 |k+1,i,acc=>λs=>match c.at i s with
  |none=>none
  |some none=>some (.ok acc,s)
  |some (some x)=>M.bd (f x acc) (λacc'=>walk c f k (i+1) acc') s
noncomputable def yt(f:D->M Xv):List D->Option (List Int)
 |[]=>some []
 |x::r=>match f x [] with
  |some (.ok (.d (.int k)),[])=>(yt f r).map (k::·)
  |_=>none
noncomputable abbrev Vs:=List (Option Xv)
noncomputable abbrev Fn:=Nat->List Xv->M Xv
noncomputable def locs:List Xv->List Nat
 |[]=>[]
 |.d _::r=>locs r
 |.l n::r=>n::locs r
noncomputable def cU:Nat->List Xv->List Xv
 |_,[]=>[]
 |k,.d v::r=>.d v::cU k r
 |k,.l _::r=>.l k::cU (k+1) r
noncomputable def iR(s:S):List Nat->Option S
 |[]=>some []
 |n::r=>match s[n]?,iR s r with
  |some o,some q=>some (o::q)
  |_,_=>none
noncomputable def cV(s:S):List Nat->S->S
 |n::r,o::q=>cV (s.set n o) r q
 |_,_=>s
noncomputable def bR(F:List Xv->M Xv)(xs:List Xv):M Xv:=λs=>
 if (locs xs).Nodup then match iR s (locs xs) with
  |none=>none
  |some s0=>match F (cU 0 xs) s0 with
   |none=>none
   |some (.er c fs,s1)=>some (.er c fs,cV s (locs xs) s1)
   |some (.ok (.d v),s1)=>some (.ok (.d v),cV s (locs xs) s1)
   |some (.ok (.l n),s1)=>match (locs xs)[n]? with
    |some m=>some (.ok (.l m),cV s (locs xs) s1)
    |none=>match s1[n]? with
     |some o=>some (.ok (.l s.length),cV s (locs xs) s1++[o])
     |none=>none
 else none
noncomputable def RM(F:List Xv->M Xv)(c:Nat)(vs:List Xv):M Xv:=λs=>
 if locs vs=[] then match F (.d .any::vs) [] with
  |some (.ok (.d (.tup ds)),_)=>some (.ok (.d (.ob c ds)),s)
  |_=>none
 else none
noncomputable def qO(c:Nat)(x:Xv):M (List D):=match x with
 |.d (.ob e fs)=>if e=c then M.ret fs else M.no
 |_=>M.no
noncomputable def gH{α:Type}:List Nat->List α->List (Option α)->Option (List (Option α))
 |[],[],J=>some J
 |i::is,d::ds,J=>gH is ds (J.set i (some d))
 |_,_,_=>none
noncomputable def lA:D->Option (List D)
 |.tup xs=>some xs
 |_=>none
noncomputable def gB(tg:List Nat)(x:D)(J:Vs):Option Vs:=match tg with
 |[i]=>some (J.set i (some (.d x)))
 |is=>(lA x).bind λds=>gH is (ds.map .d) J
noncomputable def blk(many:Nat)(fr:List Nat)(J:Vs):Vs:=List.replicate many none++fr.map λj=>J[j]?.join
section
variable (aq:Nat->Nat->Bool)(aj:Bool)(F:Fn)
mutual
noncomputable def ev:E->Vs->M Xv
 |.c d,_=>M.ret (.d d)
 |.v i,J=>M.opt (J[i]?.join)
 |.pr fz p xs,J=>M.bd (evs xs J) λvs=>M.bd (gb vs) λds=>bV fz (prim p ds)
 |.xZ p q a b c,J=>M.bd (ev a J) λx=>M.bd (ev b J) λy=>M.bd (gb [x,y]) λds=>M.bd (bV true (prim p ds)) λt=>M.bd (bool t) λk=>
   if k=true then M.bd (ev c J) λz=>M.bd (gb [y,z]) λds=>bV true (prim q ds) else M.ret (.d (.bl false))
 |.ch3 p q r a b c d,J=>M.bd (ev a J) λx=>M.bd (ev b J) λy=>M.bd (gb [x,y]) λds=>M.bd (bV true (prim p ds)) λt=>M.bd (bool t) λk=>
   if k=true then M.bd (ev c J) λz=>M.bd (gb [y,z]) λds=>M.bd (bV true (prim q ds)) λt=>M.bd (bool t) λk2=>
    if k2=true then M.bd (ev d J) λw=>M.bd (gb [z,w]) λds=>bV true (prim r ds) else M.ret (.d (.bl false))
   else M.ret (.d (.bl false))
 |.and a b,J=>M.bd (ev a J) λx=>M.bd (bool x) λk=>if k=true then ev b J else M.ret (.d (.bl false))
 |.or a b,J=>M.bd (ev a J) λx=>M.bd (bool x) λk=>if k=true then M.ret (.d (.bl true)) else ev b J
 |.not a,J=>M.bd (ev a J) λx=>M.bd (bool x) λk=>M.ret (.d (.bl (!k)))
 |.ite c a b,J=>M.bd (ev c J) λx=>M.bd (bool x) λk=>if k=true then ev a J else ev b J
 |.tup xs,J=>M.bd (evs xs J) λvs=>M.bd (cB vs) λds=>M.ret (.d (.tup ds))
 |.lst fz xs,J=>M.bd (evs xs J) λvs=>M.bd (cB vs) λds=>newL fz ds
 |.Hw k i,_=>M.ret (.d (.fd [.str k] [.int i]))
 |.call f xs,J=>M.bd (evs xs J) λvs=>bR (F f) vs
 |.mC a k,J=>M.bd (ev a J) λx=>M.bd (rd x) λd=>M.bd (M.opt (lq aq d k)) λb=>M.ret (.d (.bl b))
 |.sl fz a lo hi,J=>M.bd (ev a J) λx=>M.bd (vW lo J) λl=>M.bd (vW hi J) λh=>M.bd (rd x) λd=>bV fz (cutD d l h)
 |.meth fz p k o xs,J=>M.bd (ev o J) λx=>M.bd (rd x) λd=>if mD k d=true then M.bd (evs xs J) λys=>M.bd (gb (x::ys)) λds=>bV fz (prim p ds) else M.no
 |.push o a,J=>M.bd (ev o J) λx=>M.bd (cJ x) λ_=>M.bd (ev a J) λy=>M.bd (dat y) λd=>M.bd (cJ x) λnx=>if nx.2.length<sizeLine then M.bd (putL nx.1 (nx.2++[d])) λ_=>M.ret (.d .non) else M.no
 |.pop o,J=>M.bd (ev o J) λx=>M.bd (cJ x) λnx=>match nx.2.getLast? with
   |some d=>M.bd (putL nx.1 nx.2.dropLast) λ_=>M.ret (.d d)
   |none=>M.no
 |.comp fz elt tg it fr many cond,J=>if aj=true then M.bd (mH it J) λcn=>
   M.bd (walk cn.1 (λd acc=>M.bd (M.opt (gB tg d (blk many fr J))) λJ'=>M.bd (M.qt (pZ cond J')) λok=>
    if ok=true then M.bd (M.qt (ev elt J')) λy=>M.bd (dat y) λe=>if acc.length<sizeLine then M.ret (acc++[e]) else M.no else M.ret acc) (cn.2+1) 0 []) λxs=>newL fz xs
  else M.no
 |.Hx fz elt tg it Yi Hr fr many cond,J=>if aj=true then M.bd (mH it J) λcn=>
   M.bd (walk cn.1 (λd acc=>M.bd (M.opt (gB tg d (blk many fr J))) λJ'=>M.bd (M.qt (mH Hr J')) λYj=>
    walk Yj.1 (λd2 acc=>M.bd (M.opt (gB Yi d2 J')) λYk=>M.bd (M.qt (pZ cond Yk)) λok=>
     if ok=true then M.bd (M.qt (ev elt Yk)) λy=>M.bd (dat y) λe=>if acc.length<sizeLine then M.ret (acc++[e]) else M.no else M.ret acc) (Yj.2+1) 0 acc) (cn.2+1) 0 []) λxs=>newL fz xs
  else M.no
 |.fld o cs i,J=>M.bd (ev o J) λx=>match x with
   |.d (.exc c fs)=>if cs.contains c=true then M.opt (fs[i]?.map .d) else M.no
   |_=>M.no
 |.of o c i,J=>M.bd (ev o J) λx=>M.bd (qO c x) λfs=>M.opt (fs[i]?.map .d)
 |.mk c f xs,J=>M.bd (evs xs J) λvs=>RM (F f) c vs
 |.cm c f o xs,J=>M.bd (ev o J) λx=>M.bd (qO c x) λ_=>M.bd (evs xs J) λvs=>M.qt (bR (F f) (x::vs))
 |.nG,_=>λs=>some (.ok (.l s.length),s++[.dct []])
 |.vR b k d,J=>M.bd (ev k J) λx=>M.bd (ev d J) λy=>M.bd (key x) λkx=>M.bd (fK y) λnk=>M.ret (.d (.bl ((bO kx nk.2).isSome==b)))
 |.kh d k,J=>M.bd (ev d J) λy=>M.bd (ev k J) λx=>M.bd (key x) λkx=>M.bd (fK y) λnk=>M.opt ((bO kx nk.2).map .d)
 |.Dn a,J=>M.bd (ev a J) λx=>M.bd (rd x) λd=>M.bd (M.opt (vV d)) λk=>M.ret (.d (.bl k))
 |.Hy fz a b,J=>if aj=true then M.bd (ev a J) λx=>match x with
   |.d (.fl xs)=>M.bd (M.opt (yt (λd=>ev b [some (.d d)]) xs)) λks=>M.bd (M.opt (pY (ltK ks) xs)) λys=>newL fz ys
   |_=>M.no else M.no
 |.orv a b,J=>M.bd (ev a J) λx=>M.bd (rd x) λd=>M.bd (M.opt (vV d)) λk=>if k=true then M.ret x else ev b J
 |.ins o i a,J=>M.bd (ev o J) λx=>M.bd (cJ x) λ_=>M.bd (ev i J) λz=>M.bd (int z) λj=>M.bd (ev a J) λy=>M.bd (dat y) λd=>M.bd (cJ x) λnx=>if 0<=j/\j<=nx.2.length/\nx.2.length<sizeLine then M.bd (putL nx.1 (nx.2.take j.toNat++d::nx.2.drop j.toNat)) λ_=>M.ret (.d .non) else M.no
 |.no,_=>M.no
noncomputable def mH:Wk->Vs->M (Src×Nat)
 |.seq e,J=>M.bd (ev e J) src
 |.rg a b,J=>M.bd (ev a J) λx=>M.bd (ev b J) λy=>M.bd (int x) λi=>M.bd (int y) λj=>if fL i&&fL j then M.ret (.fix (gZ i j),(gZ i j).length) else M.no
 |.zip a b,J=>M.bd (ev a J) λx=>M.bd (ev b J) λy=>M.bd (o9 x) λxs=>M.bd (o9 y) λys=>M.ret (.fix (List.zipWith (λp q=>.tup [p,q]) xs ys),(List.zipWith (λ(p q:D)=>D.tup [p,q]) xs ys).length)
 |.enum a,J=>M.bd (ev a J) nJ
 |.rrg a,J=>M.bd (ev a J) λx=>M.bd (int x) λi=>if fL i then M.ret (.fix (gZ 0 i).reverse,(gZ 0 i).length) else M.no
noncomputable def vW:Eo->Vs->M (Option Int)
 |.no,_=>M.ret none
 |.yes a,J=>M.bd (ev a J) λx=>M.bd (int x) λi=>M.ret (some i)
noncomputable def pZ:Eo->Vs->M Bool
 |.no,_=>M.ret true
 |.yes a,J=>M.bd (ev a J) bool
noncomputable def evs:Es->Vs->M (List Xv)
 |.nil,_=>M.ret []
 |.cons a r,J=>M.bd (ev a J) λx=>M.bd (evs r J) λxs=>M.ret (x::xs)
end
end
inductive Out where
 |nx (J:Vs)|rt (x:Xv)|bk (J:Vs)|ct (J:Vs)|er (c:Nat) (fs:List D) (J:Vs)
noncomputable abbrev MS:=S->Option (Out×S)
noncomputable def ofM{α:Type}(m:M α)(J:Vs)(k:α->MS):MS:=λs=>match m s with
 |some (.ok a,s')=>k a s'
 |some (.er c fs,s')=>some (.er c fs J,s')
 |none=>none
noncomputable def cC(m:MS)(k:Vs->MS):MS:=λs=>match m s with
 |some (.nx J,s')=>k J s'
 |r=>r
section
variable (aq:Nat->Nat->Bool)
noncomputable def store(aj:Bool)(F:Fn)(t:Tg)(x:Xv)(J:Vs):MS:=match t with
 |.nm i=>λs=>some (.nx (J.set i (some x)),s)
 |.tp is=>if aj=true then ofM (M.bd (dat x) λd=>M.opt ((lA d).bind λds=>gH is (ds.map .d) J)) J (λJ' s=>some (.nx J',s)) else λ_=>none
 |.aq o i=>ofM (M.bd (dat x) λd=>M.bd (ev aq aj F o J) λy=>M.bd (ev aq aj F i J) λz=>M.bd (int z) λj=>M.bd (cJ y) λnx=>
   match L2.oE nx.2.length j with
   |some q=>putL nx.1 (nx.2.set q d)
   |none=>M.no) J (λ_ s=>some (.nx J,s))
noncomputable def gJ(c:Vs->M Bool)(b:Vs->MS):Nat->Vs->MS
 |0,_=>λ_=>none
 |k+1,J=>ofM (c J) J λok=>if ok=true then λs=>match b J s with
   |some (.nx J',s')=>gJ c b k J' s'
   |some (.ct J',s')=>gJ c b k J' s'
   |some (.bk J',s')=>some (.nx J',s')
   |r=>r
  else λs=>some (.nx J,s)
noncomputable def dJ(c:Src)(b:D->Vs->MS):Nat->Nat->Vs->MS
 |0,_,_=>λ_=>none
 |k+1,i,J=>λs=>match c.at i s with
  |none=>none
  |some none=>some (.nx J,s)
  |some (some d)=>match b d J s with
   |some (.nx J',s')=>dJ c b k (i+1) J' s'
   |some (.ct J',s')=>dJ c b k (i+1) J' s'
   |some (.bk J',s')=>some (.nx J',s')
   |r=>r
noncomputable def goes(i:Nat):Out->Out
 |.nx J=>.nx (J.set i none)
 |.bk J=>.bk (J.set i none)
 |.ct J=>.ct (J.set i none)
 |r=>r
noncomputable def nM:Nat:=1000000000000
mutual
noncomputable def ex(aj:Bool)(F:Bool->Fn):St->Vs->MS
 |.pass,J=>λs=>some (.nx J,s)
 |.ex e,J=>ofM (ev aq aj (F aj) e J) J λ_ s=>some (.nx J,s)
 |.asg t e,J=>ofM (ev aq aj (F aj) e J) J λx=>store aq aj (F aj) t x J
 |.par i j a b,J=>if aj=true then ofM (M.bd (ev aq aj (F aj) a J) λx=>M.bd (ev aq aj (F aj) b J) λy=>M.ret (x,y)) J λxy s=>some (.nx ((J.set i (some xy.1)).set j (some xy.2)),s) else λ_=>none
 |.aug i e,J=>ofM (M.bd (M.opt (J[i]?.join)) λx=>M.bd (ev aq aj (F aj) e J) λy=>M.bd (int x) λp=>M.bd (int y) λq=>M.ret (p+q)) J λr s=>some (.nx (J.set i (some (.d (.int r)))),s)
 |.ret e,J=>ofM (ev aq aj (F aj) e J) J λx s=>some (.rt x,s)
 |.rise c kp xs,J=>if aj=true then ofM (M.bd (evs aq aj (F aj) xs J) cB) J λds s=>some (.er c (if kp=true then ds else []) J,s) else λ_=>none
 |.iff c t e,J=>ofM (M.bd (ev aq aj (F aj) c J) bool) J λb=>if b=true then exs aj F t J else exs aj F e J
 |.wh c b,J=>gJ (λJ=>M.bd (ev aq aj (F aj) c J) bool) (λJ=>exs aj F b J) nM J
 |.fr t w b,J=>if aj=true then ofM (mH aq aj (F aj) w J) J λcn=>dJ cn.1 (λd J=>cC (store aq aj (F aj) t (.d d) J) λJ'=>exs aj F b J') (cn.2+1) 0 J else λ_=>none
 |.Rq b d i h,J=>if aj=true then λs=>match exs aj F b J s with
   |some (.er c fs J',s')=>if aq c d=true then (match exs false F h (J'.set i (some (.d (.exc c fs)))) s' with
    |some (r,s'')=>(match r with
     |.er _ _ _=>none
     |r=>some (goes i r,s''))
    |none=>none) else none
   |r=>r
  else λ_=>none
 |.dput d k v,J=>ofM (M.bd (ev aq aj (F aj) v J) λz=>M.bd (dat z) λw=>M.bd (ev aq aj (F aj) d J) λy=>M.bd (ev aq aj (F aj) k J) λx=>M.bd (key x) λkx=>M.bd (fK y) λnk=>if nk.2.length<sizeLine then putD nk.1 (iQ kx w nk.2) else M.no) J (λ_ s=>some (.nx J,s))
 |.no,_=>λ_=>none
noncomputable def exs(aj:Bool)(F:Bool->Fn):bT->Vs->MS
 |.nil,J=>λs=>some (.nx J,s)
 |.cons a r,J=>cC (ex aj F a J) λJ'=>exs aj F r J'
end
structure Df where
 many:Nat
 g8:Nat
 body:bT
noncomputable def call(T:Nat->Option Df):Nat->Bool->Fn
 |0,_,_,_=>M.no
 |k+1,aj,f,xs=>match T f with
  |none=>M.no
  |some d=>if xs.length=d.g8 then λs=>match exs aq aj (λc=>call T k c) d.body (xs.map some++List.replicate (d.many-d.g8) none) s with
    |some (.nx _,s')=>some (.ok (.d .non),s')
    |some (.rt v,s')=>some (.ok v,s')
    |some (.er c fs _,s')=>some (.er c fs,s')
    |_=>none
   else M.no
end
end Mi
namespace Mi
open PySem L2
structure Ph where
 z:Addr->Prop
 l:List Addr
structure Cl where
 a:Nat->Addr
 f:Nat->List Str
 b:Nat->Addr
 g:Nat->List Str
section
variable (K:W.Frag)(cA:Cl)
def KT(a:Addr)(vs:List V):Prop:=fD K (λ_=>none) a vs
def KL(a:Addr)(vs:List V):Prop:=cR K (λ_=>none) a vs
def TupAt(U:Ph)(H:Hp)(a:Addr)(vs:List V):Prop:=(Rd H a (.tup vs)/\¬U.z a)\/KT K a vs
def LstAt(U:Ph)(H:Hp)(a:Addr)(vs:List V):Prop:=(Rd H a (.lst vs)/\¬U.z a)\/KL K a vs
def ExcAt(U:Ph)(H:Hp)(a:Addr)(c:Nat)(vs:List V):Prop:=¬U.z a/\((cA.f c=[]/\vs=[]/\H a=some (vO a (cA.a c) none))\/∃dx,H a=some (vO a (cA.a c) (some dx))/\¬U.z dx/\H dx=some (.xd ((cA.f c).zip vs))/\(cA.f c).length=vs.length)
def o_(U:Ph)(H:Hp)(a:Addr)(c:Nat)(vs:List V):Prop:=¬U.z a/\∃dx,H a=some (.ins (cA.b c) dx ((cA.g c).zip vs))/\(cA.g c).length=vs.length
mutual
inductive Rep (U:Ph) (H:Hp):D->V->Prop where
 |non:Rep U H .non .non
 |bl (b:Bool):Rep U H (.bl b) (.bl b)
 |int (i:Int):Rep U H (.int i) (.int i)
 |str (x:Str):Rep U H (.str x) (.str x)
 |tup {a:Addr} {xs:List D} {vs:List V} (h:TupAt K U H a vs) (r:aC U H xs vs):Rep U H (.tup xs) (.ref a)
 |fl {a:Addr} {xs:List D} {vs:List V} (h:LstAt K U H a vs) (r:aC U H xs vs):Rep U H (.fl xs) (.ref a)
 |fd {a:Addr} {k:Str} {i:Int} (h:H a=some (.dK [(.inr k,.int i)])) (n:¬U.z a):Rep U H (.fd [.str k] [.int i]) (.ref a)
 |exc {a:Addr} {c:Nat} {xs:List D} {vs:List V} (h:ExcAt cA U H a c vs) (r:aC U H xs vs):Rep U H (.exc c xs) (.ref a)
 |ob {a:Addr} {c:Nat} {xs:List D} {vs:List V} (h:o_ cA U H a c vs) (r:aC U H xs vs):Rep U H (.ob c xs) (.ref a)
 |any (a:Addr):Rep U H .any (.ref a)
inductive aC (U:Ph) (H:Hp):List D->List V->Prop where
 |nil:aC U H [] []
 |cons {d:D} {v:V} {ds:List D} {vs:List V} (h:Rep U H d v) (r:aC U H ds vs):aC U H (d::ds) (v::vs)
end
inductive aW (U:Ph) (H:Hp):Xv->V->Prop where
 |d {x:D} {v:V} (h:Rep K cA U H x v):aW U H (.d x) v
 |l {n:Nat} {a:Addr} (h:U.l[n]?=some a):aW U H (.l n) (.ref a)
inductive aQ (U:Ph) (H:Hp):List Xv->List V->Prop where
 |nil:aQ U H [] []
 |cons {d:Xv} {v:V} {ds:List Xv} {vs:List V} (h:aW K cA U H d v) (r:aQ U H ds vs):aQ U H (d::ds) (v::vs)
noncomputable def RN:Kx->Int
 |.non=>reduceHash 0xFCA86420
 |.int i=>hashInt i
 |.row is=>reduceHash (Builtin.Tuple.tupleHashOf (is.map hashInt))
noncomputable def p7(k:List Kx):Int:=reduceHash (Builtin.Tuple.tupleHashOf (k.map RN))
noncomputable def qP:Kx->D
 |.non=>.non
 |.int i=>.int i
 |.row is=>.tup (is.map .int)
noncomputable def iU(k:List Kx):D:=.tup (k.map qP)
noncomputable abbrev mJ:=List (List Kx×Addr×Value)
noncomputable def sY(a:Addr)(xs:mJ):HO:=.ext λh=>(a==sysModules)=false/\xs.length<=sizeLine/\∃o es ep,h.get? a=some o/\o.ExactDict/\o.data=.dict es ep/\es.toList=xs.map (λx=>⟨p7 x.1,.ref x.2.1,x.2.2⟩)/\(xs.map (·.1)).Nodup
inductive je (U:Ph) (H:Hp):gY->mJ->Prop where
 |nil:je U H [] []
 |cons {k:List Kx} {d:D} {ka:Addr} {u:Value} {v:V} {r:gY} {xs:mJ} (hk:Rep K cA U H (iU k) (.ref ka)) (hu:RelV v u) (hv:Rep K cA U H d v) (q:je U H r xs):je U H ((k,d)::r) ((k,ka,u)::xs)
noncomputable def jR(U:Ph)(H:Hp)(a:Addr):SO->Prop
 |.lst xs=>∃vs,H a=some (.lst vs)/\aC K cA U H xs vs
 |.dct kvs=>∃xs,H a=some (sY a xs)/\je K cA U H kvs xs
structure aH(U:Ph)(H:Hp)(s:S):Prop where
 len:U.l.length=s.length
 obj:∀(n:Nat) o a,s[n]?=some o->U.l[n]?=some a->jR K cA U H a o
 uniq:U.l.Nodup
 lz:∀a∈U.l,U.z a
 zt:∀a,U.z a->∃o,H a=some o
structure Ext(U:Ph)(H:Hp)(U':Ph)(H':Hp):Prop where
 more:∃r,U'.l=U.l++r/\∀b∈r,H b=none
 rE:∀a,U.z a->U'.z a
 mK:∀a,U'.z a->U.z a\/H a=none
 frame:∀a o,H a=some o->a∉U.l->H' a=some o
 stay:∀a o,H a=some o->∃o',H' a=some o'
def bx(U:Ph)(H:Hp)(Z:L2.St)(J:Vs):Prop:=Z.length=J.length/\∀(i:Nat) (x:Xv),J[i]?=some (some x)->∃v,Z[i]?=some (some v)/\aW K cA U H x v
end
section
variable {K:W.Frag}{cA:Cl}{U U' RP:Ph}{H H' Ie:Hp}{s:S}{Z:L2.St}{J:Vs}
theorem Ext.refl:Ext U H U H:=⟨⟨[],by simp,by simp⟩,λ_ h=>h,λ_ h=>.inl h,λ_ _ h _=>h,λ_ o h=>⟨o,h⟩⟩
theorem Ext.lB(x:Ext U H U' H'){a:Addr}(h:H' a=none):H a=none:=by
 cases e:H a with
 |none=>rfl
 |some o=>obtain⟨o',q⟩:=x.stay a o e;rw[h] at q;cases q
theorem Ext.trans(x:Ext U H U' H')(y:Ext U' H' RP Ie):Ext U H RP Ie:=by
 obtain⟨r,e,hr⟩:=x.more;obtain⟨r',e',Dp⟩:=y.more;refine⟨⟨r++r',by rw[e',e,Kp],λb hb=>?_⟩,λa h=>y.rE a (x.rE a h),λa h=>?_,λa o h n=>y.frame a o (x.frame a o h n) ?_,λa o h=>?_⟩
 ·rcases kO.mp hb with z|z
  ·exact hr b z
  ·exact x.lB (Dp b z)
 ·rcases y.mK a h with z|z
  ·exact x.mK a z
  ·exact .inr (x.lB z)
 ·rw[e];intro z;rcases kO.mp z with z|z
  ·exact n z
  ·rw[hr a z] at h;cases h
 ·obtain⟨o',q⟩:=x.stay a o h;exact y.stay a o' q
theorem Ext.get(x:Ext U H U' H'){n:Nat}{a:Addr}(h:U.l[n]?=some a):U'.l[n]?=some a:=by
 obtain⟨r,e,_⟩:=x.more;rw[e,oM (cI.mp h).1];exact h
theorem Ext.out(x:Ext U H U' H')(hz:∀a∈U.l,U.z a){a:Addr}{o:HO}(h:H a=some o)(n:¬U.z a):H' a=some o/\¬U'.z a:=
 ⟨x.frame a o h λz=>n (hz a z),λz=>by
  rcases x.mK a z with y|y
  ·exact n y
  ·rw[h] at y;cases y⟩
theorem TupAt.mono(x:Ext U H U' H')(hz:∀a∈U.l,U.z a){a:Addr}{vs:List V}(h:TupAt K U H a vs):TupAt K U' H' a vs:=by
 rcases h with ⟨h|⟨o,h⟩,n⟩|h
 ·obtain⟨p,q⟩:=x.out hz h n;exact .inl ⟨.inl p,q⟩
 ·obtain⟨p,q⟩:=x.out hz h n;exact .inl ⟨.inr ⟨o,p⟩,q⟩
 ·exact .inr h
theorem LstAt.mono(x:Ext U H U' H')(hz:∀a∈U.l,U.z a){a:Addr}{vs:List V}(h:LstAt K U H a vs):LstAt K U' H' a vs:=by
 rcases h with ⟨h|⟨o,h⟩,n⟩|h
 ·obtain⟨p,q⟩:=x.out hz h n;exact .inl ⟨.inl p,q⟩
 ·obtain⟨p,q⟩:=x.out hz h n;exact .inl ⟨.inr ⟨o,p⟩,q⟩
 ·exact .inr h
theorem ExcAt.mono(x:Ext U H U' H')(hz:∀a∈U.l,U.z a){a:Addr}{c:Nat}{vs:List V}(h:ExcAt cA U H a c vs):ExcAt cA U' H' a c vs:=by
 obtain⟨n,⟨e1,e2,h⟩|⟨dx,h,n2,h2,h3⟩⟩:=h
 ·obtain⟨p,q⟩:=x.out hz h n;exact⟨q,.inl ⟨e1,e2,p⟩⟩
 ·obtain⟨p,q⟩:=x.out hz h n;obtain⟨p2,q2⟩:=x.out hz h2 n2;exact⟨q,.inr ⟨dx,p,q2,p2,h3⟩⟩
theorem o_.mono(x:Ext U H U' H')(hz:∀a∈U.l,U.z a){a:Addr}{c:Nat}{vs:List V}(h:o_ cA U H a c vs):o_ cA U' H' a c vs:=by
 obtain⟨n,dx,h,h3⟩:=h;obtain⟨p,q⟩:=x.out hz h n;exact⟨q,dx,p,h3⟩
theorem Rep.mono(x:Ext U H U' H')(hz:∀a∈U.l,U.z a){d:D}{v:V}(h:Rep K cA U H d v):Rep K cA U' H' d v:=
 Rep.rec (motive_1:=λd v _=>Rep K cA U' H' d v) (motive_2:=λd v _=>aC K cA U' H' d v) .non .bl .int .str (λh _ i=>.tup (h.mono x hz) i) (λh _ i=>.fl (h.mono x hz) i) (λh n=>.fd (x.out hz h n).1 (x.out hz h n).2) (λh _ i=>.exc (h.mono x hz) i) (λh _ i=>.ob (h.mono x hz) i) .any .nil (λ_ _ i j=>.cons i j) h
theorem aC.mono(x:Ext U H U' H')(hz:∀a∈U.l,U.z a){d:List D}{v:List V}(h:aC K cA U H d v):aC K cA U' H' d v:=
 aC.rec (motive_1:=λd v _=>Rep K cA U' H' d v) (motive_2:=λd v _=>aC K cA U' H' d v) .non .bl .int .str (λh _ i=>.tup (h.mono x hz) i) (λh _ i=>.fl (h.mono x hz) i) (λh n=>.fd (x.out hz h n).1 (x.out hz h n).2) (λh _ i=>.exc (h.mono x hz) i) (λh _ i=>.ob (h.mono x hz) i) .any .nil (λ_ _ i j=>.cons i j) h
theorem aC.map(m:∀d v,Rep K cA U H d v->Rep K cA U' H' d v):∀{d:List D} {v:List V},aC K cA U H d v->aC K cA U' H' d v:=by
 intro d
 induction d with
 |nil=>intro v h;cases h;exact .nil
 |cons a d ih=>intro v h;cases h with|cons h r=>exact .cons (m _ _ h) (ih r)
theorem je.map(m:∀d v,Rep K cA U H d v->Rep K cA U' H' d v){d:gY}{v:mJ}(h:je K cA U H d v):je K cA U' H' d v:=by
 induction h with
 |nil=>exact .nil
 |cons a b c _ ih=>exact .cons (m _ _ a) b (m _ _ c) ih
theorem jR.map{a:Addr}{o:SO}(h:jR K cA U H a o)(e:∀u,H a=some u->H' a=some u)(m:∀d v,Rep K cA U H d v->Rep K cA U' H' d v):jR K cA U' H' a o:=by
 cases o with
 |lst xs=>obtain⟨vs,q,r⟩:=h;exact⟨vs,e _ q,r.map m⟩
 |dct xs=>obtain⟨vs,q,r⟩:=h;exact⟨vs,e _ q,r.map m⟩
theorem aW.mono(x:Ext U H U' H')(hz:∀a∈U.l,U.z a){d:Xv}{v:V}(h:aW K cA U H d v):aW K cA U' H' d v:=by
 cases h with
 |d h=>exact .d (h.mono x hz)
 |l h=>exact .l (x.get h)
theorem aQ.mono(x:Ext U H U' H')(hz:∀a∈U.l,U.z a){ds:List Xv}{vs:List V}(h:aQ K cA U H ds vs):aQ K cA U' H' ds vs:=by
 induction h with
 |nil=>exact .nil
 |cons h _ ih=>exact .cons (h.mono x hz) ih
theorem bx.mono(x:Ext U H U' H')(hz:∀a∈U.l,U.z a)(h:bx K cA U H Z J):bx K cA U' H' Z J:=⟨h.1,λi d e=>let ⟨v,a,b⟩:=h.2 i d e;⟨v,a,b.mono x hz⟩⟩
theorem aC.len{ds:List D}{vs:List V}(r:aC K cA U H ds vs):ds.length=vs.length:=by
 induction ds generalizing vs with
 |nil=>cases r;rfl
 |cons a d ih=>cases r with|cons _ r=>rw[fX,fX,ih r]
theorem aQ.len{ds:List Xv}{vs:List V}(r:aQ K cA U H ds vs):ds.length=vs.length:=by
 induction r with
 |nil=>rfl
 |cons _ _ ih=>rw[fX,fX,ih]
theorem aC.get{ds:List D}{vs:List V}{i:Nat}{d:D}(r:aC K cA U H ds vs)(e:ds[i]?=some d):∃v,vs[i]?=some v/\Rep K cA U H d v:=by
 induction ds generalizing vs i with
 |nil=>cases e
 |cons a ds ih=>
  cases r with
  |cons h r=>cases i with
   |zero=>cases e;exact⟨_,rfl,h⟩
   |succ i=>obtain⟨w,p,q⟩:=ih r e;exact⟨w,p,q⟩
theorem aQ.get{ds:List Xv}{vs:List V}{i:Nat}{d:Xv}(r:aQ K cA U H ds vs)(e:ds[i]?=some d):∃v,vs[i]?=some v/\aW K cA U H d v:=by
 induction r generalizing i with
 |nil=>cases e
 |cons h _ ih=>cases i with
  |zero=>cases e;exact⟨_,rfl,h⟩
  |succ i=>obtain⟨w,p,q⟩:=ih e;exact⟨w,p,q⟩
theorem aC.none:∀{ds:List D} {vs:List V} {i:Nat},aC K cA U H ds vs->ds[i]?=none->vs[i]?=none:=λ{ds vs i} r e=>by
 have:=r.len;have h2:ds.length<=i:=oN.mp e;exact oN.mpr gV
theorem aC.app{ds es:List D}{vs us:List V}(h:aC K cA U H ds vs)(s:aC K cA U H es us):aC K cA U H (ds++es) (vs++us):=by
 induction ds generalizing vs with
 |nil=>cases h;exact s
 |cons a d ih=>cases h with|cons h r=>exact .cons h (ih r)
theorem aC.take{ds:List D}{vs:List V}(n:Nat)(r:aC K cA U H ds vs):aC K cA U H (ds.take n) (vs.take n):=by
 induction n generalizing ds vs with
 |zero=>exact .nil
 |succ n ih=>cases r with
  |nil=>exact .nil
  |cons h r=>exact .cons h (ih r)
theorem aC.drop{ds:List D}{vs:List V}(n:Nat)(r:aC K cA U H ds vs):aC K cA U H (ds.drop n) (vs.drop n):=by
 induction n generalizing ds vs with
 |zero=>exact r
 |succ n ih=>cases r with
  |nil=>exact .nil
  |cons h r=>exact ih r
theorem aC.set{d:D}{v:V}(h:Rep K cA U H d v){ds:List D}{vs:List V}(i:Nat)(r:aC K cA U H ds vs):aC K cA U H (ds.set i d) (vs.set i v):=by
 induction i generalizing ds vs with
 |zero=>cases r with
  |nil=>exact .nil
  |cons _ r=>exact .cons h r
 |succ i ih=>cases r with
  |nil=>exact .nil
  |cons q r=>exact .cons q (ih r)
theorem aC.cut{ds:List D}{vs:List V}{l h:Option Int}(r:aC K cA U H ds vs):aC K cA U H (Mi.cut ds l h) (lY vs l h):=by
 unfold Mi.cut lY;rw[<-r.len];exact(r.drop _).take _
def bC(H H':Hp):Prop:=∀a o,H a=some o->H' a=some o
theorem bC.refl:bC H H:=λ_ _ h=>h
theorem bC.trans(x:bC H H')(y:bC H' Ie):bC H Ie:=λa o h=>y a o (x a o h)
theorem bC.new{p:Addr}{o:HO}(hp:H p=none):bC H (upd H p o):=λa u h=>by rw[eE (CZ h hp)];exact h
theorem bC.ext(g:bC H H'):Ext U H U H':=⟨⟨[],by simp,by simp⟩,λ_ h=>h,λ_ h=>.inl h,λa o h _=>g a o h,λa o h=>⟨o,g a o h⟩⟩
theorem jR.grow{a:Addr}{o:SO}(g:bC H H')(hz:∀a∈U.l,U.z a)(h:jR K cA U H a o):jR K cA U H' a o:=h.map (g _) λ_ _ r=>r.mono g.ext hz
theorem aH.grow(g:bC H H')(h:aH K cA U H s):aH K cA U H' s:=
 ⟨h.len,λn o a e1 e2=>(h.obj n o a e1 e2).grow g h.lz,h.uniq,h.lz,λa z=>let ⟨o,e⟩:=h.zt a z;⟨o,g _ _ e⟩⟩
theorem aH.nz(h:aH K cA U H s){p:Addr}(hp:H p=none):¬U.z p:=λz=>by obtain⟨o,e⟩:=h.zt p z;rw[hp] at e;cases e
noncomputable def Ph.add(U:Ph)(p:Addr):Ph:=⟨λa=>U.z a\/a=p,U.l++[p]⟩
theorem Ext.add{p:Addr}{o:HO}(hp:H p=none):Ext U H (U.add p) (upd H p o):=
 ⟨⟨[p],rfl,by simpa using hp⟩,λ_ h=>.inl h,λa h=>h.imp id λe=>by rw[e];exact hp,λa u h _=>bC.new hp a u h,λa u h=>⟨u,bC.new hp a u h⟩⟩
theorem aH.Ig{p:Addr}{so:SO}{ho:HO}(h:aH K cA U H s)(hp:H p=none)(hr:jR K cA (U.add p) (upd H p ho) p so):aH K cA (U.add p) (upd H p ho) (s++[so]):=by
 have pn:p∉U.l:=λz=>h.nz hp (h.lz p z);refine⟨by show (U.l++[p]).length=_;rw[dH,dH,h.len];rfl,λn o a e1 e2=>?_,?_,λa ha=>?_,λa ha=>?_⟩
 ·have e2:(U.l++[p])[n]?=some a:=e2;by_cases hn:n<s.length
  ·rw[oM hn] at e1;rw[oM (by rw[h.len];exact hn)] at e2;exact(h.obj n o a e1 e2).map (bC.new hp _) λ_ _ r=>r.mono (Ext.add hp) h.lz
  ·have hl:n=s.length:=by
    have z:=(cI.mp e1).1;rw[dH] at z;simp at z
    lia
   subst hl;rw[pG (bU _)] at e1;rw[pG (by rw[h.len];exact bU _)] at e2;simp at e1;simp[h.len] at e2;subst e1 e2;exact hr
 ·show (U.l++[p]).Nodup;rw[Kq];refine⟨h.uniq,by simp,λa ha b hb e=>?_⟩;simp at hb;subst hb e;exact pn ha
 ·have ha:a∈U.l++[p]:=ha;rcases kO.mp ha with z|z
  ·exact .inl (h.lz a z)
  ·simp at z;exact .inr z
 ·rcases ha with z|z
  ·obtain⟨o,e⟩:=h.zt a z;exact⟨o,bC.new hp _ _ e⟩
  ·subst z;exact⟨_,jO⟩
theorem aH.add{p:Addr}{xs:List D}{vs:List V}(h:aH K cA U H s)(hp:H p=none)(r:aC K cA U H xs vs):aH K cA (U.add p) (upd H p (.lst vs)) (s++[.lst xs]):=h.Ig hp ⟨vs,jO,r.mono (Ext.add hp) h.lz⟩
theorem Ext.write{n:Nat}{p:Addr}{o:HO}(hp:U.l[n]?=some p)(hv:∃u,H p=some u):Ext U H U (upd H p o):=by
 have hm:p∈U.l:=dM hp;refine⟨⟨[],by simp,by simp⟩,λ_ h=>h,λ_ h=>.inl h,λa u h n=>by
  have ne:a≠p:=λe=>n (by rw[e];exact hm);rw[eE ne];exact h,λa u h=>?_⟩
 by_cases e:a=p
 ·subst e;exact⟨o,jO⟩
 ·exact⟨u,by rw[eE e];exact h⟩
theorem aH.sZ{n:Nat}{p:Addr}{so:SO}{ho:HO}(h:aH K cA U H s)(hl:n<s.length)(hp:U.l[n]?=some p)(hr:jR K cA U (upd H p ho) p so):aH K cA U (upd H p ho) (s.set n so):=by
 have hv:=h.zt p (h.lz p (dM hp));have x:Ext U H U (upd H p ho):=Ext.write hp hv;refine⟨by rw[ou];exact h.len,λm o a e1 e2=>?_,h.uniq,h.lz,λa ha=>?_⟩
 ·by_cases hm:n=m
  ·subst hm;rw[pH hl] at e1;cases e1;rw[hp] at e2;cases e2;exact hr
  ·rw[mW hm] at e1;have ne:a≠p:=λy=>by
    subst y;exact hm ((OJ (cI.mp hp).1 h.uniq).mp (hp.trans e2.symm))
   exact(h.obj m o a e1 e2).map (λ_ q=>by rw[eE ne];exact q) λ_ _ r=>r.mono x h.lz
 ·obtain⟨o,e⟩:=h.zt a ha;obtain⟨o',e'⟩:=x.stay a o e;exact⟨o',e'⟩
theorem aH.write{n:Nat}{p:Addr}{xs ys:List D}{us:List V}(h:aH K cA U H s)(hn:s[n]?=some (.lst xs))(hp:U.l[n]?=some p)(r:aC K cA U H ys us):aH K cA U (upd H p (.lst us)) (s.set n (.lst ys)):=
 h.sZ (cI.mp hn).1 hp ⟨us,jO,r.mono (Ext.write hp (h.zt p (h.lz p (dM hp)))) h.lz⟩
theorem bx.set{i:Nat}{d:Xv}{v:V}(hL:bx K cA U H Z J)(r:aW K cA U H d v):bx K cA U H (Z.set i (some v)) (J.set i (some d)):=by
 refine⟨by rw[ou,ou];exact hL.1,λj e h=>?_⟩;by_cases RQ:i=j
 ·subst RQ;by_cases hl:i<J.length
  ·rw[pH hl] at h;cases h;exact⟨v,by rw[pH (by rw[hL.1];exact hl)],r⟩
  ·rw[Ke (by rw[ou];lia)] at h;cases h
 ·rw[mW RQ] at h;obtain⟨u,a,b⟩:=hL.2 j e h;exact⟨u,by rw[mW RQ];exact a,b⟩
theorem TupAt.iV{a:Addr}{vs:List V}(h:TupAt K U H a vs):fD K H a vs:=by
 rcases h with ⟨h,_⟩|(h|h)
 ·exact .inl h
 ·rcases h with h|⟨o,h⟩<;>cases h
 ·exact .inr h
theorem LstAt.rF{a:Addr}{vs:List V}(h:LstAt K U H a vs):cR K H a vs:=by
 rcases h with ⟨h,_⟩|(h|h)
 ·exact .inl h
 ·rcases h with h|⟨o,h⟩<;>cases h
 ·exact .inr h
theorem TupAt.new{p:Addr}{vs:List V}(hz:¬U.z p):TupAt K U (upd H p (.tup vs)) p vs:=.inl ⟨.inl jO,hz⟩
theorem LstAt.new{p:Addr}{vs:List V}(hz:¬U.z p):LstAt K U (upd H p (.lst vs)) p vs:=.inl ⟨.inl jO,hz⟩
end
end Mi
namespace Mi
open PySem PySem.Spec PyProof.Rows L2
theorem un{α β γ:Type}{A B C:α->β->γ->Prop}{R:Prop}(h:∃a b c,A a b c/\B a b c/\C a b c)(f:∀a b c,A a b c->B a b c->C a b c->R):R:=by
 obtain⟨a,b,c,x,y,z⟩:=h;exact f a b c x y z
section
variable (K:W.Frag)(cA:Cl)
def Run{α:Type}(m:M α)(U:Ph)(H:Hp)(s:S)(P:α->S->Ph->Hp->Prop)(Ee:Nat->List D->S->Ph->Hp->Prop):Prop:=
 match m s with
 |some (.ok a,s')=>∀U' H',Ext U H U' H'->aH K cA U' H' s'->P a s' U' H'
 |some (.er c f,s')=>∀U' H',Ext U H U' H'->aH K cA U' H' s'->Ee c f s' U' H'
 |none=>False
def jM(U:Ph)(H:Hp)(c:Nat)(fs:List D)(dx:Option Addr):Prop:=
 (cA.f c=[]/\fs=[]/\dx=none)\/∃d vs,dx=some d/\¬U.z d/\H d=some (.xd ((cA.f c).zip vs))/\(cA.f c).length=vs.length/\aC K cA U H fs vs
noncomputable def eX(EX:XS)(Z:L2.St):Nat->List D->S->Ph->Hp->Prop:=λc fs _ U' H'=>∀dx,jM K cA U' H' c fs dx->EX Z (.ref (cA.a c)) dx H'
noncomputable def tE(EX:XS)(m:Vs->M Xv):TE:=λZ H Q=>∃U J s,bx K cA U H Z J/\aH K cA U H s/\Run K cA (m J) U H s (λd _ U' H'=>∀v,aW K cA U' H' d v->Q v H') (eX K cA EX Z)
noncomputable def RT(EX:XS)(m:Vs->M (List Xv)):TA:=λZ H Q=>∃U J s,bx K cA U H Z J/\aH K cA U H s/\Run K cA (m J) U H s (λd _ U' H'=>∀v,aQ K cA U' H' d v->Q v H') (eX K cA EX Z)
noncomputable def uP(EX:XS)(m:Vs->M Bool):TT:=λZ H Q=>∃U J s,bx K cA U H Z J/\aH K cA U H s/\Run K cA (m J) U H s (λd _ U' H'=>Q d H') (eX K cA EX Z)
def Rv(U:Ph)(H:Hp)(d:D)(v:V):Prop:=match d with
 |.fl xs=>∃a vs,v=.ref a/\cR K H a vs/\aC K cA U H xs vs
 |d=>Rep K cA U H d v
inductive vX (U:Ph) (H:Hp):List D->List V->Prop where
 |nil:vX U H [] []
 |cons {d:D} {v:V} {ds:List D} {vs:List V} (h:Rv K cA U H d v) (r:vX U H ds vs):vX U H (d::ds) (v::vs)
def bF(U:Ph)(H:Hp)(o:Option Rz)(Q:VK):Prop:=match o with
 |none=>False
 |some (.dat d)=>∀H' v,bC H H'->Rep K cA U H' d v->Q v H'
 |some (.nw xs)=>∀p vs,H p=none->aC K cA U H xs vs->Q (.ref p) (upd H p (.lst vs))
structure Zt(U:Ph)(H:Hp):Prop where
 lz:∀a∈U.l,U.z a
 zt:∀a,U.z a->∃o,H a=some o
def aZ(p:Pr)(r:List V->Hp->VK->Prop):Prop:=∀(U:Ph) (H:Hp) (ds:List D) (vs:List V) (Q:VK),Zt U H->vX K cA U H ds vs->bF K cA U H (prim p ds) Q->r vs H Q
end
section
variable {K:W.Frag}{cA:Cl}{U U':Ph}{H H':Hp}{s:S}{Z:L2.St}{J:Vs}{EX:XS}
theorem aH.zs(h:aH K cA U H s):Zt U H:=⟨h.lz,h.zt⟩
theorem Zt.nz(h:Zt U H)(hp:H p=none):¬U.z p:=λz=>by obtain⟨o,e⟩:=h.zt p z;rw[hp] at e;cases e
theorem Rep.rv{d:D}{v:V}(h:Rep K cA U H d v):Rv K cA U H d v:=by
 cases h with
 |fl h r=>exact⟨_,_,rfl,h.rF,r⟩
 |non=>exact .non
 |bl b=>exact .bl b
 |int b=>exact .int b
 |str b=>exact .str b
 |tup h r=>exact .tup h r
 |fd h n=>exact .fd h n
 |exc h r=>exact .exc h r
 |ob h r=>exact .ob h r
 |any v=>exact .any v
theorem Run.bd{α β:Type}{m:M α}{k:α->M β}{P:β->S->Ph->Hp->Prop}{Ee:Nat->List D->S->Ph->Hp->Prop}(h:Run K cA (M.bd m k) U H s P Ee):Run K cA m U H s (λa s1 U1 H1=>Ext U H U1 H1/\aH K cA U1 H1 s1/\Run K cA (k a) U1 H1 s1 P Ee) Ee:=by
 unfold Run M.bd at *;cases e:m s with
 |none=>rw[e] at h;exact h
 |some r=>
  obtain⟨r,s1⟩:=r;rw[e] at h;cases r with
  |er c f=>exact h
  |ok a=>
   intro U1 H1 x1 r1;refine⟨x1,r1,?_⟩;dsimp only at h ⊢;cases e2:k a s1 with
   |none=>rw[e2] at h;exact h
   |some q=>
    obtain⟨q,s2⟩:=q;rw[e2] at h;cases q with
    |ok b=>exact λU2 H2 x2 r2=>h U2 H2 (x1.trans x2) r2
    |er c f=>exact λU2 H2 x2 r2=>h U2 H2 (x1.trans x2) r2
theorem Run.imp{α:Type}{m:M α}{P P':α->S->Ph->Hp->Prop}{Ee:Nat->List D->S->Ph->Hp->Prop}(h:Run K cA m U H s P Ee)(f:∀a s' U' H',P a s' U' H'->P' a s' U' H'):Run K cA m U H s P' Ee:=by
 unfold Run at *;split at h
 ·exact λU' H' x r=>f _ _ _ _ (h U' H' x r)
 ·exact h
 ·exact h
theorem Run.ext(x:Ext U H U' H')(h:Run K cA m U H s P Ee):Run K cA m U' H' s P Ee:=by
 unfold Run at *;split at h
 ·exact λU2 H2 y r=>h U2 H2 (x.trans y) r
 ·exact λU2 H2 y r=>h U2 H2 (x.trans y) r
 ·exact h.elim
theorem Run.bG{α:Type}{a:α}{P:α->S->Ph->Hp->Prop}{Ee:Nat->List D->S->Ph->Hp->Prop}(r:aH K cA U H s)(h:Run K cA (M.ret a) U H s P Ee):P a s U H:=h U H Ext.refl r
theorem Run.opt{α:Type}{o:Option α}{P:α->S->Ph->Hp->Prop}{Ee:Nat->List D->S->Ph->Hp->Prop}(r:aH K cA U H s)(h:Run K cA (M.opt o) U H s P Ee):∃a,o=some a/\P a s U H:=by
 cases o with
 |none=>exact h.elim
 |some a=>exact⟨a,rfl,h U H Ext.refl r⟩
theorem Ma(h:Run K cA (M.bd (M.opt o) k) U H s P Ee):∃a,o=some a/\Run K cA (k a) U H s P Ee:=by
 cases o with
 |none=>exact h.elim
 |some a=>exact⟨a,rfl,h⟩
theorem Ih{β:Type}{x:Xv}{v:V}{k:Bool->M β}{P:β->S->Ph->Hp->Prop}{Ee:Nat->List D->S->Ph->Hp->Prop}(r:aW K cA U H x v)(h:Run K cA (M.bd (bool x) k) U H s P Ee):∃b,x=.d (.bl b)/\v=.bl b/\Run K cA (k b) U H s P Ee:=by
 cases r with
 |l _=>exact h.elim
 |d r=>cases r with
  |bl b=>exact⟨b,rfl,rfl,h⟩
  |_=>exact h.elim
theorem Ii(r:aW K cA U H x v)(h:Run K cA (M.bd (int x) k) U H s P Ee):∃b,x=.d (.int b)/\v=.int b/\Run K cA (k b) U H s P Ee:=by
 cases r with
 |l _=>exact h.elim
 |d r=>cases r with
  |int b=>exact⟨b,rfl,rfl,h⟩
  |_=>exact h.elim
theorem Mf(r:aW K cA U H x v)(h:Run K cA (M.bd (dat x) k) U H s P Ee):∃d,x=.d d/\Rep K cA U H d v/\Run K cA (k d) U H s P Ee:=by
 cases r with
 |l _=>exact h.elim
 |d r=>exact⟨_,rfl,r,h⟩
theorem RV:∀{xs:List Xv} {vs:List V} {k:List D->M β} {P:β->S->Ph->Hp->Prop} {Ee:Nat->List D->S->Ph->Hp->Prop},aQ K cA U H xs vs->Run K cA (M.bd (cB xs) k) U H s P Ee->∃ds,xs=ds.map .d/\aC K cA U H ds vs/\Run K cA (k ds) U H s P Ee:=by
 intro xs
 induction xs with
 |nil=>intro vs k P Ee r h;cases r;exact⟨[],rfl,.nil,h⟩
 |cons x xs ih=>
  intro vs k P Ee r h;cases r with
  |cons a r=>
   cases a with
   |l _=>exact h.elim
   |@d y v a=>
    have h2:Run K cA (M.bd (cB xs) λds=>k (y::ds)) U H s P Ee:=by
     unfold Run M.bd cB dat at h;unfold Run M.bd;simp only[M.bd,M.ret] at h;cases e:cB xs s with
     |none=>simp only[e] at h
     |some q=>
      obtain⟨q,s1⟩:=q;simp only[e] at h;cases q with
      |ok ds=>exact h
      |er c f=>exact h
    obtain⟨ds,e,rs,h3⟩:=ih r h2;exact⟨y::ds,by rw[e];rfl,.cons a rs,h3⟩
theorem Ij(hS:aH K cA U H s)(r:aW K cA U H x v)(h:Run K cA (M.bd (rd x) k) U H s P Ee):∃d,Rv K cA U H d v/\Run K cA (k d) U H s P Ee:=by
 cases r with
 |d r=>exact⟨_,r.rv,h⟩
 |@l n a hl=>
  unfold Run M.bd rd at h;dsimp only at h;cases e:s[n]? with
  |none=>rw[e] at h;exact h.elim
  |some o=>
   rw[e] at h;cases o with
   |lst xs=>
    obtain⟨vs,q1,q2⟩:=hS.obj n _ _ e hl;exact⟨.fl xs,⟨a,vs,rfl,cR.of q1,q2⟩,h⟩
   |_=>exact h.elim
theorem jm{α β γ:Type}(m:M α)(f:α->M β)(g:β->M γ):M.bd (M.bd m f) g=M.bd m λx=>M.bd (f x) g:=by
 funext s
 unfold M.bd;cases m s with
 |none=>rfl
 |some r=>
  obtain⟨r,s1⟩:=r;cases r<;>rfl
theorem rG{β:Type}:∀{xs:List Xv} {vs:List V} {k:List D->M β} {P:β->S->Ph->Hp->Prop} {Ee:Nat->List D->S->Ph->Hp->Prop},aH K cA U H s->aQ K cA U H xs vs->Run K cA (M.bd (gb xs) k) U H s P Ee->∃ds,vX K cA U H ds vs/\Run K cA (k ds) U H s P Ee:=by
 intro xs
 induction xs with
 |nil=>intro vs k P Ee hS r h;cases r;exact⟨[],.nil,h⟩
 |cons x xs ih=>
  intro vs k P Ee hS r h;cases r with
  |cons a r=>
   have h2:Run K cA (M.bd (rd x) λd=>M.bd (gb xs) λds=>k (d::ds)) U H s P Ee:=by
    have e:M.bd (gb (x::xs)) k=M.bd (rd x) λd=>M.bd (gb xs) λds=>k (d::ds):=by
     show M.bd (M.bd (rd x) λd=>M.bd (gb xs) λds=>M.ret (d::ds)) k=_;rw[jm]
     congr 1
     funext d
     rw[jm];rfl
    rw[e] at h;exact h
   obtain⟨d,rd,h3⟩:=Ij hS a h2;obtain⟨ds,rs,h4⟩:=ih hS r h3;exact⟨d::ds,.cons rd rs,h4⟩
theorem qQ{fz:Bool}{o:Option Rz}{Q:VK}{Ee:Nat->List D->S->Ph->Hp->Prop}(hS:aH K cA U H s)(h:Run K cA (bV fz o) U H s (λx _ U' H'=>∀v,aW K cA U' H' x v->Q v H') Ee):bF K cA U H o Q:=by
 cases o with
 |none=>exact h.elim
 |some z=>
  cases z with
  |dat d=>exact λH' v g r=>h U H' g.ext (hS.grow g) v (.d r)
  |nw xs=>
   intro p vs hp r;cases fz with
   |true=>exact h U _ (bC.new hp).ext (hS.grow (bC.new hp)) _ (.d (.fl (LstAt.new (hS.nz hp)) (r.mono (bC.new hp).ext hS.lz)))
   |false=>exact h (U.add p) _ (Ext.add hp) (hS.add hp r) _ (.l (by show (U.l++[p])[s.length]?=_;rw[<-hS.len];simp))
theorem zg0{fz:Bool}{xs:List D}{Q:VK}{Ee:Nat->List D->S->Ph->Hp->Prop}(hS:aH K cA U H s)(h:Run K cA (newL fz xs) U H s (λx _ U' H'=>∀v,aW K cA U' H' x v->Q v H') Ee):∀p vs,H p=none->aC K cA U H xs vs->Q (.ref p) (upd H p (.lst vs)):=
 qQ (o:=some (.nw xs)) hS h
theorem aV{β:Type}{ma:Vs->M Xv}{k:Xv->M β}{P:β->S->Ph->Hp->Prop}(hL:bx K cA U H Z J)(hS:aH K cA U H s)(h:Run K cA (M.bd (ma J) k) U H s P (eX K cA EX Z)){Q:VK}
  (f:∀x H1 U1 d s1,Ext U H U1 H1->bx K cA U1 H1 Z J->aH K cA U1 H1 s1->aW K cA U1 H1 d x->Run K cA (k d) U1 H1 s1 P (eX K cA EX Z)->Q x H1):tE K cA EX ma Z H Q:=
 ⟨U,J,s,hL,hS,h.bd.imp λd s1 U1 H1 ⟨x1,r1,h1⟩ v rv=>f v H1 U1 d s1 x1 (hL.mono x1 hS.lz) r1 rv h1⟩
theorem nO{β:Type}{ma:Vs->M (List Xv)}{k:List Xv->M β}{P:β->S->Ph->Hp->Prop}(hL:bx K cA U H Z J)(hS:aH K cA U H s)(h:Run K cA (M.bd (ma J) k) U H s P (eX K cA EX Z)){Q:List V->Hp->Prop}
  (f:∀x H1 U1 d s1,Ext U H U1 H1->bx K cA U1 H1 Z J->aH K cA U1 H1 s1->aQ K cA U1 H1 d x->Run K cA (k d) U1 H1 s1 P (eX K cA EX Z)->Q x H1):RT K cA EX ma Z H Q:=
 ⟨U,J,s,hL,hS,h.bd.imp λd s1 U1 H1 ⟨x1,r1,h1⟩ v rv=>f v H1 U1 d s1 x1 (hL.mono x1 hS.lz) r1 rv h1⟩
theorem vY(hL:bx K cA U H Z J)(hS:aH K cA U H s)(h:Run K cA (M.bd (ma J) k) U H s P (eX K cA EX Z))
  (f:∀b H1 U1 s1,Ext U H U1 H1->bx K cA U1 H1 Z J->aH K cA U1 H1 s1->Run K cA (k b) U1 H1 s1 P (eX K cA EX Z)->Q b H1):uP K cA EX ma Z H Q:=
 ⟨U,J,s,hL,hS,h.bd.imp λd s1 U1 H1 ⟨x1,r1,h1⟩=>f d H1 U1 s1 x1 (hL.mono x1 hS.lz) r1 h1⟩
end
section
variable (X:Cx)(cA:Cl)(aq:Nat->Nat->Bool)(aj:Bool)(F:Fn)(EX:XS)
def SE(e:Expr)(m:E):Prop:=PE X e (tE X.K cA EX (ev aq aj F m))
def SA(es:List Expr)(m:Es):Prop:=PA X es (RT X.K cA EX (evs aq aj F m))
def ST(e:Expr)(m:E):Prop:=PT X e (uP X.K cA EX (λJ=>M.bd (ev aq aj F m J) bool))
def SW(e:Expr)(m:E):Prop:=PW X e (uP X.K cA EX (λJ=>M.bd (ev aq aj F m J) bool))
end
section
variable {X:Cx}{cA:Cl}{aq:Nat->Nat->Bool}{aj:Bool}{F:Fn}{EX:XS}{a b c d e:Expr}{A B C Dd E':E}{pos:Pos}{es:List Expr}{Xs:Es}{fz:Bool}{p:Pr}
theorem PE.weak{t t':TE}(h:PE X e t)(f:∀Z H Q,t' Z H Q->t Z H Q):PE X e t':=λao s Z H Q I q=>h ao s Z H Q I (f Z H Q q)
theorem PT.weak{t t':TT}(h:PT X e t)(f:∀Z H Q,t' Z H Q->t Z H Q):PT X e t':=λao s Z H Q I q=>h ao s Z H Q I (f Z H Q q)
theorem PW.weak{t t':TT}(h:PW X e t)(f:∀Z H Q,t' Z H Q->t Z H Q):PW X e t':=λwh ao s Z H Q I q=>h wh ao s Z H Q I (f Z H Q q)
theorem PA.weak{t t':TA}(h:PA X es t)(f:∀Z H Q,t' Z H Q->t Z H Q):PA X es t':=λp ao s Z H Q I q=>h p ao s Z H Q I (f Z H Q q)
theorem zlR{i j p}:SE X cA aq aj F EX (.Constant (.int i) j p) (.c (.int i)):=PE.weak zlj λZ H Q hh=>un hh λU J s hL hS h=>h.bG hS _ (.d (.int i))
theorem znh{i j p}:SE X cA aq aj F EX (.Constant (.bool i) j p) (.c (.bl i)):=PE.weak znn λZ H Q hh=>un hh λU J s hL hS h=>h.bG hS _ (.d (.bl i))
theorem zmF{j p}:SE X cA aq aj F EX (.Constant .none j p) (.c .non):=PE.weak zlk λZ H Q hh=>un hh λU J s hL hS h=>h.bG hS _ (.d .non)
theorem zmu{i j p}:SE X cA aq aj F EX (.Constant (.str i) j p) (.c (.str i)):=PE.weak zkM λZ H Q hh=>un hh λU J s hL hS h=>h.bG hS _ (.d (.str i))
theorem RW{α:Type}{o:Option (Option α)}{x:α}(h:o.join=some x):o=some (some x):=by
 cases o with
 |none=>cases h
 |some y=>cases y with
  |none=>cases h
  |some z=>cases h;rfl
theorem Yl(i:Nat){x:Str}(hN:X.N[i]?=some x:=by rfl)(hv:Pg X.env.scope x:=by first|exact Or.inl rfl|exact Or.inr (Or.inl rfl)|exact Or.inr (Or.inr rfl))(hd:(x==("__debug__" : Str))=false:=by decide)
  (jP:(x==("__classdict__" : Str))=false:=by decide):SE X cA aq aj F EX (.Name x pos) (.v i):=PE.weak (WW hN hv hd jP) λZ H Q hh=>un hh λU J s hL hS h=>by
 obtain⟨dd,e1,q⟩:=Run.opt hS h;obtain⟨v,q1,q2⟩:=hL.2 i dd (RW e1);exact⟨v,q1,q v q2⟩
theorem ziT{x:Str}{i:Int}{t:Tok}(hg:Gl X x)(hm:X.mg x=some (.int i t))(hd:(x==("__debug__" : Str))=false:=by decide):SE X cA aq aj F EX (.Name x pos) (.c (.int i)):=PE.weak (WX (v:=.int i) hg hm ⟨t,rfl⟩ hd) λZ H Q hh=>un hh λU J s hL hS h=>h.bG hS _ (.d (.int i))
theorem ziW{x y:Str}{t:Tok}(hg:Gl X x)(hm:X.mg x=some (.str y t))(hd:(x==("__debug__" : Str))=false:=by decide):SE X cA aq aj F EX (.Name x pos) (.c (.str y)):=PE.weak (WX (v:=.str y) hg hm ⟨t,rfl⟩ hd) λZ H Q hh=>un hh λU J s hL hS h=>h.bG hS _ (.d (.str y))
theorem zlY:SA X cA aq aj F EX [] .nil:=PA.weak Af λZ H Q hh=>un hh λU J s hL hS h=>h.bG hS _ .nil
theorem zjR(ha:SE X cA aq aj F EX a A)(hr:SA X cA aq aj F EX es Xs)(hs:starEach (a::es) X.env=(false,eval a X.env)::starEach es X.env:=by rfl):SA X cA aq aj F EX (a::es) (.cons A Xs):=PA.weak (uO ha hr hs) λZ H Q hh=>un hh λU J s hL hS h=>by
 refine aV hL hS h λx H1 U1 d1 s1 x1 hL1 aK r1 h1=>nO hL1 aK h1 λys H2 U2 d2 s2 x2 hL2 aP r2 h2=>h2.bG aP _ (.cons (r1.mono x2 aK.lz) r2)
theorem Mg{U U1 U2:Ph}{H1 H2:Hp}{s1 s2:S}{d1 d2:Xv}{x y:V}{Q:VK}{Ee:Nat->List D->S->Ph->Hp->Prop}(x2:Ext U1 H1 U2 H2)(aK:aH X.K cA U1 H1 s1)(aP:aH X.K cA U2 H2 s2)(r1:aW X.K cA U1 H1 d1 x)(r2:aW X.K cA U2 H2 d2 y)
  (h:Run X.K cA (M.bd (gb [d1,d2]) λds=>bV fz (prim p ds)) U2 H2 s2 (λx _ U' H'=>∀v,aW X.K cA U' H' x v->Q v H') Ee) {r:List V->Hp->VK->Prop} (hp:aZ X.K cA p r):r [x,y] H2 Q:=by
 obtain⟨ds,rs,h2⟩:=rG aP (.cons (r1.mono x2 aK.lz) (.cons r2 .nil)) h;exact hp U2 H2 ds _ Q aP.zs rs (qQ aP h2)
noncomputable def r2(r:R2):List V->Hp->VK->Prop:=λvs H Q=>∃x y,vs=[x,y]/\r x y H Q
theorem Bj{r:R2}{x y:V}{H:Hp}{Q:VK}(h:r2 r [x,y] H Q):r x y H Q:=by
 obtain⟨_,_,e,q⟩:=h;cases e;exact q
theorem zlC{op:Operator}{r:R2}(ho:eF X (binaryOp op) r)(hp:aZ X.K cA p (r2 r))(ha:SE X cA aq aj F EX a A)(hb:SE X cA aq aj F EX b B):SE X cA aq aj F EX (.BinOp a op b pos) (.pr fz p (.cons A (.cons B .nil))):=PE.weak (znQ ho ha hb) λZ H Q hh=>un hh λU J s hL hS h=>by
 have h:Run X.K cA (M.bd (M.bd (ev aq aj F A J) λx=>M.bd (M.bd (ev aq aj F B J) λy=>M.bd (M.ret []) λz=>M.ret (y::z)) λys=>M.ret (x::ys)) λvs=>M.bd (gb vs) λds=>bV fz (prim p ds)) U H s _ _:=h;simp only[jm] at h;refine aV hL hS h λx H1 U1 d1 s1 x1 hL1 aK r1 h1=>aV hL1 aK h1 λy H2 U2 d2 s2 x2 hL2 aP r2' h2=>?_;exact Bj (Mg (fz:=fz) (U:=U) x2 aK aP r1 r2' h2 hp)
theorem zla{op:CmpOp}{r:R2}(ho:eF X (compareOp op) r)(hp:aZ X.K cA p (r2 r))(ha:SE X cA aq aj F EX a A)(hb:SE X cA aq aj F EX b B)(hm:behindInMarks op b=false):SE X cA aq aj F EX (.Compare a [op] [b] pos) (.pr true p (.cons A (.cons B .nil))):=PE.weak (zjK ho ha hb hm) λZ H Q hh=>un hh λU J s hL hS h=>by
 have h:Run X.K cA (M.bd (M.bd (ev aq aj F A J) λx=>M.bd (M.bd (ev aq aj F B J) λy=>M.bd (M.ret []) λz=>M.ret (y::z)) λys=>M.ret (x::ys)) λvs=>M.bd (gb vs) λds=>bV true (prim p ds)) U H s _ _:=h;simp only[jm] at h;refine aV hL hS h λx H1 U1 d1 s1 x1 hL1 aK r1 h1=>aV hL1 aK h1 λy H2 U2 d2 s2 x2 hL2 aP r2' h2=>?_;exact Bj (Mg (fz:=true) (U:=U) x2 aK aP r1 r2' h2 hp)
theorem iT{A B:Prop}(h:A):if true=true then A else B:=by rw[if_pos rfl];exact h
theorem iF{A B:Prop}(h:B):if false=true then A else B:=by rw[if_neg El];exact h
theorem zl1{op:CmpOp}{r:R2}(ho:eF X (compareOp op) r)(hp:aZ X.K cA p (r2 r))(ha:SE X cA aq aj F EX a A)(hb:SE X cA aq aj F EX b B)(hm:behindInMarks op b=false):ST X cA aq aj F EX (.Compare a [op] [b] pos) (.pr true p (.cons A (.cons B .nil))):=PT.weak (zj8 ho ha hb hm) λZ H Q hh=>un hh λU J s hL hS h=>by
 have h:Run X.K cA (M.bd (M.bd (M.bd (ev aq aj F A J) λx=>M.bd (M.bd (ev aq aj F B J) λy=>M.bd (M.ret []) λz=>M.ret (y::z)) λys=>M.ret (x::ys)) λvs=>M.bd (gb vs) λds=>bV true (prim p ds)) bool) U H s _ _:=h;simp only[jm] at h;refine aV hL hS h λx H1 U1 d1 s1 x1 hL1 aK r1 h1=>aV hL1 aK h1 λy H2 U2 d2 s2 x2 hL2 aP r2' h2=>?_;obtain⟨ds,rs,h3⟩:=rG aP (.cons (r1.mono x2 aK.lz) (.cons r2' .nil)) h2;refine Bj (hp U2 H2 ds _ _ aP.zs rs (qQ (Ee:=eX X.K cA EX Z) aP (h3.bd.imp λt s3 U3 H3 ⟨x3,jT,h4⟩ v rv=>?_)));cases rv with
 |l _=>exact h4.elim
 |d rv=>cases rv with
  |bl k=>exact⟨k,rfl,h4 U3 H3 Ext.refl jT⟩
  |_=>exact h4.elim
theorem zld{op op':CmpOp}{r r':R2}{q:Pr}(ho:eF X (compareOp op) r)(hp:aZ X.K cA p (r2 r))(sG:eF X (compareOp op') r')(hp':aZ X.K cA q (r2 r'))(ha:SE X cA aq aj F EX a A)(hb:SE X cA aq aj F EX b B)(hc:SE X cA aq aj F EX c C)(hm:lastMarks [op,op'] [b,c]=false:=by with_unfolding_all rfl) :
  SE X cA aq aj F EX (.Compare a [op,op'] [b,c] pos) (.xZ p q A B C):=PE.weak (zhW ho sG ha hb hc hm) λZ H Q hh=>un hh λU J s hL hS h=>by
 refine aV hL hS h λx H1 U1 d1 s1 x1 hL1 aK r1 h1=>aV hL1 aK h1 λy H2 U2 d2 s2 x2 hL2 aP r2' h2=>?_;obtain⟨ds,rs,h3⟩:=rG aP (.cons (r1.mono x2 aK.lz) (.cons r2' .nil)) h2;refine Bj (hp U2 H2 ds _ _ aP.zs rs (qQ (Ee:=eX X.K cA EX Z) aP (h3.bd.imp λt s3 U3 H3 ⟨x3,jT,h4⟩ v rv=>?_)));obtain⟨k,_,e,h5⟩:=Ih rv h4;refine⟨k,e,?_⟩;cases k with
 |false=>exact iF (h5.bG jT _ (.d (.bl _)))
 |true=>
  have vZ:=hL2.mono x3 aP.lz;refine iT (aV vZ jT h5 λz H4 U4 d4 s4 x4 hL4 yu r4 h6=>?_);exact Bj (Mg (fz:=true) (U:=U) x4 jT yu (r2'.mono x3 aP.lz) r4 h6 hp')
theorem zmW(ha:SE X cA aq aj F EX a A):SE X cA aq aj F EX (.UnaryOp .Not a pos) (.not A):=PE.weak (zm3 ha) λZ H Q hh=>un hh λU J s hL hS h=>by
 refine aV hL hS h λx H1 U1 d1 s1 x1 hL1 aK r1 h1=>?_;obtain⟨i,_,e,h3⟩:=Ih r1 h1;exact⟨i,e,h3.bG aK _ (.d (.bl _))⟩
theorem zkK{op}(ha:SE X cA aq aj F EX a A):SE X cA aq aj F EX (.BoolOp op [a] pos) A:=zma ha
theorem zmK{rest:List Expr}(ha:SE X cA aq aj F EX a A)(hb:SE X cA aq aj F EX (.BoolOp .And (b::rest) pos) B):SE X cA aq aj F EX (.BoolOp .And (a::b::rest) pos) (.and A B):=PE.weak (zmJ ha hb) λZ H Q hh=>un hh λU J s hL hS h=>by
 refine aV hL hS h λx H1 U1 d1 s1 x1 hL1 aK r1 h1=>?_;obtain⟨i,_,e,h3⟩:=Ih r1 h1;refine⟨i,e,?_⟩;cases i with
 |true=>exact iT ⟨U1,J,s1,hL1,aK,h3⟩
 |false=>exact iF (h3.bG aK _ (.d (.bl _)))
theorem znj{rest:List Expr}(ha:SE X cA aq aj F EX a A)(hb:SE X cA aq aj F EX (.BoolOp .Or (b::rest) pos) B):SE X cA aq aj F EX (.BoolOp .Or (a::b::rest) pos) (.or A B):=PE.weak (znu ha hb) λZ H Q hh=>un hh λU J s hL hS h=>by
 refine aV hL hS h λx H1 U1 d1 s1 x1 hL1 aK r1 h1=>?_;obtain⟨i,_,e,h3⟩:=Ih r1 h1;refine⟨i,e,?_⟩;cases i with
 |true=>exact iT (h3.bG aK _ (.d (.bl _)))
 |false=>exact iF ⟨U1,J,s1,hL1,aK,h3⟩
end
section
variable {X:Cx}{cA:Cl}{aq:Nat->Nat->Bool}{aj:Bool}{F:Fn}{EX:XS}{a b c d e o:Expr}{A B C Dd E' O:E}{pos pp p2 apos:Pos}{es:List Expr}{Xs:Es}{fz:Bool}{p:Pr}{x:Str}
theorem zlE(ha:SE X cA aq aj F EX a A)(he:∀whole,isTrue a X.env whole=(do let v <-whole;standAt a.pos;holding [v] (truthy v)):=by intro _;rfl):ST X cA aq aj F EX a A:=PT.weak (zlG ha he) λZ H Q hh=>un hh λU J s hL hS h=>by
 refine aV hL hS h λx H1 U1 d1 s1 x1 hL1 aK r1 h1=>?_;have h1:Run X.K cA (M.bd (bool d1) M.ret) U1 H1 s1 (λd _ U' H'=>Q d H') (eX X.K cA EX Z):=by
  cases d1 with
  |l n=>exact h1
  |d v=>cases v<;>exact h1
 obtain⟨k,_,e,q⟩:=Ih r1 h1;exact⟨k,e,q.bG aK⟩
theorem zgZ{m:M Xv}{g:Bool->Bool}:M.bd (M.bd m λx=>M.bd (bool x) λk=>M.ret (Xv.d (.bl (g k)))) bool=M.bd (M.bd m bool) λk=>M.ret (g k):=by
 rw[jm,jm]
 congr 1
 funext x
 rw[jm];rfl
theorem zk2(ha:ST X cA aq aj F EX a A):ST X cA aq aj F EX (.UnaryOp .Not a pos) (.not A):=PT.weak (zlJ ha) λZ H Q hh=>un hh λU J s hL hS h=>by
 have h:Run X.K cA (M.bd (M.bd (ev aq aj F A J) λx=>M.bd (bool x) λk=>M.ret (Xv.d (.bl (!k)))) bool) U H s _ _:=h;rw[zgZ (g:=λk=>!k)] at h;exact vY hL hS h λk H1 U1 s1 x1 hL1 aK h1=>h1.bG aK
theorem ziP(ha:ST X cA aq aj F EX a A):SW X cA aq aj F EX (.BoolOp .And [a] pos) A:=ziZ ha
theorem zlI(ha:ST X cA aq aj F EX a A):SW X cA aq aj F EX (.BoolOp .Or [a] pos) A:=zl8 ha
theorem Ym{m:M Xv}{k:Bool->M Xv}:M.bd (M.bd m λx=>M.bd (bool x) k) bool=M.bd (M.bd m bool) λb=>M.bd (k b) bool:=by
 rw[jm,jm]
 congr 1
 funext x
 rw[jm]
theorem zmA{rest:List Expr}(ha:ST X cA aq aj F EX a A)(hb:SW X cA aq aj F EX (.BoolOp .And (b::rest) pos) B):SW X cA aq aj F EX (.BoolOp .And (a::b::rest) pos) (.and A B):=PW.weak (zmo ha hb) λZ H Q hh=>un hh λU J s hL hS h=>by
 have h:Run X.K cA (M.bd (M.bd (ev aq aj F A J) λx=>M.bd (bool x) λk=>if k=true then ev aq aj F B J else M.ret (Xv.d (.bl false))) bool) U H s _ _:=h;rw[Ym] at h;refine vY hL hS h λk H1 U1 s1 x1 hL1 aK h3=>?_;cases k with
 |true=>exact iT ⟨U1,J,s1,hL1,aK,h3⟩
 |false=>exact iF (Run.bG aK (a:=false) h3)
theorem zne{rest:List Expr}(ha:ST X cA aq aj F EX a A)(hb:SW X cA aq aj F EX (.BoolOp .Or (b::rest) pos) B):SW X cA aq aj F EX (.BoolOp .Or (a::b::rest) pos) (.or A B):=PW.weak (znT ha hb) λZ H Q hh=>un hh λU J s hL hS h=>by
 have h:Run X.K cA (M.bd (M.bd (ev aq aj F A J) λx=>M.bd (bool x) λk=>if k=true then M.ret (Xv.d (.bl true)) else ev aq aj F B J) bool) U H s _ _:=h;rw[Ym] at h;refine vY hL hS h λk H1 U1 s1 x1 hL1 aK h3=>?_;cases k with
 |true=>exact iT (Run.bG aK (a:=true) h3)
 |false=>exact iF ⟨U1,J,s1,hL1,aK,h3⟩
theorem zo6(h:SW X cA aq aj F EX a A):ST X cA aq aj F EX a A:=Kac h
theorem ziY:(M.bd m λx=>M.bd (bool x) k)=M.bd (M.bd m bool) k:=by rw[jm]
theorem zlV(hc:ST X cA aq aj F EX c C)(ha:SE X cA aq aj F EX a A)(hb:SE X cA aq aj F EX b B):SE X cA aq aj F EX (.IfExp c a b pos) (.ite C A B):=PE.weak (zhm hc ha hb) λZ H Q hh=>un hh λU J s hL hS h=>by
 have h:Run X.K cA (M.bd (ev aq aj F C J) λx=>M.bd (bool x) λk=>if k=true then ev aq aj F A J else ev aq aj F B J) U H s _ _:=h;rw[ziY] at h;refine vY hL hS h λk H1 U1 s1 x1 hL1 aK h3=>?_;cases k with
 |true=>exact iT ⟨U1,J,s1,hL1,aK,h3⟩
 |false=>exact iF ⟨U1,J,s1,hL1,aK,h3⟩
theorem Yn:∀(Xs:Es) (J:Vs) (s:S) (ds:List Xv) (s':S),evs aq aj F Xs J s=some (.ok ds,s')->ds.length=Es.len Xs
 |.nil,J,s,ds,s',h=>by cases h;rfl
 |.cons a r,J,s,ds,s',h=>by
  have h:M.bd (ev aq aj F a J) (λx=>M.bd (evs aq aj F r J) λxs=>M.ret (x::xs)) s=some (.ok ds,s'):=h;unfold M.bd at h;cases e1:ev aq aj F a J s with
  |none=>rw[e1] at h;cases h
  |some q=>
   obtain⟨q,s1⟩:=q;rw[e1] at h;cases q with
   |er c f=>cases h
   |ok d=>
    dsimp only at h;cases e2:evs aq aj F r J s1 with
    |none=>rw[e2] at h;cases h
    |some q=>
     obtain⟨q,s2⟩:=q;rw[e2] at h;cases q with
     |er c f=>cases h
     |ok ds'=>
      cases h;rw[fX,Yn r J s1 ds' _ e2];rfl
theorem Ik{β:Type}{K:W.Frag}{U:Ph}{H:Hp}{s:S}{Z:L2.St}{J:Vs}{k:List Xv->M β}{P:β->S->Ph->Hp->Prop}(hL:bx K cA U H Z J)(hS:aH K cA U H s)(h:Run K cA (M.bd (evs aq aj F Xs J) k) U H s P (eX K cA EX Z)){Q:List V->Hp->Prop}
  (f:∀x H1 U1 d s1,d.length=Es.len Xs->Ext U H U1 H1->bx K cA U1 H1 Z J->aH K cA U1 H1 s1->aQ K cA U1 H1 d x->Run K cA (k d) U1 H1 s1 P (eX K cA EX Z)->Q x H1):RT K cA EX (evs aq aj F Xs) Z H Q:=by
 refine⟨U,J,s,hL,hS,?_⟩;have h2:=h.bd;unfold Run at h2 ⊢;cases e:evs aq aj F Xs J s with
 |none=>rw[e] at h2;exact h2
 |some r=>
  obtain⟨r,s1⟩:=r;rw[e] at h2;cases r with
  |er c f=>exact h2
  |ok ds=>
   intro U1 H1 x1 r1 v rv;obtain⟨_,_,h3⟩:=h2 U1 H1 x1 r1;exact f v H1 U1 ds s1 (Yn Xs J s ds s1 e) x1 (hL.mono x1 hS.lz) r1 rv h3
theorem zkB{k}(ha:SA X cA aq aj F EX es Xs)(hz:Es.len Xs<=sizeLine):SE X cA aq aj F EX (.Tuple es k pos) (.tup Xs):=PE.weak (zkS ha) λZ H Q hh=>un hh λU J s hL hS h=>by
 refine Ik hL hS h λvs H1 U1 xs s1 hl x1 hL1 aK rv h1=>?_;obtain⟨ds,e,rs,h2⟩:=RV rv h1;refine⟨by rw[<-rv.len,hl];exact hz,λp hp=>?_⟩;exact h2 U1 (upd H1 p (.tup vs)) (bC.new hp).ext (aK.grow (bC.new hp)) _ (.d (.tup (TupAt.new (aK.nz hp)) (rs.mono (bC.new hp).ext aK.lz)))
theorem zli(ha:SA X cA aq aj F EX es Xs)(hz:Es.len Xs<=sizeLine):SE X cA aq aj F EX (.List es pos) (.lst fz Xs):=PE.weak (zmX ha) λZ H Q hh=>un hh λU J s hL hS h=>by
 refine Ik hL hS h λvs H1 U1 xs s1 hl x1 hL1 aK rv h1=>?_;obtain⟨ds,e,rs,h2⟩:=RV rv h1;exact⟨by rw[<-rv.len,hl];exact hz,λp hp=>zg0 aK h2 p vs hp rs⟩
theorem yw{id:String}{r:List V->Hp->VK->Prop}(hc:cT X (.builtin id) r)(hp:aZ X.K cA p r)
  (hg:Gl X x) (hm:X.mg x=none) (hv:bootBuiltins x=some (.builtin id)) (ha:SA X cA aq aj F EX (e::es) Xs) (hn:x≠"__name__":=by decide) (qI:(x==("__debug__" : Str))=false:=by decide)
  (he:starEach (e::es) X.env=(false,eval e X.env)::starEach es X.env:=by rfl) (hpl:(backTo pos (starEach es X.env)).any (·.1)=false:=by rfl):SE X cA aq aj F EX (.Call (.Name x pp) (e::es) [] pos) (.pr fz p Xs):=PE.weak (Xj hc hg hm hv ha hn qI he hpl) λZ H Q hh=>un hh λU J s hL hS h=>
 nO hL hS h λvs H1 U1 ds s1 x1 hL1 aK r1 h1=>by
  obtain⟨ds,rs,h3⟩:=rG aK r1 h1;exact hp U1 H1 ds _ _ aK.zs rs (qQ aK h3)
theorem RX{id:String}{r:List V->Hp->VK->Prop}(hc:cT X (.type id) r)(hp:aZ X.K cA p r)
  (hg:Gl X x) (hm:X.mg x=none) (hv:bootBuiltins x=some (.type id)) (ha:SA X cA aq aj F EX (e::es) Xs) (hn:x≠"__name__":=by decide) (qI:(x==("__debug__" : Str))=false:=by decide)
  (he:starEach (e::es) X.env=(false,eval e X.env)::starEach es X.env:=by rfl) (hpl:(backTo pos (starEach es X.env)).any (·.1)=false:=by rfl):SE X cA aq aj F EX (.Call (.Name x pp) (e::es) [] pos) (.pr fz p Xs):=PE.weak (zgm hc hg hm hv ha hn qI he hpl) λZ H Q hh=>un hh λU J s hL hS h=>
 nO hL hS h λvs H1 U1 ds s1 x1 hL1 aK r1 h1=>by
  obtain⟨ds,rs,h3⟩:=rG aK r1 h1;exact hp U1 H1 ds _ _ aK.zs rs (qQ aK h3)
theorem zn0(hp:aZ X.K cA p (r2 (Qy X.K)))(ha:SE X cA aq aj F EX a A)(hb:SE X cA aq aj F EX b B)(hs:pO b:=by intro _ _;rfl):SE X cA aq aj F EX (.Subscript a b pos) (.pr true p (.cons A (.cons B .nil))):=PE.weak (znp zlN ha hb hs) λZ H Q hh=>un hh λU J s hL hS h=>by
 have h:Run X.K cA (M.bd (M.bd (ev aq aj F A J) λx=>M.bd (M.bd (ev aq aj F B J) λy=>M.bd (M.ret []) λz=>M.ret (y::z)) λys=>M.ret (x::ys)) λvs=>M.bd (gb vs) λds=>bV true (prim p ds)) U H s _ _:=h;simp only[jm] at h;refine aV hL hS h λx H1 U1 d1 s1 x1 hL1 aK r1 h1=>aV hL1 aK h1 λy H2 U2 d2 s2 x2 hL2 aP r2' h2=>?_;exact Bj (Mg (fz:=true) (U:=U) x2 aK aP r1 r2' h2 hp)
theorem zoh(ho:La X (unaryOp op) r)(hp:aZ X.K cA p (λvs H Q=>∃x,vs=[x]/\r x H Q))(ha:SE X cA aq aj F EX a A):SE X cA aq aj F EX (.UnaryOp op a pos) (.pr true p (.cons A .nil)):=PE.weak (zoi ho ha) λZ H Q hh=>un hh λU J s hL hS h=>by
 have h:Run X.K cA (M.bd (M.bd (ev aq aj F A J) λx=>M.bd (M.ret []) λz=>M.ret (x::z)) λvs=>M.bd (gb vs) λds=>bV true (prim p ds)) U H s _ _:=h;simp only[jm] at h;refine aV hL hS h λx H1 U1 d1 s1 x1 hL1 aK r1 h1=>?_;obtain⟨ds,rs,h3⟩:=rG aK (.cons r1 .nil) h1;obtain⟨_,e,q⟩:=hp U1 H1 ds _ _ aK.zs rs (qQ aK h3);cases e;exact q
theorem zmk{j p'}(ha:SE X cA aq aj F EX a A):SE X cA aq aj F EX (.Compare a [.Is] [.Constant .none j p'] pos) (.pr true .pU (.cons A .nil)):=PE.weak (W2 (WY ha)) λZ H Q hh=>un hh λU J s hL hS h=>by
 have h:Run X.K cA (M.bd (M.bd (ev aq aj F A J) λx=>M.bd (M.ret []) λz=>M.ret (x::z)) λvs=>M.bd (gb vs) λds=>bV true (prim .pU ds)) U H s _ _:=h;simp only[jm] at h;refine aV hL hS h λx H1 U1 d1 s1 x1 hL1 aK r1 h1=>?_;obtain⟨ds,rs,h3⟩:=rG aK (.cons r1 .nil) h1;cases rs with
 |cons r rs=>cases rs with
  |nil=>
   rename_i d;have h4:=qQ aK h3;have q:=h4 H1 _ bC.refl (.bl _);cases d<;>first
    |(obtain⟨_,_,rfl,_,_⟩:=r;exact q)
    |(cases (show Rep _ _ _ _ _ x from r)<;>exact q)
theorem zjq{j p'}(ha:SE X cA aq aj F EX a A):SE X cA aq aj F EX (.Compare a [.IsNot] [.Constant .none j p'] pos) (.pr true .mZ (.cons A .nil)):=PE.weak (W2 (W0 ha)) λZ H Q hh=>un hh λU J s hL hS h=>by
 have h:Run X.K cA (M.bd (M.bd (ev aq aj F A J) λx=>M.bd (M.ret []) λz=>M.ret (x::z)) λvs=>M.bd (gb vs) λds=>bV true (prim .mZ ds)) U H s _ _:=h;simp only[jm] at h;refine aV hL hS h λx H1 U1 d1 s1 x1 hL1 aK r1 h1=>?_;obtain⟨ds,rs,h3⟩:=rG aK (.cons r1 .nil) h1;cases rs with
 |cons r rs=>cases rs with
  |nil=>
   rename_i d;have h4:=qQ aK h3;have q:=h4 H1 _ bC.refl (.bl _);cases d<;>first
    |(obtain⟨_,_,rfl,_,_⟩:=r;exact q)
    |(cases (show Rep _ _ _ _ _ x from r)<;>exact q)
theorem Yo(q:Pr)(hq:prim q=Ay f)(hh:uP X.K cA EX (λJ=>M.bd (ev aq aj F (.pr true q (.cons A .nil)) J) bool) Z H Q):tE X.K cA EX (ev aq aj F A) Z H λx H1=>Q (f (decide (x=.non))) H1:=un hh λU J s hL hS h=>by
 have h:Run X.K cA (M.bd (M.bd (M.bd (ev aq aj F A J) λx=>M.bd (M.ret []) λz=>M.ret (x::z)) λvs=>M.bd (gb vs) λds=>bV true (prim q ds)) bool) U H s _ _:=h;simp only[jm] at h;refine aV hL hS h λx H1 U1 d1 s1 x1 hL1 aK r1 h1=>?_;obtain⟨ds,rs,h3⟩:=rG aK (.cons r1 .nil) h1;cases rs with
 |cons r rs=>cases rs with
  |nil=>
   rename_i d;rw[hq] at h3;have h4:Run X.K cA (M.bd (M.ret (Xv.d (.bl (f d.jJ)))) bool) U1 H1 s1 (λd _ U' H'=>Q d H') (eX X.K cA EX Z):=h3;have q:=h4 U1 H1 Ext.refl aK;cases d<;>first
    |(obtain⟨_,_,rfl,_,_⟩:=r;exact q)
    |(cases (show Rep _ _ _ _ _ x from r)<;>exact q)
theorem zmO{j p'}(ha:SE X cA aq aj F EX a A):ST X cA aq aj F EX (.Compare a [.Is] [.Constant .none j p'] pos) (.pr true .pU (.cons A .nil)):=PT.weak (PB (WY ha)) λZ H Q hh=>by
 have:=Yo .pU (f:=id) rfl hh;obtain⟨U,J,s,a,b,c⟩:=this;exact⟨U,J,s,a,b,c.imp λd s' U' H' k v rv=>⟨_,rfl,k v rv⟩⟩
theorem zjr{j p'}(ha:SE X cA aq aj F EX a A):ST X cA aq aj F EX (.Compare a [.IsNot] [.Constant .none j p'] pos) (.pr true .mZ (.cons A .nil)):=PT.weak (PB (W0 ha)) λZ H Q hh=>by
 have:=Yo .mZ (f:=not) rfl hh;obtain⟨U,J,s,a,b,c⟩:=this;exact⟨U,J,s,a,b,c.imp λd s' U' H' k v rv=>⟨_,rfl,k v rv⟩⟩
theorem zhD{K:W.Frag}{U:Ph}{H:Hp}{s:S}{x:Xv}{v:V}{Q:Bool->Hp->Prop}{Ee:Nat->List D->S->Ph->Hp->Prop}(hS:aH K cA U H s)(r:aW K cA U H x v)(h:Run K cA (bool x) U H s (λd _ U' H'=>Q d H') Ee):∃k,v=.bl k/\Q k H:=by
 cases r with
 |l _=>exact h.elim
 |d rv=>cases rv with
  |bl k=>exact⟨k,rfl,h U H Ext.refl hS⟩
  |_=>exact h.elim
end
mutual
inductive Is (h:Heap):D->Value->Prop where
 |non:Is h .non .none
 |bl (b:Bool):Is h (.bl b) (.bool b)
 |int (i:Int) (t:Tok):Is h (.int i) (.int i t)
 |str (x:Str) (t:Tok):Is h (.str x) (.str x t)
 |tup {a:Addr} {xs:List D} {its:List Value} (p:h.IsTuple a its.toArray) (r:iD h xs its):Is h (.tup xs) (.ref a)
 |fl {a:Addr} {xs:List D} {its:List Value} (p:h.IsList a its.toArray) (r:iD h xs its):Is h (.fl xs) (.ref a)
 |oth {d:D} {u:Value} (k:kq d=none):Is h d u
inductive iD (h:Heap):List D->List Value->Prop where
 |nil:iD h [] []
 |cons {d:D} {u:Value} {ds:List D} {us:List Value} (a:Is h d u) (r:iD h ds us):iD h (d::ds) (u::us)
end
section
variable {X:Cx}{cA:Cl}{ao:List (Addr×Obj)}{Z:L2.St}{H:Hp}{s:Shared}{U:Ph}{h:Heap}
theorem RZ(I:Inv X ao Z H s){ds:List D}{vs:List V}{us:List Value}(h:aC X.K cA U H ds vs)(r:Vals vs us):iD s.heap ds us:=
 aC.rec (motive_1:=λd v _=>∀{u:Value},RelV v u->Is s.heap d u) (motive_2:=λd v _=>∀{u:List Value},Vals v u->iD s.heap d u) (λr=>by cases r;exact .non) (λb _ r=>by cases r;exact .bl b) (λi _ r=>by obtain⟨t,rfl⟩:=r;exact .int i t) (λi _ r=>by obtain⟨t,rfl⟩:=r;exact .str i t)
 (λh _ ih _ r=>by
  cases r;obtain⟨its,rv,ht,_⟩:=I.tuple h.iV;exact .tup ht (ih rv))
 (λh _ ih _ r=>by
  cases r;obtain⟨its,rv,ht,_⟩:=I.list h.rF;exact .fl ht.isList (ih rv))
 (λ_ _ _ _=>.oth rfl) (λ_ _ _ _ _=>.oth rfl) (λ_ _ _ _ _=>.oth rfl) (λ_ _ _=>.oth rfl)
 (λr=>by cases r;exact .nil)
 (λ_ _ i j _ r=>by
  cases r with
  |cons a b=>exact .cons (i a) (j b)) h r
theorem qR(I:Inv X ao Z H s){d:D}{v:V}{u:Value}(h:Rep X.K cA U H d v)(r:RelV v u):Is s.heap d u:=by
 cases h with
 |non=>cases r;exact .non
 |bl b=>cases r;exact .bl b
 |int i=>obtain⟨t,rfl⟩:=r;exact .int i t
 |str i=>obtain⟨t,rfl⟩:=r;exact .str i t
 |tup h q=>
  cases r;obtain⟨its,rv,ht,_⟩:=I.tuple h.iV;exact .tup ht (RZ I q rv)
 |fl h q=>
  cases r;obtain⟨its,rv,ht,_⟩:=I.list h.rF;exact .fl ht.isList (RZ I q rv)
 |fd _ _=>exact .oth rfl
 |exc _ _=>exact .oth rfl
 |ob _ _=>exact .oth rfl
 |any _=>exact .oth rfl
theorem uQ(I:Inv X ao Z H s){d:D}{v:V}{u:Value}(q:Rv X.K cA U H d v)(r:RelV v u):Is s.heap d u:=by
 cases d with
 |fl xs=>
  obtain⟨a,vs,rfl,sq,rs⟩:=q;cases r;obtain⟨its,rv,ht,_⟩:=I.list sq;exact .fl ht.isList (RZ I rs rv)
 |non=>exact qR I q r
 |bl b=>exact qR I q r
 |int b=>exact qR I q r
 |str b=>exact qR I q r
 |tup b=>exact qR I q r
 |fd b c=>exact qR I q r
 |exc b c=>exact qR I q r
 |ob b c=>exact qR I q r
 |any=>exact qR I q r
theorem iD.len{ds:List D}{us:List Value}(r:iD h ds us):ds.length=us.length:=by
 induction ds generalizing us with
 |nil=>cases r;rfl
 |cons a d ih=>cases r with|cons _ r=>rw[fX,fX,ih r]
theorem iD.get:∀{ds:List D} {us:List Value} {i:Nat} {d:D},iD h ds us->ds[i]?=some d->∃u,us[i]?=some u/\Is h d u
 |_,_,_,_,.nil,e=>by simp at e
 |_,_,0,_,.cons h _,e=>by simp at e;subst e;exact⟨_,rfl,h⟩
 |_,_,i+1,d,.cons _ r,e=>by
  obtain⟨v,a,b⟩:=iD.get (i:=i) (d:=d) r (by simpa using e);exact⟨v,by simpa using a,b⟩
theorem Yp{a:Addr}{is js:Array Value}(p:h.IsTuple a is)(q:h.IsTuple a js):is=js:=by
 obtain⟨o,e,c,n,d⟩:=p;obtain⟨o',e',c',n',d'⟩:=q;rw[e] at e';cases e';rw[d] at d';cases d';rfl
theorem Yq{a:Addr}{is js:Array Value}(p:h.IsList a is)(q:h.IsList a js):is=js:=by
 obtain⟨o,e,c,n,d⟩:=p;obtain⟨o',e',c',n',d'⟩:=q;rw[e] at e';cases e';rw[d] at d';cases d';rfl
theorem Dq{a:Addr}{is js:Array Value}(p:h.IsList a is)(q:h.IsTuple a js):False:=by
 obtain⟨o,e,c,n,d⟩:=p;obtain⟨o',e',c',n',d'⟩:=q;rw[e] at e';cases e';rw[c] at c';exact absurd c' Rb
theorem Il{eq:D->D->Option Bool}:∀{xs ys:List D} {b:Bool},dI eq xs ys=some b->∃e:Nat->Bool,(∀(j:Nat) x y,xs[j]?=some x->ys[j]?=some y->eq x y=some (e j))/\b=((List.range (min xs.length ys.length)).all e&&xs.length==ys.length)
 |[],[],b,h=>by cases h;exact⟨λ_=>true,λj x y q=>by simp at q,by simp⟩
 |[],y::ys,b,h=>by cases h;exact⟨λ_=>true,λj x y q=>by simp at q,by simp⟩
 |x::xs,[],b,h=>by cases h;exact⟨λ_=>true,λj x y q r=>by simp at r,by simp⟩
 |x::xs,y::ys,b,h=>by
  simp only[dI] at h;cases e1:eq x y with
  |none=>rw[e1] at h;cases h
  |some a=>
   cases e2:dI eq xs ys with
   |none=>rw[e1,e2] at h;cases h
   |some c=>
    rw[e1,e2] at h;cases h;obtain⟨e,h1,h2⟩:=Il e2;refine⟨λj=>match j with|0=>a|j+1=>e j,λj p q r1 r2=>?_,?_⟩
    ·cases j with
     |zero=>
      simp at r1 r2;subst r1 r2;exact e1
     |succ j=>exact h1 j p q (by simpa using r1) (by simpa using r2)
    ·rw[h2];simp only[fX,Nat.succ_min_succ,Og,xK,Fg,Function.comp_def];rw[Bool.and_assoc]
     congr 2
     simp
theorem rH{n:Nat}{d e:D}(k:kq d=none):bY n d e=none:=by
 cases n<;>cases d<;>first|cases k;done|(cases e<;>rfl)
theorem gP{n:Nat}{d e:D}(k:kq e=none):bY n d e=none:=by
 cases n<;>cases e<;>first|cases k;done|(cases d<;>rfl)
theorem R0:∀(n:Nat) {d1 d2:D} {u:Value} {b:Bool},Is h d1 u->Is h d2 u->bY n d1 d2=some b->b=true:=by
 intro n;have rows:∀(n:Nat),(∀{d1 d2:D} {u:Value} {b:Bool},Is h d1 u->Is h d2 u->bY n d1 d2=some b->b=true)->∀{xs ys:List D} {is js:List Value} {b:Bool},iD h xs is->iD h ys js->is.toArray=js.toArray->dI (bY n) xs ys=some b->b=true:=by
  intro n ih xs ys is js b q1 q2 e hd;have e:is=js:=by simpa using e
  subst e;obtain⟨e,a1,a2⟩:=Il (eq:=bY n) hd;rw[a2];have hl:_=_:=q1.len.trans q2.len.symm;rw[gw];refine⟨fC.mpr λj hj=>?_,by rw[hl];simp⟩;have hj:=uG.mp hj;obtain⟨x,hx⟩ : ∃x,_=some x:=⟨_,cP (iB hj (Nat.min_le_left _ _))⟩;obtain⟨y,hy⟩ : ∃y,_=some y:=⟨_,cP (iB hj (Nat.min_le_right _ _))⟩;obtain⟨v1,e1,p1⟩:=q1.get hx;obtain⟨v2,e2,p2⟩:=q2.get hy;rw[e1] at e2;cases e2;exact ih p1 p2 (a1 j x y hx hy)
 induction n with
 |zero=>
  intro d1 d2 u b r1 r2 hd;cases r1 with
  |oth k=>rw[rH k] at hd;cases hd
  |non=>cases r2 with
   |oth k=>rw[gP k] at hd;cases hd
   |non=>cases hd;rfl
  |bl x=>cases r2 with
   |oth k=>rw[gP k] at hd;cases hd
   |bl y=>cases hd;simp
  |int x t=>cases r2 with
   |oth k=>rw[gP k] at hd;cases hd
   |int y=>cases hd;simp
  |str x t=>cases r2 with
   |oth k=>rw[gP k] at hd;cases hd
   |str y=>cases hd;simp
  |tup p q=>cases r2 with
   |oth k=>rw[gP k] at hd;cases hd
   |tup p2 q2=>cases hd
   |fl p2 q2=>exact(Dq p2 p).elim
  |fl p q=>cases r2 with
   |oth k=>rw[gP k] at hd;cases hd
   |fl p2 q2=>cases hd
   |tup p2 q2=>exact(Dq p p2).elim
 |succ n ih=>
  intro d1 d2 u b r1 r2 hd;cases r1 with
  |oth k=>rw[rH k] at hd;cases hd
  |non=>cases r2 with
   |oth k=>rw[gP k] at hd;cases hd
   |non=>cases hd;rfl
  |bl x=>cases r2 with
   |oth k=>rw[gP k] at hd;cases hd
   |bl y=>cases hd;simp
  |int x t=>cases r2 with
   |oth k=>rw[gP k] at hd;cases hd
   |int y=>cases hd;simp
  |str x t=>cases r2 with
   |oth k=>rw[gP k] at hd;cases hd
   |str y=>cases hd;simp
  |tup p q=>cases r2 with
   |oth k=>rw[gP k] at hd;cases hd
   |tup p2 q2=>exact rows n ih q q2 (Yp p p2) hd
   |fl p2 q2=>exact(Dq p2 p).elim
  |fl p q=>cases r2 with
   |oth k=>rw[gP k] at hd;cases hd
   |fl p2 q2=>exact rows n ih q q2 (Yq p p2) hd
   |tup p2 q2=>exact(Dq p p2).elim
theorem parts{n:Nat}{A:Around}{xs ys:List D}{is js:List Value}{b:Bool}(r1:iD s.heap xs is)(r2:iD s.heap ys js)(hd:dI (bY n) xs ys=some b)
  (ih:∀{d1 d2:D} {u1 u2:Value} {b:Bool},Is s.heap d1 u1->Is s.heap d2 u2->bY n d1 d2=some b->SeqAt.EqAt A s u1 u2 b) :
  ∃e:Nat->Bool,(∀j (h1:j<is.toArray.size) (h2:j<js.toArray.size),SeqAt.EqAt A s is.toArray[j] js.toArray[j] (e j))/\b=((List.range (min is.toArray.size js.toArray.size)).all e&&is.toArray.size==js.toArray.size):=by
 obtain⟨e,a1,a2⟩:=Il hd;have z1:=r1.len;have z2:=r2.len;refine⟨e,λj h1 h2=>?_,by simp only[eY,<-z1,<-z2];exact a2⟩;simp only[eY] at h1 h2;obtain⟨x,hx⟩ : ∃x,xs[j]?=some x:=⟨_,cP (by rw[z1];exact h1)⟩;obtain⟨y,hy⟩ : ∃y,ys[j]?=some y:=⟨_,cP (by rw[z2];exact h2)⟩;obtain⟨u,f1,g1⟩:=r1.get hx;obtain⟨u',f2,g2⟩:=r2.get hy;have k1:is.toArray[j]=u:=by
  have:=cI.mp f1;simpa using this.2
 have k2:js.toArray[j]=u':=by
  have:=cI.mp f2;simpa using this.2
 rw[k1,k2];exact ih g1 g2 (a1 j x y hx hy)
theorem Yr{A:Around}{l m:Addr}{is js:Array Value}{e:Nat->Bool}{b:Bool}(p1:s.heap.IsList l is)(p2:s.heap.IsList m js)(hu:A.units<cLine)(he:∀j (h1:j<is.size) (h2:j<js.size),SeqAt.EqAt A.in1 s is[j] js[j] (e j))(hb:b=((List.range (min is.size js.size)).all e&&is.size==js.size)):SeqAt.RcAt A s (.ref l) (.ref m) b:=by
 by_cases hz:is.size=js.size
 ·have:b=(List.range is.size).all e:=by rw[hb,hz];simp
  rw[this];exact SeqAt.RcAt.lists p1 p2 hz hu he
 ·have R3:(is.size != js.size)=true:=by simpa using hz
  have:b=false:=by rw[hb];simp[hz]
  rw[this];exact SeqAt.RcAt.lists_lengths p1 p2 R3 hu
theorem zfB{A:Around}{l m:Addr}{is js:Array Value}{e:Nat->Bool}{b:Bool}(p1:s.heap.IsList l is)(p2:s.heap.IsList m js)(hu:A.units<cLine)(he:∀j (h1:j<is.size) (h2:j<js.size),SeqAt.EqAt A.in1 s is[j] js[j] (e j))(hb:b=((List.range (min is.size js.size)).all e&&is.size==js.size)):SeqAt.RcNeAt A s (.ref l) (.ref m) (!b):=by
 by_cases hz:is.size=js.size
 ·have:b=(List.range is.size).all e:=by rw[hb,hz];simp
  rw[this];exact SeqAt.RcNeAt.lists p1 p2 hz hu he
 ·have R3:(is.size != js.size)=true:=by simpa using hz
  have:b=false:=by rw[hb];simp[hz]
  rw[this];exact SeqAt.RcNeAt.lists_lengths p1 p2 R3 hu
open SeqAt in
theorem yx:∀(n:Nat) {A:Around} {d1 d2:D} {u1 u2:Value} {b:Bool},A.units+n<cLine->Is s.heap d1 u1->Is s.heap d2 u2->bY n d1 d2=some b->SeqAt.EqAt A s u1 u2 b:=by
 intro n
 induction n with
 |zero=>
  intro A d1 d2 u1 u2 b hu r1 r2 hd;have hu:A.units<cLine:=by lia
  cases r1 with
  |oth k=>rw[rH k] at hd;cases hd
  |non=>cases r2 with
   |oth k=>rw[gP k] at hd;cases hd
   |non=>cases hd;exact EqAt.same _
   |bl y=>cases hd;exact EqAt.none_bool _
   |int y t=>cases hd;exact EqAt.none_int _ _
   |str y t=>cases hd;exact EqAt.none_str _ _
   |tup p q=>cases hd;exact EqAt.none_tuple p hu
   |fl p q=>cases hd;exact EqAt.none_list p hu
  |bl x=>cases r2 with
   |oth k=>rw[gP k] at hd;cases hd
   |non=>cases hd;exact EqAt.bool_none _
   |bl y=>cases hd;exact EqAt.bool_bool _ _
   |int y t=>cases hd;exact EqAt.bool_int _ _ _
   |str y t=>cases hd;exact EqAt.bool_str _ _ _
   |tup p q=>cases hd;exact EqAt.bool_tuple _ p hu
   |fl p q=>cases hd;exact EqAt.bool_list _ p hu
  |int x t=>cases r2 with
   |oth k=>rw[gP k] at hd;cases hd
   |non=>cases hd;exact EqAt.int_none _ _
   |bl y=>cases hd;exact EqAt.int_bool _ _ _
   |int y t=>cases hd;exact EqAt.int_int _ _ _ _
   |str y t=>cases hd;exact EqAt.int_str _ _ _ _
   |tup p q=>cases hd;exact EqAt.int_tuple _ _ p hu
   |fl p q=>cases hd;exact EqAt.int_list _ _ p hu
  |str x t=>cases r2 with
   |oth k=>rw[gP k] at hd;cases hd
   |non=>cases hd;exact EqAt.str_none _ _
   |bl y=>cases hd;exact EqAt.str_bool _ _ _
   |int y t=>cases hd;exact EqAt.str_int _ _ _ _
   |str y t=>cases hd;exact EqAt.str_str _ _ _ _
   |tup p q=>cases hd;exact EqAt.str_tuple _ _ p hu
   |fl p q=>cases hd;exact EqAt.str_list _ _ p hu
  |tup p q=>cases r2 with
   |oth k=>rw[gP k] at hd;cases hd
   |non=>cases hd;exact EqAt.tuple_none p hu
   |bl y=>cases hd;exact EqAt.tuple_bool _ p hu
   |int y t=>cases hd;exact EqAt.tuple_int _ _ p hu
   |str y t=>cases hd;exact EqAt.tuple_str _ _ p hu
   |tup p2 q2=>cases hd
   |fl p2 q2=>cases hd;exact EqAt.tuple_list p p2 hu
  |fl p q=>cases r2 with
   |oth k=>rw[gP k] at hd;cases hd
   |non=>cases hd;exact EqAt.list_none p hu
   |bl y=>cases hd;exact EqAt.list_bool _ p hu
   |int y t=>cases hd;exact EqAt.list_int _ _ p hu
   |str y t=>cases hd;exact EqAt.list_str _ _ p hu
   |tup p2 q2=>cases hd;exact EqAt.list_tuple p p2 hu
   |fl p2 q2=>cases hd
 |succ n ih=>
  intro A d1 d2 u1 u2 b Mh r1 r2 hd;have hu:A.units<cLine:=by lia
  have gK:A.in1.units+n<cLine:=by show A.units+1+n<cLine;lia
  cases r1 with
  |oth k=>rw[rH k] at hd;cases hd
  |non=>cases r2 with
   |oth k=>rw[gP k] at hd;cases hd
   |non=>cases hd;exact EqAt.same _
   |bl y=>cases hd;exact EqAt.none_bool _
   |int y t=>cases hd;exact EqAt.none_int _ _
   |str y t=>cases hd;exact EqAt.none_str _ _
   |tup p q=>cases hd;exact EqAt.none_tuple p hu
   |fl p q=>cases hd;exact EqAt.none_list p hu
  |bl x=>cases r2 with
   |oth k=>rw[gP k] at hd;cases hd
   |non=>cases hd;exact EqAt.bool_none _
   |bl y=>cases hd;exact EqAt.bool_bool _ _
   |int y t=>cases hd;exact EqAt.bool_int _ _ _
   |str y t=>cases hd;exact EqAt.bool_str _ _ _
   |tup p q=>cases hd;exact EqAt.bool_tuple _ p hu
   |fl p q=>cases hd;exact EqAt.bool_list _ p hu
  |int x t=>cases r2 with
   |oth k=>rw[gP k] at hd;cases hd
   |non=>cases hd;exact EqAt.int_none _ _
   |bl y=>cases hd;exact EqAt.int_bool _ _ _
   |int y t=>cases hd;exact EqAt.int_int _ _ _ _
   |str y t=>cases hd;exact EqAt.int_str _ _ _ _
   |tup p q=>cases hd;exact EqAt.int_tuple _ _ p hu
   |fl p q=>cases hd;exact EqAt.int_list _ _ p hu
  |str x t=>cases r2 with
   |oth k=>rw[gP k] at hd;cases hd
   |non=>cases hd;exact EqAt.str_none _ _
   |bl y=>cases hd;exact EqAt.str_bool _ _ _
   |int y t=>cases hd;exact EqAt.str_int _ _ _ _
   |str y t=>cases hd;exact EqAt.str_str _ _ _ _
   |tup p q=>cases hd;exact EqAt.str_tuple _ _ p hu
   |fl p q=>cases hd;exact EqAt.str_list _ _ p hu
  |@tup a1 xs is p q=>cases r2 with
   |oth k=>rw[gP k] at hd;cases hd
   |non=>cases hd;exact EqAt.tuple_none p hu
   |bl y=>cases hd;exact EqAt.tuple_bool _ p hu
   |int y t=>cases hd;exact EqAt.tuple_int _ _ p hu
   |str y t=>cases hd;exact EqAt.tuple_str _ _ p hu
   |@tup a2 ys js p2 q2=>
    by_cases ea:a1=a2
    ·subst ea;have:=R0 (n+1) (.tup p q) (.tup p2 q2) hd;subst this;exact EqAt.same _
    ·obtain⟨e,he,hb⟩:=parts (A:=A.in1) q q2 hd λa b c=>ih gK a b c;rw[hb];exact EqAt.of_refs ea (RcAt.tuples p p2 hu he)
   |fl p2 q2=>cases hd;exact EqAt.tuple_list p p2 hu
  |@fl a1 xs is p q=>cases r2 with
   |oth k=>rw[gP k] at hd;cases hd
   |non=>cases hd;exact EqAt.list_none p hu
   |bl y=>cases hd;exact EqAt.list_bool _ p hu
   |int y t=>cases hd;exact EqAt.list_int _ _ p hu
   |str y t=>cases hd;exact EqAt.list_str _ _ p hu
   |tup p2 q2=>cases hd;exact EqAt.list_tuple p p2 hu
   |@fl a2 ys js p2 q2=>
    by_cases ea:a1=a2
    ·subst ea;have:=R0 (n+1) (.fl p q) (.fl p2 q2) hd;subst this;exact EqAt.same _
    ·obtain⟨e,he,hb⟩:=parts (A:=A.in1) q q2 hd λa b c=>ih gK a b c;exact EqAt.of_refs ea (Yr p p2 hu he hb)
end
section
variable {X:Cx}{cA:Cl}{ao:List (Addr×Obj)}{Z:L2.St}{H:Hp}{s:Shared}{U:Ph}{h:Heap}
open SeqAt in
theorem Ys(Mh:A.units+(n+1)<cLine)(r1:Is s.heap d1 u1)(r2:Is s.heap d2 u2)(hd:bY (n+1) d1 d2=some b):RcAt A s u1 u2 b/\RcNeAt A s u1 u2 (!b):=by
 have hu:A.units<cLine:=by lia
 have gK:A.in1.units+n<cLine:=by show A.units+1+n<cLine;lia
 cases r1 with
 |oth k=>rw[rH k] at hd;cases hd
 |non=>cases r2 with
  |oth k=>rw[gP k] at hd;cases hd
  |non=>cases hd;exact⟨RcAt.none_none,RcNeAt.none_none⟩
  |bl y=>cases hd;exact⟨RcAt.none_bool _,RcNeAt.none_bool _⟩
  |int y t=>cases hd;exact⟨RcAt.none_int _ _,RcNeAt.none_int _ _⟩
  |str y t=>cases hd;exact⟨RcAt.none_str _ _,RcNeAt.none_str _ _⟩
  |tup p q=>cases hd;exact⟨RcAt.none_tuple p hu,RcNeAt.none_tuple p hu⟩
  |fl p q=>cases hd;exact⟨RcAt.none_list p hu,RcNeAt.none_list p hu⟩
 |bl x=>cases r2 with
  |oth k=>rw[gP k] at hd;cases hd
  |non=>cases hd;exact⟨RcAt.bool_none _,RcNeAt.bool_none _⟩
  |bl y=>cases hd;exact⟨RcAt.bool_bool _ _,RcNeAt.bool_bool _ _⟩
  |int y t=>cases hd;exact⟨RcAt.bool_int _ _ _,RcNeAt.bool_int _ _ _⟩
  |str y t=>cases hd;exact⟨RcAt.bool_str _ _ _,RcNeAt.bool_str _ _ _⟩
  |tup p q=>cases hd;exact⟨RcAt.bool_tuple _ p hu,RcNeAt.bool_tuple _ p hu⟩
  |fl p q=>cases hd;exact⟨RcAt.bool_list _ p hu,RcNeAt.bool_list _ p hu⟩
 |int x t=>cases r2 with
  |oth k=>rw[gP k] at hd;cases hd
  |non=>cases hd;exact⟨RcAt.int_none _ _,RcNeAt.int_none _ _⟩
  |bl y=>cases hd;exact⟨RcAt.int_bool _ _ _,RcNeAt.int_bool _ _ _⟩
  |int y t=>cases hd;exact⟨RcAt.int_int _ _ _ _,RcNeAt.int_int _ _ _ _⟩
  |str y t=>cases hd;exact⟨RcAt.int_str _ _ _ _,RcNeAt.int_str _ _ _ _⟩
  |tup p q=>cases hd;exact⟨RcAt.int_tuple _ _ p hu,RcNeAt.int_tuple _ _ p hu⟩
  |fl p q=>cases hd;exact⟨RcAt.int_list _ _ p hu,RcNeAt.int_list _ _ p hu⟩
 |str x t=>cases r2 with
  |oth k=>rw[gP k] at hd;cases hd
  |non=>cases hd;exact⟨RcAt.str_none _ _,RcNeAt.str_none _ _⟩
  |bl y=>cases hd;exact⟨RcAt.str_bool _ _ _,RcNeAt.str_bool _ _ _⟩
  |int y t=>cases hd;exact⟨RcAt.str_int _ _ _ _,RcNeAt.str_int _ _ _ _⟩
  |str y t=>cases hd;exact⟨RcAt.str_str _ _ _ _,RcNeAt.str_str _ _ _ _⟩
  |tup p q=>cases hd;exact⟨RcAt.str_tuple _ _ p hu,RcNeAt.str_tuple _ _ p hu⟩
  |fl p q=>cases hd;exact⟨RcAt.str_list _ _ p hu,RcNeAt.str_list _ _ p hu⟩
 |@tup a1 xs is p q=>cases r2 with
  |oth k=>rw[gP k] at hd;cases hd
  |non=>cases hd;exact⟨RcAt.tuple_none p hu,RcNeAt.tuple_none p hu⟩
  |bl y=>cases hd;exact⟨RcAt.tuple_bool _ p hu,RcNeAt.tuple_bool _ p hu⟩
  |int y t=>cases hd;exact⟨RcAt.tuple_int _ _ p hu,RcNeAt.tuple_int _ _ p hu⟩
  |str y t=>cases hd;exact⟨RcAt.tuple_str _ _ p hu,RcNeAt.tuple_str _ _ p hu⟩
  |@tup a2 ys js p2 q2=>
   obtain⟨e,he,hb⟩:=parts (A:=A.in1) q q2 hd λa b c=>yx n gK a b c;rw[hb];exact⟨RcAt.tuples p p2 hu he,RcNeAt.tuples p p2 hu he⟩
  |fl p2 q2=>cases hd;exact⟨RcAt.tuple_list p p2 hu,RcNeAt.tuple_list p p2 hu⟩
 |@fl a1 xs is p q=>cases r2 with
  |oth k=>rw[gP k] at hd;cases hd
  |non=>cases hd;exact⟨RcAt.list_none p hu,RcNeAt.list_none p hu⟩
  |bl y=>cases hd;exact⟨RcAt.list_bool _ p hu,RcNeAt.list_bool _ p hu⟩
  |int y t=>cases hd;exact⟨RcAt.list_int _ _ p hu,RcNeAt.list_int _ _ p hu⟩
  |str y t=>cases hd;exact⟨RcAt.list_str _ _ p hu,RcNeAt.list_str _ _ p hu⟩
  |tup p2 q2=>cases hd;exact⟨RcAt.list_tuple p p2 hu,RcNeAt.list_tuple p p2 hu⟩
  |@fl a2 ys js p2 q2=>
   obtain⟨e,he,hb⟩:=parts (A:=A.in1) q q2 hd λa b c=>yx n gK a b c;exact⟨Yr p p2 hu he hb,zfB p p2 hu he hb⟩
noncomputable def v7(K:W.Frag)(cA:Cl)(f:Bool->Bool):R2:=λx y H Q=>∃U d1 d2 b,Rv K cA U H d1 x/\Rv K cA U H d2 y/\bY 50 d1 d2=some b/\Q (.bl (f b)) H
theorem zmY(hu:X.A.units+60<cLine):eF X (compareOp .Eq) (v7 X.K cA id):=by
 rintro ao s Z H x y v u Q I rx ry ⟨U,d1,d2,b,r1,r2,hd,q⟩;exact(Ys (n:=49) gV (uQ I r1 rx) (uQ I r2 ry) hd).1 X.prog X.w X.xe _ ⟨.bl b,H,I,rfl,q⟩
theorem zl7(hu:X.A.units+60<cLine):eF X (compareOp .NotEq) (v7 X.K cA not):=by
 rintro ao s Z H x y v u Q I rx ry ⟨U,d1,d2,b,r1,r2,hd,q⟩;exact(Ys (n:=49) gV (uQ I r1 rx) (uQ I r2 ry) hd).2 X.prog X.w X.xe _ ⟨.bl (!b),H,I,rfl,q⟩
theorem ziS:∀(n:Nat) {d d' x:D} {u:Value} {b b':Bool},Is h d u->Is h d' u->bY n d x=some b->bY n d' x=some b'->b=b':=by
 intro n;have tn:∀{n:Nat} {xs xs':List D} {x:D},(∀ys,x=.tup ys->False)->bY n (.tup xs) x=bY n (.tup xs') x:=λ{n xs xs' x} hx=>by
  cases n<;>cases x<;>first|rfl|exact(hx _ rfl).elim
 have ln:∀{n:Nat} {xs xs':List D} {x:D},(∀ys,x=.fl ys->False)->bY n (.fl xs) x=bY n (.fl xs') x:=λ{n xs xs' x} hx=>by
  cases n<;>cases x<;>first|rfl|exact(hx _ rfl).elim
 have main:∀{n:Nat},(∀{xs xs' ys:List D} {is js:List Value} {b b':Bool},iD h xs is->iD h xs' js->is.toArray=js.toArray->bY n (.tup xs) (.tup ys)=some b->bY n (.tup xs') (.tup ys)=some b'->b=b')->(∀{xs xs' ys:List D} {is js:List Value} {b b':Bool},iD h xs is->iD h xs' js->is.toArray=js.toArray->bY n (.fl xs) (.fl ys)=some b->bY n (.fl xs') (.fl ys)=some b'->b=b')->∀{d d' x:D} {u:Value} {b b':Bool},Is h d u->Is h d' u->bY n d x=some b->bY n d' x=some b'->b=b':=by
  intro n R L d d' x u b b' r1 r2 h1 h2;cases r1 with
  |oth k=>rw[rH k] at h1;cases h1
  |non=>cases r2 with
   |oth k=>rw[rH k] at h2;cases h2
   |non=>rw[h1] at h2;exact cW h2
  |bl y=>cases r2 with
   |oth k=>rw[rH k] at h2;cases h2
   |bl=>rw[h1] at h2;exact cW h2
  |int y=>cases r2 with
   |oth k=>rw[rH k] at h2;cases h2
   |int=>rw[h1] at h2;exact cW h2
  |str y=>cases r2 with
   |oth k=>rw[rH k] at h2;cases h2
   |str=>rw[h1] at h2;exact cW h2
  |tup p q=>cases r2 with
   |oth k=>rw[rH k] at h2;cases h2
   |tup p2 q2=>
    cases x with
    |tup ys=>exact R q q2 (Yp p p2) h1 h2
    |_=>rw[tn (by intro ys z;cases z),h2] at h1;exact(cW h1).symm
   |fl p2 q2=>exact(Dq p2 p).elim
  |fl p q=>cases r2 with
   |oth k=>rw[rH k] at h2;cases h2
   |fl p2 q2=>
    cases x with
    |fl ys=>exact L q q2 (Yq p p2) h1 h2
    |_=>rw[ln (by intro ys z;cases z),h2] at h1;exact(cW h1).symm
   |tup p2 q2=>exact(Dq p p2).elim
 induction n with
 |zero=>
  intro d d' x u b b' r1 r2;exact main (n:=0) (λ_ _ _ z=>by cases z) (λ_ _ _ z=>by cases z) r1 r2
 |succ n ih=>
  have rows:∀{xs xs' ys:List D} {is js:List Value} {b b':Bool},iD h xs is->iD h xs' js->is.toArray=js.toArray->dI (bY n) xs ys=some b->dI (bY n) xs' ys=some b'->b=b':=by
   intro xs xs' ys is js b b' q1 q2 e h1 h2;have e:is=js:=by simpa using e
   subst e;obtain⟨e1,a1,b1⟩:=Il h1;obtain⟨e2,a2,b2⟩:=Il h2;have hl:xs.length=xs'.length:=q1.len.trans q2.len.symm;rw[b1,b2,hl]
   congr 1
   rw[KC,fC,fC];have key:∀j∈List.range (min xs'.length ys.length),e1 j=e2 j:=λj hj=>by
    have hj:=uG.mp hj;obtain⟨x1,Yt⟩ : ∃x,xs[j]?=some x:=⟨_,cP (by rw[hl];exact iB hj (Nat.min_le_left _ _))⟩;obtain⟨x2,Ln⟩ : ∃x,xs'[j]?=some x:=⟨_,cP (iB hj (Nat.min_le_left _ _))⟩;obtain⟨y,hy⟩ : ∃y,ys[j]?=some y:=⟨_,cP (iB hj (Nat.min_le_right _ _))⟩;obtain⟨v1,f1,p1⟩:=q1.get Yt;obtain⟨v2,f2,p2⟩:=q2.get Ln;rw[f1] at f2;cases f2;exact ih p1 p2 (a1 j x1 y Yt hy) (a2 j x2 y Ln hy)
   exact⟨λz j hj=>by rw[<-key j hj];exact z j hj,λz j hj=>by rw[key j hj];exact z j hj⟩
  intro d d' x u b b' r1 r2;exact main (n:=n+1) rows rows r1 r2
theorem Yu:∀{xs:List D} {b:Bool},memD x xs=some b->∀d∈xs,∃k,bY 50 d x=some k
 |[],_,_,d,hd=>by cases hd
 |y::xs,b,h,d,hd=>by
  unfold memD at h;cases e1:bY 50 y x with
  |none=>simp only[e1] at h;cases h
  |some a=>
   cases e2:memD x xs with
   |none=>simp only[e1,e2] at h;cases h
   |some c=>
    rcases iG.mp hd with rfl|hd
    ·exact⟨a,e1⟩
    ·exact Yu e2 d hd
theorem Mj:∀{xs:List D} {us:List Value} {b:Bool},memD x xs=some b->iD h xs us->∃e:Value->Bool,(∀u∈us,∃d,Is h d u/\bY 50 d x=some (e u))/\us.any e=b:=by
 intro xs us b hm r;have ex:∀u∈us,∃d k,Is h d u/\bY 50 d x=some k:=by
  intro u hu;obtain⟨i,hi,e⟩:=xq hu;have hl:=r.len;obtain⟨d,hd⟩ : ∃d,xs[i]?=some d:=⟨_,cP gV⟩;obtain⟨u',e1,q⟩:=r.get hd;rw[cP hi,e] at e1;cases e1;obtain⟨k,hk⟩:=Yu hm d (dM hd);exact⟨d,k,q,hk⟩
 refine⟨λu=>by classical exact if z:∃k,∃d,Is h d u/\bY 50 d x=some k then z.choose else false,λu hu=>?_,?_⟩
 ·obtain⟨d,k,q,hk⟩:=ex u hu;have z:∃k,∃d,Is h d u/\bY 50 d x=some k:=⟨k,d,q,hk⟩;dsimp only;rw[dif_pos z];exact z.choose_spec
 ·clear ex;have key:∀(xs:List D) (us:List Value) (b:Bool),memD x xs=some b->iD h xs us->us.any (λu=>by classical exact if z:∃k,∃d,Is h d u/\bY 50 d x=some k then z.choose else false)=b:=by
   intro xs
   induction xs with
   |nil=>intro us b hm r;cases r;cases hm;rfl
   |cons d ds ih=>
    intro us b hm r;cases r with
    |@cons _ u _ us a r=>
     unfold memD at hm;cases e1:bY 50 d x with
     |none=>simp only[e1] at hm;cases hm
     |some k=>
      cases e2:memD x ds with
      |none=>simp only[e1,e2] at hm;cases hm
      |some c=>
       simp only[e1,e2] at hm;cases hm;rw[List.any_cons];have z:∃k,∃d,Is h d u/\bY 50 d x=some k:=⟨k,d,a,e1⟩;have hk:z.choose=k:=by
        obtain⟨d',q,FW⟩:=z.choose_spec;exact ziS 50 q a FW e1
       rw[dif_pos z,hk,ih us c e2 r]
  exact key xs us b hm r
noncomputable def v8(K:W.Frag)(cA:Cl)(f:Bool->Bool):R2:=λx y H Q=>∃U d1 d2 xs b,Rv K cA U H d1 x/\Rv K cA U H d2 y/\jH d2=some xs/\memD d1 xs=some b/\Q (.bl (f b)) H
theorem zl9(hu:X.A.units+60<cLine):eF X (compareOp .In) (v8 X.K cA id):=by
 rintro ao s Z H x y v u Q I rx ry ⟨U,d1,d2,xs,b,r1,r2,hq,hm,q⟩;have gK:X.A.in1.units+50<cLine:=by show X.A.units+1+50<cLine;lia
 have i1:=uQ I r1 rx;cases uQ I r2 ry with
 |tup p r=>
  cases hq;obtain⟨e,he,hb⟩:=Mj hm r;refine SeqAt.in_tupleAt e p (λw hw=>?_) ⟨.bl b,H,I,by rw[<-hb];simp[L2.RelV],q⟩;obtain⟨d,q1,q2⟩:=he w (by simpa using hw);exact yx 50 gK q1 i1 q2
 |fl p r=>
  cases hq;obtain⟨e,he,hb⟩:=Mj hm r;refine SeqAt.in_listAt e p (λw hw=>?_) ⟨.bl b,H,I,by rw[<-hb];simp[L2.RelV],q⟩;obtain⟨d,q1,q2⟩:=he w (by simpa using hw);exact yx 50 gK q1 i1 q2
 |oth k=>cases d2<;>cases hq<;>cases k
 |_=>cases hq
theorem zi0(hu:X.A.units+60<cLine):eF X (compareOp .NotIn) (v8 X.K cA not):=by
 rintro ao s Z H x y v u Q I rx ry ⟨U,d1,d2,xs,b,r1,r2,hq,hm,q⟩;have gK:X.A.in1.units+50<cLine:=by show X.A.units+1+50<cLine;lia
 have i1:=uQ I r1 rx;cases uQ I r2 ry with
 |tup p r=>
  cases hq;obtain⟨e,he,hb⟩:=Mj hm r;refine SeqAt.notIn_tupleAt e p (λw hw=>?_) ⟨.bl (!b),H,I,by rw[<-hb];simp[L2.RelV],q⟩;obtain⟨d,q1,q2⟩:=he w (by simpa using hw);exact yx 50 gK q1 i1 q2
 |fl p r=>
  cases hq;obtain⟨e,he,hb⟩:=Mj hm r;refine SeqAt.notIn_listAt e p (λw hw=>?_) ⟨.bl (!b),H,I,by rw[<-hb];simp[L2.RelV],q⟩;obtain⟨d,q1,q2⟩:=he w (by simpa using hw);exact yx 50 gK q1 i1 q2
 |oth k=>cases d2<;>cases hq<;>cases k
 |_=>cases hq
end
end Mi
namespace HT
open PySem PyProof.Rows
section
variable {prog:Program}{w:World}{A:Around}{E:Value->Shared->Prop}{s:Shared}
theorem tu{t b:Addr}{vs ws:List Value}{Q:Value->Shared->Prop}(ht:IsTup s.heap t vs.toArray)(hb:IsTup s.heap b ws.toArray)(hv:vs=[])
  (h1:Q (.ref b) s):wpAny (model prog w) A (binaryOp .Add (.ref t) (.ref b)) Q E s:=by
 obtain⟨⟨cls,dd,data,sl⟩,ho,hc,n,hd⟩:=id ht;obtain⟨⟨cls2,dd2,data2,sl2⟩,oX,lW,n2,hd2⟩:=id hb;simp only at hc hd lW hd2;subst hc hd lW hd2;exact concat_meets ⟨_,ho,rfl⟩ ⟨_,oX,rfl⟩ noFill_tuple_add seq_tuple_add Oe Oc (Ob _ _)
   (tuple_addW0 t b vs.toArray ws.toArray n n2 dd dd2 sl sl2 (by simp[hv])) ⟨ho,oX,h1⟩
theorem gj{t sl:Addr}{items:Array Value}{vl vu:Value}{lo hi:Option Int}{Q:Value->Shared->Prop}(ht:IsTup s.heap t items)(hs:s.heap.IsSliceOf sl vl vu .none)(pl:IsPart vl lo)(pu:IsPart vu hi)
  (hw:bL items.size 0 lo=0/\bL items.size items.size hi=items.size) (h:Q (.ref t) s):wpAny (model prog w) A (getItem (.ref t) (.ref sl)) Q E s:=by
 obtain⟨os,Ah,Lf,GD⟩:=id hs;have Qv:s.TypeIs (.ref sl) "slice":=⟨os,Ah,Lf⟩;unfold getItem
 try with_reducible refine rA ?_
 first|refine aD (bw ?_)|skip
 refine aD (wpAny_sequenceKey ht.typeIs J0 ?_);refine aD (zj (name:=Str.ofString "__getitem__") ht.typeIs Ce
  (xG Ce ht.typeIs entry_tuple_getitem ?_ (args_tuple_getitem _ _)))
 show wpAny _ _ (Builtin.Tuple.tupleItemsOf (.ref t) >>= _) _ _ s;refine aD (tupleItemsOf_ ht ?_);refine aD (wpAny_typeOf Qv ?_);rw[if_pos J0];refine aD (Xm hs pl pu ?_);have R4:(((bL items.size 0 lo:Nat):Int)==0&&(1:Int)==1&&(bL items.size items.size hi-bL items.size 0 lo)==items.size)=true:=by
  rw[hw.1,hw.2];simp
 show wpAny _ _ (if (((bL items.size 0 lo:Nat):Int)==0&&(1:Int)==1&&(bL items.size items.size hi-bL items.size 0 lo)==items.size)=true then _ else _) _ _ s;rw[if_pos R4];refine aD ?_;unfold Builtin.Tuple.tupleIsExact;refine aD (wpAny_typeOf ht.typeIs ?_);refine bw ?_;rw[if_pos J0];refine aD (wpAny_rule ?_);exact bw ⟨_,rfl,bw h⟩
end
end HT
namespace L2
open PySem PySem.Spec PyProof.Rows
section
variable {X:Cx}{e:Expr}{te:TE}{pos p2:Pos}
noncomputable def tD(K:W.Frag):R2:=λx y H Q=>∃a b xs ys,x=.ref a/\y=.ref b/\fD K H a xs/\fD K H b ys/\xs.length+ys.length<=sizeLine /\
 (xs=[]->Q (.ref b) H)/\(ys=[]->Q (.ref a) H)/\∀p,H p=none->Q (.ref p) (upd H p (.tup (xs++ys)))
theorem tG:eF X (binaryOp .Add) (tD X.K):=by
 intro ao s Z H x y v u Q I rx ry h;obtain⟨a,b,xs,ys,rfl,rfl,ha,hb,hz,q0,q1,q2⟩:=h;cases rx;cases ry;obtain⟨its,r1,p1,_⟩:=I.tuple ha;obtain⟨its2,r2,p2,_⟩:=I.tuple hb;by_cases hx:xs=[]
 ·exact HT.tu p1 p2 (r1.lZ.mpr hx) ⟨.ref b,H,I,rfl,q0 hx⟩
 ·refine HT.vH p1 p2 (λz=>hx (r1.lZ.mp z)) (λz=>⟨.ref a,H,I,rfl,q1 (r2.lZ.mp z)⟩) (λz=>?_) (by rw[<-r1.length,<-r2.length];exact hz);refine⟨.ref s.heap.objs.size,_,I.laid (t':=s.toks) (o:=.tup (xs++ys)) (λb ob q=>cQ _ q) (bU _) ?_,rfl,q2 _ (I.hok.fresh (bU _))⟩;exact⟨by rw[dH];exact hz,_,r1.append r2,jB.new _ _⟩
noncomputable def yC(K:W.Frag):V->Option Int->Option Int->Hp->VK->Prop:=λx lo hi H Q=>∃a xs,x=.ref a/\fD K H a xs /\
 ((HT.bL xs.length 0 lo=0/\HT.bL xs.length xs.length hi=xs.length)->Q (.ref a) H)/\∀p,H p=none->Q (.ref p) (upd H p (.tup (lY xs lo hi)))
theorem zkv:vJ X (yC X.K):=by
 intro ao s Z H x v vl vu lo hi sl Q I rx hs pl pu h;obtain⟨a,xs,rfl,hx,hw,q⟩:=h;by_cases hz:HT.bL xs.length 0 lo=0/\HT.bL xs.length xs.length hi=xs.length
 ·cases rx;obtain⟨its,r,ht,_⟩:=I.tuple hx;have hlen:its.toArray.size=xs.length:=by rw[eY];exact r.length.symm
  refine⟨"tuple",_,Ce.lookup,ht.typeIs,?_⟩;exact HT.gj ht hs pl pu (by rw[hlen];exact hz) ⟨.ref a,H,I,rfl,hw hz⟩
 ·exact zmx ao s Z H (.ref a) v vl vu lo hi sl Q I rx hs pl pu ⟨a,xs,rfl,hx,hz,q⟩
end
section
variable {X:Cx}
noncomputable def yD(K:W.Frag):R2:=λx y H Q=>∃l b xs zs,x=.ref l/\y=.ref b/\cR K H l xs/\cR K H b zs/\xs.length+zs.length<=sizeLine/\∀p,H p=none->Q (.ref p) (upd H p (.lst (xs++zs)))
theorem v9:eF X (binaryOp .Add) (yD X.K):=by
 intro ao s Z H x y v u Q I rx ry h;obtain⟨l,b,xs,zs,rfl,rfl,hH,hB,hz,q⟩:=h;cases rx;cases ry;obtain⟨its,r,pl,_⟩:=I.list hH;obtain⟨its2,r2,pl2,_⟩:=I.list hB;obtain⟨⟨cls,dd,data,sl⟩,ho,hc,n,hd⟩:=pl.isList;obtain⟨⟨cls2,dd2,data2,sl2⟩,oX,lW,n2,hd2⟩:=pl2.isList;simp only at hc hd lW hd2;subst hc hd lW hd2;refine concat_meets ⟨_,ho,rfl⟩ ⟨_,oX,rfl⟩ noFill_list_add seq_list_add PySem.F.slot_list_add PySem.F.entry_list_add (PySem.F.args_list_add_2 _ _) (list_addW l b its.toArray its2.toArray n n2 dd dd2 sl sl2 (by rw[eY,eY,<-r.length,<-r2.length];exact hz)) ⟨ho,oX,?_⟩;have ea:its.toArray++its2.toArray=(its++its2).toArray:=by simp
 rw[ea];exact⟨.ref _,_,I.QB (t':=s.toks) (r.append r2) (by rw[dH];omega),rfl,q _ I.fresh⟩
noncomputable def p8(K:W.Frag):R2:=λx y H Q=>nj (λi j=>.int (i+j)) x y H Q\/yD K x y H Q\/tD K x y H Q\/∃i j,x=.str i/\y=.str j/\i.length+j.length<=sizeLine/\Q (.str (i++j)) H
theorem zfC:eF X (binaryOp .Add) (p8 X.K):=Ac.or (v9.or (tG.or zeM))
end
end L2
namespace Mi
open PySem PySem.Spec PyProof.Rows L2
section
variable {K:W.Frag}{cA:Cl}{U:Ph}{H:Hp}{Q:VK}{p:Pr}
theorem bF.some'{o:Option Rz}(h:bF K cA U H o Q):∃z,o=some z:=by
 cases o with
 |none=>exact h.elim
 |some z=>exact⟨z,rfl⟩
theorem bF.of{o:Option Rz}{z:Rz}(h:bF K cA U H o Q)(e:o=some z):bF K cA U H (some z) Q:=e▸h
theorem bF.here{d:D}{v:V}(h:bF K cA U H (some (.dat d)) Q)(r:Rep K cA U H d v):Q v H:=h H v bC.refl r
theorem bF.tup{xs:List D}{vs:List V}{a:Addr}(h:bF K cA U H (some (.dat (.tup xs))) Q)(z:Zt U H)(r:aC K cA U H xs vs)(hp:H a=none):Q (.ref a) (upd H a (.tup vs)):=
 h _ _ (bC.new hp) (.tup (TupAt.new (z.nz hp)) (r.mono (bC.new hp).ext z.lz))
theorem vX.two{ds:List D}{vs:List V}{d d':D}(h:vX K cA U H [d,d'] vs):∃v v',vs=[v,v']/\Rv K cA U H d v/\Rv K cA U H d' v':=by
 cases h with
 |cons a r=>cases r with
  |cons b r=>cases r;exact⟨_,_,rfl,a,b⟩
theorem vX.one(h:vX K cA U H [d] vs):∃v,vs=[v]/\Rv K cA U H d v:=by
 cases h with
 |cons a r=>cases r;exact⟨_,rfl,a⟩
theorem Rv.int{i:Int}{v:V}(h:Rv K cA U H (.int i) v):v=.int i:=by cases (show Rep K cA U H (.int i) v from h);rfl
theorem Rv.bl{i:Bool}{v:V}(h:Rv K cA U H (.bl i) v):v=.bl i:=by cases (show Rep K cA U H (.bl i) v from h);rfl
theorem Rv.str{i:Str}{v:V}(h:Rv K cA U H (.str i) v):v=.str i:=by cases (show Rep K cA U H (.str i) v from h);rfl
theorem Rv.tup{xs:List D}{v:V}(h:Rv K cA U H (.tup xs) v):∃a vs,v=.ref a/\TupAt K U H a vs/\aC K cA U H xs vs:=by
 cases (show Rep K cA U H (.tup xs) v from h) with
 |tup a r=>exact⟨_,_,rfl,a,r⟩
theorem Rv.sq{d:D}{xs:List D}{v:V}(h:Rv K cA U H d v)(e:jH d=some xs):∃a vs,v=.ref a/\(cR K H a vs\/fD K H a vs)/\aC K cA U H xs vs:=by
 cases d with
 |tup ys=>
  cases e;obtain⟨a,vs,e,t,r⟩:=Rv.tup h;exact⟨a,vs,e,.inr t.iV,r⟩
 |fl ys=>
  cases e;obtain⟨a,vs,e,l,r⟩:=h;exact⟨a,vs,e,.inl l,r⟩
 |_=>cases e
theorem Yv{f:Int->Int->Option D}{ds:List D}{z:Rz}(h:cg f ds=some z):∃i j d,ds=[.int i,.int j]/\f i j=some d/\z=.dat d:=by
 cases ds with
 |nil=>cases h
 |cons a t=>
 cases a with
 |int i=>
  cases t with
  |nil=>cases h
  |cons b t=>
  cases b with
  |int j=>
   cases t with
   |cons _ _=>cases h
   |nil=>
    obtain⟨d,e1,e2⟩:=iZ.mp h;exact⟨_,_,d,rfl,e1,e2.symm⟩
  |_=>cases h
 |_=>cases h
theorem Im{f:Int->Int->Option D}(hp:prim p=cg f){C:Int->Int->Prop}{g:Int->Int->V}(hf:∀i j d,f i j=some d->C i j/\∀U H,Rep K cA U H d (g i j)):aZ K cA p (r2 (rI C g)):=by
 intro U H ds vs Q zt rs o;rw[hp] at o;obtain⟨z,e⟩:=o.some';obtain⟨i,j,d,rfl,e1,rfl⟩:=Yv e;obtain⟨c,r⟩:=hf i j d e1;obtain⟨v,v',rfl,r1,r2⟩:=rs.two (ds:=[]);rw[r1.int,r2.int];exact⟨_,_,rfl,i,j,rfl,rfl,c,(o.of e).here (r U H)⟩
theorem Bk{f:Int->Int->D}(hp:prim p=cg λi j=>some (f i j)){g:Int->Int->V}(hf:∀i j U H,Rep K cA U H (f i j) (g i j)):aZ K cA p (r2 (nj g)):=by
 intro U H ds vs Q zt rs o;obtain⟨x,y,e,i,j,a,b,_,q⟩:=Im (K:=K) (cA:=cA) (C:=λ_ _=>True) hp (λi j d e=>⟨trivial,λU H=>by cases e;exact hf i j U H⟩) U H ds vs Q zt rs o;exact⟨x,y,e,i,j,a,b,q⟩
theorem Io{α:Type}{c:Prop}[Decidable c]{x y:α}(h:(if c then some x else none)=some y):c/\y=x:=by
 split at h
 ·rename_i z;cases h;exact⟨z,rfl⟩
 ·cases h
theorem zl4:aZ K cA .aq (r2 (nj λi j=>.int (i-j))):=Bk (f:=λi j=>.int (i-j)) rfl λi j _ _=>.int _
theorem zkU:aZ K cA .mul (r2 (rI vG λi j=>.int (i*j))):=Im rfl λi j d e=>by obtain⟨c,rfl⟩:=Io e;exact⟨c,λ_ _=>.int _⟩
theorem zjb:aZ K cA .fdiv (r2 (rI vD λi j=>.int (i/j))):=Im rfl λi j d e=>by obtain⟨c,rfl⟩:=Io e;exact⟨c,λ_ _=>.int _⟩
theorem zkX:aZ K cA .mod (r2 (rI (λ_ j=>0<j) λi j=>.int (i%j))):=Im rfl λi j d e=>by obtain⟨c,rfl⟩:=Io e;exact⟨c,λ_ _=>.int _⟩
theorem zls:aZ K cA .pow (r2 (rI Gn λi j=>.int (i^j.toNat))):=Im rfl λi j d e=>by obtain⟨c,rfl⟩:=Io e;exact⟨c,λ_ _=>.int _⟩
theorem znU:aZ K cA .le (r2 (nj λi j=>.bl (decide (i<=j)))):=Bk (f:=λi j=>.bl (decide (i<=j))) rfl λi j _ _=>.bl _
theorem zny:aZ K cA .gt (r2 (nj λi j=>.bl (decide (j<i)))):=Bk (f:=λi j=>.bl (decide (j<i))) rfl λi j _ _=>.bl _
theorem zn8:aZ K cA .ge (r2 (nj λi j=>.bl (decide (j<=i)))):=Bk (f:=λi j=>.bl (decide (j<=i))) rfl λi j _ _=>.bl _
theorem zlZ:aZ K cA .neg (λvs H Q=>∃x,vs=[x]/\rU (λi=>.int (-i)) x H Q):=by
 intro U H ds vs Q zt rs o;obtain⟨z,e⟩:=o.some';have e:pX (λi=>.int (-i)) ds=some z:=e;cases ds with
 |nil=>cases e
 |cons a t=>
 cases a with
 |int i=>
  cases t with
  |cons _ _=>cases e
  |nil=>
   cases e;obtain⟨v,rfl,r1⟩:=rs.one;exact⟨_,rfl,_,r1.int,bF.here (o.of rfl) (.int _)⟩
 |_=>cases e
theorem znw:aZ K cA .eq (r2 (v7 K cA id)):=by
 intro U H ds vs Q zt rs o;obtain⟨z,e⟩:=o.some';have e:yc id ds=some z:=e;unfold yc at e;split at e
 ·obtain⟨b,e1,e2⟩:=iZ.mp e;obtain⟨v,v',rfl,r1,r2⟩:=rs.two (ds:=[]);subst e2;exact⟨_,_,rfl,U,_,_,b,r1,r2,e1,(o.of e).here (.bl _)⟩
 ·cases e
theorem zoe:aZ K cA .ne (r2 (v7 K cA not)):=by
 intro U H ds vs Q zt rs o;obtain⟨z,e⟩:=o.some';have e:yc not ds=some z:=e;unfold yc at e;split at e
 ·obtain⟨b,e1,e2⟩:=iZ.mp e;obtain⟨v,v',rfl,r1,r2⟩:=rs.two (ds:=[]);subst e2;exact⟨_,_,rfl,U,_,_,b,r1,r2,e1,(o.of e).here (.bl _)⟩
 ·cases e
theorem Yw{f:Bool->Bool}{ds:List D}{z:Rz}(h:yd f ds=some z):∃a b xs k,ds=[a,b]/\jH b=some xs/\memD a xs=some k/\z=.dat (.bl (f k)):=by
 unfold yd at h;split at h
 ·obtain⟨k,e1,e2⟩:=iZ.mp h;obtain⟨xs,e3,e4⟩:=vh.mp e1;exact⟨_,_,xs,k,rfl,e3,e4,e2.symm⟩
 ·cases h
theorem zng:aZ K cA .inn (r2 (v8 K cA id)):=by
 intro U H ds vs Q zt rs o;obtain⟨z,e⟩:=o.some';obtain⟨a,b,xs,k,rfl,e1,e2,rfl⟩:=Yw (show yd id ds=some z from e);obtain⟨v,v',rfl,r1,r2⟩:=rs.two (ds:=[]);exact⟨_,_,rfl,U,_,_,xs,k,r1,r2,e1,e2,(o.of e).here (.bl _)⟩
theorem zk3:aZ K cA .nin (r2 (v8 K cA not)):=by
 intro U H ds vs Q zt rs o;obtain⟨z,e⟩:=o.some';obtain⟨a,b,xs,k,rfl,e1,e2,rfl⟩:=Yw (show yd not ds=some z from e);obtain⟨v,v',rfl,r1,r2⟩:=rs.two (ds:=[]);exact⟨_,_,rfl,U,_,_,xs,k,r1,r2,e1,e2,(o.of e).here (.bl _)⟩
theorem Ml:∀{xs:List D} {ns:List Int} {vs:List V},b_ xs=some ns->aC K cA U H xs vs->vs=ns.map V.int
 |[],ns,vs,h,r=>by cases h;cases r;rfl
 |d::xs,ns,vs,h,r=>by
  cases d with
  |int i=>
   simp only[b_,iZ] at h;obtain⟨ns',h1,rfl⟩:=h;cases r with
   |cons a r=>cases a;rw[Ml h1 r];rfl
  |_=>simp[b_] at h
theorem R5:∀(a b:List Int),ltI a b=HT.lexLt a b
 |_,[]=>by cases ‹List Int›<;>rfl
 |[],_::_=>rfl
 |x::xs,y::ys=>by
  unfold ltI;rw[R5 xs ys,HT.jD]
theorem zoj:aZ K cA .lt (r2 λx y H Q=>nj (λi j=>.bl (decide (i<j))) x y H Q\/GJ K x y H Q):=by
 intro U H ds vs Q zt rs o;obtain⟨z,e⟩:=o.some';have e:HB ds=some z:=e;unfold HB at e;split at e
 ·cases e;obtain⟨v,v',rfl,r1,r2⟩:=rs.two (ds:=[]);exact⟨_,_,rfl,.inl ⟨_,_,r1.int,r2.int,bF.here (o.of rfl) (.bl _)⟩⟩
 ·split at e
  ·rename_i a b h1 h2;cases e;obtain⟨v,v',rfl,r1,r2⟩:=rs.two (ds:=[]);obtain⟨p,us,rfl,t1,q1⟩:=r1.tup;obtain⟨p',us',rfl,t2,q2⟩:=r2.tup;have o2:bF K cA U H (some (.dat (.bl (ltI a b)))) Q:=by
    have o3:bF K cA U H (HB [.tup _,.tup _]) Q:=o;unfold HB at o3;simp only[h1,h2] at o3;exact o3
   refine⟨_,_,rfl,.inr ⟨p,p',a,b,rfl,rfl,by rw[<-Ml h1 q1];exact t1.iV,by rw[<-Ml h2 q2];exact t2.iV,?_⟩⟩;rw[<-R5];exact o2.here (.bl _)
  ·cases e
 ·cases e
theorem zmn:aZ K cA .add (r2 (p8 K)):=by
 intro U H ds vs Q zt rs o;have o:bF K cA U H (Ax ds) Q:=o;cases ds with
 |nil=>exact False.elim o
 |cons a t=>
 cases a with
 |int i=>
  cases t with
  |nil=>exact False.elim o
  |cons b t=>
  cases b with
  |int j=>
   cases t with
   |cons _ _=>exact False.elim o
   |nil=>
    obtain⟨v,v',rfl,r1,r2⟩:=rs.two (ds:=[]);exact⟨_,_,rfl,.inl ⟨_,_,r1.int,r2.int,bF.here o (.int _)⟩⟩
  |_=>exact False.elim o
 |tup xs=>
  cases t with
  |nil=>exact False.elim o
  |cons b t=>
  cases b with
  |tup ys=>
   cases t with
   |cons _ _=>exact False.elim o
   |nil=>
    obtain⟨v,v',rfl,r1,r2⟩:=rs.two (ds:=[]);obtain⟨p,us,rfl,t1,q1⟩:=r1.tup;obtain⟨p',us',rfl,t2,q2⟩:=r2.tup;have o:bF K cA U H (if xs.length+ys.length<=sizeLine then some (.dat (.tup (xs++ys))) else none) Q:=o;by_cases hz:xs.length+ys.length<=sizeLine
    ·rw[if_pos hz] at o;refine⟨_,_,rfl,.inr (.inr (.inl ⟨p,p',us,us',rfl,rfl,t1.iV,t2.iV,by rw[<-q1.len,<-q2.len];exact hz,λe=>?_,λe=>?_,λa ha=>o.tup zt (q1.app q2) ha⟩))⟩
     ·subst e;cases q1;exact o.here (.tup t2 q2)
     ·subst e;cases q2;rw[vo] at o;exact o.here (.tup t1 q1)
    ·rw[if_neg hz] at o;exact o.elim
  |_=>exact False.elim o
 |fl xs=>
  cases t with
  |nil=>exact False.elim o
  |cons b t=>
  cases b with
  |fl ys=>
   cases t with
   |cons _ _=>exact False.elim o
   |nil=>
    obtain⟨v,v',rfl,⟨p,us,rfl,t1,q1⟩,⟨p',us',rfl,t2,q2⟩⟩:=rs.two (ds:=[]);have o:bF K cA U H (if xs.length+ys.length<=sizeLine then some (.nw (xs++ys)) else none) Q:=o;by_cases hz:xs.length+ys.length<=sizeLine
    ·rw[if_pos hz] at o;exact⟨_,_,rfl,.inr (.inl ⟨p,p',us,us',rfl,rfl,t1,t2,by rw[<-q1.len,<-q2.len];exact hz,λa ha=>o a _ ha (q1.app q2)⟩)⟩
    ·rw[if_neg hz] at o;exact o.elim
  |_=>exact False.elim o
 |str x=>
  cases t with
  |nil=>exact False.elim o
  |cons b t=>
  cases b with
  |str y=>
   cases t with
   |cons _ _=>exact False.elim o
   |nil=>
    obtain⟨v,v',rfl,r1,r2⟩:=rs.two (ds:=[]);have o:bF K cA U H (if x.length+y.length<=sizeLine then some (.dat (.str (x++y))) else none) Q:=o;by_cases hz:x.length+y.length<=sizeLine
    ·rw[if_pos hz] at o;exact⟨_,_,rfl,.inr (.inr (.inr ⟨_,_,r1.str,r2.str,hz,o.here (.str _)⟩))⟩
    ·rw[if_neg hz] at o;exact o.elim
  |_=>exact False.elim o
 |_=>exact False.elim o
theorem zm0:aZ K cA .len (λxs H Q=>∃p ys,xs=[.ref p]/\(cR K H p ys\/fD K H p ys)/\Q (.int ys.length) H):=by
 intro U H ds vs Q zt rs o;have o:bF K cA U H (qM (λxs=>some (.dat (.int xs.length))) ds) Q:=o;unfold qM at o;split at o
 ·obtain⟨v,rfl,r1⟩:=rs.one;obtain⟨z,e⟩:=o.some';obtain⟨xs,e1,e2⟩:=vh.mp e;obtain⟨a,us,rfl,sq,q⟩:=r1.sq e1;cases e2;refine⟨a,us,rfl,sq,?_⟩;rw[<-q.len];exact(o.of e).here (.int _)
 ·exact o.elim
theorem zjd:aZ K cA .list (λxs H Q=>∃p ys,xs=[.ref p]/\(cR K H p ys\/fD K H p ys)/\∀l,H l=none->Q (.ref l) (upd H l (.lst ys))):=by
 intro U H ds vs Q zt rs o;have o:bF K cA U H (qM (λxs=>some (.nw xs)) ds) Q:=o;unfold qM at o;split at o
 ·obtain⟨v,rfl,r1⟩:=rs.one;obtain⟨z,e⟩:=o.some';obtain⟨xs,e1,e2⟩:=vh.mp e;obtain⟨a,us,rfl,sq,q⟩:=r1.sq e1;cases e2;exact⟨a,us,rfl,sq,λl hl=>(o.of e) l us hl q⟩
 ·exact o.elim
theorem zhu:aZ K cA .tuple (λxs H Q=>∃p ys,xs=[.ref p]/\((cR K H p ys/\∀l,H l=none->Q (.ref l) (upd H l (.tup ys)))\/(fD K H p ys/\Q (.ref p) H))):=by
 intro U H ds vs Q zt rs o;have o:bF K cA U H (o8 ds) Q:=o;unfold o8 at o;split at o
 ·rename_i d _;obtain⟨v,rfl,r1⟩:=rs.one;cases d with
  |tup xs=>
   obtain⟨a,us,rfl,t,q⟩:=r1.tup;exact⟨a,us,rfl,.inr ⟨t.iV,bF.here o (.tup t q)⟩⟩
  |fl xs=>
   obtain⟨a,us,rfl,t,q⟩:=r1;exact⟨a,us,rfl,.inl ⟨t,λl hl=>bF.tup o zt q hl⟩⟩
  |_=>exact o.elim
 ·exact o.elim
theorem zlX:aZ K cA .abs (λxs H Q=>∃i,xs=[.int i]/\Q (.int (if i<0 then -i else i)) H):=by
 intro U H ds vs Q zt rs o;have o:bF K cA U H (pX (λi=>.int (if i<0 then -i else i)) ds) Q:=o;cases ds with
 |nil=>exact False.elim o
 |cons a t=>
 cases a with
 |int i=>
  cases t with
  |cons _ _=>exact False.elim o
  |nil=>
   obtain⟨v,rfl,r1⟩:=rs.one;rw[r1.int];exact⟨_,rfl,bF.here o (.int _)⟩
 |_=>exact False.elim o
theorem zkj:aZ K cA .vQ (λxs H Q=>(∃i,xs=[.int i]/\Q (.int i) H)\/∃k,xs=[.bl k]/\Q (.int (if k then 1 else 0)) H):=by
 intro U H ds vs Q zt rs o;have o:bF K cA U H (HD ds) Q:=o;cases ds with
 |nil=>exact False.elim o
 |cons a t=>
 cases a with
 |int i=>
  cases t with
  |cons _ _=>exact False.elim o
  |nil=>
   obtain⟨v,rfl,r1⟩:=rs.one;rw[r1.int];exact .inl ⟨_,rfl,bF.here o (.int _)⟩
 |bl k=>
  cases t with
  |cons _ _=>exact False.elim o
  |nil=>
   obtain⟨v,rfl,r1⟩:=rs.one;rw[r1.bl];exact .inr ⟨_,rfl,bF.here o (.int _)⟩
 |_=>exact False.elim o
theorem ziI:aZ K cA .max2 (λxs H Q=>∃i j,xs=[.int i,.int j]/\Q (.int (if j>i then j else i)) H):=by
 intro U H ds vs Q zt rs o;obtain⟨x,y,e,i,j,rfl,rfl,q⟩:=Bk (K:=K) (cA:=cA) (p:=.max2) (f:=λi j=>.int (if j>i then j else i)) rfl (λi j _ _=>.int _) U H ds vs Q zt rs o;exact⟨i,j,e,q⟩
theorem zjv:aZ K cA .min2 (λxs H Q=>∃i j,xs=[.int i,.int j]/\Q (.int (if j<i then j else i)) H):=by
 intro U H ds vs Q zt rs o;obtain⟨x,y,e,i,j,rfl,rfl,q⟩:=Bk (K:=K) (cA:=cA) (p:=.min2) (f:=λi j=>.int (if j<i then j else i)) rfl (λi j _ _=>.int _) U H ds vs Q zt rs o;exact⟨i,j,e,q⟩
theorem zf0:aZ K cA .divmod (λxs H Q=>∃i j,xs=[.int i,.int j]/\vD i j/\∀p,H p=none->Q (.ref p) (upd H p (.tup [.int (i/j),.int (i%j)]))):=by
 intro U H ds vs Q zt rs o;have o:bF K cA U H (cg (λi j=>if 0<j/\j<1073741824 then some (.tup [.int (i/j),.int (i%j)]) else none) ds) Q:=o;obtain⟨z,e⟩:=o.some';obtain⟨i,j,d,rfl,e1,rfl⟩:=Yv e;obtain⟨c,rfl⟩:=Io e1;obtain⟨v,v',rfl,r1,r2⟩:=rs.two (ds:=[]);rw[r1.int,r2.int];exact⟨i,j,rfl,c,λp hp=>(o.of e).tup zt (.cons (.int _) (.cons (.int _) .nil)) hp⟩
theorem Yx:∀{xs:List D} {bs:List Bool} {vs:List V},eO xs=some bs->aC K cA U H xs vs->vs=bs.map V.bl
 |[],bs,vs,h,r=>by cases h;cases r;rfl
 |d::xs,bs,vs,h,r=>by
  cases d with
  |bl b=>
   simp only[eO,iZ] at h;obtain⟨bs',h1,rfl⟩:=h;cases r with
   |cons q r=>cases q;rw[Yx h1 r];rfl
  |_=>simp[eO] at h
theorem zn3:aZ K cA .ix (r2 (Qy K)):=by
 intro U H ds vs Q zt rs o;have o:bF K cA U H (Rt ds) Q:=o;unfold Rt at o;split at o
 ·rename_i d i _;obtain⟨v,v',rfl,r1,r2⟩:=rs.two (ds:=[]);obtain⟨z,e⟩:=o.some';obtain⟨y,e1,e2⟩:=iZ.mp e;obtain⟨xs,e3,e4⟩:=vh.mp e1;obtain⟨a,us,rfl,sq,q⟩:=r1.sq e3;have key:∃w,L2.nu us i=some w/\Rep K cA U H y w:=by
   unfold L2.nu at *;rw[<-q.len];obtain⟨j,h1,h2⟩:=vh.mp e4;obtain⟨w,h3,h4⟩:=q.get h2;exact⟨w,by rw[h1];exact h3,h4⟩
  obtain⟨w,hw,j8⟩:=key;subst e2;have q':=(o.of e).here j8;rcases sq with sq|sq
  ·exact⟨_,_,rfl,.inl ⟨a,us,i,w,rfl,r2.int,sq,hw,q'⟩⟩
  ·exact⟨_,_,rfl,.inr (.inl ⟨a,us,i,w,rfl,r2.int,sq,hw,q'⟩)⟩
 ·exact o.elim
noncomputable def Yy(K:W.Frag):V->Option Int->Option Int->Hp->VK->Prop:=λx lo hi H Q=>GX K x lo hi H Q\/yC K x lo hi H Q
theorem zln:vJ X (Yy X.K):=vM.or zkv
theorem zkm{d:D}{lo hi:Option Int}{v:V}(zt:Zt U H)(r:Rv K cA U H d v)(o:bF K cA U H (cutD d lo hi) Q):Yy K v lo hi H Q:=by
 cases d with
 |tup xs=>
  obtain⟨a,us,rfl,t,q⟩:=r.tup;refine .inr ⟨a,us,rfl,t.iV,λe=>?_,λp hp=>bF.tup o zt q.cut hp⟩;have hc:cut xs lo hi=xs:=by
   unfold cut;rw[q.len,e.1,e.2,List.drop_zero,Nat.sub_zero,<-q.len,xH]
  have o:bF K cA U H (some (.dat (.tup (cut xs lo hi)))) Q:=o;rw[hc] at o;exact o.here (.tup t q)
 |fl xs=>
  obtain⟨a,us,rfl,t,q⟩:=r;exact .inl ⟨a,us,rfl,t,λp hp=>o p _ hp q.cut⟩
 |_=>exact o.elim
end
end Mi
namespace L2
open PySem PySem.Spec PyProof.Rows
section
variable {X:Cx}{ao:List (Addr×Obj)}{Z:St}{H:Hp}{s:Shared}{a:Addr}{y v:V}{u r:Value}{o:Option V}{A:Around}{E:Value->Shared->Prop}
theorem Inv.big(I:Inv X ao Z H s):sysModules<s.heap.objs.size:=by
 have h:mainGlobals<s.heap.objs.size:=(I.mod.glob.keeps I.bk).lt;exact Nat.lt_trans J0 h
theorem zj9(I:Inv X ao Z H s)(mu:FN (H a))(hs:Heap.SameBut a s.heap h')(he:∃q,h'.get? a=some q)(new:bH X.prog X.w (upd H a ob) h' a ob) :
  Inv X ao Z (upd H a ob) {s with heap:=h',toks:=t'}:=
 I.write (x:=a) (e:=a) mu (.inl rfl) (λb q hb z=>(hs.2 b hb).trans z) he new
end
def Bl(i:Expr):Prop:=∀ov iv,subscripted i false ov iv=operate [ov,iv] (getItem ov iv)
theorem zku{prog:Program}{w:World}{A:Around}{E:Value->Shared->Prop}{s:Shared}{env:Env}{value slice:Expr}{pos:Pos}{T id:String}{Q:Value->Shared->Prop}
  (hl:typeLookup (.type T) "__getitem__"=pure (some (.builtin id))) (hs:Bl slice)
  (h:wpAny (model prog w) A (eval value env) (λo s₁=>wpAny (model prog w) A (eval slice env) (λi s₂=>s₂.TypeIs o T/\wpAny (model prog w) A (getItem o i) Q E s₂) E s₁) E s) :
  wpAny (model prog w) A (eval (.Subscript value slice pos) env) Q E s:=by
 refine Subscript_ (mX h (λo s₁ h₁=>mX h₁ (λi s₂ h₂=>?_) λ_ _ x=>x) λ_ _ x=>x);obtain⟨hT,h₂⟩:=h₂;unfold subscriptTail;refine aD ?_;rw[getitemInPython_of_ne hT.not_modules];refine aD (wpAny_specialOf hT hl ?_);have fin:wpAny (model prog w) A (subscripted slice false o i) (λr s₃=>wpAny (model prog w) A (letTemporaryGo value o r >>= λ_=>pure r) Q E s₃) E s₂:=by
  rw[hs o i];exact wpAny_operating (mX h₂ (λr s₃ h₃=>aD (wpAny_letTemporaryGo (bw h₃))) λ_ _ x=>x)
 first
  |exact bw (aD fin)
  |exact aD (bw (aD fin))
  |exact aD fin
end L2
namespace Mi
open PySem PySem.Spec PyProof.Rows L2
section
variable {X:Cx}{cA:Cl}{aq:Nat->Nat->Bool}{aj:Bool}{F:Fn}{EX:XS}{a b c d e o:Expr}{A B C Dd E' O:E}{pos pp p2 apos cpos:Pos}{es:List Expr}{Xs:Es}{fz:Bool}{p:Pr}{x:Str}{U:Ph}{H:Hp}{s:S}{lo hi:Option Expr}{Lo Hi:Eo}
def Ip(X:Cx)(cA:Cl)(aq:Nat->Nat->Bool)(aj:Bool)(F:Fn)(EX:XS)(oe:Option Expr)(m:Eo):Prop:=
 PO X oe (λZ H Q=>∃U J s,bx X.K cA U H Z J/\aH X.K cA U H s/\Run X.K cA (vW aq aj F m J) U H s (λi _ U' H'=>Q i H') (eX X.K cA EX Z))
theorem PO.weak{oe:Option Expr}{t t':TO}(h:PO X oe t)(f:∀Z H Q,t' Z H Q->t Z H Q):PO X oe t':=by
 intro ao s Z H Q I q;exact h ao s Z H Q I (f Z H Q q)
theorem znR:Ip X cA aq aj F EX none .no:=PO.weak zja λZ H Q hh=>un hh λU J s hL hS h=>h.bG hS
theorem zmm(ha:SE X cA aq aj F EX a A):Ip X cA aq aj F EX (some a) (.yes A):=PO.weak (zjS ha) λZ H Q hh=>un hh λU J s hL hS h=>by
 refine aV hL hS h λx H1 U1 d1 s1 x1 hL1 aK r1 h1=>?_;obtain⟨i,_,e,h3⟩:=Ii r1 h1;exact⟨i,e,h3.bG aK⟩
theorem Ir{β:Type}{Z:L2.St}{J:Vs}{m:Eo}{k:Option Int->M β}{P:β->S->Ph->Hp->Prop}(hL:bx X.K cA U H Z J)(hS:aH X.K cA U H s)(h:Run X.K cA (M.bd (vW aq aj F m J) k) U H s P (eX X.K cA EX Z)){Q:Option Int->Hp->Prop}
  (f:∀i H1 U1 s1,Ext U H U1 H1->bx X.K cA U1 H1 Z J->aH X.K cA U1 H1 s1->Run X.K cA (k i) U1 H1 s1 P (eX X.K cA EX Z)->Q i H1) :
  ∃U J s,bx X.K cA U H Z J/\aH X.K cA U H s/\Run X.K cA (vW aq aj F m J) U H s (λi _ U' H'=>Q i H') (eX X.K cA EX Z):=
 ⟨U,J,s,hL,hS,h.bd.imp λi s1 U1 H1 ⟨x1,r1,h1⟩=>f i H1 U1 s1 x1 (hL.mono x1 hS.lz) r1 h1⟩
theorem zm8(ha:SE X cA aq aj F EX a A)(hl:Ip X cA aq aj F EX lo Lo)(hh:Ip X cA aq aj F EX hi Hi):SE X cA aq aj F EX (.Subscript a (.Slice lo hi none p2) pos) (.sl fz A Lo Hi):=PE.weak (zhd zln ha hl hh) λZ H Q hh=>un hh λU J s hL hS h=>by
 refine aV hL hS h λx H1 U1 d1 s1 x1 hL1 aK r1 h1=>Ir hL1 aK h1 λl H2 U2 s2 x2 hL2 aP h2=>Ir hL2 aP h2 λu H3 U3 s3 x3 vZ jT h3=>?_;obtain⟨dd,rv,h4⟩:=Ij jT ((r1.mono x2 aK.lz).mono x3 aP.lz) h3;exact zkm jT.zs rv (qQ jT h4)
theorem Yz:∀bs:List Bool,(List.range bs.length).all (λi=>(bs[i]?).getD false)=bs.all id
 |[]=>rfl
 |b::r=>by
  rw[fX,Og,xK,Fg,xK];have:=Yz r;simp only[Function.comp_def,Cg,List.getElem?_cons_zero,Option.getD_some,id];rw[this]
theorem zgr(hc:X.aj=true):cT X (.builtin "all") (λxs H Q=>∃(p:Addr) (bs:List Bool),xs=[.ref p]/\cR X.K H p (bs.map V.bl)/\Q (.bl (bs.all id)) H):=by
 rintro ao s Z H xs us Q I r ⟨p,bs,e,hp,q⟩;subst e;obtain⟨u,rfl,ru⟩:=Vals.one r;cases (show u=Value.ref p from ru);obtain⟨its,rv,pl,hz⟩:=I.list hp;have hl:s.heap.IsList p its.toArray:=pl.isList;have hpn:p≠s.heap.objs.size:=by
  obtain⟨o,hg,_⟩:=hl;exact dU (bW hg)
 refine call_all_walk (Ko hl ?_);refine⟨_,_,_,_,_,_,λi=>(bs[i]?).getD false,rfl,Walks.list (A:=X.A.in1) (I.ok.hd hc) _ p hpn its.toArray,⟨⟨_,fu _ rfl,rfl,rfl⟩,hl.push _⟩,?_,λh' tk hk=>?_⟩
 ·intro i v s' Q' E' hP hQ;have hi:its[i]?=some v:=by simpa using hP
  have hb:∃b,bs[i]?=some b:=by
   have dh:i<its.length:=(cI.mp hi).1;have z:=rv.length;rw[cj] at z;exact⟨_,cP gV⟩
  obtain⟨b,hb⟩:=hb;obtain⟨u,e1,e2⟩:=rv.get (i:=i) (x:=V.bl b) (by rw[fB,hb];rfl);rw[hi] at e1;cases e1;cases (show v=Value.bool b from e2);have hQ:Q' ((bs[i]?).getD false) s':=hQ;rw[hb] at hQ;exact rz hQ
 ·have ez:(List.range its.toArray.size).all (λi=>(bs[i]?).getD false)=bs.all id:=by
   have z:=rv.length;rw[cj] at z;rw[eY,<-z];exact Yz bs
  rw[ez];refine⟨.bl (bs.all id),H,I.kept (h':=h') (t':=tk) (old_kept hk),rfl,q⟩
theorem zm1{K:W.Frag}:aZ K cA .all (λxs H Q=>∃(p:Addr) (bs:List Bool),xs=[.ref p]/\cR K H p (bs.map V.bl)/\Q (.bl (bs.all id)) H):=by
 intro U H ds vs Q zt rs o;have o:bF K cA U H (Az ds) Q:=o;unfold Az at o;split at o
 ·obtain⟨v,rfl,⟨ad,us,rfl,l,q⟩⟩:=rs.one;obtain⟨z,e⟩:=o.some';obtain⟨bs,e1,e2⟩:=iZ.mp e;subst e2;exact⟨ad,bs,rfl,by rw[<-Yx e1 q];exact l,(o.of e).here (.bl _)⟩
 ·exact o.elim
def YB(K:W.Frag)(cA:Cl)(p:Pr)(r:V->List V->Hp->VK->Prop):Prop:=aZ K cA p (λvs H Q=>∃x xs,vs=x::xs/\r x xs H Q)
noncomputable def kdT:Kd->String
 |.list=>"list"
 |.str=>"str"
 |.tuple=>"tuple"
 |_=>"dict"
theorem zjx{K:W.Frag}{k:Kd}{dd:D}{v:V}(h:mD k dd=true)(r:Rv K cA U H dd v):Lh K (kdT k) v H:=by
 cases k<;>cases dd<;>first
  |(cases h;done)
  |(obtain⟨a,vs,rfl,l,_⟩:=r;exact .inl ⟨rfl,vs,l⟩)
  |(rw[r.str];exact rfl)
  |(cases (show Rep K cA U H (.fd _ _) v from r) with|@fd _ _ _ q n=>exact .inr (.inr (.inl ⟨rfl,.inl ⟨_,q⟩⟩)))
  |(cases (show Rep K cA U H (.tup _) v from r) with|tup l _=>exact .inr (.inl ⟨rfl,_,l.iV⟩))
theorem zi8{k:Kd}{id:String}{name:Str}{r:V->List V->Hp->VK->Prop}(pa:PlainAttrs (kdT k))(slot:Slot (kdT k) name id)(GZ:typeOf (.builtin id)=pure (.type "method_descriptor"))(hm:Lg X id r)(hr:YB X.K cA p r)
  (ho:SE X cA aq aj F EX o O) (ha:SA X cA aq aj F EX (e::es) Xs)
  (cZ:attributeBase o name X.env (eval o X.env)=eval o X.env:=by rfl)
  (oY:((backTo cpos (starEach (e::es) X.env)).all (λx=>!x.1)&&(backToKw cpos (keywordEach [] X.env)).all (λx=>x.1.isSome)
  &&decide ((e::es).length+([]:List Keyword).length+(if ([]:List Keyword).isEmpty then 0 else 1)<30))=true:=by rfl)
  (c7:(apos.endLine==cpos.line)=true:=by rfl) (hs:starEach (e::es) X.env=(false,eval e X.env)::starEach es X.env:=by rfl) (fG:(backTo cpos (starEach es X.env)).any (·.1)=false:=by rfl) :
  SE X cA aq aj F EX (.Call (.Attribute o name apos) (e::es) [] cpos) (.meth fz p k O Xs):=PE.weak (Xr pa slot GZ hm ho ha cZ oY c7 hs fG) λZ H Q hh=>un hh λU J s hL hS h=>by
 refine aV hL hS h λx H1 U1 d1 s1 x1 hL1 aK r1 h1=>?_;obtain⟨dd,rv,h2⟩:=Ij aK r1 h1;by_cases hk:mD k dd=true
 ·rw[if_pos hk] at h2;refine⟨zjx hk rv,nO hL1 aK h2 λys H2 U2 ds s2 x2 hL2 aP r2 h3=>?_⟩;obtain⟨ds,rs,h4⟩:=rG aP (.cons (r1.mono x2 aK.lz) r2) h3;obtain⟨_,_,e,q⟩:=hr U2 H2 ds _ _ aP.zs rs (qQ aP h4);cases e;exact q
 ·rw[if_neg hk] at h2;exact h2.elim
noncomputable def Mp:Kd->String->Bool
 |.int,"int"=>true
 |.int,"bool"=>true
 |.bool,"bool"=>true
 |.str,"str"=>true
 |.tuple,"tuple"=>true
 |.list,"list"=>true
 |.dict,"dict"=>true
 |_,_=>false
noncomputable def tH:Kd->Option Value
 |.int=>some (.type "int")
 |.bool=>some (.type "bool")
 |.str=>some (.type "str")
 |.tuple=>some (.type "tuple")
 |.list=>some (.type "list")
 |.dict=>some (.type "dict")
 |_=>none
theorem zmg{K:W.Frag}{k:Kd}{cu:Value}(h:tH k=some cu){T:String}(hT:T∈["NoneType","bool","int","str","tuple","list","dict"]):PySem.W.kitOne K (.type T) cu=some (Mp k T):=by
 simp only[iG,List.mem_nil_iff,or_false] at hT;cases k<;>simp only[tH] at h<;>cases h<;>rcases hT with rfl|rfl|rfl|rfl|rfl|rfl|rfl<;>rfl
structure Iu(K:W.Frag)(cA:Cl)(aq:Nat->Nat->Bool):Prop where
 xc:∀c,XC K (cA.a c)
 aq:∀c e,PySem.W.kitOne K (.ref (cA.a c)) (.ref (cA.a e))=some (aq c e)
 qL:∀c,PySem.W.kitOne K (.ref (cA.a c)) (.type "ValueError")=some true
noncomputable def Dr(cA:Cl):Kd->V
 |.cls e=>.ref (cA.a e)
 |.qL=>.ty "ValueError"
 |.int=>.ty "int"
 |.bool=>.ty "bool"
 |.str=>.ty "str"
 |.tuple=>.ty "tuple"
 |.list=>.ty "list"
 |.dict=>.ty "dict"
theorem zhs(Cs:tH k=none->Iu X.K cA aq) :
  cT X (.builtin "isinstance") (λxs H Q=>∃U d v bb,xs=[v,Dr cA k]/\Rv X.K cA U H d v/\lq aq d k=some bb/\Q (.bl bb) H):=by
 rintro ao sh Z H xs us Q I r ⟨U,d,v,bb,e,rd,hi,q⟩;subst e;obtain⟨u,w,rfl,ru,R6⟩:=Vals.two r;have tK:∀tk,EP X ao Z Q (.bool bb) {sh with toks:=tk}:=λtk=>⟨.bl bb,H,I.tok tk,rfl,q⟩;have bt:∀{T:String} {Hh:Heap->Prop},PySem.W.KitX X.K u (.type T) Hh->Hh sh.heap->T∈["NoneType","bool","int","str","tuple","list","dict"]->u≠Value.builtin "__main__.__loader__#opaque"->(∃cu,tH k=some cu/\w=cu/\Mp k T=bb)->wpAny (model X.prog X.w) X.A (PySem.call (.builtin "isinstance") [u,w]) (EP X ao Z Q) X.xe sh:=λ{T Hh} zzZ hh hT hx ⟨cu,h1,h2,h3⟩=>by
  subst h2 h3;exact PySem.W.kia_one zzZ I.oA hh (zmg h1 hT) hx tK
 have wv:∀cu,tH k=some cu->w=cu:=λcu h=>by
  cases k<;>simp only[tH] at h<;>cases h<;>exact R6
 have fin:∀T,lq aq d k=(match tH k with|some _=>some (Mp k T)|none=>none)->∃cu,tH k=some cu/\w=cu/\Mp k T=bb:=λT h=>by
  rw[hi] at h;cases z:tH k with
  |none=>rw[z] at h;cases h
  |some cu=>rw[z] at h;cases h;exact⟨cu,rfl,wv cu z,rfl⟩
 cases d with
 |non=>
  cases (show Rep X.K cA U H .non v from rd);cases (show u=Value.none from ru);exact bt PySem.W.kitx_none trivial Rb (λz=>nomatch z) (fin "NoneType" (by cases k<;>rfl))
 |bl b=>
  cases rd.bl;cases (show u=Value.bool b from ru);exact bt PySem.W.kitx_bool trivial Rb (λz=>nomatch z) (fin "bool" (by cases k<;>rfl))
 |int i=>
  cases rd.int;obtain⟨t,z⟩:=(show ∃t,u=Value.int i t from ru);cases z;exact bt PySem.W.kitx_int trivial Rb (λz=>nomatch z) (fin "int" (by cases k<;>rfl))
 |str y=>
  cases rd.str;obtain⟨t,z⟩:=(show ∃t,u=Value.str y t from ru);cases z;exact bt PySem.W.kitx_str trivial Rb (λz=>nomatch z) (fin "str" (by cases k<;>rfl))
 |tup xs=>
  obtain⟨ad,vs,rfl,h1,h2⟩:=rd.tup;cases (show u=Value.ref ad from ru);obtain⟨its,_,ht,_⟩:=I.tuple h1.iV;obtain⟨o,q1,q2,_⟩:=ht;exact bt PySem.W.kitx_tuple ⟨o,q1,q2⟩ Rb (λz=>nomatch z) (fin "tuple" (by cases k<;>rfl))
 |fl xs=>
  obtain⟨ad,vs,rfl,h1,h2⟩:=rd;cases (show u=Value.ref ad from ru);obtain⟨its,_,ht,_⟩:=I.list h1;obtain⟨o,q1,q2,_⟩:=ht.isList;exact bt PySem.W.kitx_list ⟨o,q1,q2⟩ Rb (λz=>nomatch z) (fin "list" (by cases k<;>rfl))
 |fd ks vs=>
  cases (show Rep X.K cA U H (.fd ks vs) v from rd) with
  |@fd ad kk ii q1 n=>
   cases (show u=Value.ref ad from ru);obtain⟨_,_,vs,_,o,es',ep,g1,g2,_⟩:=(show bH X.prog X.w H sh.heap ad (.dK [(.inr kk,.int ii)]) from I.hok ad _ q1);exact bt PySem.W.kitx_dict ⟨o,g1,g2.1⟩ Rb (λz=>nomatch z) (fin "dict" (by cases k<;>rfl))
 |ob c fs=>cases k<;>cases hi
 |any=>cases k<;>cases hi
 |exc c fs=>
  cases (show Rep X.K cA U H (.exc c fs) v from rd) with
  |@exc ad _ _ vs hx rs=>
   cases (show u=Value.ref ad from ru);have hI:∃ox od,PySem.W.InstAt sh.heap ad ox (cA.a c) od:=by
    obtain⟨_,⟨_,_,hx⟩|⟨dx,hx,_,hd,_⟩⟩:=hx
    ·obtain⟨⟨oe,vs,g1,g2,g3,g4⟩,_⟩:=(show bH X.prog X.w H sh.heap ad (vO ad (cA.a c) none) from I.hok ad _ hx);exact⟨oe,none,g1,g2,by unfold PySem.W.notCls;rw[g4],by rw[g3];trivial⟩
    ·obtain⟨⟨oe,vs,g1,g2,g3,g4⟩,_⟩:=(show bH X.prog X.w H sh.heap ad (vO ad (cA.a c) (some dx)) from I.hok ad _ hx);obtain⟨mA,⟨od,es,ep,e1,c1⟩,_⟩:=(show bH X.prog X.w H sh.heap dx (.xd _) from I.hok dx _ hd);exact⟨oe,some od,g1,g2,by unfold PySem.W.notCls;rw[g4],by rw[g3];exact e1⟩
   cases k with
   |cls e=>
    cases (show w=Value.ref (cA.a e) from R6);have z:some (aq c e)=some bb:=hi;cases z;exact PySem.W.kia_one (XM ((Cs rfl).xc c)) I.oA hI ((Cs rfl).aq c e) (λz=>nomatch z) tK
   |qL=>
    cases (show w=Value.type "ValueError" from R6);have z:some true=some bb:=hi;cases z;exact PySem.W.kia_one (XM ((Cs rfl).xc c)) I.oA hI ((Cs rfl).qL c) (λz=>nomatch z) tK
   |_=>cases hi
theorem zlt(Cs:tH k=none->Iu X.K cA aq)(hg:Gl X "isinstance")(hm:X.mg "isinstance"=none)(ha:SE X cA aq aj F EX a A)(hk:PE X kx (tC (Dr cA k)))(h1:starEach [a,kx] X.env=(false,eval a X.env)::starEach [kx] X.env:=by rfl)(h2:starEach [kx] X.env=(false,eval kx X.env)::starEach [] X.env:=by rfl)
  (hpl:(backTo pos (starEach [kx] X.env)).any (·.1)=false:=by rfl):SE X cA aq aj F EX (.Call (.Name "isinstance" pp) [a,kx] [] pos) (.mC A k):=PE.weak (Xj (zhs (cA:=cA) (k:=k) Cs) hg hm PyProof.Rows.boot_isinstance (uO ha (uO hk Af h2) h1) J0 J0 h1 hpl) λZ H Q hh=>un hh λU J s hL hS h=>
 aV hL hS h λv H1 U1 d s1 x1 hL1 aK r1 h1=>by
  show ∃U d' v' bb,[v,Dr cA k]=[v',Dr cA k]/\_;obtain⟨dd,rv,h2⟩:=Ij aK r1 h1;obtain⟨bb,e,h3⟩:=Ma h2;exact⟨U1,dd,v,bb,rfl,rv,e,h3.bG aK _ (.d (.bl bb))⟩
end
theorem YC(n:Nat):∀is js:List Int,dI (bY n) (is.map .int) (js.map .int)=some (decide (is=js))
 |[],[]=>rfl
 |[],_::_=>rfl
 |_::_,[]=>rfl
 |i::is,j::js=>by
  have e:bY n (.int i) (.int j)=some (i==j):=by cases n<;>rfl
  simp only[jr,dI,YC n is js,e]
  congr 1
  by_cases h:i=j
  ·subst h;by_cases h2:is=js<;>simp[h2]
  ·simp[h]
theorem zlW{a b:Kx}:bY 2 (qP a) (qP b)=some (decide (a=b)):=by
 cases a with
 |non=>cases b<;>rfl
 |int i=>cases b with
  |int j=>
   show some (i==j)=_;by_cases h:i=j
   ·subst h;simp
   ·have hn:¬Kx.int i=Kx.int j:=λz=>h (by cases z;rfl);simp[h,hn]
  |_=>rfl
 |row is=>cases b with
  |row js=>
   show dI (bY 1) (is.map .int) (js.map .int)=_;rw[YC];by_cases h:is=js
   ·subst h;simp
   ·have hn:¬Kx.row is=Kx.row js:=λz=>h (by cases z;rfl);simp[h,hn]
  |_=>rfl
theorem YD{x y:List Kx}:bY 3 (iU x) (iU y)=some (decide (x=y)):=by
 show dI (bY 2) (x.map qP) (y.map qP)=_
 induction x generalizing y with
 |nil=>cases y<;>rfl
 |cons a x ih=>cases y with
  |nil=>rfl
  |cons b y=>
   simp only[jr,dI,ih,zlW]
   congr 1
   by_cases h:a=b
   ·subst h;by_cases h2:x=y<;>simp[h2]
   ·simp[h]
theorem YF:∀{xs:List D} {is:List Int},b_ xs=some is->xs=is.map .int
 |[],is,h=>by cases h;rfl
 |x::r,is,h=>by
  cases x with
  |int i=>
   simp only[b_,iZ] at h;obtain⟨js,h1,rfl⟩:=h;rw[YF h1];rfl
  |_=>cases h
theorem zkk{d:D}{k:Kx}(h:sX d=some k):d=qP k:=by
 cases d with
 |non=>cases h;rfl
 |int i=>cases h;rfl
 |tup xs=>
  simp only[sX,iZ] at h;obtain⟨js,h1,rfl⟩:=h;rw[YF h1];rfl
 |_=>cases h
theorem YG:∀{xs:List D} {k:List Kx},Bh xs=some k->xs=k.map qP
 |[],k,h=>by cases h;rfl
 |x::r,k,h=>by
  unfold Bh at h;cases e1:sX x with
  |none=>simp only[e1] at h;cases h
  |some a=>cases e2:Bh r with
   |none=>simp only[e1,e2] at h;cases h
   |some b=>
    simp only[e1,e2] at h;cases h;rw[zkk e1,YG e2];rfl
theorem zmI{d:D}{k:List Kx}(h:kOf d=some k):d=iU k:=by
 cases d with
 |tup xs=>show D.tup xs=.tup _;rw[YG h]
 |_=>cases h
noncomputable def YH:Kx->Nat
 |.row is=>is.length+1
 |_=>1
noncomputable def tL:List Kx->Nat
 |[]=>0
 |x::r=>YH x+tL r
section
variable {prog:Program}{w:World}{A:Around}{E:Value->Shared->Prop}{s:Shared}{h h':Heap}
theorem YJ:∀{is:List Int} {us:List Value},iD h (is.map .int) us->ItemsAre (intKind prog w) is us
 |[],us,r=>by cases r;exact .nil
 |i::is,us,r=>by
  cases r with
  |cons a r=>cases a with
   |int i t=>exact .cons (by simp[intKind,Value.isInt]) (YJ r)
   |oth k=>cases k
theorem tM{is:List Int}{a:Value}(x:Is h (.tup (is.map .int)) a):∃b,a=.ref b/\IsTupleKey (intKind prog w) h is b:=by
 cases x with
 |tup p r=>
  obtain⟨o,e,c,n,d⟩:=p;exact⟨_,rfl,o,_,n,e,c,d,by simpa using YJ r⟩
 |oth k=>cases k
theorem zjZ{x:Kx}{u:Value}{Q:Int->Shared->Prop}(hu:A.units<cLine)(hx:Is s.heap (qP x) u)(q:Q (RN x) {s with toks:=s.toks+YH x}):wpAny (model prog w) A (pyHash u) Q E s:=by
 cases x with
 |non=>
  cases hx with
  |non=>exact PySem.W.pyHash_slot (T:="NoneType") rfl F.slot_NoneType_hash F.entry_NoneType_hash (F.args_NoneType_hash_1 _) (beq_builtin_none _) (.inr hu) (aD (bw (aD (wpAny_mkInt (bw ⟨_,_,rfl,q⟩)))))
  |oth k=>cases k
 |int i=>
  cases hx with
  |int i t=>exact wpAny_pyHash_int q
  |oth k=>cases k
 |row is=>
  obtain⟨b,rfl,k⟩:=tM (prog:=prog) (w:=w) hx;exact wpAny_pyHash_tuple hu k q
theorem YK{k:List Kx}:∀{r:List Kx} {us:List Value} {b:Array Int} {s:Shared} {Q:Array Int->Shared->Prop},A.units<cLine->iD s.heap (r.map qP) us->(∀b':Array Int,b'.toList=b.toList++r.map RN->Q b' {s with toks:=s.toks+tL r})->
  wpAny (model prog w) A (forIn us b λx r=>do let h <-pyHash x;pure PUnit.unit;pure (ForInStep.yield (r.push h))) Q E s
 |[],us,b,s,Q,hu,x,q=>by cases x;exact bw (q b Rb)
 |a::r,us,b,s,Q,hu,x,q=>by
  cases x with
  |cons x1 x2=>
   rw[Cv];refine aD (aD (zjZ hu x1 (aD (bw (bw ?_)))));refine YK (k:=k) hu x2 λb' e=>?_;have:=q b' (by simp[e]);simpa [tL,Nat.add_assoc] using this
theorem zgY{k:List Kx}{a:Addr}{Q:Int->Shared->Prop}(hu:A.units+1<cLine)(hk:Is s.heap (iU k) (.ref a))(q:Q (p7 k) {s with toks:=s.toks+(tL k+1)}):wpAny (model prog w) A (pyHash (.ref a)) Q E s:=by
 cases hk with
 |oth k=>cases k
 |tup p r=>
  obtain⟨o,e,c,n,d⟩:=p;refine PySem.W.pyHash_slot (T:="tuple") ⟨_,e,c⟩ F.slot_tuple_hash F.entry_tuple_hash (F.args_tuple_hash_1 _) (beq_builtin_none _) (.inr gV) ?_;show wpAny _ _ (Builtin.Tuple.tupleItemsOf (.ref a) >>= _) _ _ s;refine aD (wpAny_tupleItemsOf e d (aD ?_));rw[<-Ov];refine YK (A:=A.in1) (k:=k) (show A.units+1<cLine from hu) (by simpa using r) λb hb=>?_;show wpAny _ _ (retInt (Builtin.Tuple.tupleHashOf b.toList)) _ _ _;rw[hb];exact aD (wpAny_mkInt (bw ⟨_,_,rfl,by simpa [Nat.add_assoc,p7] using q⟩))
theorem zg3(ht:∀a xs,h.IsTuple a xs->h'.IsTuple a xs)(hl:∀a xs,h.IsList a xs->h'.IsList a xs){d:D}{u:Value}(x:Is h d u):Is h' d u:=
 Is.rec (motive_1:=λd u _=>Is h' d u) (motive_2:=λd u _=>iD h' d u) .non .bl .int .str (λp _ r=>.tup (ht _ _ p) r) (λp _ r=>.fl (hl _ _ p) r) (λk=>.oth k) .nil (λ_ _ a r=>.cons a r) x
theorem zhE:∀{n:Nat} {x:Kx} {u:Value} {Q:Bool->Shared->Prop},Is s.heap (qP x) u->Q true s->wpAny (model prog w) A (eqIsQuiet (n+1) u) Q E s:=by
 intro n x u Q hx q;cases x with
 |non=>
  cases hx with
  |non=>rw[eqIsQuiet_byValue _ rfl];exact bw q
  |oth k=>cases k
 |int i=>
  cases hx with
  |int i t=>rw[eqIsQuiet_byValue _ rfl];exact bw q
  |oth k=>cases k
 |row is=>
  obtain⟨b,rfl,k⟩:=tM (prog:=prog) (w:=w) hx;have ty:=k.typeIs;obtain⟨o,items,m,ho,_,hd,hi⟩:=k;unfold eqIsQuiet;refine aD (wpAny_specialOf ty F.slot_tuple_eq.lookup ?_);show wpAny _ A (isInstance (.ref b) (.type "tuple") >>= _) Q E s;refine aD (Ku ty isSubtype_tuple_tuple ?_);simp only[Bool.not_true,xu,rC];refine aD (qz ho hd (aD ?_));show wpAny _ A (forIn items _ _) _ E s;rw[<-Ov];refine Kr _ (λl r t=>r.1=none/\t=s/\∀v∈l,carriedByValue v=true) _ (λv l r t z=>?_) (λr t z=>?_) _ _ ⟨rfl,rfl,hi.byValue⟩
  ·obtain⟨_,rfl,jG⟩:=z;rw[eqIsQuiet_byValue _ (jG v lG)];exact aD (bw (bw ⟨rfl,rfl,λy hy=>jG y (iz _ hy)⟩))
  ·obtain⟨r1,r2⟩:=r;obtain⟨z1,rfl,_⟩:=z;cases z1;exact bw q
theorem zgF{k:List Kx}{a:Addr}{Q:Bool->Shared->Prop}(hk:Is s.heap (iU k) (.ref a))(q:Q true s):wpAny (model prog w) A (eqIsQuiet 8 (.ref a)) Q E s:=by
 cases hk with
 |oth k=>cases k
 |@tup _ _ its p r=>
  obtain⟨o,ho,c,n,hd⟩:=p;unfold eqIsQuiet;refine aD (wpAny_specialOf ⟨_,ho,c⟩ F.slot_tuple_eq.lookup ?_);show wpAny _ A (isInstance (.ref a) (.type "tuple") >>= _) Q E s;refine aD (Ku ⟨_,ho,c⟩ isSubtype_tuple_tuple ?_);simp only[Bool.not_true,xu,rC];refine aD (qz ho hd (aD ?_));show wpAny _ A (forIn its.toArray _ _) _ E s;rw[<-Ov];refine Kr _ (λl r t=>r.1=none/\t=s/\∀v∈l,∃x,Is s.heap (qP x) v) _ (λv l r t z=>?_) (λr t z=>?_) _ _ ⟨rfl,rfl,?_⟩
  ·obtain⟨_,rfl,jG⟩:=z;obtain⟨x,hx⟩:=jG v lG;exact aD (zhE (n:=6) hx (bw ⟨rfl,rfl,λy hy=>jG y (iz _ hy)⟩))
  ·obtain⟨r1,r2⟩:=r;obtain⟨z1,rfl,_⟩:=z;cases z1;exact bw q
  ·intro v hv;have:∀{ks:List Kx} {us:List Value},iD s.heap (ks.map qP) us->∀v∈us,∃x,Is s.heap (qP x) v:=λ{ks}=>by
    induction ks with
    |nil=>intro us r v hv;cases r;cases hv
    |cons y ks ih=>
     intro us r v hv;cases r with
     |cons a r=>
      rcases iG.mp hv with rfl|hv
      ·exact⟨y,a⟩
      ·exact ih r v hv
   exact this r v (by simpa using hv)
end
noncomputable def jw(prog:Program)(w:World):HeapKind prog w (List Kx) where
 is:=λh k a=>Is h (iU k) (.ref a)
 hash:=p7
 draws:=λk=>tL k+1
 room:=λA=>A.units+4<cLine
 inj:=λx y=>kJ (R0 3 x y YD)
 keeps:=λ{h h' k a d o es ep} x ho hd hs=>zg3 (λb xs ⟨q,e,c,n,z⟩=>⟨q,(hs.2 b λy=>by subst y;rw[ho] at e;cases e;rw[hd] at z;cases z).trans e,c,n,z⟩) (λb xs ⟨q,e,c,n,z⟩=>⟨q,(hs.2 b λy=>by subst y;rw[ho] at e;cases e;rw[hd] at z;cases z).trans e,c,n,z⟩) x
 pyHash:=λhu hk q=>zgY gV hk q
 eqBool:=λ{A E s x y a b Q} hu hx hy q=>yx 3 (show A.units+3<cLine by lia) hx hy YD _ _ _ _ q
 quiet:=λhk q=>zgF hk q
section
variable {K:W.Frag}{cA:Cl}{U U':Ph}{H H':Hp}{s:S}
theorem TupAt.jN(e:∀a,U'.z a->U.z a){a:Addr}{vs:List V}(h:TupAt K U H a vs):TupAt K U' H a vs:=h.imp (λ⟨p,n⟩=>⟨p,λz=>n (e a z)⟩) id
theorem LstAt.jN(e:∀a,U'.z a->U.z a){a:Addr}{vs:List V}(h:LstAt K U H a vs):LstAt K U' H a vs:=h.imp (λ⟨p,n⟩=>⟨p,λz=>n (e a z)⟩) id
theorem ExcAt.jN(e:∀a,U'.z a->U.z a){a:Addr}{c:Nat}{vs:List V}(h:ExcAt cA U H a c vs):ExcAt cA U' H a c vs:=
 ⟨λz=>h.1 (e a z),h.2.imp id λ⟨dx,p,n,q,l⟩=>⟨dx,p,λz=>n (e dx z),q,l⟩⟩
theorem o_.jN(e:∀a,U'.z a->U.z a){a:Addr}{c:Nat}{vs:List V}(h:o_ cA U H a c vs):o_ cA U' H a c vs:=⟨λz=>h.1 (e a z),h.2⟩
theorem Rep.jN(e:∀a,U'.z a->U.z a){d:D}{v:V}(h:Rep K cA U H d v):Rep K cA U' H d v:=
 Rep.rec (motive_1:=λd v _=>Rep K cA U' H d v) (motive_2:=λd v _=>aC K cA U' H d v) .non .bl .int .str (λh _ i=>.tup (h.jN e) i) (λh _ i=>.fl (h.jN e) i) (λh n=>.fd h (λz=>n (e _ z))) (λh _ i=>.exc (h.jN e) i) (λh _ i=>.ob (h.jN e) i) .any .nil (λ_ _ i j=>.cons i j) h
theorem aC.jN(e:∀a,U'.z a->U.z a){d:List D}{v:List V}(h:aC K cA U H d v):aC K cA U' H d v:=
 aC.rec (motive_1:=λd v _=>Rep K cA U' H d v) (motive_2:=λd v _=>aC K cA U' H d v) .non .bl .int .str (λh _ i=>.tup (h.jN e) i) (λh _ i=>.fl (h.jN e) i) (λh n=>.fd h (λz=>n (e _ z))) (λh _ i=>.exc (h.jN e) i) (λh _ i=>.ob (h.jN e) i) .any .nil (λ_ _ i j=>.cons i j) h
theorem jR.jN(e:∀a,U'.z a->U.z a){a:Addr}{o:SO}(h:jR K cA U H a o):jR K cA U' H a o:=h.map (λ_ q=>q) λ_ _ r=>r.jN e
theorem Rep.zl{d:D}{v:V}(h:Rep K cA U H d v)(l:List Addr):Rep K cA ⟨U.z,l⟩ H d v:=Rep.jN (U:=U) (U':=⟨U.z,l⟩) (λ_ z=>z) h
theorem aC.zl{d:List D}{v:List V}(h:aC K cA U H d v)(l:List Addr):aC K cA ⟨U.z,l⟩ H d v:=aC.jN (U:=U) (U':=⟨U.z,l⟩) (λ_ z=>z) h
theorem jR.zl{a:Addr}{o:SO}(h:jR K cA U H a o)(l:List Addr):jR K cA ⟨U.z,l⟩ H a o:=jR.jN (U:=U) (U':=⟨U.z,l⟩) (λ_ z=>z) h
noncomputable def adr(l:List Addr):List Nat->List Addr
 |[]=>[]
 |n::r=>match l[n]? with
  |some a=>a::adr l r
  |none=>adr l r
theorem Ds{l:List Addr}:∀{ns:List Nat} {a:Addr},a∈adr l ns->∃n∈ns,l[n]?=some a
 |[],a,h=>by cases h
 |n::r,a,h=>by
  unfold adr at h;cases e:l[n]? with
  |none=>
   simp only[e] at h;obtain⟨m,h1,h2⟩:=Ds h;exact⟨m,iz _ h1,h2⟩
  |some b=>
   simp only[e] at h;rcases iG.mp h with rfl|h
   ·exact⟨n,lG,e⟩
   ·obtain⟨m,h1,h2⟩:=Ds h;exact⟨m,iz _ h1,h2⟩
theorem YL{s:S}:∀{ns:List Nat} {s0:S} {i n:Nat},iR s ns=some s0->ns[i]?=some n->s0[i]?=s[n]?/\∃o,s[n]?=some o
 |[],s0,i,n,h,e=>by simp at e
 |m::r,s0,i,n,h,e=>by
  unfold iR at h;cases e1:s[m]? with
  |none=>simp only[e1] at h;cases h
  |some o=>
   cases e2:iR s r with
   |none=>simp only[e1,e2] at h;cases h
   |some q=>
    simp only[e1,e2] at h;cases h;cases i with
    |zero=>simp at e;subst e;exact⟨by simp[e1],o,e1⟩
    |succ i=>simpa using YL e2 (by simpa using e)
theorem YM{s:S}:∀{ns:List Nat} {s0:S},iR s ns=some s0->s0.length=ns.length
 |[],s0,h=>by cases h;rfl
 |m::r,s0,h=>by
  unfold iR at h;cases e1:s[m]? with
  |none=>simp only[e1] at h;cases h
  |some o=>
   cases e2:iR s r with
   |none=>simp only[e1,e2] at h;cases h
   |some q=>
    simp only[e1,e2] at h;cases h;rw[fX,fX,YM e2]
theorem Iv{l:List Addr}:∀{ns:List Nat} {i n:Nat},(∀n∈ns,∃a,l[n]?=some a)->ns[i]?=some n->(adr l ns)[i]?=l[n]?
 |[],i,n,_,e=>by simp at e
 |m::r,i,n,h,e=>by
  obtain⟨a,ha⟩:=h m lG;unfold adr;simp only[ha];cases i with
  |zero=>simp at e;subst e;simp[ha]
  |succ i=>simpa using Iv (λn hn=>h n (iz _ hn)) (by simpa using e)
theorem Iw{l:List Addr}:∀{ns:List Nat},(∀n∈ns,∃a,l[n]?=some a)->(adr l ns).length=ns.length
 |[],_=>rfl
 |m::r,h=>by
  obtain⟨a,ha⟩:=h m lG;unfold adr;simp only[ha];rw[fX,fX,Iw (λn hn=>h n (iz _ hn))]
theorem YQ{l:List Addr}(hl:l.Nodup):∀{ns:List Nat},ns.Nodup->(∀n∈ns,∃a,l[n]?=some a)->(adr l ns).Nodup
 |[],_,_=>Cy
 |m::r,hn,h=>by
  obtain⟨a,ha⟩:=h m lG;unfold adr;simp only[ha];obtain⟨h1,h2⟩:=xJ.mp hn;refine xJ.mpr ⟨λz=>?_,YQ hl h2 (λn hn=>h n (iz _ hn))⟩;obtain⟨n,q1,q2⟩:=Ds z;have:m=n:=(OJ (cI.mp ha).1 hl).mp (ha.trans q2.symm);exact h1 (this▸q1)
theorem Dt{s:S}:∀{ns:List Nat} {s1:S},(cV s ns s1).length=s.length
 |[],s1=>by cases s1<;>rfl
 |n::r,[]=>rfl
 |n::r,o::q=>by
  show (cV (s.set n o) r q).length=_;rw[Dt,ou]
theorem R7{s:S}:∀{ns:List Nat} {s1:S} {m:Nat},m∉ns->(cV s ns s1)[m]?=s[m]?
 |[],s1,m,_=>by cases s1<;>rfl
 |n::r,[],m,_=>rfl
 |n::r,o::q,m,h=>by
  show (cV (s.set n o) r q)[m]?=_;rw[R7 (λz=>h (iz _ z)),mW (λz=>h (by rw[z];exact lG))]
theorem YS{s:S}:∀{ns:List Nat} {s1:S} {i m:Nat} {o:SO},ns.Nodup->ns[i]?=some m->s1[i]?=some o->m<s.length->(cV s ns s1)[m]?=some o
 |[],s1,i,m,o,_,e,_,_=>by simp at e
 |n::r,[],i,m,o,_,_,e,_=>by simp at e
 |n::r,q::qs,i,m,o,hn,e1,e2,hm=>by
  show (cV (s.set n q) r qs)[m]?=_;obtain⟨h1,h2⟩:=xJ.mp hn;cases i with
  |zero=>
   simp at e1 e2;subst e1 e2;rw[R7 h1,pH hm]
  |succ i=>exact YS h2 (by simpa using e1) (by simpa using e2) (by rw[ou];exact hm)
theorem zgM:∀{xs:List Xv} {vs:List V} (l0:List Addr) (z:Addr->Prop) (k:Nat),aQ K cA U H xs vs->U.z=z->(∀i n,(locs xs)[i]?=some n->l0[k+i]?=U.l[n]?)->aQ K cA ⟨z,l0⟩ H (cU k xs) vs
 :=by
 intro xs vs l0 z k r0
 induction r0 generalizing k with
 |nil=>exact λ_ _=>.nil
 |@cons x v xs vs a q ih=>
  intro ez h;cases a with
  |d a=>exact .cons (.d (a.jN λb hb=>by rw[ez];exact hb)) (ih k ez h)
  |@l n a' a=>
   refine .cons (.l ?_) (ih (k+1) ez λi m e=>?_)
   ·have:=h 0 n rfl;rw[Nat.add_zero] at this;show l0[k]?=_;rw[this];exact a
   ·have:=h (i+1) m (by simpa [locs] using e);rw[<-this]
    congr 1
    lia
theorem zeE:∀{xs:List Xv} {vs:List V},aQ K cA U H xs vs->∀n∈locs xs,∃a,U.l[n]?=some a
 :=by
 intro xs vs r0
 induction r0 with
 |nil=>exact λn h=>by cases h
 |cons a q ih=>
  intro n h;cases a with
  |d a=>exact ih n h
  |l a=>
   rcases iG.mp h with rfl|h
   ·exact⟨_,a⟩
   ·exact ih n h
theorem YT{xs:List Xv}{U1:Ph}{s0 s1:S}(hS:aH K cA U H s)(hn:(locs xs).Nodup)(ht:∀n∈locs xs,∃a,U.l[n]?=some a)(x:Ext ⟨U.z,adr U.l (locs xs)⟩ H U1 H')(r1:aH K cA U1 H' s1) :
  Ext U H ⟨U1.z,U.l⟩ H'/\aH K cA ⟨U1.z,U.l⟩ H' (cV s (locs xs) s1):=by
 have aq:∀a∈adr U.l (locs xs),a∈U.l:=λa ha=>by obtain⟨n,_,q⟩:=Ds ha;exact dM q
 obtain⟨r,er,hr⟩:=x.more;have er:U1.l=adr U.l (locs xs)++r:=er;refine⟨⟨⟨[],by simp,by simp⟩,λa h=>x.rE a h,λa h=>x.mK a h,λa o h n=>x.frame a o h λz=>n (aq a z),x.stay⟩,?_⟩;refine⟨by rw[Dt];exact hS.len,λn o a e1 e2=>?_,hS.uniq,λa ha=>x.rE a (hS.lz a ha),r1.zt⟩;have e2:U.l[n]?=some a:=e2;by_cases gK:n∈locs xs
 ·obtain⟨i,hi,ei⟩:=xq gK;have ei:(locs xs)[i]?=some n:=by rw[cP hi,ei]
  have ha:(adr U.l (locs xs))[i]?=some a:=by rw[Iv ht ei];exact e2
  have YW:U1.l[i]?=some a:=by rw[er,oM (cI.mp ha).1];exact ha
  have dh:i<s1.length:=by rw[<-r1.len];exact(cI.mp YW).1
  have hb:=YS (s:=s) (s1:=s1) hn ei (cP dh) (by rw[<-hS.len];exact(cI.mp e2).1);rw[hb] at e1;cases e1;exact jR.zl (r1.obj i _ a (cP dh) YW) _
 ·rw[R7 gK] at e1;have R8:a∉adr U.l (locs xs):=λz=>by
   obtain⟨m,q1,q2⟩:=Ds z;have:n=m:=(OJ (cI.mp e2).1 hS.uniq).mp (e2.trans q2.symm);exact gK (this▸q1)
  exact(hS.obj n o a e1 e2).map (λ_ q=>x.frame a _ q R8) λ_ _ r=>Rep.zl ((Rep.zl r _).mono x λa ha=>hS.lz a (aq a ha)) _
theorem YX{F:List Xv->M Xv}{xs:List Xv}{vs:List V}{Q:VK}{EE:Nat->List D->Ph->Hp->Prop}(hS:aH K cA U H s)(r:aQ K cA U H xs vs)
  (hE:∀c fs U1 U2 H',U1.z=U2.z->EE c fs U1 H'->EE c fs U2 H')
  (h:Run K cA (bR F xs) U H s (λx _ U' H'=>∀v,aW K cA U' H' x v->Q v H') (λc fs _ U' H'=>EE c fs U' H')) :
  ∃U0 s0,aQ K cA U0 H (cU 0 xs) vs/\aH K cA U0 H s0/\Run K cA (F (cU 0 xs)) U0 H s0 (λx _ U' H'=>∀v,aW K cA U' H' x v->Q v H') (λc fs _ U' H'=>EE c fs U' H'):=by
 unfold Run bR at h;by_cases hn:(locs xs).Nodup
 ·simp only[if_pos hn] at h;have ht:=zeE r;have aq:∀a∈adr U.l (locs xs),a∈U.l:=λa ha=>by obtain⟨n,_,q⟩:=Ds ha;exact dM q
  cases e0:iR s (locs xs) with
  |none=>simp only[e0] at h
  |some s0=>
   simp only[e0] at h;refine⟨⟨U.z,adr U.l (locs xs)⟩,s0,zgM _ _ 0 r rfl (λi n e=>by rw[Fe];exact Iv ht e),?_,?_⟩
   ·refine⟨by rw[YM e0];exact Iw ht,λi o a e1 e2=>?_,YQ hS.uniq hn ht,λa ha=>hS.lz a (aq a ha),hS.zt⟩;have e2:(adr U.l (locs xs))[i]?=some a:=e2;have hi:i<(locs xs).length:=by rw[<-Iw ht];exact(cI.mp e2).1
    have ei:(locs xs)[i]?=some ((locs xs)[i]):=cP hi;rw[Iv ht ei] at e2;rw[(YL e0 ei).1] at e1;exact jR.zl (hS.obj _ o a e1 e2) _
   ·unfold Run;cases e1:F (cU 0 xs) s0 with
    |none=>simp only[e1] at h
    |some q=>
     obtain⟨q,s1⟩:=q;simp only[e1] at h;cases q with
     |er c fs=>
      intro U1 H' x r1;obtain⟨x2,r2⟩:=YT (s0:=s0) hS hn ht x r1;exact hE c fs ⟨U1.z,U.l⟩ U1 H' rfl (h ⟨U1.z,U.l⟩ H' x2 r2)
     |ok y=>
      intro U1 H' x r1 v rv;obtain⟨x2,r2⟩:=YT (s0:=s0) hS hn ht x r1;cases y with
      |d w=>
       cases rv with
       |d rv=>exact h ⟨U1.z,U.l⟩ H' x2 r2 v (.d (Rep.zl rv _))
      |l n=>
       cases rv with
       |@l _ a hl=>
        obtain⟨rr,er,hr⟩:=x.more;have er:U1.l=adr U.l (locs xs)++rr:=er;cases em:(locs xs)[n]? with
        |some m=>
         simp only[em] at h;refine h _ H' x2 r2 _ (.l ?_);show U.l[m]?=some a;have ha:(adr U.l (locs xs))[n]?=U.l[m]?:=Iv ht em;have dh:n<(adr U.l (locs xs)).length:=by rw[Iw ht];exact(cI.mp em).1
         rw[er,oM dh] at hl;rw[<-ha];exact hl
        |none=>
         simp only[em] at h;have hge:(adr U.l (locs xs)).length<=n:=by rw[Iw ht];exact oN.mp em
         have Lw:a∈rr:=by
          rw[er,pG hge] at hl;exact dM hl
         have R8:a∉U.l:=λz=>by
          obtain⟨o,eo⟩:=hS.zt a (hS.lz a z);rw[hr a Lw] at eo;cases eo
         cases eo:s1[n]? with
         |none=>simp only[eo] at h
         |some o=>
          simp only[eo] at h;have ho:=r1.obj n o a eo hl;refine h ⟨U1.z,U.l++[a]⟩ H' ⟨⟨[a],rfl,by simpa using hr a Lw⟩,x2.rE,x2.mK,x2.frame,x2.stay⟩ ?_ _ (.l (by show (U.l++[a])[s.length]?=_;rw[<-hS.len];simp));refine⟨by show (U.l++[a]).length=_;rw[dH,dH,Dt,hS.len];rfl,λm o' a' e1 e2=>?_,?_,λb hb=>?_,r1.zt⟩
          ·have e2:(U.l++[a])[m]?=some a':=e2;by_cases hm:m<s.length
           ·rw[oM (by rw[Dt];exact hm)] at e1;rw[oM (by rw[hS.len];exact hm)] at e2;exact jR.zl (r2.obj m o' a' e1 e2) _
           ·have uR:m=s.length:=by
             have z:=(cI.mp e2).1;rw[dH,hS.len] at z;simp at z
             lia
            subst uR;rw[pG (by rw[Dt];exact bU _)] at e1;rw[pG (by rw[hS.len];exact bU _)] at e2;simp[Dt] at e1;simp[hS.len] at e2;subst e1 e2;exact jR.zl ho _
          ·show (U.l++[a]).Nodup;rw[Kq];refine⟨hS.uniq,by simp,λb hb c hc e=>?_⟩;simp at hc;subst hc e;exact R8 hb
          ·have hb:b∈U.l++[a]:=hb;rcases kO.mp hb with z|z
           ·exact x2.rE b (hS.lz b z)
           ·simp at z;subst z;exact r1.lz _ (dM hl)
 ·simp only[if_neg hn] at h
end
section
variable {X:Cx}{cA:Cl}{aq:Nat->Nat->Bool}{aj:Bool}{F:Fn}{EX:XS}{a b c d e o:Expr}{A B C Dd E' O:E}{pos pp p2 apos cpos:Pos}{es:List Expr}{Xs:Es}{fz:Bool}{p:Pr}{x:Str}{U:Ph}{H:Hp}{s:S}
theorem Mq{K:W.Frag}{β:Type}{x:Xv}{v:V}{k:Nat×List D->M β}{P:β->S->Ph->Hp->Prop}{Ee:Nat->List D->S->Ph->Hp->Prop}(hS:aH K cA U H s)(r:aW K cA U H x v)(h:Run K cA (M.bd (cJ x) k) U H s P Ee) :
  ∃n ad xs vs,x=.l n/\v=.ref ad/\s[n]?=some (.lst xs)/\U.l[n]?=some ad/\H ad=some (.lst vs)/\aC K cA U H xs vs/\Run K cA (k (n,xs)) U H s P Ee:=by
 cases r with
 |d _=>exact h.elim
 |@l n ad hl=>
  unfold Run M.bd cJ at h;dsimp only at h;cases e:s[n]? with
  |none=>rw[e] at h;exact h.elim
  |some o=>
   rw[e] at h;cases o with
   |lst xs=>
    obtain⟨vs,q1,q2⟩:=hS.obj n _ _ e hl;exact⟨n,ad,xs,vs,rfl,rfl,e,hl,q1,q2,h⟩
   |_=>exact h.elim
theorem zkr(ho:SE X cA aq aj F EX o O)(ha:SE X cA aq aj F EX a A)
  (cZ:attributeBase o "append" X.env (eval o X.env)=eval o X.env:=by rfl)
  (oY:((backTo cpos (starEach [a] X.env)).all (λx=>!x.1)&&(backToKw cpos (keywordEach [] X.env)).all (λx=>x.1.isSome)
  &&decide ([a].length+([]:List Keyword).length+(if ([]:List Keyword).isEmpty then 0 else 1)<30))=true:=by rfl)
  (c7:(apos.endLine==cpos.line)=true:=by rfl) (hs:starEach [a] X.env=(false,eval a X.env)::starEach [] X.env:=by rfl) (fG:(backTo cpos (starEach [] X.env)).any (·.1)=false:=by rfl) :
  SE X cA aq aj F EX (.Call (.Attribute o "append" apos) [a] [] cpos) (.push O A):=PE.weak (Xr PySem.F.plainAttrs_list PySem.F.slot_list_append PySem.F.type_list_append Xw ho (uO ha Af hs) cZ oY c7 hs fG) λZ H Q hh=>un hh λU J s hL hS h=>by
 refine aV hL hS h λx H1 U1 d1 s1 x1 hL1 aK r1 h1=>?_;obtain⟨n,ad,xs,vs,rfl,rfl,e1,f1,g1,q1,h2⟩:=Mq aK r1 h1;refine⟨.inl ⟨rfl,vs,cR.of g1⟩,aV hL1 aK h2 λy H2 U2 d2 s2 x2 hL2 aP r2 h3=>?_⟩;obtain⟨dd,_,rd,h4⟩:=Mf r2 h3;obtain⟨n',ad',ys,us,en,ea,e2,f2,g2,q2,h5⟩:=Mq aP (r1.mono x2 aK.lz) h4;cases en;cases ea;by_cases hz:ys.length<sizeLine
 ·have h5:Run X.K cA (M.bd (putL n (ys++[dd])) λ_=>M.ret (Xv.d .non)) U2 H2 s2 (λd _ U' H'=>∀v,aW X.K cA U' H' d v->Q v H') (eX X.K cA EX Z):=by
   have h6:Run X.K cA (if ys.length<sizeLine then M.bd (putL n (ys++[dd])) λ_=>M.ret (Xv.d .non) else M.no) U2 H2 s2 (λd _ U' H'=>∀v,aW X.K cA U' H' d v->Q v H') (eX X.K cA EX Z):=h5;rw[if_pos hz] at h6;exact h6
  refine⟨ad,us,y,rfl,rfl,g2,by rw[<-q2.len];exact hz,?_⟩;exact h5 U2 _ (Ext.write f2 ⟨_,g2⟩) (aP.write e2 f2 (q2.app (.cons rd .nil))) _ (.d .non)
 ·have h6:Run X.K cA (if ys.length<sizeLine then M.bd (putL n (ys++[dd])) λ_=>M.ret (Xv.d .non) else M.no) U2 H2 s2 (λd _ U' H'=>∀v,aW X.K cA U' H' d v->Q v H') (eX X.K cA EX Z):=h5;rw[if_neg hz] at h6;exact h6.elim
theorem zdC{α:Type}{xs:List α}{d:α}(h:xs.getLast?=some d):xs[xs.length-1]?=some d:=by
 rw[List.getLast?_eq_getElem?] at h;exact h
theorem aC.dropLast{K:W.Frag}{ds:List D}{vs:List V}(r:aC K cA U H ds vs):aC K cA U H ds.dropLast vs.dropLast:=by
 rw[List.dropLast_eq_take,List.dropLast_eq_take,r.len];exact r.take _
theorem zlT(ho:SE X cA aq aj F EX o O)(cZ:attributeBase o "pop" X.env (eval o X.env)=eval o X.env:=by rfl)(c7:(apos.endLine==cpos.line)=true:=by rfl) :
  SE X cA aq aj F EX (.Call (.Attribute o "pop" apos) [] [] cpos) (.pop O):=PE.weak (zmz PySem.F.plainAttrs_list PySem.F.slot_list_pop PySem.F.type_list_pop zly ho cZ c7) λZ H Q hh=>un hh λU J s hL hS h=>by
 refine aV hL hS h λx H1 U1 d1 s1 x1 hL1 aK r1 h1=>?_;obtain⟨n,ad,xs,vs,rfl,rfl,e1,f1,g1,q1,h2⟩:=Mq aK r1 h1;refine⟨.inl ⟨rfl,vs,cR.of g1⟩,?_⟩;cases eg:xs.getLast? with
 |none=>simp only[eg] at h2;exact h2.elim
 |some dd=>
  simp only[eg] at h2;obtain⟨w,hw,j8⟩:=q1.get (zdC eg);rw[q1.len] at hw;refine⟨ad,vs,w,rfl,rfl,g1,hw,?_⟩;have x2:Ext U1 H1 U1 (upd H1 ad (.lst vs.dropLast)):=Ext.write f1 ⟨_,g1⟩;exact h2 U1 _ x2 (aK.write e1 f1 q1.dropLast) _ (.d (j8.mono x2 aK.lz))
noncomputable def kj(K:W.Frag)(cA:Cl)(m:List Xv->M Xv):Sp:=λvs H Q E=>∃U xs s,aQ K cA U H xs vs/\aH K cA U H s/\Run K cA (m xs) U H s (λd _ U' H'=>∀v,aW K cA U' H' d v->Q v H') (λc fs _ U' H'=>∀dx,jM K cA U' H' c fs dx->E (.ref (cA.a c)) dx H')
theorem zke{K:W.Frag}{U1 U2:Ph}{c:Nat}{fs:List D}{dx:Option Addr}(e:U1.z=U2.z)(h:jM K cA U2 H c fs dx):jM K cA U1 H c fs dx:=h.imp id λ⟨d,vs,a,b,c,l,r⟩=>⟨d,vs,a,by rw[e];exact b,c,l,r.jN λ_ z=>by rw[<-e];exact z⟩
theorem ziN{cm:Bool}{k f:Nat}{fa:Addr}{fd:FuncData}{ps:List Str}(Fo:bZ X.prog X.w X.K X.mg X.base (gA X.prog X.w) cm k fa fd ps (kj X.K cA (F f)))(ji:cm=true->X.aj=true)(hr:bD k X.A)(hg:Gl X x)(hm:X.mg x=some (.ref fa))(hk:PySem.W.keepIn X.K (.ref fa)=true)(hb:Binds X.K fd ps [])(R:Raises X EX)
  (ha:SA X cA aq aj F EX (e::es) Xs) (qI:(x==("__debug__" : Str))=false:=by decide) (he:starEach (e::es) X.env=(false,eval e X.env)::starEach es X.env:=by rfl) (hpl:(backTo pos (starEach es X.env)).any (·.1)=false:=by rfl) :
  SE X cA aq aj F EX (.Call (.Name x pp) (e::es) [] pos) (.call f Xs):=PE.weak (zhx Fo ji hr hg hm hk hb R ha qI he hpl) λZ H Q hh=>un hh λU J s hL hS h=>
 nO hL hS h λvs H1 U1 ds s1 x1 hL1 aK r1 h1=>by
  obtain⟨U0,s0,a1,a2,a3⟩:=YX (EE:=λc fs U' H'=>∀dx,jM X.K cA U' H' c fs dx->EX Z (.ref (cA.a c)) dx H') aK r1 (λc fs U1 U2 H' ez z dx q=>z dx (zke ez q)) h1;exact⟨U0,_,s0,a1,a2,a3⟩
end
section
variable {K:W.Frag}{cA:Cl}{U U':Ph}{H H':Hp}{s:S}
def dj(U:Ph)(H H':Hp):Prop:=∀a o,H a=some o->¬U.z a->H' a=some o
theorem Rep.out(x:dj U H H'){d:D}{v:V}(h:Rep K cA U H d v):Rep K cA U H' d v:=
 Rep.rec (motive_1:=λd v _=>Rep K cA U H' d v) (motive_2:=λd v _=>aC K cA U H' d v) .non .bl .int .str
  (λh _ r=>.tup (h.imp (λz=>⟨z.1.imp (λq=>x _ _ q z.2) λw=>w.elim λo q=>⟨o,x _ _ q z.2⟩,z.2⟩) id) r)
  (λh _ r=>.fl (h.imp (λz=>⟨z.1.imp (λq=>x _ _ q z.2) λw=>w.elim λo q=>⟨o,x _ _ q z.2⟩,z.2⟩) id) r)
  (λh n=>.fd (x _ _ h n) n)
  (λh _ r=>.exc ⟨h.1,h.2.imp (λz=>z.elim λa z=>z.elim λb q=>⟨a,b,x _ _ q h.1⟩) λz=>z.elim λdx z=>⟨dx,x _ _ z.1 h.1,z.2.1,x _ _ z.2.2.1 z.2.1,z.2.2.2⟩⟩ r)
  (λh _ r=>.ob ⟨h.1,h.2.elim λdx z=>⟨dx,x _ _ z.1 h.1,z.2⟩⟩ r) .any .nil (λ_ _ a b=>.cons a b) h
theorem aC.out(x:dj U H H'){ds:List D}{vs:List V}(h:aC K cA U H ds vs):aC K cA U H' ds vs:=
 aC.rec (motive_1:=λ_ _ _=>True) (motive_2:=λd v _=>aC K cA U H' d v) trivial (λ_=>trivial) (λ_=>trivial) (λ_=>trivial) (λ_ _ _=>trivial) (λ_ _ _=>trivial) (λ_ _=>trivial) (λ_ _ _=>trivial) (λ_ _ _=>trivial) (λ_=>trivial) .nil (λh _ _ r=>.cons (h.out x) r) h
theorem aW.out(x:dj U H H'){d:Xv}{v:V}(h:aW K cA U H d v):aW K cA U H' d v:=by
 cases h with
 |d h=>exact .d (h.out x)
 |l h=>exact .l h
theorem bx.out(x:dj U H H')(h:bx K cA U H Z J):bx K cA U H' Z J:=⟨h.1,λi d e=>let ⟨v,a,b⟩:=h.2 i d e;⟨v,a,b.out x⟩⟩
theorem dj.refl:dj U H H:=λa o e _=>e
structure jx(K:W.Frag)(cA:Cl)(c:Src)(U:Ph)(H:Hp)(cG:L2.It):Prop where
 stop:∀U' H₁ H' s' i,Ext U H U' H₁->dj U' H₁ H'->aH K cA U' H' s'->c.at i s'=some none->cG.stop i H'
 go:∀U' H₁ H' s' i x,Ext U H U' H₁->dj U' H₁ H'->aH K cA U' H' s'->c.at i s'=some (some x)->cG.go i H'
 Aa:∀U' H₁ H' s' i x v H2,Ext U H U' H₁->dj U' H₁ H'->aH K cA U' H' s'->c.at i s'=some (some x)->cG.Aa i H' v H2->bC H' H2/\Rep K cA U' H2 x v
theorem LstAt.later(hz:∀a∈U.l,U.z a)(h:LstAt K U H a vs)(x:Ext U H U' H₁)(o:dj U' H₁ H'):LstAt K U' H' a vs:=
 (h.mono x hz).imp (λ⟨p,n⟩=>⟨p.imp (λq=>o _ _ q n) λ⟨w,q⟩=>⟨w,o _ _ q n⟩,n⟩) id
theorem TupAt.later(hz:∀a∈U.l,U.z a)(h:TupAt K U H a vs)(x:Ext U H U' H₁)(o:dj U' H₁ H'):TupAt K U' H' a vs:=
 (h.mono x hz).imp (λ⟨p,n⟩=>⟨p.imp (λq=>o _ _ q n) λ⟨w,q⟩=>⟨w,o _ _ q n⟩,n⟩) id
theorem jx.list(hz:∀a∈U.l,U.z a)(h:LstAt K U H a vs)(r:aC K cA U H xs vs):jx K cA (.fix xs) U H (K8 K a):=by
 refine⟨λU' H₁ H' s' i x o hS e=>⟨vs,(h.later hz x o).rF,?_⟩,λU' H₁ H' s' i d x o hS e=>?_,λU' H₁ H' s' i d v H2 x o hS e y=>?_⟩
 ·have e:xs[i]?=none:=cW e;exact oN.mp ((r.mono x hz).none e)
 ·have e:xs[i]?=some d:=cW e;obtain⟨v,q,_⟩:=r.get e;exact⟨vs,v,(h.later hz x o).rF,q⟩
 ·have e:xs[i]?=some d:=cW e;obtain⟨rfl,y⟩:=y;obtain⟨w,q,j8⟩:=((r.mono x hz).out o).get e;have:=y vs (h.later hz x o).rF;rw[q] at this;cases this;exact⟨bC.refl,j8⟩
theorem jx.tuple(hz:∀a∈U.l,U.z a)(h:TupAt K U H a vs)(r:aC K cA U H xs vs):jx K cA (.fix xs) U H (Qe K a):=by
 refine⟨λU' H₁ H' s' i x o hS e=>⟨vs,(h.later hz x o).iV,?_⟩,λU' H₁ H' s' i d x o hS e=>?_,λU' H₁ H' s' i d v H2 x o hS e y=>?_⟩
 ·have e:xs[i]?=none:=cW e;exact oN.mp ((r.mono x hz).none e)
 ·have e:xs[i]?=some d:=cW e;obtain⟨v,q,_⟩:=r.get e;exact⟨vs,v,(h.later hz x o).iV,q⟩
 ·have e:xs[i]?=some d:=cW e;obtain⟨rfl,y⟩:=y;obtain⟨w,q,j8⟩:=((r.mono x hz).out o).get e;have:=y vs (h.later hz x o).iV;rw[q] at this;cases this;exact⟨bC.refl,j8⟩
theorem R9(h:(Src.live n).at i s=some o):∃xs,s[n]?=some (.lst xs)/\xs[i]?=o:=by
 unfold Src.at at h;dsimp only at h;cases e:s[n]? with
 |none=>rw[e] at h;cases h
 |some ob=>
  rw[e] at h;cases ob with
  |lst xs=>exact⟨xs,rfl,cW h⟩
  |_=>cases h
theorem jx.live(h:U.l[n]?=some a):jx K cA (.live n) U H (K8 K a):=by
 refine⟨λU' H₁ H' s' i x o hS e=>?_,λU' H₁ H' s' i d x o hS e=>?_,λU' H₁ H' s' i d v H2 x o hS e y=>?_⟩
 ·obtain⟨xs,e1,e2⟩:=R9 e;obtain⟨vs,q1,q2⟩:=hS.obj n _ a e1 (x.get h);exact⟨vs,cR.of q1,oN.mp (q2.none e2)⟩
 ·obtain⟨xs,e1,e2⟩:=R9 e;obtain⟨vs,q1,q2⟩:=hS.obj n _ a e1 (x.get h);obtain⟨v,q3,_⟩:=q2.get e2;exact⟨vs,v,cR.of q1,q3⟩
 ·obtain⟨xs,e1,e2⟩:=R9 e;obtain⟨vs,q1,q2⟩:=hS.obj n _ a e1 (x.get h);obtain⟨w,q3,j8⟩:=q2.get e2;obtain⟨rfl,y⟩:=y;have:=y vs (cR.of q1);rw[q3] at this;cases this;exact⟨bC.refl,j8⟩
theorem R_:(gZ a b)[i]?=if i<(b-a).toNat then some (.int (a+i)) else none:=by
 unfold gZ;rw[fB,List.getElem?_range']
where
 List.getElem?_range' {n i:Nat}:Option.map (λ(i:Nat)=>D.int (a+i)) (List.range n)[i]?=if i<n then some (.int (a+i)) else none:=by
  by_cases h:i<n
  ·rw[if_pos h,zx h];rfl
  ·rw[if_neg h,Ke (by simp;lia)];rfl
theorem jx.range{a b:Int}:jx K cA (.fix (gZ a b)) U H (Gi a (b-a).toNat):=by
 refine⟨λU' H₁ H' s' i x o hS e=>?_,λU' H₁ H' s' i d x o hS e=>?_,λU' H₁ H' s' i d v H2 x o hS e y=>?_⟩
 ·have e:(gZ a b)[i]?=none:=cW e;rw[R_] at e;split at e
  ·cases e
  ·exact Ks (by assumption)
 ·have e:(gZ a b)[i]?=some d:=cW e;rw[R_] at e;split at e
  ·assumption
  ·cases e
 ·have e:(gZ a b)[i]?=some d:=cW e;rw[R_] at e;split at e
  ·cases e;obtain⟨rfl,rfl⟩:=y;exact⟨bC.refl,.int _⟩
  ·cases e
end
noncomputable def Sd(K:W.Frag)(te:TE):TI:=λZ H R=>te Z H λv H1=>∃a,v=.ref a/\(((∃xs,cR K H1 a xs)/\R (K8 K a) H1)\/((∃xs,fD K H1 a xs)/\R (Qe K a) H1))
theorem zmj(he:PE X l te):PI X tg l (Sd X.K te):=by
 intro ao s Z H R I h;refine aX (he ao s Z H _ I h) λv s1 hx=>KZ hx λx H1 I1 r1 a e q=>?_;subst e;cases r1;rcases q with ⟨⟨xs,hq⟩,q⟩|⟨⟨xs,hq⟩,q⟩
 ·obtain⟨its,rv,p,hz⟩:=I1.list hq;refine Ko p.isList ?_;refine⟨s1.heap.objs.size,[s1.heap.objs.size],_,_,H1,rfl,I1.kept (t':=s1.toks) λb o e=>cQ _ e,zfY a _,⟨_,fu _ rfl,rfl,rfl⟩,λb hb=>?_,q⟩;have e:b=s1.heap.objs.size:=by simpa using hb
  subst e;exact I1.sJ (bU _) (I1.hok.fresh (bU _))
 ·obtain⟨its,rv,p,hz⟩:=I1.tuple hq;refine wpAny_pyIter_tuple (show s1.heap.IsTuple a its.toArray from p) ?_;refine⟨s1.heap.objs.size,[s1.heap.objs.size],_,_,H1,rfl,I1.kept (t':=s1.toks) λb o e=>cQ _ e,ze6 a _,⟨_,fu _ rfl,rfl,rfl⟩,λb hb=>?_,q⟩;have e:b=s1.heap.objs.size:=by simpa using hb
  subst e;exact I1.sJ (bU _) (I1.hok.fresh (bU _))
section
variable {X:Cx}{cA:Cl}{aq:Nat->Nat->Bool}{aj:Bool}{F:Fn}{EX:XS}{a b tg:Expr}{A B:E}{pos pp:Pos}
noncomputable def tI(K:W.Frag)(cA:Cl)(EX:XS)(m:Vs->M (Src×Nat)):TI:=λZ H R=>∃U J s,bx K cA U H Z J/\aH K cA U H s/\Run K cA (m J) U H s (λcn _ U1 H1=>∀cG,jx K cA cn.1 U1 H1 cG->R cG H1) (eX K cA EX Z)
def SI(X:Cx)(cA:Cl)(aq:Nat->Nat->Bool)(aj:Bool)(F:Fn)(EX:XS)(tg iter:Expr)(w:Wk):Prop:=PI X tg iter (tI X.K cA EX (mH aq aj F w))
theorem PI.weak{iter:Expr}{t t':TI}(h:PI X tg iter t)(f:∀Z H Q,t' Z H Q->t Z H Q):PI X tg iter t':=λao s Z H Q I q=>h ao s Z H Q I (f Z H Q q)
theorem zlB(ha:SE X cA aq aj F EX a A):SI X cA aq aj F EX tg a (.seq A):=PI.weak (zmj ha) λZ H R hh=>un hh λU J s hL hS h=>by
 refine aV hL hS h λv H1 U1 d s1 x1 hL1 aK r1 h1=>?_;cases r1 with
 |@l n ad hl=>
  unfold Run src at h1;dsimp only at h1;cases e:s1[n]? with
  |none=>rw[e] at h1;exact h1.elim
  |some o=>
   rw[e] at h1;cases o with
   |lst xs=>
    obtain⟨vs,q1,q2⟩:=aK.obj n _ _ e hl;exact⟨ad,rfl,.inl ⟨⟨vs,cR.of q1⟩,h1 U1 H1 Ext.refl aK _ (jx.live hl)⟩⟩
   |_=>exact h1.elim
 |d r1=>
  cases r1 with
  |tup q r=>exact⟨_,rfl,.inr ⟨⟨_,q.iV⟩,h1 U1 H1 Ext.refl aK _ (jx.tuple aK.lz q r)⟩⟩
  |fl q r=>exact⟨_,rfl,.inl ⟨⟨_,q.rF⟩,h1 U1 H1 Ext.refl aK _ (jx.list aK.lz q r)⟩⟩
  |_=>exact h1.elim
theorem YZ{i:Int}(h:fL i=true) : -(2^62)<=i/\i<2^62:=by
 unfold fL at h;rw[gw,Ep,Ep] at h;exact⟨by lia,h.2⟩
theorem Y0{K:W.Frag}{U:Ph}{H:Hp}{s:S}{i j:Int}{P:Src×Nat->S->Ph->Hp->Prop}{Ee:Nat->List D->S->Ph->Hp->Prop}(hS:aH K cA U H s)(h:Run K cA (if (fL i&&fL j)=true then M.ret (Src.fix (gZ i j),(gZ i j).length) else M.no) U H s P Ee):(-(2^62)<=i/\i<2^62/\-(2^62)<=j/\j<2^62)/\P (.fix (gZ i j),(gZ i j).length) s U H:=by
 by_cases hk:(fL i&&fL j)=true
 ·rw[if_pos hk] at h;rw[gw] at hk;obtain⟨a,b⟩:=YZ hk.1;obtain⟨c,d⟩:=YZ hk.2;exact⟨⟨a,b,c,d⟩,h.bG hS⟩
 ·rw[if_neg hk] at h;exact h.elim
theorem zn4(pq:Gl X "range")(hmg:X.mg "range"=none)(ha:SE X cA aq aj F EX a A)(hb:SE X cA aq aj F EX b B)(h1:starEach [a,b] X.env=(false,eval a X.env)::starEach [b] X.env)(h2:starEach [b] X.env=(false,eval b X.env)::starEach [] X.env) :
  SI X cA aq aj F EX tg (.Call (.Name "range" pp) [a,b] [] pos) (.rg A B):=PI.weak (zgj pq hmg (uO ha (uO hb Af h2) h1) (by rw[h1,h2];rfl) (by rw[h2];rfl)) λZ H R hh=>un hh λU J s hL hS h=>by
 refine aV hL hS h λx H1 U1 d1 s1 x1 hL1 aK r1 h1=>aV hL1 aK h1 λy H2 U2 d2 s2 x2 hL2 aP r2 h2=>?_;obtain⟨i,_,e1,h3⟩:=Ii (r1.mono x2 aK.lz) h2;obtain⟨j,_,e2,h4⟩:=Ii r2 h3;obtain⟨hz,q⟩:=Y0 aP h4;subst e1 e2;exact⟨i,j,rfl,hz,q _ jx.range⟩
theorem zmN(pq:Gl X "range")(hmg:X.mg "range"=none)(hb:SE X cA aq aj F EX b B)(h2:starEach [b] X.env=(false,eval b X.env)::starEach [] X.env) :
  SI X cA aq aj F EX tg (.Call (.Name "range" pp) [b] [] pos) (.rg (.c (.int 0)) B):=PI.weak (zfJ pq hmg (uO hb Af h2) (by rw[h2];rfl)) λZ H R hh=>un hh λU J s hL hS h=>by
 have h:Run X.K cA (M.bd (ev aq aj F B J) λy=>M.bd (int (.d (.int 0))) λi=>M.bd (int y) λj=>if (fL i&&fL j)=true then M.ret (Src.fix (gZ i j),(gZ i j).length) else M.no) U H s _ _:=h;refine aV hL hS h λy H2 U2 d2 s2 x2 hL2 aP r2 h2=>?_;obtain⟨j,_,e2,h4⟩:=Ii r2 (show Run X.K cA (M.bd (int d2) λj=>if (fL 0&&fL j)=true then M.ret (Src.fix (gZ 0 j),(gZ 0 j).length) else M.no) U2 H2 s2 _ _ from h2);obtain⟨hz,q⟩:=Y0 aP h4;subst e2;refine⟨j,rfl,hz.2.2.1,hz.2.2.2,q _ ?_⟩;have:=jx.range (K:=X.K) (cA:=cA) (U:=U2) (H:=H2) (a:=0) (b:=j);rw[Int.sub_zero] at this;exact this
end
section
variable {K:W.Frag}{cA:Cl}{U U' U0:Ph}{H H' H0:Hp}{s:S}
theorem Run.bd0(x:Ext U0 H0 U H)(h:Run K cA (M.bd m k) U0 H0 s P Ee) :
  Run K cA m U H s (λa s1 U1 H1=>Ext U H U1 H1/\aH K cA U1 H1 s1/\Run K cA (k a) U0 H0 s1 P Ee) Ee:=by
 unfold Run M.bd at *;cases e:m s with
 |none=>rw[e] at h;exact h
 |some r=>
  obtain⟨r,s1⟩:=r;rw[e] at h;cases r with
  |er c f=>exact λU1 H1 x1 r1=>h U1 H1 (x.trans x1) r1
  |ok a=>exact λU1 H1 x1 r1=>⟨x1,r1,h⟩
theorem Y4{α β:Type}{m:M α}{k:α->M β}{P:β->S->Ph->Hp->Prop}{Ee Ee':Nat->List D->S->Ph->Hp->Prop}(x:Ext U0 H0 U H)(h:Run K cA (M.bd (M.qt m) k) U0 H0 s P Ee) :
  Run K cA m U H s (λa s1 U1 H1=>Ext U H U1 H1/\aH K cA U1 H1 s1/\Run K cA (k a) U0 H0 s1 P Ee) Ee':=by
 have h2:=h.bd0 x;unfold Run at h2 ⊢;unfold M.qt at h2;cases e:m s with
 |none=>rw[e] at h2;exact h2
 |some r=>
  obtain⟨r,s1⟩:=r;rw[e] at h2;cases r with
  |ok a=>exact h2
  |er c f=>exact h2.elim
theorem zk0{α β:Type}{m m':M α}{k:α->M β}{P:β->S->Ph->Hp->Prop}{Ee:Nat->List D->S->Ph->Hp->Prop}(e:m s=m' s)(h:Run K cA (M.bd m k) U H s P Ee):Run K cA (M.bd m' k) U H s P Ee:=by
 unfold Run M.bd at *;rw[<-e];exact h
end
section
variable {X:Cx}{cA:Cl}{aq:Nat->Nat->Bool}{aj:Bool}{F:Fn}{EX:XS}{elt iter tg:Expr}{A B:E}{pos p:Pos}{ifs:List Expr}{scope:Scope}{N:List Str}{cond:Eo}{fr dz:List Nat}{many:Nat}{fz:Bool}{w:Wk}
def Iz(X:Cx)(cA:Cl)(aq:Nat->Nat->Bool)(aj:Bool)(F:Fn)(EX:XS)(ifs:List Expr)(m:Eo):Prop:=Lq X ifs (uP X.K cA EX (pZ aq aj F m))
theorem zk5:Iz X cA aq aj F EX [] .no:=λao s Z H Q I ⟨U,J,st,hL,hS,h⟩=>zkp ao s Z H Q I (h.bG hS)
theorem zkf(h:ST X cA aq aj F EX c C):Iz X cA aq aj F EX [c] (.yes C):=zj6 h
structure mL(K:W.Frag)(cA:Cl)(g:TG)(dz:List Nat):Prop where
 run:∀(U:Ph) (H:Hp) (s:S) (Z:L2.St) (J J':Vs) (d:D) (v:V) (Q:L2.St->Hp->Prop),bx K cA U H Z J->aH K cA U H s->Rep K cA U H d v->gB dz d J=some J'->
  (∀Z',bx K cA U H Z' J'->Z'.length=Z.length->(∀i,i∉dz->Z'[i]?=Z[i]?)->Q Z' H)->g v Z H Q
theorem mO{K:W.Frag}(i:Nat):mL K cA (dO i) [i] where
 run:=λU H s Z J J' d v Q hL hS r e k=>by
  cases e;exact k _ (hL.set (.d r)) (ou ..) λj hj=>mW (by simpa using λz=>hj (by simp[z]))
theorem IK{K:W.Frag}(i j:Nat):mL K cA (sI K 2 (gR (dO i) (gR (dO j) sH))) [i,j] where
 run:=λU H s Z J J' d v Q hL hS r e k=>by
  have e:(lA d).bind (λds=>gH [i,j] (ds.map Xv.d) J)=some J':=e;obtain⟨ds,e1,e2⟩:=vh.mp e;cases r with
  |@tup ad xs vs h1 h2=>
   have e1:xs=ds:=cW e1;subst e1;cases h2 with
   |nil=>cases e2
   |cons r1 t1=>
    cases t1 with
    |nil=>cases e2
    |cons r2 t2=>
     cases t2 with
     |nil=>
      have e2:=cW e2;subst e2;refine⟨ad,_,rfl,h1.iV,rfl,_,_,rfl,_,_,rfl,rfl,k _ ((hL.set (.d r1)).set (.d r2)) (by rw[ou,ou]) λm hm=>?_⟩;rw[mW (λz=>hm (by simp[z])),mW (λz=>hm (by simp[z]))]
     |cons r3 t3=>cases e2
  |_=>cases e1
noncomputable def cM(many:Nat)(fr:List Nat)(Z:L2.St):L2.St:=List.replicate many none++fr.map λj=>(Z[j]?).join
theorem zkq{U:Ph}{H:Hp}{Z:L2.St}{J:Vs}(hL:bx X.K cA U H Z J){Z':L2.St}(hl:Z'.length=many+fr.length)(hf:∀(i:Nat) j v,fr[i]?=some j->Z[j]?=some (some v)->Z'[many+i]?=some (some v)):bx X.K cA U H Z' (blk many fr J):=by
 refine⟨by unfold blk;simp[hl],λi d e=>?_⟩;unfold blk at e;by_cases hi:i<many
 ·rw[oM (by simpa using hi),Ka,if_pos hi] at e;cases e
 ·rw[pG (by simpa using Ks hi),Ef,fB] at e;cases z:fr[i-many]? with
  |none=>rw[z] at e;cases e
  |some j=>
   rw[z] at e;have e3:J[j]?.join=some d:=by simpa using e
   obtain⟨v,q1,q2⟩:=hL.2 j d (RW e3);refine⟨v,?_,q2⟩;have:=hf (i-many) j v z q1;rw[show many+(i-many)=i by omega] at this;exact this
structure eU(U:Ph)(H:Hp)(Dd:Addr)(o:HO):Prop where
 at_:H Dd=some o
 nl:Dd∉U.l
 z:U.z Dd
abbrev Keep(U:Ph)(H:Hp)(Dd:Addr)(vs:List V):Prop:=eU U H Dd (.lst vs)
theorem eU.mono{U U':Ph}{H H':Hp}{Dd:Addr}{o:HO}(x:Ext U H U' H')(k:eU U H Dd o):eU U' H' Dd o:=by
 refine⟨x.frame _ _ k.at_ k.nl,λz=>?_,x.rE _ k.z⟩;obtain⟨r,er,hr⟩:=x.more;rw[er] at z;rcases kO.mp z with z|z
 ·exact k.nl z
 ·have:=hr _ z;rw[k.at_] at this;cases this
theorem eU.ext{U:Ph}{H:Hp}{Dd:Addr}{o u:HO}(k:eU U H Dd o):(∀a o,H a=some o->¬U.z a->(upd H Dd u) a=some o)/\eU U (upd H Dd u) Dd u:=
 ⟨λa o e n=>by rw[eE (λz=>n (by rw[z];exact k.z))];exact e,jO,k.nl,k.z⟩
end
section
variable {K:W.Frag}{cA:Cl}{U U':Ph}{H H':Hp}
theorem aH.keep{s:S}{Dd:Addr}{o u:HO}(h:aH K cA U H s)(k:eU U H Dd o):aH K cA U (upd H Dd u) s:=by
 have x:dj U H (upd H Dd u):=k.ext.1;refine⟨h.len,λn o a e1 e2=>?_,h.uniq,h.lz,λa z=>?_⟩
 ·have na:a≠Dd:=λy=>k.nl (by rw[<-y];exact dM e2);exact(h.obj n o a e1 e2).map (λ_ q=>by rw[eE na];exact q) λ_ _ r=>r.out x
 ·by_cases e:a=Dd
  ·subst e;exact⟨_,jO⟩
  ·obtain⟨o,q⟩:=h.zt a z;exact⟨o,by rw[eE e];exact q⟩
theorem Ext.keep{U1:Ph}{H1:Hp}{Dd:Addr}{vs:List V}{u:HO}(x:Ext U1 H1 U H)(hD:H1 Dd=none):Ext U1 H1 U (upd H Dd u):=by
 refine⟨x.more,x.rE,x.mK,λa o h n=>?_,λa o h=>?_⟩
 ·rw[eE (λz=>by rw[z,hD] at h;cases h)];exact x.frame a o h n
 ·rw[eE (λz=>by rw[z,hD] at h;cases h)];exact x.stay a o h
theorem zgJ{U1:Ph}{H1:Hp}{s':S}{fz:Bool}{acc:List D}{vs:List V}{Dd:Addr}{Q:VK}{Ee:Nat->List D->S->Ph->Hp->Prop}(h:Run K cA (newL fz acc) U1 H1 s' (λd _ U' H'=>∀v,aW K cA U' H' d v->Q v H') Ee)
  (x2:Ext U1 H1 U' H') (hD:H1 Dd=none) (nz:¬U1.z Dd) (aP:aH K cA U' H' s') (k:Keep U' H' Dd vs) (yE:aC K cA U' H' acc vs):Q (.ref Dd) H':=by
 cases fz with
 |true=>
  have zq:∀a,(λa=>U'.z a/\a≠Dd) a->U'.z a:=λa z=>z.1;refine h ⟨λa=>U'.z a/\a≠Dd,U'.l⟩ H' ⟨x2.more,λa z=>⟨x2.rE a z,λe=>nz (by rw[<-e];exact z)⟩,λa z=>x2.mK a z.1,x2.frame,x2.stay⟩ ?_ _ (.d (.fl (.inl ⟨.inl k.at_,λz=>z.2 rfl⟩) (aC.jN (U:=U') zq yE)));refine⟨aP.len,λn o a e1 e2=>jR.jN (U:=U') zq (aP.obj n o a e1 e2),aP.uniq,λa ha=>⟨aP.lz a ha,λe=>k.nl (by rw[<-e];exact ha)⟩,λa z=>aP.zt a z.1⟩
 |false=>
  obtain⟨r,er,hr⟩:=x2.more;refine h ⟨U'.z,U'.l++[Dd]⟩ H' ⟨⟨r++[Dd],by show U'.l++[Dd]=_;rw[er,Kp],λb hb=>?_⟩,x2.rE,x2.mK,x2.frame,x2.stay⟩ ?_ _ (.l (by show (U'.l++[Dd])[s'.length]?=_;rw[<-aP.len];simp))
  ·rcases kO.mp hb with z|z
   ·exact hr b z
   ·simp at z;subst z;exact hD
  ·refine⟨by show (U'.l++[Dd]).length=_;rw[dH,dH,aP.len];rfl,λm o' a' e1 e2=>?_,?_,λb hb=>?_,aP.zt⟩
   ·have e2:(U'.l++[Dd])[m]?=some a':=e2;by_cases hm:m<s'.length
    ·rw[oM hm] at e1;rw[oM (by rw[aP.len];exact hm)] at e2;exact jR.zl (aP.obj m o' a' e1 e2) _
    ·have uR:m=s'.length:=by
      have z:=(cI.mp e2).1;rw[dH,aP.len] at z;simp at z;omega
     subst uR;rw[pG (bU _)] at e1;rw[pG (by rw[aP.len];exact bU _)] at e2;simp at e1;simp[aP.len] at e2;subst e1 e2;exact⟨vs,k.at_,aC.zl yE _⟩
   ·show (U'.l++[Dd]).Nodup;rw[Kq];refine⟨aP.uniq,by simp,λb hb c hc e=>?_⟩;simp at hc;subst hc e;exact k.nl hb
   ·have hb:b∈U'.l++[Dd]:=hb;rcases kO.mp hb with z|z
    ·exact aP.lz b z
    ·simp at z;subst z;exact k.z
noncomputable def Ph.mark(U:Ph)(p:Addr):Ph:=⟨λa=>U.z a\/a=p,U.l⟩
theorem zeJ{s:S}{p:Addr}(hS:aH K cA U H s)(hp:H p=none):Ext U H (U.mark p) (upd H p (.lst []))/\aH K cA (U.mark p) (upd H p (.lst [])) s/\Keep (U.mark p) (upd H p (.lst [])) p []:=by
 have g:=bC.new (o:=.lst []) hp;have nz:=hS.nz hp;refine⟨⟨⟨[],by simp[Ph.mark],by simp⟩,λa z=>.inl z,λa z=>z.imp id λe=>by rw[e];exact hp,λa o h _=>g a o h,λa o h=>⟨o,g a o h⟩⟩,⟨hS.len,λn o a e1 e2=>?_,hS.uniq,λa ha=>.inl (hS.lz a ha),λa z=>?_⟩,jO,λz=>nz (hS.lz p z),.inr rfl⟩
 ·have x:Ext U H (U.mark p) (upd H p (.lst [])):=⟨⟨[],by simp[Ph.mark],by simp⟩,λa z=>.inl z,λa z=>z.imp id λe=>by rw[e];exact hp,λa o h _=>g a o h,λa o h=>⟨o,g a o h⟩⟩;exact(hS.obj n o a e1 e2).map (g _) λ_ _ r=>r.mono x hS.lz
 ·rcases z with z|z
  ·obtain⟨o,e⟩:=hS.zt a z;exact⟨o,g _ _ e⟩
  ·subst z;exact⟨_,jO⟩
end
section
variable {X:Cx}{cA:Cl}{aq:Nat->Nat->Bool}{aj:Bool}{F:Fn}{EX:XS}{elt iter tg:Expr}{A B:E}{pos p:Pos}{ifs:List Expr}{scope:Scope}{N:List Str}{cond:Eo}{fr dz:List Nat}{many:Nat}{fz:Bool}{w:Wk}
noncomputable abbrev gC(aq:Nat->Nat->Bool)(aj:Bool)(F:Fn)(B:E)(cond:Eo)(dz:List Nat)(Jb:Vs):D->List D->M (List D):=λd acc=>M.bd (M.opt (gB dz d Jb)) λJ'=>M.bd (M.qt (pZ aq aj F cond J')) λok=>
    if ok=true then M.bd (M.qt (ev aq aj F B J')) λy=>M.bd (dat y) λe=>if acc.length<sizeLine then M.ret (acc++[e]) else M.no else M.ret acc
theorem Y5{H:Hp}{a:Addr}{o:HO}(h:H a=some o):upd H a o=H:=funext λb=>by
 by_cases z:b=a
 ·subst z;rw[jO,h]
 ·rw[eE z]
theorem zhJ{K:W.Frag}{g:TG}{U1 U':Ph}{H1 H2:Hp}{s':S}{Z':L2.St}{Jb:Vs}{Dd:Addr}{acc:List D}{vs:List V}{xi:D}{v:V}{β:Type}{kk:List D->M β}{P:β->S->Ph->Hp->Prop}{Ee:Nat->List D->S->Ph->Hp->Prop}(hT:mL K cA g dz)(gK:∀i∈dz,i<many)
  (hD:H1 Dd=none) (x2:Ext U1 H1 U' H2) (hL2:bx K cA U' H2 Z' Jb) (aP:aH K cA U' H2 s') (kp:Keep U' H2 Dd vs) (yE:aC K cA U' H2 acc vs) (rx:Rep K cA U' H2 xi v)
  (h:Run K cA (M.bd (gC aq aj F B cond dz Jb xi acc) kk) U1 H1 s' P Ee) {Nn:L2.St->Hp->Prop}
  (hN:∀Z3 H3 U3 s3 wg Mr,Z3.length=Z'.length->(∀i,many<=i->Z3[i]?=Z'[i]?)->Ext U1 H1 U3 H3->Ext U' H2 U3 (upd H3 Dd (.lst vs))->aH K cA U3 H3 s3->Keep U3 H3 Dd Mr->aC K cA U3 H3 wg Mr->Run K cA (kk wg) U1 H1 s3 P Ee->Nn Z3 H3) :
  g v Z' H2 λZ3 H3=>uP K cA (λ_ _ _ _=>False) (pZ aq aj F cond) Z3 H3 λok H4=>
   if ok=true then tE K cA (λ_ _ _ _=>False) (ev aq aj F B) Z3 H4 λy H5=>∃ys,H5 Dd=some (.lst ys)/\ys.length<sizeLine/\Nn Z3 (upd H5 Dd (.lst (ys++[y]))) else Nn Z3 H4:=by
 unfold gC at h;rw[jm] at h;obtain⟨J',e1,h1⟩:=Ma h;refine hT.run U' H2 s' Z' Jb J' xi v _ hL2 aP rx e1 λZ3 vZ Y6 hf3=>?_;rw[jm] at h1;have kf:∀i,many<=i->Z3[i]?=Z'[i]?:=λi hi=>hf3 i λz=>absurd (gK i z) (Nat.not_lt.mpr hi);refine⟨U',J',s',vZ,aP,(Y4 x2 h1).imp λok s4 U4 H4 ⟨x4,yu,h6⟩=>?_⟩;cases ok with
 |false=>
  refine iF (hN Z3 H4 U4 s4 acc vs Y6 kf (x2.trans x4) (by rw[Y5 (kp.mono x4).at_];exact x4) yu (kp.mono x4) (yE.mono x4 aP.lz) ?_);rw[if_neg J0] at h6;exact h6
 |true=>
  rw[if_pos rfl,jm] at h6;refine iT ⟨U4,J',s4,vZ.mono x4 aP.lz,yu,(Y4 (x2.trans x4) h6).imp λy s5 U5 H5 ⟨x5,hS5,h7⟩ u ru=>?_⟩;rw[jm] at h7;have k5:=(kp.mono x4).mono x5;have r5:=(yE.mono x4 aP.lz).mono x5 yu.lz;have x15:=(x2.trans x4).trans x5;obtain⟨dd,ey,rd,h8⟩ : ∃d,y=.d d/\Rep K cA U5 H5 d u/\Run K cA (M.bd (if acc.length<sizeLine then M.ret (acc++[d]) else M.no) kk) U1 H1 s5 P Ee:=by
   cases ru with
   |l _=>exact h7.elim
   |d r=>exact⟨_,rfl,r,h7⟩
  by_cases hz:acc.length<sizeLine
  ·rw[if_pos hz] at h8;refine⟨vs,k5.at_,by rw[<-r5.len];exact hz,?_⟩;have ox:dj U5 H5 (upd H5 Dd (.lst (vs++[u]))):=k5.ext.1;exact hN Z3 _ U5 s5 (acc++[dd]) (vs++[u]) Y6 kf (Ext.keep (vs:=vs) x15 hD) (by rw[zkg,Y5 k5.at_];exact x4.trans x5) (hS5.keep k5) k5.ext.2 ((r5.app (.cons rd .nil)).out ox) h8
  ·rw[if_neg hz] at h8;exact h8.elim
theorem Y7{g:TG}{iter':Expr}(hT:mL X.K cA g dz)(gK:∀i∈dz,i<many){Z:L2.St}{H:Hp}{Q:VK}(hh:tE X.K cA EX (ev aq aj F (.comp fz B dz w fr many cond)) Z H Q) :
  sS (tI X.K cA EX (mH aq aj F w)) (cM many fr) g (uP X.K cA (λ_ _ _ _=>False) (pZ aq aj F cond)) (tE X.K cA (λ_ _ _ _=>False) (ev aq aj F B)) Z H Q:=un hh λU J s hL hS h=>by
 by_cases gq:aj=true
 ·have h:Run X.K cA (if aj=true then M.bd (mH aq aj F w J) λcn=>M.bd (walk cn.1 (gC aq aj F B cond dz (blk many fr J)) (cn.2+1) 0 []) λxs=>newL fz xs else M.no) U H s (λd _ U' H'=>∀v,aW X.K cA U' H' d v->Q v H') (eX X.K cA EX Z):=h;rw[if_pos gq] at h;refine⟨U,J,s,hL,hS,h.bd.imp λcn s1 U1 H1 ⟨x1,aK,h1⟩ cG hJ=>?_⟩;have hL1:=hL.mono x1 hS.lz;obtain⟨c,n⟩:=cn;dsimp only at h1 hJ;intro Dd hD;obtain⟨x0,hS0,k0⟩:=zeJ aK hD;have Sq:∀{Z':L2.St},(Z'.length=many+fr.length/\∀i,many<=i->Z'[i]?=(cM many fr Z)[i]?)->∀{U' H'},Ext U1 H1 U' H'->bx X.K cA U' H' Z' (blk many fr J):=λ{Z'} hZ {U' H'} x=>zkq (hL1.mono x aK.lz) hZ.1 λi j v e1 e2=>by
   rw[hZ.2 _ (by omega)];unfold cM;rw[pG Rb,Ef,fB,show many+i-many=i by omega,e1];simp[e2]
  refine⟨λi m Z' H'=>m=n+1-i/\(Z'.length=many+fr.length/\∀i,many<=i->Z'[i]?=(cM many fr Z)[i]?)/\∃U' s' acc vs,Ext U1 H1 U' H'/\aH X.K cA U' H' s'/\Keep U' H' Dd vs/\aC X.K cA U' H' acc vs /\
   Run X.K cA (M.bd (walk c (gC aq aj F B cond dz (blk many fr J)) (n+1-i) i acc) λxs=>newL fz xs) U1 H1 s' (λd _ U' H'=>∀v,aW X.K cA U' H' d v->Q v H') (eX X.K cA EX Z),⟨n+1,rfl,⟨by simp[cM],λi _=>rfl⟩,U1.mark Dd,s1,[],[],x0,hS0,k0,.nil,h1⟩,?_⟩
  rintro i m Z' H' ⟨rfl,hZ,U',s',acc,vs,x2,aP,kp,yE,h3⟩;have hL2:=Sq hZ x2;cases ek:n+1-i with
  |zero=>rw[ek] at h3;exact h3.elim
  |succ k=>
   rw[ek] at h3;cases ei:c.at i s' with
   |none=>
    exfalso
    unfold Run M.bd walk at h3;simp only[ei] at h3
   |some oi=>
    cases oi with
    |none=>
     refine .inl ⟨hJ.stop U' H' H' s' i x2 dj.refl aP ei,?_⟩;have h4:Run X.K cA (newL fz acc) U1 H1 s' (λd _ U' H'=>∀v,aW X.K cA U' H' d v->Q v H') (eX X.K cA EX Z):=by
      unfold Run M.bd walk at h3;simp only[ei] at h3;exact h3
     exact zgJ h4 x2 hD (aK.nz hD) aP kp yE
    |some xi=>
     refine .inr ⟨hJ.go U' H' H' s' i xi x2 dj.refl aP ei,λZ2 H2=>(Z2.length=many+fr.length/\∀i,many<=i->Z2[i]?=(cM many fr Z)[i]?)/\∃U' s' acc vs,Ext U1 H1 U' H2/\aH X.K cA U' H2 s'/\Keep U' H2 Dd vs/\aC X.K cA U' H2 acc vs /\
      Run X.K cA (M.bd (walk c (gC aq aj F B cond dz (blk many fr J)) k (i+1) acc) λxs=>newL fz xs) U1 H1 s' (λd _ U' H'=>∀v,aW X.K cA U' H' d v->Q v H') (eX X.K cA EX Z),λZ2 H2 hn=>⟨k,by omega,by omega,hn.1,?_⟩,λv H2 hy=>?_⟩
     ·have:n+1-(i+1)=k:=by omega
      rw[this];exact hn.2
     ·obtain⟨gr,rx⟩:=hJ.Aa U' H' H' s' i xi v H2 x2 dj.refl aP ei hy;have h4:Run X.K cA (M.bd (gC aq aj F B cond dz (blk many fr J) xi acc) λacc'=>M.bd (walk c (gC aq aj F B cond dz (blk many fr J)) k (i+1) acc') λxs=>newL fz xs) U1 H1 s' (λd _ U' H'=>∀v,aW X.K cA U' H' d v->Q v H') (eX X.K cA EX Z):=by
       have h5:=zk0 (m':=M.bd (gC aq aj F B cond dz (blk many fr J) xi acc) λacc'=>walk c (gC aq aj F B cond dz (blk many fr J)) k (i+1) acc') (by rw[walk];simp only[ei]) h3;rw[jm] at h5;exact h5
      exact zhJ hT gK hD (x2.trans gr.ext) (hL2.mono gr.ext aP.lz) (aP.grow gr) (kp.mono gr.ext) (yE.mono gr.ext aP.lz) rx h4 λZ3 H3 U3 s3 wg Mr l3 f3 x3 _ jT k3 r3 h6=>⟨⟨l3.trans hZ.1,λi hi=>(f3 i hi).trans (hZ.2 i hi)⟩,U3,s3,wg,Mr,x3,jT,k3,r3,h6⟩
 ·have h:Run X.K cA (if aj=true then M.bd (mH aq aj F w J) λcn=>M.bd (walk cn.1 (gC aq aj F B cond dz (blk many fr J)) (cn.2+1) 0 []) λxs=>newL fz xs else M.no) U H s (λd _ U' H'=>∀v,aW X.K cA U' H' d v->Q v H') (eX X.K cA EX Z):=h;rw[if_neg gq] at h;exact h.elim
theorem Y8{XN:List Str}(rD:∀(i:Nat) (y:Str) (j:Nat),N[many+i]?=some y->fr[i]?=some j->scope.names.lookup y=some .free/\XN[j]?=some y)(Z:L2.St)(i:Nat)(x:Str)(v:V)(e1:N[i]?=some x)(e2:(cM many fr Z)[i]?=some (some v)):scope.names.lookup x=some .free/\∃j:Nat,XN[j]?=some x/\Z[j]?=some (some v):=by
 unfold cM at e2;by_cases hi:i<many
 ·rw[oM (by simpa using hi),Ka,if_pos hi] at e2;cases e2
 ·rw[pG (by simpa using Ks hi),Ef,fB] at e2;cases z:fr[i-many]? with
  |none=>rw[z] at e2;cases e2
  |some j=>
   rw[z] at e2;have e3:(Z[j]?).join=some v:=by simpa using e2
   obtain⟨a1,a2⟩:=rD (i-many) x j (by rw[show many+(i-many)=i by omega];exact e1) z;exact⟨a1,j,a2,RW e3⟩
theorem Y9{g:TG}(hc:X.aj=true)(B':dD X.env.scope scope)(hi:SI X cA aq aj F EX tg iter w)(hN:N.length=many+fr.length)
  (rD:∀(i:Nat) (y:Str) (j:Nat),N[many+i]?=some y->fr[i]?=some j->scope.names.lookup y=some .free/\X.N[j]?=some y)
  (hg:∀cl C s3 H3 fp ao,PG (X.blk scope cl N C s3 H3 fp ao) tg g) (hT:mL X.K cA g dz) (gK:∀i∈dz,i<many)
  (ht:∀cl C s3 H3 fp ao,Iz (X.blk scope cl N C s3 H3 fp ao) cA aq aj F (λ_ _ _ _=>False) ifs cond) (he:∀cl C s3 H3 fp ao,SE (X.blk scope cl N C s3 H3 fp ao) cA aq aj F (λ_ _ _ _=>False) elt B)
  (hs:∀x,foldedSetIterable iter X.env x=pure x:=by intro _;rfl):SE X cA aq aj F EX (.ListComp elt [⟨tg,iter,ifs,0⟩] scope pos) (.comp fz B dz w fr many cond):=
 PE.weak (zj2 hc B' hi (⟨hg,ht,he⟩ : Parts X elt tg ifs scope N g (uP X.K cA (λ_ _ _ _=>False) (pZ aq aj F cond)) (tE X.K cA (λ_ _ _ _=>False) (ev aq aj F B))) (ZY:=cM many fr) (λZ=>by simp[cM,hN]) (λZ i x v e1 e2=>Y8 rD Z i x v e1 e2) hs) λZ H Q hh=>Y7 (iter':=iter) hT gK hh
end
section
variable (K:W.Frag)(cA:Cl)
def aR(m:MS)(U:Ph)(H:Hp)(s:S)(D:Ends)(EX:XS):Prop:=match m s with
 |some (.nx J,s')=>∀U' H' Z',Ext U H U' H'->aH K cA U' H' s'->bx K cA U' H' Z' J->D.nx Z' H'
 |some (.bk J,s')=>∀U' H' Z',Ext U H U' H'->aH K cA U' H' s'->bx K cA U' H' Z' J->D.bk Z' H'
 |some (.ct J,s')=>∀U' H' Z',Ext U H U' H'->aH K cA U' H' s'->bx K cA U' H' Z' J->D.ct Z' H'
 |some (.rt d,s')=>∀U' H' v,Ext U H U' H'->aH K cA U' H' s'->aW K cA U' H' d v->D.rt v H'
 |some (.er c fs J,s')=>∀U' H' Z',Ext U H U' H'->aH K cA U' H' s'->bx K cA U' H' Z' J->∀dx,jM K cA U' H' c fs dx->EX Z' (.ref (cA.a c)) dx H'
 |none=>False
noncomputable def tS(EX:XS)(m:Vs->MS):TS:=λD Z H=>∃U J s,bx K cA U H Z J/\aH K cA U H s/\aR K cA (m J) U H s D EX
end
section
variable {K:W.Frag}{cA:Cl}{U U':Ph}{H H':Hp}{s:S}{Z:L2.St}{J:Vs}{EX:XS}{D:Ends}
theorem aR.ext{m:MS}(x:Ext U H U' H')(h:aR K cA m U H s D EX):aR K cA m U' H' s D EX:=by
 unfold aR at *;split at h<;>first
  |exact λU2 H2 a y r l=>h U2 H2 a (x.trans y) r l
  |exact h.elim
theorem aR.ofM{α:Type}{m:M α}{k:α->MS}(hL:bx K cA U H Z J)(hz:∀a∈U.l,U.z a)(h:aR K cA (ofM m J k) U H s D EX):Run K cA m U H s (λa s1 U1 H1=>Ext U H U1 H1/\aH K cA U1 H1 s1/\aR K cA (k a) U1 H1 s1 D EX) (eX K cA EX Z):=by
 unfold aR Mi.ofM at h;unfold Run;cases e:m s with
 |none=>rw[e] at h;exact h
 |some r=>
  obtain⟨r,s1⟩:=r;rw[e] at h;cases r with
  |er c fs=>exact λU1 H1 x r=>h U1 H1 Z x r (hL.mono x hz)
  |ok a=>
   intro U1 H1 x r;refine⟨x,r,?_⟩;have h2:aR K cA (k a) U H s1 D EX:=h;exact h2.ext x
theorem aR.then_(h:aR K cA (cC m k) U H s D EX):aR K cA m U H s {D with nx:=λZ' H'=>∃U' J' s',bx K cA U' H' Z' J'/\aH K cA U' H' s'/\aR K cA (k J') U' H' s' D EX} EX:=by
 unfold aR cC at h;unfold aR;cases e:m s with
 |none=>rw[e] at h;exact h
 |some r=>
  obtain⟨r,s1⟩:=r;rw[e] at h;cases r with
  |nx J=>
   intro U1 H1 Z1 x r l;have h2:aR K cA (k J) U H s1 D EX:=h;exact⟨U1,J,s1,l,r,h2.ext x⟩
  |bk J=>exact h
  |ct J=>exact h
  |rt d=>exact h
  |er c fs J=>exact h
end
section
variable (X:Cx)(cA:Cl)(aq:Nat->Nat->Bool)(aj:Bool)(F:Bool->Fn)(EX:XS)
def SS(st:Stmt)(m:St):Prop:=PS X st (tS X.K cA EX (ex aq aj F m))
def uU(st:List Stmt)(m:bT):Prop:=oU X st (tS X.K cA EX (exs aq aj F m))
end
section
variable {X:Cx}{cA:Cl}{aq:Nat->Nat->Bool}{aj:Bool}{F:Bool->Fn}{EX:XS}{a b c d e:Expr}{A B C:E}{pos p p2:Pos}{st:Stmt}{sts body orelse:List Stmt}{m:St}{ms mb me mh:bT}{es:List Expr}{Xs:Es}{x y n:Str}{i j:Nat}
theorem PS.weak{t t':TS}(h:PS X st t)(f:∀D Z H,t' D Z H->t D Z H):PS X st t':=λao s Z H D I q=>h ao s Z H D I (f D Z H q)
theorem oU.weak{t t':TS}(h:oU X sts t)(f:∀D Z H,t' D Z H->t D Z H):oU X sts t':=λao s Z H D I q=>h ao s Z H D I (f D Z H q)
theorem znC:SS X cA aq aj F EX st .no:=λ_ _ _ _ _ _ ⟨_,_,_,_,_,h⟩=>h.elim
theorem ziO:uU X cA aq aj F EX [] .nil:=oU.weak W3 λD Z H hh=>un hh λU J s hL hS h=>h U H Z Ext.refl hS hL
theorem zhi(h1:SS X cA aq aj F EX st m)(h2:uU X cA aq aj F EX sts ms):uU X cA aq aj F EX (st::sts) (.cons m ms):=oU.weak (W4 h1 h2) λD Z H hh=>un hh λU J s hL hS h=>by
 have h:aR X.K cA (cC (ex aq aj F m J) λJ'=>exs aq aj F ms J') U H s D EX:=h;exact⟨U,J,s,hL,hS,h.then_⟩
theorem znl(ha:SE X cA aq aj (F aj) EX a A)(hs:swapsWith a none pos.line X.env=pure false:=by rfl):SS X cA aq aj F EX (.Expr a pos) (.ex A):=PS.weak (ziM ha hs) λD Z H hh=>un hh λU J s hL hS h=>
 ⟨U,J,s,hL,hS,(aR.ofM hL hS.lz h).imp λd s1 U1 H1 ⟨x1,aK,h1⟩ v rv=>h1 U1 H1 Z Ext.refl aK (hL.mono x1 hS.lz)⟩
theorem zmy(ha:SE X cA aq aj (F aj) EX a A):SS X cA aq aj F EX (.Return (some a) pos) (.ret A):=PS.weak (zkI ha) λD Z H hh=>un hh λU J s hL hS h=>
 ⟨U,J,s,hL,hS,(aR.ofM hL hS.lz h).imp λd s1 U1 H1 ⟨x1,aK,h1⟩ v rv=>h1 U1 H1 v Ext.refl aK rv⟩
theorem zmd(hN:X.N.Nodup)(hi:X.N[i]?=some x)(hx:Loc X.env.scope x)(ha:SE X cA aq aj (F aj) EX a A)(hs:swapsWith a (some (.Name x p)) pos.line X.env=pure false:=by rfl)(hf:X.fn x=true\/X.env.scope.names.lookup x=some .local:=by first|exact .inl rfl|exact .inr rfl) :
  SS X cA aq aj F EX (.Assign [.Name x p] a pos) (.asg (.nm i) A):=PS.weak (zl0 hN hi hx ha hs hf) λD Z H hh=>un hh λU J s hL hS h=>
 ⟨U,J,s,hL,hS,(aR.ofM hL hS.lz h).imp λd s1 U1 H1 ⟨x1,aK,h1⟩ v rv=>h1 U1 H1 _ Ext.refl aK ((hL.mono x1 hS.lz).set rv)⟩
theorem Ss{k}(hc:X.aj=true)(hN:X.N.Nodup)(hi:X.N[i]?=some x)(hj:X.N[j]?=some y)(hx:Loc X.env.scope x)(hy:Loc X.env.scope y)(wj:X.fn x=true\/X.env.scope.names.lookup x=some .local)(wu:X.fn y=true\/X.env.scope.names.lookup y=some .local) :
  PG X (.Tuple [.Name x px,.Name y py] k pos) (sI X.K 2 (gR (dO i) (gR (dO j) sH))):=zmU hc (W5 (K7 hN hi hx wj) (W5 (K7 hN hj hy wu) zje))
theorem Y_{K:W.Frag}{U:Ph}{H:Hp}{s:S}{J:Vs}{Z:L2.St}{D:Ends}{d:Xv}{v:V}(gq:aj=true)(hL:bx K cA U H Z J)(hS:aH K cA U H s)(rv:aW K cA U H d v)(h:aR K cA (store aq aj (F aj) (.tp [i,j]) d J) U H s D EX):sI K 2 (gR (dO i) (gR (dO j) sH)) v Z H D.nx:=by
 have h:aR K cA (if aj=true then ofM (M.bd (dat d) λd=>M.opt ((lA d).bind λds=>gH [i,j] (ds.map Xv.d) J)) J (λJ' s=>some (Out.nx J',s)) else λ_=>none) U H s D EX:=h;rw[if_pos gq] at h;obtain⟨dd,e0,rd,h1⟩:=Mf rv (aR.ofM hL hS.lz h);obtain⟨J',e,_,aK,h2⟩:=Run.opt hS h1;refine(IK i j).run U H s Z J J' dd v _ hL hS rd e λZ' hL' _ _=>h2 U H Z' Ext.refl hS hL'
theorem zi3{k}(hc:X.aj=true)(gq:aj=true)(hN:X.N.Nodup)(hi:X.N[i]?=some x)(hj:X.N[j]?=some y)(hx:Loc X.env.scope x)(hy:Loc X.env.scope y)(wj:X.fn x=true\/X.env.scope.names.lookup x=some .local)(wu:X.fn y=true\/X.env.scope.names.lookup y=some .local)(ha:SE X cA aq aj (F aj) EX a A)
  (hs:swapsWithSole [.Tuple [.Name x px,.Name y py] k pt] a pos.line X.env=pure false:=by rfl) (hw:swappedStores [.Tuple [.Name x px,.Name y py] k pt] a X.env=pure none:=by rfl)
  (h1:(assignEach [.Tuple [.Name x px,.Name y py] k pt] X.env).map (·.2)=[assign (.Tuple [.Name x px,.Name y py] k pt) X.env]:=by rfl) :
  SS X cA aq aj F EX (.Assign [.Tuple [.Name x px,.Name y py] k pt] a pos) (.asg (.tp [i,j]) A):=PS.weak (W6 ha (Ss hc hN hi hj hx hy wj wu) hs hw h1) λD Z H hh=>un hh λU J s hL hS h=>
 ⟨U,J,s,hL,hS,(aR.ofM hL hS.lz h).imp λd s1 U1 H1 ⟨x1,aK,h1⟩ v rv=>Y_ gq (hL.mono x1 hS.lz) aK rv h1⟩
theorem zmQ(hO:SE X cA aq aj (F aj) EX oo O)(hI:SE X cA aq aj (F aj) EX ii I')(ha:SE X cA aq aj (F aj) EX a A)
  (Bm:∀v,assign (.Subscript oo ii p) X.env v=(do
   let ov <-holding [v] (eval oo X.env)
   let iv <-holding [v,ov] (eval ii X.env)
   standAt p
   holding [v,ov,iv] (setItem ov iv v)
   release [v,ov,iv] []):=by intro _;rfl) (hs:swapsWithSole [.Subscript oo ii p] a pos.line X.env=pure false:=by rfl) (hw:swappedStores [.Subscript oo ii p] a X.env=pure none:=by rfl)
  (h1:(assignEach [.Subscript oo ii p] X.env).map (·.2)=[assign (.Subscript oo ii p) X.env]:=by rfl) :
  SS X cA aq aj F EX (.Assign [.Subscript oo ii p] a pos) (.asg (.aq O I') A):=PS.weak (W6 ha (zlr hO hI zhz Bm) hs hw h1) λD Z H hh=>un hh λU J s hL hS h=>by
 refine⟨U,J,s,hL,hS,(aR.ofM hL hS.lz h).imp λd s1 U1 H1 ⟨x1,aK,h1⟩ v rv=>?_⟩;obtain⟨dd,e0,rd,h2⟩:=Mf rv (aR.ofM (hL.mono x1 hS.lz) aK.lz h1);refine aV (hL.mono x1 hS.lz) aK h2 λxo H2 U2 d2 s2 x2 hL2 aP r2 h3=>aV hL2 aP h3 λyi H3 U3 d3 s3 x3 vZ jT r3 h4=>?_;obtain⟨k,_,ek,h5⟩:=Ii r3 h4;obtain⟨n,ad,xs,vs,_,ea,e1,f1,g1,q1,h6⟩:=Mq jT (r2.mono x3 aP.lz) h5;subst ek ea;cases ej:L2.oE xs.length k with
 |none=>simp only[ej] at h6;exact h6.elim
 |some jj=>
  simp only[ej] at h6;refine⟨ad,vs,k,jj,rfl,rfl,g1,by rw[<-q1.len];exact ej,?_⟩;have rv3:=(rd.mono x2 aK.lz).mono x3 aP.lz;have yu:=jT.write e1 f1 (q1.set rv3 jj);have x4:Ext U3 H3 U3 (upd H3 ad (.lst (vs.set jj v))):=Ext.write f1 ⟨_,g1⟩;obtain⟨_,_,h8⟩:=h6 U3 _ x4 yu;exact h8 U3 _ Z Ext.refl yu (vZ.mono x4 jT.lz)
theorem zol(hc:ST X cA aq aj (F aj) EX c C)(ht:uU X cA aq aj F EX body mb)(he:uU X cA aq aj F EX orelse me):SS X cA aq aj F EX (.If c body orelse pos) (.iff C mb me):=PS.weak (zna hc ht he) λD Z H hh=>un hh λU J s hL hS h=>by
 refine⟨U,J,s,hL,hS,(aR.ofM hL hS.lz h).imp λk s1 U1 H1 ⟨x1,aK,h1⟩=>?_⟩;cases k with
 |true=>exact iT ⟨U1,J,s1,hL.mono x1 hS.lz,aK,h1⟩
 |false=>exact iF ⟨U1,J,s1,hL.mono x1 hS.lz,aK,h1⟩
theorem ziV{g:TG}{elt iter tg:Expr}{ifs:List Expr}{scope:Scope}{N:List Str}{cond:Eo}{fr dz:List Nat}{many:Nat}{fz:Bool}{w:Wk}{spos py:Pos}(hc:X.aj=true)(wz:X.N.Nodup)(Ho:X.N[i]?=some y)(hx:Loc X.env.scope y)(hf:X.fn y=true\/X.env.scope.names.lookup y=some .local)(B':dD X.env.scope scope)(hi:SI X cA aq aj (F aj) EX tg iter w)(hN:N.length=many+fr.length)
  (rD:∀(i:Nat) (y:Str) (j:Nat),N[many+i]?=some y->fr[i]?=some j->scope.names.lookup y=some .free/\X.N[j]?=some y)
  (hg:∀cl C s3 H3 fp ao,PG (X.blk scope cl N C s3 H3 fp ao) tg g) (hT:mL X.K cA g dz) (gK:∀i∈dz,i<many)
  (ht:∀cl C s3 H3 fp ao,Iz (X.blk scope cl N C s3 H3 fp ao) cA aq aj (F aj) (λ_ _ _ _=>False) ifs cond) (he:∀cl C s3 H3 fp ao,SE (X.blk scope cl N C s3 H3 fp ao) cA aq aj (F aj) (λ_ _ _ _=>False) elt B)
  (Hq:swapsWith (.ListComp elt [⟨tg,iter,ifs,0⟩] scope pos) (some (.Name y py)) spos.line X.env=pure true) (hs:∀x,foldedSetIterable iter X.env x=pure x:=by intro _;rfl) :
  SS X cA aq aj F EX (.Assign [.Name y py] (.ListComp elt [⟨tg,iter,ifs,0⟩] scope pos) spos) (.asg (.nm i) (.comp fz B dz w fr many cond)):=
 PS.weak (zeT hc wz Ho hx hf B' hi (⟨hg,ht,he⟩ : Parts X elt tg ifs scope N g (uP X.K cA (λ_ _ _ _=>False) (pZ aq aj (F aj) cond)) (tE X.K cA (λ_ _ _ _=>False) (ev aq aj (F aj) B))) (ZY:=cM many fr) (λZ=>by simp[cM,hN]) (λZ i x v e1 e2=>Y8 rD Z i x v e1 e2) Hq hs) λD Z H hh=>un hh λU J s hL hS h=>
  Y7 (iter':=iter) hT gK ⟨U,J,s,hL,hS,(aR.ofM hL hS.lz h).imp λd s1 U1 H1 ⟨x1,aK,h1⟩ v rv=>h1 U1 H1 _ Ext.refl aK ((hL.mono x1 hS.lz).set rv)⟩
noncomputable def nP(m:MS)(kN:Vs->MS):MS:=λs=>match m s with
 |some (.nx J',s')=>kN J' s'
 |some (.ct J',s')=>kN J' s'
 |some (.bk J',s')=>some (.nx J',s')
 |r=>r
theorem Za{K:W.Frag}{U:Ph}{H:Hp}{s:S}{D:Ends}{m:MS}{kN:Vs->MS}{N:L2.St->Hp->Prop}(hN:∀U' J' s' Z' H',Ext U H U' H'->bx K cA U' H' Z' J'->aH K cA U' H' s'->aR K cA (kN J') U' H' s' D EX->N Z' H')(h:aR K cA (nP m kN) U H s D EX) :
  aR K cA m U H s {D with nx:=N,ct:=N,bk:=D.nx} EX:=by
 unfold aR nP at h;unfold aR;cases e:m s with
 |none=>rw[e] at h;exact h
 |some r=>
  obtain⟨r,s1⟩:=r;rw[e] at h;cases r with
  |nx J'=>
   intro U1 H1 Z1 x r l;have h2:aR K cA (kN J') U H s1 D EX:=h;exact hN U1 J' s1 Z1 H1 x l r (h2.ext x)
  |ct J'=>
   intro U1 H1 Z1 x r l;have h2:aR K cA (kN J') U H s1 D EX:=h;exact hN U1 J' s1 Z1 H1 x l r (h2.ext x)
  |bk J'=>exact h
  |rt d=>exact h
  |er c fs J'=>exact h
theorem zhp(hp:PassesOwn (model X.prog X.w) X.A X.env X.xe)(hc:ST X cA aq aj (F aj) EX c C)(hb:uU X cA aq aj F EX body mb):SS X cA aq aj F EX (.While c body [] pos) (.wh C mb):=PS.weak (zhh hp hc hb) λD Z H hh=>un hh λU J s hL hS h=>by
 refine⟨λm Z H=>∃U J s,bx X.K cA U H Z J/\aH X.K cA U H s/\aR X.K cA (gJ (λJ=>M.bd (ev aq aj (F aj) C J) bool) (λJ=>exs aq aj F mb J) m J) U H s D EX,⟨nM,U,J,s,hL,hS,h⟩,?_⟩;rintro m Z H ⟨U,J,s,hL,hS,h⟩;cases m with
 |zero=>exact h.elim
 |succ m=>
  refine⟨U,J,s,hL,hS,(aR.ofM (k:=λok=>if ok=true then nP (exs aq aj F mb J) (gJ (λJ=>M.bd (ev aq aj (F aj) C J) bool) (λJ=>exs aq aj F mb J) m) else λs=>some (.nx J,s)) hL hS.lz h).imp λk s1 U1 H1 ⟨x1,aK,h1⟩=>?_⟩;cases k with
  |true=>
   rw[if_pos rfl] at h1 ⊢;refine⟨_,λZ' H' z=>⟨m,Er m,z⟩,U1,J,s1,hL.mono x1 hS.lz,aK,Za (λU' J' s' Z' H' _ l r q=>?_) h1⟩;exact⟨U',J',s',l,r,q⟩
  |false=>
   rw[if_neg El] at h1 ⊢;exact h1 U1 H1 Z Ext.refl aK (hL.mono x1 hS.lz)
def SG(X:Cx)(cA:Cl)(aq:Nat->Nat->Bool)(aj:Bool)(F:Bool->Fn)(EX:XS)(tg:Expr)(t:Tg):Prop:=∃g:TG,PG X tg g/\∀(U:Ph) (H:Hp) (s:S) (Z:L2.St) (J:Vs) (d:Xv) (v:V) (D:Ends),bx X.K cA U H Z J->aH X.K cA U H s->aW X.K cA U H d v->
 aR X.K cA (store aq aj (F aj) t d J) U H s D EX->g v Z H D.nx
theorem zj3(hN:X.N.Nodup)(hi:X.N[i]?=some x)(hx:Loc X.env.scope x)(hf:X.fn x=true\/X.env.scope.names.lookup x=some .local:=by first|exact .inl rfl|exact .inr rfl):SG X cA aq aj F EX (.Name x pos) (.nm i):=
 ⟨_,K7 hN hi hx hf,λU H s Z J d v D hL hS r h=>h U H _ Ext.refl hS (hL.set r)⟩
theorem zjX{k}(hc:X.aj=true)(gq:aj=true)(hN:X.N.Nodup)(hi:X.N[i]?=some x)(hj:X.N[j]?=some y)(hx:Loc X.env.scope x)(hy:Loc X.env.scope y)(wj:X.fn x=true\/X.env.scope.names.lookup x=some .local)(wu:X.fn y=true\/X.env.scope.names.lookup y=some .local) :
  SG X cA aq aj F EX (.Tuple [.Name x px,.Name y py] k pos) (.tp [i,j]):=
 ⟨_,Ss hc hN hi hj hx hy wj wu,λU H s Z J d v D hL hS r h=>Y_ gq hL hS r h⟩
theorem zmr(hp:PassesOwn (model X.prog X.w) X.A X.env X.xe)(hc:X.aj=true)(gq:aj=true)(ha:SI X cA aq aj (F aj) EX tg a w)(hg:SG X cA aq aj F EX tg t)(hb:uU X cA aq aj F EX body mb)
  (hs:∀x,foldedSetIterable a X.env x=pure x:=by intro _;rfl):SS X cA aq aj F EX (.For tg a body [] pos) (.fr t w mb):=by
 obtain⟨g,hG,hg⟩:=hg;refine PS.weak (zmB hp hc ha hG hb hs) λD Z H hh=>un hh λU J s hL hS h=>?_;have h:aR X.K cA (if aj=true then ofM (mH aq aj (F aj) w J) J λcn=>dJ cn.1 (λd J=>cC (store aq aj (F aj) t (.d d) J) λJ'=>exs aq aj F mb J') (cn.2+1) 0 J else λ_=>none) U H s D EX:=h;rw[if_pos gq] at h;refine⟨U,J,s,hL,hS,(aR.ofM hL hS.lz h).imp λcn s1 U1 H1 ⟨x1,aK,h1⟩ cG hJ=>?_⟩;have hL1:=hL.mono x1 hS.lz;obtain⟨c,n⟩:=cn;dsimp only at h1 hJ;refine⟨λi m Z' H'=>∃U' J' s',Ext U1 H1 U' H'/\bx X.K cA U' H' Z' J'/\aH X.K cA U' H' s'/\aR X.K cA (dJ c (λd J=>cC (store aq aj (F aj) t (.d d) J) λJ'=>exs aq aj F mb J') m i J') U' H' s' D EX,⟨n+1,U1,J,s1,Ext.refl,hL1,aK,h1⟩,?_⟩;rintro i m Z' H' ⟨U',J',s',x2,hL2,aP,h4⟩;cases m with
 |zero=>exact h4.elim
 |succ m=>
  cases ei:c.at i s' with
  |none=>
   exfalso
   unfold aR dJ at h4;simp only[ei] at h4
  |some oi=>
   cases oi with
   |none=>
    refine .inl ⟨hJ.stop U' H' H' s' i x2 dj.refl aP ei,?_⟩;unfold aR dJ at h4;simp only[ei] at h4;exact h4 U' H' Z' Ext.refl aP hL2
   |some xi=>
    refine .inr ⟨hJ.go U' H' H' s' i xi x2 dj.refl aP ei,_,λZ3 H3 z=>⟨m,Er m,z⟩,λv H3 hy=>?_⟩;obtain⟨gr,rx⟩:=hJ.Aa U' H' H' s' i xi v H3 x2 dj.refl aP ei hy;have h5:aR X.K cA (nP (cC (store aq aj (F aj) t (.d xi) J') λJ'=>exs aq aj F mb J') (dJ c (λd J=>cC (store aq aj (F aj) t (.d d) J) λJ'=>exs aq aj F mb J') m (i+1))) U' H' s' D EX:=by
     unfold aR at h4 ⊢;have e:dJ c (λd J=>cC (store aq aj (F aj) t (.d d) J) λJ'=>exs aq aj F mb J') (m+1) i J' s'=nP (cC (store aq aj (F aj) t (.d xi) J') λJ'=>exs aq aj F mb J') (dJ c (λd J=>cC (store aq aj (F aj) t (.d d) J) λJ'=>exs aq aj F mb J') m (i+1)) s':=by
      rw[dJ];simp only[ei];rfl
     rw[e] at h4;exact h4
    exact hg U' H3 s' Z' J' (.d xi) v _ (hL2.mono gr.ext aP.lz) (aP.grow gr) (.d rx) (aR.then_ (Za (λU4 J4 s4 Z4 H4 x4 l4 r4 q4=>⟨U4,J4,s4,(x2.trans gr.ext).trans x4,l4,r4,q4⟩) (h5.ext gr.ext)))
end
end Mi
namespace L2
open PySem PySem.Spec PyProof.Rows
structure nQ(K:W.Frag)(x qual:Str)(st:Stmt)(f:Addr)(fd:FuncData):Prop where
 ex:∃(oc:Value) (od:Option Addr) (kV doc pm:Value) (an:Option Addr) (cdv ct:Value) (osl:Array (Option Value)),
  fd=PySem.W.fnOf x qual (aO st) (aL st) (au st) .none kV doc pm an cdv ct/\K.lookup f=some ⟨oc,od,.func fd,osl⟩/\PySem.W.codeIn K cdv qual=true
 kp:PySem.W.keepIn K (.ref f)=true
end L2
namespace Mi
open PySem PySem.Spec PyProof.Rows L2
section
variable {P:Program}{w:World}{K:W.Frag}{mg:Str->Option Value}{base:Heap}{cA:Cl}{aq:Nat->Nat->Bool}{T:Nat->Option Df}
theorem Zb{U:Ph}{H:Hp}{N:List Str}{ds:List Xv}{vs:List V}{m p:Nat}(r:aQ K cA U H ds vs)(hp:p=ds.length)(hm:m=N.length):bx K cA U H (L2.start N vs) (ds.map some++List.replicate (m-p) none):=by
 subst hp hm;unfold L2.start;have hl:=r.len;refine⟨by simp[hl],λi d e=>?_⟩;by_cases hi:i<ds.length
 ·rw[oM (by simpa using hi),fB] at e;cases z:ds[i]? with
  |none=>rw[z] at e;cases e
  |some x=>
   rw[z] at e;cases e;obtain⟨v,a,b⟩:=r.get z;exact⟨v,by rw[oM (by simp;lia),fB,a];rfl,b⟩
 ·rw[pG (by simpa using hi),Ka] at e;split at e<;>cases e
theorem Zc{U:Ph}{H:Hp}{s:S}{ds:List Xv}{k n:Nat}{cm:Bool}{df:Df}{Q:VK}{E:XK}(hT:T n=some df)
  (h:Run K cA (call aq T (k+1) cm n ds) U H s (λd _ U' H'=>∀v,aW K cA U' H' d v->Q v H') (λc fs _ U' H'=>∀dx,jM K cA U' H' c fs dx->E (.ref (cA.a c)) dx H')) :
  ds.length=df.g8/\aR K cA (exs aq cm (λc=>call aq T k c) df.body (ds.map some++List.replicate (df.many-df.g8) none)) U H s {nx:=λ_ H'=>Q .non H',rt:=Q} (λ_ C dx H'=>E C dx H'):=by
 unfold call at h;simp only[hT] at h;by_cases hl:ds.length=df.g8
 ·refine⟨hl,?_⟩;rw[if_pos hl] at h;unfold Run at h;unfold aR;cases e:exs aq cm (λc=>call aq T k c) df.body (ds.map some++List.replicate (df.many-df.g8) none) s with
  |none=>simp only[e] at h
  |some r=>
   obtain⟨r,s1⟩:=r;simp only[e] at h;cases r with
   |nx J=>exact λU' H' Z' x r l=>h U' H' x r _ (.d .non)
   |rt d=>exact λU' H' v x r rv=>h U' H' x r v rv
   |er c fs J=>exact λU' H' Z' x r l=>h U' H' x r
   |bk J=>exact h.elim
   |ct J=>exact h.elim
 ·rw[if_neg hl] at h;exact h.elim
theorem dF{cm:Bool}{n:Nat}{f:Addr}{fd:FuncData}{ps:List Str}:bZ P w K mg base (gA P w) cm 0 f fd ps (kj K cA (call aq T 0 cm n)):=by
 have no:∀vs H Q E,kj K cA (call aq T 0 cm n) vs H Q E->False:=by
  rintro vs H Q E ⟨_,_,_,_,_,h⟩;exact h.elim
 exact⟨λvs H Q E h=>(no _ _ _ _ h).elim,λA outer s H args us vs Q E _ _ _ _ _ h=>(no _ _ _ _ h).elim⟩
theorem Zd{x qual:Str}{st:Stmt}{f:Addr}{fd:FuncData}{N ps:List Str}{k n:Nat}{cm:Bool}{df:Df}(F:nQ K x qual st f fd)(S:cX N ps (au st))(hT:T n=some df)(hp:df.g8=ps.length)(hm:df.many=N.length)
  (hb:∀(cdv:Value) (A:Around) (outer:List Env) (s:Shared) (H:Hp) (E:XK),bD (k+1) A->
   uU (f9 (gA P w) P w K mg base N qual (au st) f cdv A outer s H E cm) cA aq cm (λc=>call aq T k c) (λ_ C dx H'=>E C dx H') (aL st) df.body) :
  bZ P w K mg base (gA P w) cm (k+1) f fd ps (kj K cA (call aq T (k+1) cm n)):=by
 obtain⟨oc,od,kV,doc,pm,an,cdv,ct,osl,rfl,lk,jP⟩:=F.ex;refine Xi lk jP S (λvs H Q E hz=>?_) λA outer s H vs Q E hr hz=>?_
 ·obtain⟨U,ds,s,r,hS,h⟩:=hz;rw[<-r.len,(Zc hT h).1,hp]
 ·obtain⟨U,ds,st',r,hS,h⟩:=hz;obtain⟨hl,h2⟩:=Zc hT h;exact⟨_,hb cdv A outer s H E hr,U,_,st',Zb r hl.symm hm,hS,h2⟩
theorem zmS{x qual:Str}{st:Stmt}{f:Addr}{fd:FuncData}{N ps:List Str}{k n:Nat}{cm:Bool}{df:Df}(F:nQ K x qual st f fd)(S:cX N ps (au st))(hT:T n=some df)(hp:df.g8=ps.length)(hm:df.many=N.length)
  (hb:∀(cdv:Value) (A:Around) (outer:List Env) (s:Shared) (H:Hp) (E:XK),bD k (A.deeper (envOfC qual (au st) s.heap.objs.size f cdv))->
   uU (f9 (gA P w) P w K mg base N qual (au st) f cdv A outer s H E cm) cA aq cm (λc=>call aq T k c) (λ_ C dx H'=>E C dx H') (aL st) df.body) :
  bZ P w K mg base (gA P w) cm (k+1) f fd ps (kj K cA (call aq T (k+1) cm n)):=Zd F S hT hp hm λcdv A outer s H E hr=>hb cdv A outer s H E (hr.deeper _)
end
theorem zle{K:W.Frag}{cA:Cl}{m:List Xv->M Xv}{H:Hp}{a:Addr}{ns:List Int}(hq:cR K H a (ns.map V.int))(hm:∃s',m [.d (.fl (ns.map D.int))] []=some (.ok (.d (.bl true)),s')) :
  kj K cA m [.ref a] H (λv _=>v=.bl true) λ_ _ _=>False:=by
 have rs:∀(l:List Int) U,aC K cA U H (l.map D.int) (l.map V.int):=λl U=>by
  induction l with
  |nil=>exact .nil
  |cons i l ih=>exact .cons (.int i) ih
 have hl:LstAt K ⟨λ_=>False,[]⟩ H a (ns.map V.int):=by
  rcases hq with h|h
  ·exact .inl ⟨h,λz=>z⟩
  ·exact .inr (.inr h)
 refine⟨⟨λ_=>False,[]⟩,[.d (.fl (ns.map D.int))],[],.cons (.d (.fl hl (rs ns _))) .nil,⟨rfl,(λn o b e1 e2=>by simp at e1),Cy,(λb hb=>by cases hb),(λb z=>False.elim z)⟩,?_⟩;obtain⟨s',e⟩:=hm;unfold Run;rw[e];intro U' H' _ _ v rv;cases rv with
 |d rv=>cases rv;rfl
theorem zfF:Raises X (λ_ _ _ _=>False):=λ_ _ _ _ _ _ _ _ _ _ _ _ _ z=>z.elim
theorem tO(r:bD k A):A.units+60<cLine:=by have:=r.un;lia
noncomputable def aF:Expr->Bool
 |.Starred _ _=>false
 |_=>true
theorem bA(h:aF e=true):starEach (e::es) env=(false,eval e env)::starEach es env:=by
 cases e<;>first|rfl|cases h
theorem aY:∀{es:List Expr} {env:Env} {pos:Pos},es.all aF=true->(backTo pos (starEach es env)).any (·.1)=false
 |[],_,_,_=>rfl
 |e::es,env,pos,h=>by
  rw[xK,gw] at h;rw[bA h.1];show (false||(backTo pos (starEach es env)).any (·.1))=false;rw[aY h.2];rfl
theorem qb:∀{es:List Expr} {env:Env} {pos:Pos},es.all aF=true->(backTo pos (starEach es env)).all (λx=>!x.1)=true
 |[],_,_,_=>rfl
 |e::es,env,pos,h=>by
  rw[xK,gw] at h;rw[bA h.1];show (true&&(backTo pos (starEach es env)).all (λx=>!x.1))=true;rw[qb h.2];rfl
theorem qd(h1:aF e=true)(h2:es.all aF=true)(h3:decide (es.length<28)=true):((backTo pos (starEach (e::es) env)).all (λx=>!x.1)&&(backToKw pos (keywordEach [] env)).all (λx=>x.1.isSome)&&decide ((e::es).length+([]:List Keyword).length+(if ([]:List Keyword).isEmpty then 0 else 1)<30))=true:=by
 rw[qb (es:=e::es) (by rw[xK,h1,h2];rfl)];have:=kJ h3;have z:(e::es).length+([]:List Keyword).length+(if ([]:List Keyword).isEmpty then 0 else 1)<30:=by
  show es.length+1+0+0<30
  lia
 rw[fZ z];rfl
noncomputable def tQ(sc scope:Scope):Bool:=(match scope.kind with|.function=>true|_=>false)&&scope.names.all λy=>match y.2 with
 |.cell=>(match scope.names.lookup y.1 with|some .cell=>true|_=>false)
 |.free=>(match sc.names.lookup y.1 with|some .cell=>true|some .free=>true|_=>false)
 |.local=>(match scope.names.lookup y.1 with|some .local=>true|_=>false)
 |_=>true
theorem dD.of(h:tQ sc scope=true):dD sc scope:=by
 unfold tQ at h;rw[gw,fC] at h;obtain⟨h1,h2⟩:=h;refine⟨?_,λy hy z=>?_,λy hy z=>?_,λy hy z=>?_⟩
 ·split at h1
  ·assumption
  ·cases h1
 ·have:=h2 y hy;rw[z] at this;dsimp only at this;split at this
  ·assumption
  ·cases this
 ·have:=h2 y hy;rw[z] at this;dsimp only at this;split at this
  ·exact .inl (by assumption)
  ·exact .inr (by assumption)
  ·cases this
 ·have:=h2 y hy;rw[z] at this;dsimp only at this;split at this
  ·assumption
  ·cases this
noncomputable def frB(scope:Scope)(XN:List Str):List Str->List Nat->Bool
 |y::N,j::fr=>(match scope.names.lookup y with|some .free=>true|_=>false)&&decide (XN[j]?=some y)&&frB scope XN N fr
 |[],[]=>true
 |_,_=>false
theorem Ze:∀{N:List Str} {fr:List Nat},frB scope XN N fr=true->N.length=fr.length/\∀(i:Nat) (y:Str) (j:Nat),N[i]?=some y->fr[i]?=some j->scope.names.lookup y=some .free/\XN[j]?=some y
 |[],[],_=>⟨rfl,λi y j h=>by simp at h⟩
 |[],_::_,h=>by cases h
 |_::_,[],h=>by cases h
 |y::N,j::fr,h=>by
  unfold frB at h;rw[gw,gw,Ep] at h;obtain⟨⟨h1,h2⟩,h3⟩:=h;obtain⟨l,q⟩:=Ze h3;refine⟨by simp[l],λi z m e1 e2=>?_⟩;cases i with
  |zero=>
   simp at e1 e2;subst e1 e2;refine⟨?_,h2⟩;split at h1
   ·assumption
   ·cases h1
  |succ i=>exact q i z m (by simpa using e1) (by simpa using e2)
noncomputable def okN(x:Str):Bool:=!(x==("__debug__" : Str)) && !(x==("__classdict__" : Str)) && !decide (x="__name__")
theorem rJ(h:okN x=true):(x==("__debug__" : Str))=false/\(x==("__classdict__" : Str))=false/\x≠"__name__":=by
 unfold okN at h;simp only[gw,Bool.not_eq_true',decide_eq_false_iff_not] at h;exact⟨h.1.1,h.1.2,h.2⟩
theorem Ms{env:Env}{k:NameKind}(hk:k≠.free):∀{names:List (Str×NameKind)} {x:Str},names.lookup x=some k->
  (names.map λ(n,k)=>if (k==NameKind.free&&env.scope.kind==.function&&env.kindOf n==some .cell) then (n,NameKind.cell) else (n,k)).lookup x=some k
 |[],x,h=>by simp at h
 |(n,q)::r,x,h=>by
  rw[oO] at h;rw[jr,oO];have hd:∀c:Bool,(if c=true then (n,NameKind.cell) else (n,q)).1=n:=λc=>by cases c<;>rfl
  rw[hd];by_cases z:x=n
  ·subst z;simp only[zA] at h ⊢;cases h
   split
   ·rename_i y;simp only[gw,pI] at y;exact absurd y.1.1 hk
   ·rfl
  ·have z':(x==n)=false:=by simpa using z
   simp only[z'] at h ⊢;exact Ms hk h
noncomputable def tR(K:W.Frag):Sp:=λvs H Q _=>∃(a:Addr) (ns:List Int),vs=[.ref a]/\cR K H a (ns.map V.int)/\ns.length<=63/\Only H/\∀H',Q (.bl true) H'
theorem zjH{K:W.Frag}{cA:Cl}{m:List Xv->M Xv}(hm:∀ns:List Int,ns.length<=63->∃s',m [.d (.fl (ns.map D.int))] []=some (.ok (.d (.bl true)),s'))(vs:List V)(H:Hp)(Q:VK)(E:XK)(h:tR K vs H Q E):kj K cA m vs H Q E:=by
 obtain⟨a,ns,rfl,hq,hl,hO,k⟩:=h;obtain⟨U,ds,s,r1,r2,h⟩:=zle (cA:=cA) (m:=m) hq (hm ns hl);refine⟨U,ds,s,r1,r2,?_⟩;unfold Run at h ⊢;split at h
 ·intro U' H' x r v rv;rw[h U' H' x r v rv];exact k H'
 ·exact λU' H' x r dx q=>(h U' H' x r dx q).elim
 ·exact h
theorem Bp{K:W.Frag}{fd:FuncData}{p:Str}(h:∀a,bindArgs fd ⟨[a],[]⟩=pure [(p,a)]):Binds K fd [p] []:=.all λus hl=>by
 cases us with
 |nil=>cases hl
 |cons a r=>cases r with
  |nil=>exact h a
  |cons b r=>cases hl
theorem tU{K:W.Frag}{fd:FuncData}{p q:Str}(h:∀a b,bindArgs fd ⟨[a,b],[]⟩=pure [(p,a),(q,b)]):Binds K fd [p,q] []:=.all λus hl=>by
 cases us with
 |nil=>cases hl
 |cons a r=>cases r with
  |nil=>cases hl
  |cons b r=>cases r with
   |nil=>exact h a b
   |cons c r=>cases hl
theorem tV{K:W.Frag}{fd:FuncData}{p q t:Str}(h:∀a b c,bindArgs fd ⟨[a,b,c],[]⟩=pure [(p,a),(q,b),(t,c)]):Binds K fd [p,q,t] []:=.all λus hl=>by
 cases us with
 |nil=>cases hl
 |cons a r=>cases r with
  |nil=>cases hl
  |cons b r=>cases r with
   |nil=>cases hl
   |cons c r=>cases r with
    |nil=>exact h a b c
    |cons d r=>cases hl
theorem tW{K:W.Frag}{fd:FuncData}{p q t u:Str}(h:∀a b c d,bindArgs fd ⟨[a,b,c,d],[]⟩=pure [(p,a),(q,b),(t,c),(u,d)]):Binds K fd [p,q,t,u] []:=.all λus hl=>by
 cases us with
 |nil=>cases hl
 |cons a r=>cases r with
  |nil=>cases hl
  |cons b r=>cases r with
   |nil=>cases hl
   |cons c r=>cases r with
    |nil=>cases hl
    |cons d r=>cases r with
     |nil=>exact h a b c d
     |cons e r=>cases hl
theorem Zf:bootBuiltins "int"=some (.type "int"):=by decide +kernel
theorem Zg:bootBuiltins "bool"=some (.type "bool"):=by decide +kernel
theorem zk6:bootBuiltins "str"=some (.type "str"):=by decide +kernel
theorem Du:bootBuiltins "tuple"=some (.type "tuple"):=by decide +kernel
theorem zj4:bootBuiltins "list"=some (.type "list"):=by decide +kernel
structure JE(X:Cx)(cA:Cl)(aq:Nat->Nat->Bool)(aj:Bool)(F:Fn)(EX:XS)(e:Expr)(m:E):Prop where
 o:SE X cA aq aj F EX e m
structure JA(X:Cx)(cA:Cl)(aq:Nat->Nat->Bool)(aj:Bool)(F:Fn)(EX:XS)(e:List Expr)(m:Es):Prop where
 o:SA X cA aq aj F EX e m
structure JT(X:Cx)(cA:Cl)(aq:Nat->Nat->Bool)(aj:Bool)(F:Fn)(EX:XS)(e:Expr)(m:E):Prop where
 o:ST X cA aq aj F EX e m
structure JW(X:Cx)(cA:Cl)(aq:Nat->Nat->Bool)(aj:Bool)(F:Fn)(EX:XS)(e:Expr)(m:E):Prop where
 o:SW X cA aq aj F EX e m
structure JC(X:Cx)(cA:Cl)(aq:Nat->Nat->Bool)(aj:Bool)(F:Fn)(EX:XS)(e:List Expr)(m:Eo):Prop where
 o:Iz X cA aq aj F EX e m
structure JO(X:Cx)(cA:Cl)(aq:Nat->Nat->Bool)(aj:Bool)(F:Fn)(EX:XS)(e:Option Expr)(m:Eo):Prop where
 o:Ip X cA aq aj F EX e m
structure JI(X:Cx)(cA:Cl)(aq:Nat->Nat->Bool)(aj:Bool)(F:Fn)(EX:XS)(tg e:Expr)(m:Wk):Prop where
 o:SI X cA aq aj F EX tg e m
structure JG(X:Cx)(cA:Cl)(aq:Nat->Nat->Bool)(aj:Bool)(F:Bool->Fn)(EX:XS)(e:Expr)(m:Tg):Prop where
 o:SG X cA aq aj F EX e m
structure JS(X:Cx)(cA:Cl)(aq:Nat->Nat->Bool)(aj:Bool)(F:Bool->Fn)(EX:XS)(e:Stmt)(m:St):Prop where
 o:SS X cA aq aj F EX e m
structure JB(X:Cx)(cA:Cl)(aq:Nat->Nat->Bool)(aj:Bool)(F:Bool->Fn)(EX:XS)(e:List Stmt)(m:bT):Prop where
 o:uU X cA aq aj F EX e m
structure JK(X:Cx)(x:Str)(k:NameKind):Prop where
 o:X.env.scope.names.lookup x=some k
structure JP(X:Cx)(cA:Cl)(op:CmpOp)(p:Pr):Prop where
 o:∃r,eF X (compareOp op) r/\aZ X.K cA p (r2 r)
structure JQ(X:Cx)(cA:Cl)(op:Operator)(p:Pr):Prop where
 o:∃r,eF X (binaryOp op) r/\aZ X.K cA p (r2 r)
structure JN(X:Cx)(cA:Cl)(kx:Expr)(k:Kd):Prop where
 o:PE X kx (tC (Dr cA k))
structure JR(X:Cx)(EX:XS):Prop where
 o:Raises X EX
structure JH(X:Cx):Prop where
 o:PassesOwn (model X.prog X.w) X.A X.env X.xe
structure JY(X:Cx)(tg:Expr)(g:TG):Prop where
 o:PG X tg g
noncomputable def nR:NameKind->Bool
 |.local=>true
 |.cell=>true
 |_=>false
noncomputable def Bq:NameKind->Bool
 |.local=>true
 |.cell=>true
 |.free=>true
 |_=>false
section
variable {X:Cx}{cA:Cl}{aq:Nat->Nat->Bool}{aj:Bool}{F:Fn}{EX:XS}{a b c d e:Expr}{A B C Dd E':E}{pos p p2 apos:Pos}{es:List Expr}{Xs:Es}{x y:Str}{k k':NameKind}{q q1 q2 q3:Pr}{fz:Bool}
theorem Zh(h:scope.names.lookup x=some k)(hk:(match k with|.free=>false|_=>true)=true):JK (X.blk scope cl N Cc s3 H3 fp ao) x k:=
 ⟨Ms (by intro z;subst z;cases hk) h⟩
theorem Zi(i:Nat)(hN:X.N[i]?=some x)(h:JK X x k)(hv:Bq k=true)(hd:okN x=true):JE X cA aq aj F EX (.Name x pos) (.v i):=
 ⟨Yl i hN (by cases k<;>first|exact .inl h.o|exact .inr (.inl h.o)|exact .inr (.inr h.o)|cases hv) (rJ hd).1 (rJ hd).2.1⟩
theorem zo0(i:Nat)(hN:N[i]?=some x)(h:scope.names.lookup x=some .free)(hd:okN x=true):JE (X.blk scope cl N Cc s3 H3 fp ao) cA aq aj F EX (.Name x pos) (.v i):=
 ⟨Yl i hN (.inr (Lp h)) (rJ hd).1 (rJ hd).2.1⟩
theorem aN{i j p}:JE X cA aq aj F EX (.Constant (.int i) j p) (.c (.int i)):=⟨zlR⟩
theorem jU{i j p}:JE X cA aq aj F EX (.Constant (.bool i) j p) (.c (.bl i)):=⟨znh⟩
theorem rK{j p}:JE X cA aq aj F EX (.Constant .none j p) (.c .non):=⟨zmF⟩
theorem Zj{i j p}:JE X cA aq aj F EX (.Constant (.str i) j p) (.c (.str i)):=⟨zmu⟩
theorem Zk(h:∃t,X.mg x=some (.int i t))(hg:JK X x .globalImplicit)(hd:okN x=true):JE X cA aq aj F EX (.Name x pos) (.c (.int i)):=by
 obtain⟨t,h⟩:=h;exact⟨ziT hg.o h (rJ hd).1⟩
theorem Mu(h:∃t,X.mg x=some (.str i t))(hg:JK X x .globalImplicit)(hd:okN x=true):JE X cA aq aj F EX (.Name x pos) (.c (.str i)):=by
 obtain⟨t,h⟩:=h;exact⟨ziW hg.o h (rJ hd).1⟩
theorem qT:JQ X cA .Add .add:=⟨_,zfC,zmn⟩
theorem wA:JQ X cA .Sub .aq:=⟨_,zmC,zl4⟩
theorem Sv:JQ X cA .Mult .mul:=⟨_,zlq,zkU⟩
theorem zmi:JQ X cA .FloorDiv .fdiv:=⟨_,zjV,zjb⟩
theorem IV:JQ X cA .Mod .mod:=⟨_,zlH,zkX⟩
theorem znX:JQ X cA .Pow .pow:=⟨_,zmZ,zls⟩
theorem fW(h:JQ X cA op q)(ha:JE X cA aq aj F EX a A)(hb:JE X cA aq aj F EX b B):JE X cA aq aj F EX (.BinOp a op b pos) (.pr fz q (.cons A (.cons B .nil))):=by
 obtain⟨r,h1,h2⟩:=h.o;exact⟨zlC h1 h2 ha.o hb.o⟩
theorem yF(ha:JE X cA aq aj F EX a A):JE X cA aq aj F EX (.UnaryOp .USub a pos) (.pr true .neg (.cons A .nil)):=⟨zoh zmG zlZ ha.o⟩
theorem Zm(ha:JE X cA aq aj F EX a A):JE X cA aq aj F EX (.UnaryOp .Not a pos) (.not A):=⟨zmW ha.o⟩
theorem uV{op}(ha:JE X cA aq aj F EX a A):JE X cA aq aj F EX (.BoolOp op [a] pos) A:=⟨zkK ha.o⟩
theorem wB{rest:List Expr}(ha:JE X cA aq aj F EX a A)(hb:JE X cA aq aj F EX (.BoolOp .And (b::rest) pos) B):JE X cA aq aj F EX (.BoolOp .And (a::b::rest) pos) (.and A B):=⟨zmK ha.o hb.o⟩
theorem Zn{rest:List Expr}(ha:JE X cA aq aj F EX a A)(hb:JE X cA aq aj F EX (.BoolOp .Or (b::rest) pos) B):JE X cA aq aj F EX (.BoolOp .Or (a::b::rest) pos) (.or A B):=⟨znj ha.o hb.o⟩
theorem tX{k:Nat}(hr:bD k X.A):JP X cA .Eq .eq:=⟨_,zmY (tO hr),znw⟩
theorem Dv{k:Nat}(hr:bD k X.A):JP X cA .NotEq .ne:=⟨_,zl7 (tO hr),zoe⟩
theorem Br{k:Nat}(hr:bD k X.A):JP X cA .Lt .lt:=⟨_,Gp.or (zlD (by have:=tO hr;lia)),zoj⟩
theorem Zo:JP X cA .LtE .le:=⟨_,zob,znU⟩
theorem zo1:JP X cA .Gt .gt:=⟨_,znM,zny⟩
theorem Zq:JP X cA .GtE .ge:=⟨_,znb,zn8⟩
theorem IW{k:Nat}(hr:bD k X.A):JP X cA .In .inn:=⟨_,zl9 (tO hr),zng⟩
theorem Sw{k:Nat}(hr:bD k X.A):JP X cA .NotIn .nin:=⟨_,zi0 (tO hr),zk3⟩
noncomputable def nU:Expr->Bool
 |.Set _ _ _=>false
 |_=>true
theorem wC(h:nU b=true):behindInMarks op b=false:=by cases b<;>first|rfl|cases h
theorem wD(ho:JP X cA op q)(ha:JE X cA aq aj F EX a A)(hb:JE X cA aq aj F EX b B)(h1:nU b=true:=by rfl):JE X cA aq aj F EX (.Compare a [op] [b] pos) (.pr true q (.cons A (.cons B .nil))):=by
 obtain⟨r,h2,h3⟩:=ho.o;exact⟨zla h2 h3 ha.o hb.o (wC h1)⟩
theorem jf(ho:JP X cA op q)(ha:JE X cA aq aj F EX a A)(hb:JE X cA aq aj F EX b B)(h1:nU b=true:=by rfl):JT X cA aq aj F EX (.Compare a [op] [b] pos) (.pr true q (.cons A (.cons B .nil))):=by
 obtain⟨r,h2,h3⟩:=ho.o;exact⟨zl1 h2 h3 ha.o hb.o (wC h1)⟩
theorem znE(h1:JP X cA op q1)(h2:JP X cA op' q2)(ha:JE X cA aq aj F EX a A)(hb:JE X cA aq aj F EX b B)(hc:JE X cA aq aj F EX c C)(hm:nU c=true:=by rfl):JE X cA aq aj F EX (.Compare a [op,op'] [b,c] pos) (.xZ q1 q2 A B C):=by
 obtain⟨r,h3,h4⟩:=h1.o;obtain⟨r',h5,h6⟩:=h2.o;exact⟨zld h3 h4 h5 h6 ha.o hb.o hc.o (wC hm)⟩
theorem Sx{j p}(ha:JE X cA aq aj F EX a A):JE X cA aq aj F EX (.Compare a [.Is] [.Constant .none j p] pos) (.pr true .pU (.cons A .nil)):=⟨zmk ha.o⟩
theorem Zr{j p}(ha:JE X cA aq aj F EX a A):JE X cA aq aj F EX (.Compare a [.IsNot] [.Constant .none j p] pos) (.pr true .mZ (.cons A .nil)):=⟨zjq ha.o⟩
theorem Mv{j p}(ha:JE X cA aq aj F EX a A):JT X cA aq aj F EX (.Compare a [.Is] [.Constant .none j p] pos) (.pr true .pU (.cons A .nil)):=⟨zmO ha.o⟩
theorem wF{j p}(ha:JE X cA aq aj F EX a A):JT X cA aq aj F EX (.Compare a [.IsNot] [.Constant .none j p] pos) (.pr true .mZ (.cons A .nil)):=⟨zjr ha.o⟩
noncomputable def yG:Expr->Bool
 |.Call _ _ _ _=>true
 |.Name _ _=>true
 |.Subscript _ _ _=>true
 |.Attribute _ _ _=>true
 |_=>false
theorem jo(ha:JE X cA aq aj F EX a A)(he:yG a=true:=by rfl):JT X cA aq aj F EX a A:=⟨zlE ha.o (by cases a<;>first|(intro _;rfl)|cases he)⟩
theorem mQ(ha:JT X cA aq aj F EX a A):JT X cA aq aj F EX (.UnaryOp .Not a pos) (.not A):=⟨zk2 ha.o⟩
theorem Zu(ha:JT X cA aq aj F EX a A):JW X cA aq aj F EX (.BoolOp .And [a] pos) A:=⟨ziP ha.o⟩
theorem Dw(ha:JT X cA aq aj F EX a A):JW X cA aq aj F EX (.BoolOp .Or [a] pos) A:=⟨zlI ha.o⟩
theorem Zv{rest:List Expr}(ha:JT X cA aq aj F EX a A)(hb:JW X cA aq aj F EX (.BoolOp .And (b::rest) pos) B):JW X cA aq aj F EX (.BoolOp .And (a::b::rest) pos) (.and A B):=⟨zmA ha.o hb.o⟩
theorem yH{rest:List Expr}(ha:JT X cA aq aj F EX a A)(hb:JW X cA aq aj F EX (.BoolOp .Or (b::rest) pos) B):JW X cA aq aj F EX (.BoolOp .Or (a::b::rest) pos) (.or A B):=⟨zne ha.o hb.o⟩
theorem yI(h:JW X cA aq aj F EX a A):JT X cA aq aj F EX a A:=⟨zo6 h.o⟩
theorem Bs(hc:JT X cA aq aj F EX c C)(ha:JE X cA aq aj F EX a A)(hb:JE X cA aq aj F EX b B):JE X cA aq aj F EX (.IfExp c a b pos) (.ite C A B):=⟨zlV hc.o ha.o hb.o⟩
theorem aJ:JA X cA aq aj F EX [] .nil:=⟨zlY⟩
theorem aB(ha:JE X cA aq aj F EX a A)(hr:JA X cA aq aj F EX es Xs)(hs:aF a=true:=by rfl):JA X cA aq aj F EX (a::es) (.cons A Xs):=⟨zjR ha.o hr.o (bA hs)⟩
theorem fj{k}(ha:JA X cA aq aj F EX es Xs)(hz:decide (Es.len Xs<=sizeLine)=true:=by rfl):JE X cA aq aj F EX (.Tuple es k pos) (.tup Xs):=⟨zkB ha.o (kJ hz)⟩
theorem nW(ha:JA X cA aq aj F EX es Xs)(hz:decide (Es.len Xs<=sizeLine)=true:=by rfl):JE X cA aq aj F EX (.List es pos) (.lst fz Xs):=⟨zli ha.o (kJ hz)⟩
noncomputable def tY:Expr->Bool
 |.Constant _ _ _=>true
 |.Name _ _=>true
 |.Call _ _ _ _=>true
 |.BinOp _ _ _ _=>true
 |.UnaryOp _ _ _=>true
 |.Subscript _ _ _=>true
 |.IfExp _ _ _ _=>true
 |.Attribute _ _ _=>true
 |.Compare _ _ _ _=>true
 |.BoolOp _ _ _=>true
 |_=>false
theorem bQ(ha:JE X cA aq aj F EX a A)(hb:JE X cA aq aj F EX b B)(hs:tY b=true:=by rfl):JE X cA aq aj F EX (.Subscript a b pos) (.pr true .ix (.cons A (.cons B .nil))):=⟨zn0 zn3 ha.o hb.o (by cases b<;>first|(intro _ _;rfl)|cases hs)⟩
theorem Sy:JO X cA aq aj F EX none .no:=⟨znR⟩
theorem I8(ha:JE X cA aq aj F EX a A):JO X cA aq aj F EX (some a) (.yes A):=⟨zmm ha.o⟩
theorem Mw{lo hi:Option Expr}{Lo Hi:Eo}(ha:JE X cA aq aj F EX a A)(hl:JO X cA aq aj F EX lo Lo)(hh:JO X cA aq aj F EX hi Hi):JE X cA aq aj F EX (.Subscript a (.Slice lo hi none p2) pos) (.sl fz A Lo Hi):=⟨zm8 ha.o hl.o hh.o⟩
theorem zkD(f:Nat){cm:Bool}{k:Nat}{fa:Addr}{fd:FuncData}{ps:List Str}(Fo:bZ X.prog X.w X.K X.mg X.base (gA X.prog X.w) cm k fa fd ps (kj X.K cA (F f)))(ji:cm=true->X.aj=true)(hr:bD k X.A)(hm:X.mg x=some (.ref fa))(hk:PySem.W.keepIn X.K (.ref fa)=true)(hb:Binds X.K fd ps [])(R:JR X EX)(hg:JK X x .globalImplicit)
  (ha:JA X cA aq aj F EX (e::es) Xs) (hd:okN x=true) (he:aF e=true:=by rfl) (hpl:es.all aF=true:=by rfl) :
  JE X cA aq aj F EX (.Call (.Name x p) (e::es) [] pos) (.call f Xs):=⟨ziN Fo ji hr hg.o hm hk hb R.o ha.o (rJ hd).1 (bA he) (aY hpl)⟩
theorem wG(hv:Dr cA kd=.ty T)(hm:X.mg x=none)(hb:bootBuiltins x=some (.type T))(hg:JK X x .globalImplicit)(hd:okN x=true):JN X cA (.Name x pos) kd:=⟨λao s Z H Q I h=>by
 rw[hv] at h;exact uN I hg.o hm hb ⟨.ty T,H,I,rfl,h⟩ (rJ hd).2.2 (rJ hd).1⟩
theorem wH(h0:(tH kd).isSome=true)(hm:X.mg "isinstance"=none)(hg:JK X "isinstance" .globalImplicit)(ha:JE X cA aq aj F EX a A)(hk:JN X cA kx kd)(h1:aF a=true:=by rfl)(h2:aF kx=true:=by rfl):JE X cA aq aj F EX (.Call (.Name "isinstance" p) [a,kx] [] pos) (.mC A kd):=
 ⟨zlt (λz=>by rw[z] at h0;cases h0) hg.o hm ha.o hk.o (bA h1) (bA h2) (aY (by rw[xK,h2];rfl))⟩
theorem tZ(hm:X.mg "len"=none)(hg:JK X "len" .globalImplicit)(ha:JA X cA aq aj F EX (e::es) Xs)(he:aF e=true:=by rfl)(hpl:es.all aF=true:=by rfl):JE X cA aq aj F EX (.Call (.Name "len" p) (e::es) [] pos) (.pr fz .len Xs):=⟨yw zc9 zm0 hg.o hm PySem.boot_len ha.o J0 J0 (bA he) (aY hpl)⟩
theorem znr(hm:X.mg "abs"=none)(hg:JK X "abs" .globalImplicit)(ha:JA X cA aq aj F EX (e::es) Xs)(he:aF e=true:=by rfl)(hpl:es.all aF=true:=by rfl):JE X cA aq aj F EX (.Call (.Name "abs" p) (e::es) [] pos) (.pr fz .abs Xs):=⟨yw zg5 zlX hg.o hm PyProof.Rows.boot_abs ha.o J0 J0 (bA he) (aY hpl)⟩
theorem zkR(hc:X.aj=true)(hm:X.mg "max"=none)(hg:JK X "max" .globalImplicit)(ha:JA X cA aq aj F EX (e::es) Xs)(he:aF e=true:=by rfl)(hpl:es.all aF=true:=by rfl):JE X cA aq aj F EX (.Call (.Name "max" p) (e::es) [] pos) (.pr fz .max2 Xs):=⟨yw (zfw hc) ziI hg.o hm PyProof.Rows.boot_max ha.o J0 J0 (bA he) (aY hpl)⟩
theorem Zw(hc:X.aj=true)(hm:X.mg "min"=none)(hg:JK X "min" .globalImplicit)(ha:JA X cA aq aj F EX (e::es) Xs)(he:aF e=true:=by rfl)(hpl:es.all aF=true:=by rfl):JE X cA aq aj F EX (.Call (.Name "min" p) (e::es) [] pos) (.pr fz .min2 Xs):=⟨yw (zfl hc) zjv hg.o hm PyProof.Rows.boot_min ha.o J0 J0 (bA he) (aY hpl)⟩
theorem zkz(hm:X.mg "int"=none)(hg:JK X "int" .globalImplicit)(ha:JA X cA aq aj F EX (e::es) Xs)(he:aF e=true:=by rfl)(hpl:es.all aF=true:=by rfl):JE X cA aq aj F EX (.Call (.Name "int" p) (e::es) [] pos) (.pr fz .vQ Xs):=⟨RX zgG zkj hg.o hm PyProof.Rows.boot_int ha.o J0 J0 (bA he) (aY hpl)⟩
theorem zhQ(hm:X.mg "divmod"=none)(hg:JK X "divmod" .globalImplicit)(ha:JA X cA aq aj F EX (e::es) Xs)(he:aF e=true:=by rfl)(hpl:es.all aF=true:=by rfl):JE X cA aq aj F EX (.Call (.Name "divmod" p) (e::es) [] pos) (.pr fz .divmod Xs):=⟨yw zdu zf0 hg.o hm PyProof.Rows.boot_divmod ha.o J0 J0 (bA he) (aY hpl)⟩
theorem I9(hc:X.aj=true)(hm:X.mg "all"=none)(hg:JK X "all" .globalImplicit)(ha:JA X cA aq aj F EX (e::es) Xs)(he:aF e=true:=by rfl)(hpl:es.all aF=true:=by rfl):JE X cA aq aj F EX (.Call (.Name "all" p) (e::es) [] pos) (.pr fz .all Xs):=⟨yw (zgr hc) zm1 hg.o hm PyProof.Rows.boot_all ha.o J0 J0 (bA he) (aY hpl)⟩
theorem zk8(hm:X.mg "list"=none)(hg:JK X "list" .globalImplicit)(ha:JA X cA aq aj F EX (e::es) Xs)(he:aF e=true:=by rfl)(hpl:es.all aF=true:=by rfl):JE X cA aq aj F EX (.Call (.Name "list" p) (e::es) [] pos) (.pr fz .list Xs):=⟨RX zcY zjd hg.o hm zj4 ha.o J0 J0 (bA he) (aY hpl)⟩
theorem t_(hm:X.mg "tuple"=none)(hg:JK X "tuple" .globalImplicit)(ha:JA X cA aq aj F EX (e::es) Xs)(he:aF e=true:=by rfl)(hpl:es.all aF=true:=by rfl):JE X cA aq aj F EX (.Call (.Name "tuple" p) (e::es) [] pos) (.pr fz .tuple Xs):=⟨RX zcy zhu hg.o hm Du ha.o J0 J0 (bA he) (aY hpl)⟩
theorem Dy(ho:JE X cA aq aj F EX a A)(hb:JE X cA aq aj F EX b B)(cZ:attributeBase a "append" X.env (eval a X.env)=eval a X.env:=by rfl)(c7:(apos.endLine==pos.line)=true:=by rfl)(hs:aF b=true:=by rfl) :
  JE X cA aq aj F EX (.Call (.Attribute a "append" apos) [b] [] pos) (.push A B):=⟨zkr ho.o hb.o cZ (qd hs rfl rfl) c7 (bA hs) rfl⟩
theorem znV(ho:JE X cA aq aj F EX a A)(cZ:attributeBase a "pop" X.env (eval a X.env)=eval a X.env:=by rfl)(c7:(apos.endLine==pos.line)=true:=by rfl) :
  JE X cA aq aj F EX (.Call (.Attribute a "pop" apos) [] [] pos) (.pop A):=⟨zlT ho.o cZ c7⟩
theorem qU:JC X cA aq aj F EX [] .no:=⟨zk5⟩
theorem uW(h:JT X cA aq aj F EX c C):JC X cA aq aj F EX [c] (.yes C):=⟨zkf h.o⟩
theorem kE(ha:JE X cA aq aj F EX a A):JI X cA aq aj F EX tg a (.seq A):=⟨zlB ha.o⟩
theorem zo5(hmg:X.mg "range"=none)(pq:JK X "range" .globalImplicit)(ha:JE X cA aq aj F EX a A)(hb:JE X cA aq aj F EX b B)(h1:aF a=true:=by rfl)(h2:aF b=true:=by rfl):JI X cA aq aj F EX tg (.Call (.Name "range" p) [a,b] [] pos) (.rg A B):=⟨zn4 pq.o hmg ha.o hb.o (bA h1) (bA h2)⟩
theorem uX(hmg:X.mg "range"=none)(pq:JK X "range" .globalImplicit)(hb:JE X cA aq aj F EX b B)(h2:aF b=true:=by rfl):JI X cA aq aj F EX tg (.Call (.Name "range" p) [b] [] pos) (.rg (.c (.int 0)) B):=⟨zmN pq.o hmg hb.o (bA h2)⟩
noncomputable def I_(scope:Scope)(x:Str):Bool:=match scope.names.lookup x with
 |some .local=>true
 |some .cell=>true
 |_=>false
theorem Dz(h:I_ scope x=true):Loc (X.blk scope cl N Cc s3 H3 fp ao).env.scope x/\((X.blk scope cl N Cc s3 H3 fp ao).fn x=true\/(X.blk scope cl N Cc s3 H3 fp ao).env.scope.names.lookup x=some .local):=by
 unfold I_ at h;split at h
 ·rename_i z;exact⟨.inl (lookup_relabel_local z),.inr (lookup_relabel_local z)⟩
 ·rename_i z;exact⟨.inr (Ms (by intro y;cases y) z),.inl (by show (scope.names.lookup x==some NameKind.cell)=true;rw[z];rfl)⟩
 ·cases h
theorem mR(i:Nat)(SJ:N.Nodup)(hi:N[i]?=some x)(hl:I_ scope x=true):JY (X.blk scope cl N Cc s3 H3 fp ao) (.Name x tp) (dO i):=
 ⟨K7 SJ hi (Dz hl).1 (Dz hl).2⟩
theorem Mx(i j:Nat)(hc:X.aj=true)(SJ:N.Nodup)(hi:N[i]?=some x)(hj:N[j]?=some y)(hl:I_ scope x=true)(uR:I_ scope y=true):JY (X.blk scope cl N Cc s3 H3 fp ao) (.Tuple [.Name x px,.Name y py] kt tp) (sI X.K 2 (gR (dO i) (gR (dO j) sH))):=
 ⟨Ss (X:=X.blk scope cl N Cc s3 H3 fp ao) hc SJ hi hj (Dz hl).1 (Dz uR).1 (Dz hl).2 (Dz uR).2⟩
theorem DG{scope:Scope}{XN:List Str}{M0 N:List Str}{fr:List Nat}(h:frB scope XN N fr=true):(M0++N).length=M0.length+fr.length/\∀(i:Nat) (y:Str) (j:Nat),(M0++N)[M0.length+i]?=some y->fr[i]?=some j->scope.names.lookup y=some .free/\XN[j]?=some y:=by
 obtain⟨l,q⟩:=Ze h;refine⟨by rw[dH,l],λi y j e1 e2=>q i y j ?_ e2⟩;rw[pG gV] at e1;rw[show M0.length+i-M0.length=i by lia] at e1;exact e1
theorem oG{elt iter tg:Expr}{ifs:List Expr}{scope:Scope}{cond:Eo}{dz:List Nat}{g:TG}{w:Wk}(sc:Scope)(XN M0 N:List Str)(fr:List Nat)(hc:X.aj=true)(SM:X.env.scope=sc)(wz:X.N=XN)(hB:tQ sc scope=true)(hf:frB scope XN N fr=true)(hT:mL X.K cA g dz)(gK:dz.all (λi=>decide (i<M0.length))=true)
  (hi:JI X cA aq aj F EX tg iter w) (hg:∀cl C s3 H3 fp ao,JY (X.blk scope cl (M0++N) C s3 H3 fp ao) tg g)
  (ht:∀cl C s3 H3 fp ao,JC (X.blk scope cl (M0++N) C s3 H3 fp ao) cA aq aj F (λ_ _ _ _=>False) ifs cond) (he:∀cl C s3 H3 fp ao,JE (X.blk scope cl (M0++N) C s3 H3 fp ao) cA aq aj F (λ_ _ _ _=>False) elt B)
  (hs:∀x,foldedSetIterable iter X.env x=pure x:=by intro _;rfl):JE X cA aq aj F EX (.ListComp elt [⟨tg,iter,ifs,0⟩] scope pos) (.comp fz B dz w fr M0.length cond):=
 ⟨Y9 hc (dD.of (SM▸hB)) hi.o (DG (wz▸hf)).1 (DG (wz▸hf)).2 (λa b c d e f=>(hg a b c d e f).o) hT (λi hi=>kJ (fC.mp gK i hi)) (λa b c d e f=>(ht a b c d e f).o) (λa b c d e f=>(he a b c d e f).o) hs⟩
theorem Kaa{scope eG:Scope}{env:Env}(h:dD scope eG):dD (relabel scope env) eG:=⟨h.kind,h.XQ,λy hy z=>by
 rcases h.free y hy z with q|q
 ·exact .inl (Ms (by intro y;cases y) q)
 ·exact Lp q,h.loc⟩
theorem Zx{elt iter tg:Expr}{ifs:List Expr}{scope eG:Scope}{cond:Eo}{dz:List Nat}{g:TG}{w:Wk}{cl:List (Str×Addr)}{yJ:List Str}{Cc:Addr}{s3:Shared}{H3:Hp}{fp:List Addr}{ao:List (Addr×Obj)}(XN M0 N:List Str)(fr:List Nat)(hc:X.aj=true)(wz:yJ=XN)(hB:tQ scope eG=true)(hf:frB eG XN N fr=true)(hT:mL X.K cA g dz)(gK:dz.all (λi=>decide (i<M0.length))=true)
  (hi:JI (X.blk scope cl yJ Cc s3 H3 fp ao) cA aq aj F EX tg iter w) (hg:∀cl2 C s3' Ja fp' jd,JY ((X.blk scope cl yJ Cc s3 H3 fp ao).blk eG cl2 (M0++N) C s3' Ja fp' jd) tg g)
  (ht:∀cl2 C s3' Ja fp' jd,JC ((X.blk scope cl yJ Cc s3 H3 fp ao).blk eG cl2 (M0++N) C s3' Ja fp' jd) cA aq aj F (λ_ _ _ _=>False) ifs cond) (he:∀cl2 C s3' Ja fp' jd,JE ((X.blk scope cl yJ Cc s3 H3 fp ao).blk eG cl2 (M0++N) C s3' Ja fp' jd) cA aq aj F (λ_ _ _ _=>False) elt B)
  (hs:∀x,foldedSetIterable iter (X.blk scope cl yJ Cc s3 H3 fp ao).env x=pure x:=by intro _;rfl):JE (X.blk scope cl yJ Cc s3 H3 fp ao) cA aq aj F EX (.ListComp elt [⟨tg,iter,ifs,0⟩] eG pos) (.comp fz B dz w fr M0.length cond):=by
 subst wz;exact⟨Y9 (X:=X.blk scope cl yJ Cc s3 H3 fp ao) hc (Kaa (dD.of hB)) hi.o (DG hf).1 (DG hf).2 (λa b c d e f=>(hg a b c d e f).o) hT (λi hi=>kJ (fC.mp gK i hi)) (λa b c d e f=>(ht a b c d e f).o) (λa b c d e f=>(he a b c d e f).o) hs⟩
theorem yK:JR X (λ_ _ _ _=>False):=⟨zfF⟩
theorem cL{P:Program}{w:World}{K:W.Frag}{mg:Str->Option Value}{base:Heap}{N:List Str}{qual:Str}{scope:Scope}{f:Addr}{cd:Value}{A:Around}{outer:List Env}{s:Shared}{H:Hp}{E:XK}{cm:Bool} :
  JR (f9 (gA P w) P w K mg base N qual scope f cd A outer s H E cm) (λ_ C dx H'=>E C dx H'):=⟨zeZ⟩
theorem qe{CX:qH}{P:Program}{w:World}{K:W.Frag}{mg:Str->Option Value}{base:Heap}{N:List Str}{qual:Str}{scope:Scope}{f:Addr}{cd:Value}{A:Around}{outer:List Env}{s:Shared}{H:Hp}{E:XK}{cm:Bool} :
  JH (f9 CX P w K mg base N qual scope f cd A outer s H E cm):=⟨PassesOwn.leaving⟩
end
section
variable {X:Cx}{cA:Cl}{aq:Nat->Nat->Bool}{aj:Bool}{F:Bool->Fn}{EX:XS}{a b c d e:Expr}{A B C:E}{pos p p2:Pos}{st:Stmt}{sts body orelse:List Stmt}{m:St}{ms mb me mh:bT}{es:List Expr}{Xs:Es}{x y n:Str}{k k':NameKind}
theorem Bt(h:JK X x k)(hv:nR k=true):Loc X.env.scope x:=by cases k<;>first|exact .inl h.o|exact .inr h.o|cases hv
theorem Bu(h:JK X x k)(hv:X.fn x=true\/k=.local):X.fn x=true\/X.env.scope.names.lookup x=some .local:=by
 rcases hv with hv|hv
 ·exact .inl hv
 ·subst hv;exact .inr h.o
theorem aM:JB X cA aq aj F EX [] .nil:=⟨ziO⟩
theorem aG(h1:JS X cA aq aj F EX st m)(h2:JB X cA aq aj F EX sts ms):JB X cA aq aj F EX (st::sts) (.cons m ms):=⟨zhi h1.o h2.o⟩
theorem SN:JS X cA aq aj F EX st .no:=⟨znC⟩
theorem uY(ha:JE X cA aq aj (F aj) EX a A)(hs:swapsWith a none pos.line X.env=pure false:=by rfl):JS X cA aq aj F EX (.Expr a pos) (.ex A):=⟨znl ha.o hs⟩
theorem bM(ha:JE X cA aq aj (F aj) EX a A):JS X cA aq aj F EX (.Return (some a) pos) (.ret A):=⟨zmy ha.o⟩
theorem fO(i:Nat)(hN:X.N.Nodup)(hi:X.N[i]?=some x)(hx:JK X x k)(hl:nR k=true)(ha:JE X cA aq aj (F aj) EX a A)(hs:swapsWith a (some (.Name x p)) pos.line X.env=pure false:=by rfl)(hf:X.fn x=true\/k=.local:=by first|exact .inl rfl|exact .inr rfl):JS X cA aq aj F EX (.Assign [.Name x p] a pos) (.asg (.nm i) A):=
 ⟨zmd hN hi (Bt hx hl) ha.o hs (Bu hx hf)⟩
theorem Jc{elt iter tg:Expr}{ifs:List Expr}{scope:Scope}{cond:Eo}{dz:List Nat}{g:TG}{w:Wk}{fz:Bool}{py spos:Pos}(i:Nat)(sc:Scope)(XN M0 N:List Str)(fr:List Nat)(hN:X.N.Nodup)(Ho:X.N[i]?=some y)(hx:JK X y k)(hl:nR k=true)(hc:X.aj=true)(SM:X.env.scope=sc)(wz:X.N=XN)(hB:tQ sc scope=true)(hf:frB scope XN N fr=true)(hT:mL X.K cA g dz)(gK:dz.all (λi=>decide (i<M0.length))=true)
  (hi:JI X cA aq aj (F aj) EX tg iter w) (hg:∀cl C s3 H3 fp ao,JY (X.blk scope cl (M0++N) C s3 H3 fp ao) tg g)
  (ht:∀cl C s3 H3 fp ao,JC (X.blk scope cl (M0++N) C s3 H3 fp ao) cA aq aj (F aj) (λ_ _ _ _=>False) ifs cond) (he:∀cl C s3 H3 fp ao,JE (X.blk scope cl (M0++N) C s3 H3 fp ao) cA aq aj (F aj) (λ_ _ _ _=>False) elt B)
  (Hq:swapsWith (.ListComp elt [⟨tg,iter,ifs,0⟩] scope pos) (some (.Name y py)) spos.line X.env=pure true:=by rfl) (hff:X.fn y=true\/k=.local:=by first|exact .inl rfl|exact .inr rfl) (hs:∀x,foldedSetIterable iter X.env x=pure x:=by intro _;rfl) :
  JS X cA aq aj F EX (.Assign [.Name y py] (.ListComp elt [⟨tg,iter,ifs,0⟩] scope pos) spos) (.asg (.nm i) (.comp fz B dz w fr M0.length cond)):=
 ⟨ziV hc hN Ho (Bt hx hl) (Bu hx hff) (dD.of (SM▸hB)) hi.o (DG (wz▸hf)).1 (DG (wz▸hf)).2 (λa b c d e f=>(hg a b c d e f).o) hT (λi hi=>kJ (fC.mp gK i hi)) (λa b c d e f=>(ht a b c d e f).o) (λa b c d e f=>(he a b c d e f).o) Hq hs⟩
theorem Jd(i j:Nat){k0}(hc:X.aj=true)(gq:aj=true)(hN:X.N.Nodup)(hi:X.N[i]?=some x)(hj:X.N[j]?=some y)(hx:JK X x k)(hy:JK X y k')(SQ:nR k=true)(SX:nR k'=true)(ha:JE X cA aq aj (F aj) EX a A)
  (wj:X.fn x=true\/k=.local:=by first|exact .inl rfl|exact .inr rfl) (wu:X.fn y=true\/k'=.local:=by first|exact .inl rfl|exact .inr rfl)
  (hs:swapsWithSole [.Tuple [.Name x px,.Name y py] k0 pt] a pos.line X.env=pure false:=by rfl) (hw:swappedStores [.Tuple [.Name x px,.Name y py] k0 pt] a X.env=pure none:=by rfl) (h1:(assignEach [.Tuple [.Name x px,.Name y py] k0 pt] X.env).map (·.2)=[assign (.Tuple [.Name x px,.Name y py] k0 pt) X.env]:=by rfl) :
  JS X cA aq aj F EX (.Assign [.Tuple [.Name x px,.Name y py] k0 pt] a pos) (.asg (.tp [i,j]) A):=⟨zi3 hc gq hN hi hj (Bt hx SQ) (Bt hy SX) (Bu hx wj) (Bu hy wu) ha.o hs hw h1⟩
theorem DK(hO:JE X cA aq aj (F aj) EX oo O)(hI:JE X cA aq aj (F aj) EX ii I')(ha:JE X cA aq aj (F aj) EX a A)
  (Bm:∀v,assign (.Subscript oo ii p) X.env v=(do
   let obj <-holding [v] (eval oo X.env)
   let at_ <-holding [v,obj] (eval ii X.env)
   standAt p
   holding [v,obj,at_] (setItem obj at_ v)
   release [v,obj,at_] []):=by intro _;rfl) (hs:swapsWithSole [.Subscript oo ii p] a pos.line X.env=pure false:=by rfl) (hw:swappedStores [.Subscript oo ii p] a X.env=pure none:=by rfl)
  (h1:(assignEach [.Subscript oo ii p] X.env).map (·.2)=[assign (.Subscript oo ii p) X.env]:=by rfl):JS X cA aq aj F EX (.Assign [.Subscript oo ii p] a pos) (.asg (.aq O I') A):=⟨zmQ hO.o hI.o ha.o Bm hs hw h1⟩
theorem dY(hc:JT X cA aq aj (F aj) EX c C)(ht:JB X cA aq aj F EX body mb)(he:JB X cA aq aj F EX orelse me):JS X cA aq aj F EX (.If c body orelse pos) (.iff C mb me):=⟨zol hc.o ht.o he.o⟩
theorem zjz(hp:JH X)(hc:JT X cA aq aj (F aj) EX c C)(hb:JB X cA aq aj F EX body mb):JS X cA aq aj F EX (.While c body [] pos) (.wh C mb):=⟨zhp hp.o hc.o hb.o⟩
theorem uZ(i:Nat)(hN:X.N.Nodup)(hi:X.N[i]?=some x)(hx:JK X x k)(hl:nR k=true)(hf:X.fn x=true\/k=.local:=by first|exact .inl rfl|exact .inr rfl):JG X cA aq aj F EX (.Name x pos) (.nm i):=⟨zj3 hN hi (Bt hx hl) (Bu hx hf)⟩
theorem S5(i j:Nat){k0}(hc:X.aj=true)(gq:aj=true)(hN:X.N.Nodup)(hi:X.N[i]?=some x)(hj:X.N[j]?=some y)(hx:JK X x k)(hy:JK X y k')(SQ:nR k=true)(SX:nR k'=true)(wj:X.fn x=true\/k=.local:=by first|exact .inl rfl|exact .inr rfl)(wu:X.fn y=true\/k'=.local:=by first|exact .inl rfl|exact .inr rfl) :
  JG X cA aq aj F EX (.Tuple [.Name x px,.Name y py] k0 pos) (.tp [i,j]):=⟨zjX hc gq hN hi hj (Bt hx SQ) (Bt hy SX) (Bu hx wj) (Bu hy wu)⟩
theorem qW(hp:JH X)(hc:X.aj=true)(gq:aj=true)(ha:JI X cA aq aj (F aj) EX tg a w)(hg:JG X cA aq aj F EX tg t)(hb:JB X cA aq aj F EX body mb)(hs:∀x,foldedSetIterable a X.env x=pure x:=by intro _;rfl):JS X cA aq aj F EX (.For tg a body [] pos) (.fr t w mb):=
 ⟨zmr hp.o hc gq ha.o hg.o hb.o hs⟩
end
theorem Zy{P:Program}{w:World}{K:W.Frag}{mg:Str->Option Value}{base:Heap}{cA:Cl}{aq:Nat->Nat->Bool}{T:Nat->Option Df}{x qual:Str}{st:Stmt}{f:Addr}{fd:FuncData}{N ps:List Str}{k n:Nat}{cm:Bool}{df:Df}(F:nQ K x qual st f fd)(S:cX N ps (au st))(hT:T n=some df)(hp:df.g8=ps.length)(hm:df.many=N.length)
  (hb:∀(cdv:Value) (A:Around) (outer:List Env) (s:Shared) (H:Hp) (E:XK),bD k (A.deeper (envOfC qual (au st) s.heap.objs.size f cdv))->
   JB (f9 (gA P w) P w K mg base N qual (au st) f cdv A outer s H E cm) cA aq cm (λc=>call aq T k c) (λ_ C dx H'=>E C dx H') (aL st) df.body) :
  bZ P w K mg base (gA P w) cm (k+1) f fd ps (kj K cA (call aq T (k+1) cm n)):=zmS F S hT hp hm λcdv A outer s H E hr=>(hb cdv A outer s H E hr).o
section
variable {K:W.Frag}{cA:Cl}{U:Ph}{H:Hp}{kvs:gY}{xs:mJ}{k:List Kx}
theorem je.len(r:je K cA U H kvs xs):kvs.length=xs.length:=by
 induction r with
 |nil=>rfl
 |cons _ _ _ _ ih=>rw[fX,fX,ih]
theorem zjw{j:List Kx}{a:Addr}{u:Value}{r:mJ}:atKey ((j,a,u)::r) k=if j=k then some (a,u) else atKey r k:=by
 unfold atKey;rw[List.find?_cons];by_cases e:j=k
 ·simp[e]
 ·simp[e]
theorem je.at(r:je K cA U H kvs xs):(bO k kvs=none/\atKey xs k=none)\/∃d p v,bO k kvs=some d/\atKey xs k=some p/\RelV v p.2/\Rep K cA U H d v:=by
 induction r with
 |nil=>exact .inl ⟨rfl,rfl⟩
 |@cons j d ka u v r xs hk hu hv q ih=>
  rw[zjw];unfold bO;by_cases e:j=k
  ·rw[if_pos e,if_pos e];exact .inr ⟨d,(ka,u),v,rfl,rfl,hu,hv⟩
  ·rw[if_neg e,if_neg e];exact ih
theorem je.isSome(r:je K cA U H kvs xs):(atKey xs k).isSome=(bO k kvs).isSome:=by
 rcases r.at (k:=k) with ⟨a,b⟩|⟨d,p,v,a,b,_⟩<;>rw[a,b]<;>rfl
theorem je.app{kvs':gY}{xs':mJ}(r:je K cA U H kvs xs)(r':je K cA U H kvs' xs'):je K cA U H (kvs++kvs') (xs++xs'):=by
 induction r with
 |nil=>exact r'
 |cons a b c _ ih=>exact .cons a b c ih
theorem je.put{ka:Addr}{u:Value}{v:V}{d:D}(r:je K cA U H kvs xs)(hk:Rep K cA U H (iU k) (.ref ka))(hu:RelV v u)(hv:Rep K cA U H d v):je K cA U H (iQ k d kvs) (storedH xs k ka u):=by
 unfold iQ storedH;rw[r.isSome];by_cases e:(bO k kvs).isSome=true
 ·rw[if_pos e,if_pos e];clear e
  induction r with
  |nil=>exact .nil
  |@cons j d' Zz u' v' r xs ZC hu' Qi q ih=>
   rw[jr,jr];show je K cA U H ((if j=k then (j,d) else (j,d'))::_) ((if j=k then (j,Zz,u) else (j,Zz,u'))::_);by_cases e:j=k
   ·rw[if_pos e,if_pos e];exact .cons ZC hu hv ih
   ·rw[if_neg e,if_neg e];exact .cons ZC hu' Qi ih
 ·rw[if_neg e,if_neg e];exact r.app (.cons hk hu hv .nil)
end
section
variable {X:Cx}{cA:Cl}{ao:List (Addr×Obj)}{Z:L2.St}{H:Hp}{s:Shared}{U:Ph}{a:Addr}{kvs:gY}{xs:mJ}{k:List Kx}{y v:V}{u:Value}{A:Around}{E:Value->Shared->Prop}
theorem S6(I:Inv X ao Z H s)(e:H a=some (sY a xs))(r:je X.K cA U H kvs xs):(a==sysModules)=false/\xs.length<=sizeLine/\s.heap.DictOfH (jw X.prog X.w) a xs:=by
 have z:=(I.hok a _ e).1;obtain⟨h1,h2,o,es,ep,h3,h4,h5,h6,h7⟩:=z;refine⟨h1,h2,o,es,ep,h3,h4,h5,h6,?_,h7⟩;clear h2 h6 h7 e
 induction r with
 |nil=>exact λx hx=>nomatch hx
 |cons hk hu hv q ih=>exact List.forall_mem_cons.mpr ⟨qR I hk rfl,ih⟩
theorem zdt{d:D}(hk:Rep X.K cA U H (iU k) y):∃b,y=.ref b:=by cases hk;exact⟨_,rfl⟩
noncomputable def tGx(K:W.Frag)(cA:Cl)(td ty:TE):TE:=λZ H Q=>td Z H λx H1=>ty Z H1 λy H2=>∃a U kvs xs k d,x=.ref a/\H2 a=some (sY a xs)/\je K cA U H2 kvs xs/\Rep K cA U H2 (iU k) y/\bO k kvs=some d/\∀v,Rep K cA U H2 d v->Q v H2
noncomputable def ZD(K:W.Frag)(cA:Cl)(f:Bool->Bool)(ty td:TE):TE:=λZ H Q=>ty Z H λy H1=>td Z H1 λx H2=>∃a U kvs xs k,x=.ref a/\H2 a=some (sY a xs)/\je K cA U H2 kvs xs/\Rep K cA U H2 (iU k) y/\Q (.bl (f (bO k kvs).isSome)) H2
noncomputable def sPx(K:W.Frag)(cA:Cl)(td ty tv:TE):TS:=λD Z H=>tv Z H λv H1=>td Z H1 λx H2=>ty Z H2 λy H3=>∃a b U kvs xs k d,x=.ref a/\H3 a=some (sY a xs)/\je K cA U H3 kvs xs/\y=.ref b/\Rep K cA U H3 (iU k) y/\Rep K cA U H3 d v/\kvs.length<sizeLine /\
 ∀u,RelV v u->D.nx Z (upd H3 a (sY a (storedH xs k b u)))
variable {o i value:Expr}{pos pos':Pos}{td ty tv:TE}
theorem znF(hu:X.A.units+5<cLine)(ho:PE X o td)(hi:PE X i ty)(hs:Bl i):PE X (.Subscript o i pos) (tGx X.K cA td ty):=by
 intro ao s Z H Q I h;refine zku PySem.F.slot_dict_getitem.lookup hs (aX (ho ao s Z H _ I h) λu s1 hx=>dX hx λx H1 I1 rx q1=>aX (hi ao s1 Z H1 _ I1 q1) λiv s2 hz=>?_);obtain⟨y,H2,I2,ry,a,U,kvs,xs,k,d,ex,ea,rr,rk,g,q2⟩:=hz;subst ex;obtain rfl:u=Value.ref a:=rx;obtain⟨b,rfl⟩:=zdt (d:=d) rk;obtain rfl:iv=Value.ref b:=ry;obtain⟨z1,z2,dd⟩:=S6 I2 ea rr;rcases rr.at (k:=k) with ⟨z,_⟩|⟨d',p,v,z,hp,rv,rd⟩
 ·rw[g] at z;cases z
 ·rw[g] at z;cases z;exact⟨dd.typeIs,wpAny_getItem_heap (knd:=jw X.prog X.w) (show X.A.units+1+4<cLine by lia) (qR I2 rk rfl) dd hp ⟨v,H2,I2.tok _,rv,q2 v rd⟩⟩
theorem zkW(hu:X.A.units+5<cLine)(hi:PE X i ty)(ho:PE X o td):PC X .NotIn i o (ZD X.K cA not ty td):=by
 intro ao s Z H Q I h;refine aX (hi ao s Z H _ I h) λiv s1 hx=>dX hx λy H1 I1 ry q1=>aX (ho ao s1 Z H1 _ I1 q1) λu s2 hz=>?_;obtain⟨x,H2,I2,rx,a,U,kvs,xs,k,ex,ea,rr,rk,q2⟩:=hz;subst ex;obtain rfl:u=Value.ref a:=rx;obtain⟨b,rfl⟩:=zdt (d:=.non) rk;obtain rfl:iv=Value.ref b:=ry;obtain⟨z1,z2,dd⟩:=S6 I2 ea rr;exact wpAny_notIn_heap (knd:=jw X.prog X.w) (show X.A.units+1+4<cLine by lia) (qR I2 rk rfl) z1 dd ⟨_,H2,I2.tok _,by rw[rr.isSome];rfl,q2⟩
theorem zeS{xs:mJ}{b:Addr}{u:Value}:(storedH xs k b u).length<=xs.length+1:=by
 unfold storedH
 split
 ·rw[cj];lia
 ·simp
theorem znf(hu:X.A.units+5<cLine)(ho:PE X o td)(hi:PE X i ty)(hv:PE X value tv)(hs:swapsWith value (some (.Subscript o i pos')) pos.line X.env=pure false):PS X (.Assign [.Subscript o i pos'] value pos) (sPx X.K cA td ty tv):=by
 intro ao s Z H D I h;refine wpAny_Assign_Subscript (aX (hv ao s Z H _ I h) λr s1 hx=>dX hx λv H1 I1 rv q1=>aX (ho ao s1 Z H1 _ I1 q1) λu s2 hx=>dX hx λx H2 I2 rx q2=>aX (hi ao s2 Z H2 _ I2 q2) λiv s3 hz=>?_) hs;obtain⟨y,H3,I3,ry,a,b,U,kvs,xs,k,d,ex,ea,rr,ey,rk,rd,hl,q3⟩:=hz;subst ex ey;obtain rfl:u=Value.ref a:=rx;obtain rfl:iv=Value.ref b:=ry;obtain⟨z1,z2,dd⟩:=S6 I3 ea rr;have uR:xs.length+1<=sizeLine:=by rw[<-rr.len];exact hl
 refine wpAny_setItem_heap (knd:=jw X.prog X.w) (hsz:=z2) (show X.A.units+1+4<cLine by lia) (qR I3 rk rfl) dd λh' dd' hs'=>⟨Z,_,?_,q3 r rv⟩;obtain⟨q,es,ep,hq,h2,h3,h4,_,h5⟩:=dd';exact zj9 I3 (by rw[ea];exact True.intro) hs' ⟨q,hq⟩ ⟨⟨z1,kW zeS uR,q,es,ep,hq,h2,h3,h4,h5⟩,⟨q,hq⟩,λh1 h2 ⟨a1,a2,o,es,ep,a3,a4⟩ kp=>⟨a1,a2,o,es,ep,kp o a3,a4⟩⟩
theorem znG:PE X (.Dict [] [] pos) (λ_ H Q=>∀p,H p=none->Q (.ref p) (upd H p (sY p []))):=λao s Z H Q I h=>
 wpAny_Dict_empty ⟨.ref s.heap.objs.size,_,I.laid (a:=s.heap.objs.size) (o:=sY s.heap.objs.size []) (t':=s.toks) (λ_ _ q=>cQ _ q) (bU _)
  ⟨⟨w6.mpr (Ne.symm (dU I.big)),vq _,_,#[],0,fu _ rfl,⟨rfl,rfl,rfl⟩,rfl,rfl,Cy⟩,⟨_,fu _ rfl⟩,λh1 h2 ⟨a1,a2,o,es,ep,a3,a4⟩ kp=>⟨a1,a2,o,es,ep,kp o a3,a4⟩⟩,rfl,h _ (I.hok.fresh (bU _))⟩
end
section
variable {X:Cx}{cA:Cl}{aq:Nat->Nat->Bool}{aj:Bool}{F:Fn}{EX:XS}{a b:Expr}{A B:E}{pos p:Pos}{K:W.Frag}{U:Ph}{H:Hp}{s:S}
theorem S7{β:Type}{x:Xv}{v:V}{k:List Kx->M β}{P:β->S->Ph->Hp->Prop}{Ee:Nat->List D->S->Ph->Hp->Prop}(r:aW K cA U H x v)(h:Run K cA (M.bd (key x) k) U H s P Ee):∃kx,Rep K cA U H (iU kx) v/\Run K cA (k kx) U H s P Ee:=by
 cases r with
 |l _=>exact h.elim
 |@d y _ r=>
  obtain⟨kx,e,h2⟩:=Ma (o:=kOf y) h;rw[zmI e] at r;exact⟨kx,r,h2⟩
theorem S8{β:Type}{x:Xv}{v:V}{k:Nat×gY->M β}{P:β->S->Ph->Hp->Prop}{Ee:Nat->List D->S->Ph->Hp->Prop}(hS:aH K cA U H s)(r:aW K cA U H x v)(h:Run K cA (M.bd (fK x) k) U H s P Ee) :
  ∃n ad kvs xs,x=.l n/\v=.ref ad/\s[n]?=some (.dct kvs)/\U.l[n]?=some ad/\H ad=some (sY ad xs)/\je K cA U H kvs xs/\Run K cA (k (n,kvs)) U H s P Ee:=by
 cases r with
 |d _=>exact h.elim
 |@l n ad hl=>
  unfold Run M.bd fK at h;dsimp only at h;cases e:s[n]? with
  |none=>rw[e] at h;exact h.elim
  |some o=>
   rw[e] at h;cases o with
   |dct kvs=>
    obtain⟨xs,q1,q2⟩:=hS.obj n _ _ e hl;exact⟨n,ad,kvs,xs,rfl,rfl,e,hl,q1,q2,h⟩
   |_=>exact h.elim
theorem ZF{k:Nat}(hr:bD k X.A)(ha:JE X cA aq aj F EX a A)(hb:JE X cA aq aj F EX b B)(hs:Bl b:=by exact λ_ _=>rfl):JE X cA aq aj F EX (.Subscript a b pos) (.kh A B):=⟨PE.weak (znF (cA:=cA) (by have:=hr.un;lia) ha.o hb.o hs) λZ H Q hh=>un hh λU J s hL hS h=>by
 refine aV hL hS h λx H1 U1 d1 s1 x1 hL1 aK r1 h1=>aV hL1 aK h1 λy H2 U2 d2 s2 x2 hL2 aP r2 h2=>?_;obtain⟨kx,rk,h3⟩:=S7 r2 h2;obtain⟨n,ad,kvs,xs,_,rfl,e1,e2,e3,rr,h4⟩:=S8 aP (r1.mono x2 aK.lz) h3;have h4:Run X.K cA (M.opt ((bO kx kvs).map Xv.d)) U2 H2 s2 (λd _ U' H'=>∀v,aW X.K cA U' H' d v->Q v H') (eX X.K cA EX Z):=h4;cases e:bO kx kvs with
 |none=>rw[e] at h4;exact h4.elim
 |some d=>
  rw[e] at h4;exact⟨ad,U2,kvs,xs,kx,d,rfl,e3,rr,rk,e,λv rv=>h4.bG aP v (.d rv)⟩⟩
theorem zj0{b':Bool}{Z:L2.St}{Q:VK}(f:Bool->Bool)(hf:∀c,f c=(c==b'))(hh:tE X.K cA EX (ev aq aj F (.vR b' A B)) Z H Q):ZD X.K cA f (tE X.K cA EX (ev aq aj F A)) (tE X.K cA EX (ev aq aj F B)) Z H Q:=un hh λU J s hL hS h=>by
 refine aV hL hS h λx H1 U1 d1 s1 x1 hL1 aK r1 h1=>aV hL1 aK h1 λy H2 U2 d2 s2 x2 hL2 aP r2 h2=>?_;obtain⟨kx,rk,h3⟩:=S7 (r1.mono x2 aK.lz) h2;obtain⟨n,ad,kvs,xs,_,rfl,e1,e2,e3,rr,h4⟩:=S8 aP r2 h3;refine⟨ad,U2,kvs,xs,kx,rfl,e3,rr,rk,?_⟩;rw[hf];exact h4.bG aP _ (.d (.bl _))
theorem ZG{m:Vs->M Xv}{Z:L2.St}{Q:Bool->Hp->Prop}(hh:uP K cA EX (λJ=>M.bd (m J) bool) Z H Q):tE K cA EX m Z H λx H1=>∃c,x=.bl c/\Q c H1:=un hh λU J s hL hS h=>
 ⟨U,J,s,hL,hS,h.bd.imp λd s1 U1 H1 ⟨_,r1,h1⟩ v rv=>zhD r1 rv h1⟩
theorem ZJ{k:Nat}(hr:bD k X.A)(ha:JE X cA aq aj F EX a A)(hb:JE X cA aq aj F EX b B)(h1:nU b=true:=by rfl):JT X cA aq aj F EX (.Compare a [.NotIn] [b] pos) (.vR false A B):=⟨PT.weak (PB (zkW (cA:=cA) (by have:=hr.un;lia) ha.o hb.o) (wC h1)) λZ H Q hh=>zj0 not (λc=>by cases c<;>rfl) (ZG hh)⟩
theorem ZK:JE X cA aq aj F EX (.Dict [] [] pos) .nG:=⟨PE.weak znG λZ H Q hh=>un hh λU J s hL hS h p hp=>
 h (U.add p) _ (Ext.add hp) (hS.Ig hp ⟨[],jO,.nil⟩) _ (.l (by show (U.l++[p])[s.length]?=_;rw[<-hS.len];simp))⟩
end
section
variable {X:Cx}{cA:Cl}{aq:Nat->Nat->Bool}{aj:Bool}{F:Bool->Fn}{EX:XS}{a oo ii:Expr}{A O I':E}{pos p:Pos}
theorem ZL{k:Nat}(hr:bD k X.A)(hO:JE X cA aq aj (F aj) EX oo O)(hI:JE X cA aq aj (F aj) EX ii I')(ha:JE X cA aq aj (F aj) EX a A)(hs:swapsWith a (some (.Subscript oo ii p)) pos.line X.env=pure false:=by rfl) :
  JS X cA aq aj F EX (.Assign [.Subscript oo ii p] a pos) (.dput O I' A):=⟨PS.weak (znf (cA:=cA) (by have:=hr.un;lia) hO.o hI.o ha.o hs) λD Z H hh=>un hh λU J s hL hS h=>by
 refine aV hL hS (aR.ofM hL hS.lz h) λz H1 U1 d1 s1 x1 hL1 aK r1 h1=>?_;obtain⟨w,_,j8,h2⟩:=Mf r1 h1;refine aV hL1 aK h2 λx H2 U2 d2 s2 x2 hL2 aP r2 h3=>aV hL2 aP h3 λy H3 U3 d3 s3 x3 vZ jT r3 h4=>?_;obtain⟨kx,rk,h5⟩:=S7 r3 h4;obtain⟨n,ad,kvs,xs,_,rfl,e1,e2,e3,rr,h6⟩:=S8 jT (r2.mono x3 aP.lz) h5;obtain⟨b,rfl⟩:=zdt (X:=X) (d:=.non) rk;have ZM:=(j8.mono x2 aK.lz).mono x3 aP.lz;by_cases hz:kvs.length<sizeLine
 ·refine⟨ad,b,U3,kvs,xs,kx,w,rfl,e3,rr,rfl,rk,ZM,hz,λu ru=>?_⟩;have h6:Run X.K cA (if kvs.length<sizeLine then putD n (iQ kx w kvs) else M.no) U3 H3 s3 _ _:=h6;rw[if_pos hz] at h6;have x4:Ext U3 H3 U3 (upd H3 ad (sY ad (storedH xs kx b u))):=Ext.write e2 ⟨_,e3⟩;have rS:=jT.sZ (so:=.dct (iQ kx w kvs)) (ho:=sY ad (storedH xs kx b u)) (cI.mp e1).1 e2 ⟨_,jO,(rr.put rk ru ZM).map λ_ _ r=>r.mono x4 jT.lz⟩;obtain⟨x5,r5,h7⟩:=h6 U3 _ x4 rS;exact h7 U3 _ Z Ext.refl rS (vZ.mono x4 jT.lz)
 ·have h6:Run X.K cA (if kvs.length<sizeLine then putD n (iQ kx w kvs) else M.no) U3 H3 s3 _ _:=h6;rw[if_neg hz] at h6;exact h6.elim⟩
end
end Mi
namespace Mi
open PySem PySem.Spec PyProof.Rows L2 PySem.W
theorem zlU{fd:FuncData}{x:Str}{st:Stmt}(h:m5 fd=uJ x st):fd=fnOf x x (aO st) (aL st) (au st) .none fd.kwdefaults fd.doc fd.pyModule fd.annotations fd.code fd.closureTuple:=by
 cases fd;unfold m5 uJ at h;cases h;rfl
noncomputable def g_(K:Frag)(x:Str):Addr:=match zL K x with
 |some p=>p.1
 |none=>0
noncomputable def fdOf(K:Frag)(x:Str)(st:Stmt):FuncData:=match zL K x with
 |some p=>p.2
 |none=>uJ x st
structure FnAt(K:Frag)(x:Str)(st:Stmt):Prop where
 ns:nsIn K mainGlobals x=some (some (.ref (g_ K x)))
 fn:nQ K x x st (g_ K x) (fdOf K x st)
theorem zn7{K:Frag}{x:Str}{st:Stmt}(h:(zL K x).map (λp=>m5 p.2)=some (uJ x st)):FnAt K x st:=by
 cases e:zL K x with
 |none=>rw[e] at h;cases h
 |some p=>
  rw[e] at h;have hp:m5 p.2=uJ x st:=cW h;have h1:g_ K x=p.1:=by unfold g_;rw[e]
  have h2:fdOf K x st=p.2:=by unfold fdOf;rw[e]
  unfold zL at e;split at e
  ·rename_i f hf;split at e
   ·rename_i oc od fd sl hl;split at e
    ·rename_i hc;cases e;rw[gw] at hc;refine⟨by rw[h1];exact hf,?_⟩;rw[h1,h2];exact⟨⟨oc,od,_,_,_,_,_,_,sl,zlU hp,hl,hc.1⟩,hc.2⟩
    ·cases e
   ·cases e
  ·cases e
theorem FnAt.m{K:Frag}{x:Str}{st:Stmt}(F:FnAt K x st){h:Heap}{mg:Str->Option Value}(X:K.In h)(G:h.Ns mainGlobals mg):mg x=some (.ref (g_ K x)):=mg_of X G F.ns
theorem zn9{K:Frag}{x:Str}(h:rZ K x=true){hp:Heap}{mg:Str->Option Value}(X:K.In hp)(G:hp.Ns mainGlobals mg):mg x=some (.ref (dN K x)):=by
 refine mg_of X G ?_;unfold rZ at h;unfold dN;split at h
 ·rename_i C e;rw[e]
 ·cases h
theorem ZP{K:Frag}{x:Str}{i:Int}(h:lJ K (x,i)=true){hp:Heap}{mg:Str->Option Value}(X:K.In hp)(G:hp.Ns mainGlobals mg):∃t,mg x=some (.int i t):=by
 unfold lJ at h;split at h
 ·rename_i j t e;rw[Ep] at h;subst h;exact⟨t,mg_of X G e⟩
 ·cases h
theorem ZQ{K:Frag}{x y:Str}(h:lK K (x,y)=true){hp:Heap}{mg:Str->Option Value}(X:K.In hp)(G:hp.Ns mainGlobals mg):∃t,mg x=some (.str y t):=by
 unfold lK at h;split at h
 ·rename_i j t e;rw[Ep] at h;subst h;exact⟨t,mg_of X G e⟩
 ·cases h
theorem oH{K:Frag}{x:Str}(h:pJ K x=true){hp:Heap}{mg:Str->Option Value}(X:K.In hp)(G:hp.Ns mainGlobals mg):mg x=none:=by
 refine mg_none_of X G ?_;unfold pJ at h;split at h
 ·rename_i e;exact e
 ·cases h
structure yL(l:Lk)(K:Frag):Prop where
 cl:∀x∈l.Fw,rZ K x=true
 cs:l.Fw.isEmpty=true\/xO K (l.L K)=true
 ra:∀k∈l.Wt,Fq K (iH (l.L K) k)=true
 ca:∀k∈l.Wu,subB K (l.L K) k=true
 it:∀p∈l.xP,lJ K p=true
 no:∀x∈l.Ws,pJ K x=true
 st:∀p∈l.Wv,lK K p=true
theorem Kab{l:Lk}{K:Frag}(h:l.good K=true):yL l K:=by
 unfold Lk.good at h;simp only[gw,Bool.or_eq_true,fC] at h;obtain⟨⟨⟨⟨⟨⟨h1,h2⟩,h3⟩,h4⟩,h5⟩,h6⟩,h7⟩:=h;exact⟨h1,h2,h3,h4,h5,h6,h7⟩
theorem wI{K:Frag}{x:Str}{st:Stmt}{f:Addr}{fd:FuncData}{p:Str}(F:nQ K x x st f fd)(h:∀(kV doc pm:Value) (an:Option Addr) (cdv ct a:Value),bindArgs (fnOf x x (aO st) (aL st) (au st) .none kV doc pm an cdv ct) ⟨[a],[]⟩=pure [(p,a)]):Binds K fd [p] []:=by
 obtain⟨oc,od,kV,doc,pm,an,cdv,ct,osl,rfl,lk,jP⟩:=F.ex;exact Bp (h kV doc pm an cdv ct)
theorem wJ{K:Frag}{x:Str}{st:Stmt}{f:Addr}{fd:FuncData}{p q:Str}(F:nQ K x x st f fd)(h:∀(kV doc pm:Value) (an:Option Addr) (cdv ct a b:Value),bindArgs (fnOf x x (aO st) (aL st) (au st) .none kV doc pm an cdv ct) ⟨[a,b],[]⟩=pure [(p,a),(q,b)]):Binds K fd [p,q] []:=by
 obtain⟨oc,od,kV,doc,pm,an,cdv,ct,osl,rfl,lk,jP⟩:=F.ex;exact tU (h kV doc pm an cdv ct)
theorem wK{K:Frag}{x:Str}{st:Stmt}{f:Addr}{fd:FuncData}{p q t:Str}(F:nQ K x x st f fd)(h:∀(kV doc pm:Value) (an:Option Addr) (cdv ct a b c:Value),bindArgs (fnOf x x (aO st) (aL st) (au st) .none kV doc pm an cdv ct) ⟨[a,b,c],[]⟩=pure [(p,a),(q,b),(t,c)]):Binds K fd [p,q,t] []:=by
 obtain⟨oc,od,kV,doc,pm,an,cdv,ct,osl,rfl,lk,jP⟩:=F.ex;exact tV (h kV doc pm an cdv ct)
theorem wL{K:Frag}{x:Str}{st:Stmt}{f:Addr}{fd:FuncData}{p q t u:Str}(F:nQ K x x st f fd)(h:∀(kV doc pm:Value) (an:Option Addr) (cdv ct a b c d:Value),bindArgs (fnOf x x (aO st) (aL st) (au st) .none kV doc pm an cdv ct) ⟨[a,b,c,d],[]⟩=pure [(p,a),(q,b),(t,c),(u,d)]):Binds K fd [p,q,t,u] []:=by
 obtain⟨oc,od,kV,doc,pm,an,cdv,ct,osl,rfl,lk,jP⟩:=F.ex;exact tW (h kV doc pm an cdv ct)
theorem Bv{K:Frag}{x:Str}{st:Stmt}{f:Addr}{fd:FuncData}{p:Str}(F:nQ K x x st f fd)(h:∀(kV doc pm:Value) (an:Option Addr) (cdv ct a:Value),bindArgs (fnOf x x (aO st) (aL st) (au st) .none kV doc pm an cdv ct) ⟨[a],[]⟩=pure [(p,a)]):∀(s:Shared) (u:Value),BindsTo s fd ⟨[u],[]⟩ [(p,u)]:=by
 obtain⟨oc,od,kV,doc,pm,an,cdv,ct,osl,rfl,lk,jP⟩:=F.ex;exact λs u=>.of_eq (h kV doc pm an cdv ct u)
end Mi
namespace Mi
open PySem PySem.Spec PyProof.Rows L2
section
variable {K:W.Frag}{cA:Cl}{U:Ph}{H:Hp}
theorem aC.Je(r:aC K cA U H xs ys):∀l:List Nat,aC K cA U H (l.map λi=>xs.getD i .non) (l.map λi=>ys.getD i .non)
 |[]=>.nil
 |i::l=>by
  refine .cons ?_ (aC.Je r l);show Rep K cA U H (xs.getD i .non) (ys.getD i .non);cases e:xs[i]? with
  |some x=>
   obtain⟨u,e1,e2⟩:=r.get e;rw[jW,jW,e,e1];exact e2
  |none=>
   have e1:ys[i]?=Option.none:=r.none e;rw[jW,jW,e,e1];exact .non
theorem aC.mem(r:aC K cA U H xs ys):∀v∈ys,∃d∈xs,Rep K cA U H d v:=by
 intro v hv;obtain⟨i,hi,e⟩:=xq hv;have e':ys[i]?=some v:=by rw[cP hi,e]
 cases ex:xs[i]? with
 |none=>rw[r.none ex] at e';cases e'
 |some d=>
  obtain⟨u,e1,e2⟩:=r.get ex;rw[e1] at e';cases e';exact⟨d,dM ex,e2⟩
theorem ZR:∀{us ws:List D} {xs ys:List V},aC K cA U H us xs->aC K cA U H ws ys->∀{b:Bool},qN us ws=some b->j9 xs ys=some b
 |[],ws,_,ys,r1,r2,b,h=>by
  cases r1;unfold qN at h;unfold j9;rw[<-r2.len];exact h
 |_::_,[],_,_,r1,r2,b,h=>by
  cases r2;cases r1;unfold qN at h;unfold j9;exact h
 |x::us,y::ws,_,_,r1,r2,b,h=>by
  cases r1 with
  |cons a1 b1=>
   cases r2 with
   |cons a2 b2=>
    unfold qN at h;split at h
    ·rename_i z;cases z
    ·rename_i z;cases z
    ·rename_i p ps q qs e1 e2;cases e1;cases e2;cases a1;cases a2;unfold j9;by_cases e:p=q
     ·rw[if_pos e] at h ⊢;exact ZR b1 b2 h
     ·rw[if_neg e] at h ⊢;exact h
    ·cases h
theorem zhg(r:aC K cA U H xs ys)(h:(xs.all jL||xs.all iM)=true):sV K H ys (yh xs):=by
 rw[Bool.or_eq_true] at h;rcases h with h|h
 ·left
  rw[fC] at h;refine⟨λv hv=>?_,λi j b e=>?_⟩
  ·obtain⟨d,hd,q⟩:=r.mem v hv;have:=h d hd;cases q<;>first|exact⟨_,rfl⟩|cases this
  ·unfold yh at e;cases e1:xs[i]? with
   |none=>rw[e1] at e;cases e
   |some d1=>
    cases e2:xs[j]? with
    |none=>rw[e1,e2] at e;cases d1<;>cases e
    |some d2=>
     have h1:=h d1 (dM e1);have h2:=h d2 (dM e2);rw[e1,e2] at e;obtain⟨v1,a1,b1⟩:=r.get e1;obtain⟨v2,a2,b2⟩:=r.get e2;cases d1<;>first|cases h1|skip
     cases d2<;>first|cases h2|skip
     cases b1;cases b2;cases e;exact⟨_,_,a1,a2,rfl⟩
 ·right
  rw[fC] at h;refine⟨λv hv=>?_,λi j b e=>?_⟩
  ·obtain⟨d,hd,q⟩:=r.mem v hv;have:=h d hd;unfold iM at this;split at this
   ·cases q with
    |tup t r'=>
     cases r' with
     |cons a1 b1=>
      cases a1;exact⟨_,_,_,rfl,t.iV⟩
   ·cases this
  ·unfold yh at e;cases e1:xs[i]? with
   |none=>rw[e1] at e;cases e
   |some d1=>
    cases e2:xs[j]? with
    |none=>rw[e1,e2] at e;cases d1<;>cases e
    |some d2=>
     have h1:=h d1 (dM e1);have h2:=h d2 (dM e2);rw[e1,e2] at e;obtain⟨v1,a1,b1⟩:=r.get e1;obtain⟨v2,a2,b2⟩:=r.get e2;unfold iM at h1 h2;split at h1
     ·split at h2
      ·cases b1 with
       |tup t1 r1=>
        cases b2 with
        |tup t2 r2=>exact⟨_,_,_,_,a1,a2,t1.iV,t2.iV,ZR r1 r2 e⟩
      ·cases h2
     ·cases h1
theorem zgo:aZ K cA .sorted (λxs H Q=>∃l ys lt p,xs=[.ref l]/\cR K H l ys/\ys.length<64/\(2<=ys.length->sV K H ys lt/\bN lt (PySem.W.kas_sort ys.length)=some p/\p.size=ys.length)/\∀r,H r=none->Q (.ref r) (upd H r (.lst (j_ ys p)))):=by
 intro U H ds vs Q zt rs o;have o:bF K cA U H (mF ds) Q:=o;unfold mF at o;split at o
 ·rename_i xs _;obtain⟨v,rfl,r1⟩:=rs.one;obtain⟨z,e⟩:=o.some';obtain⟨zs,e1,e2⟩:=iZ.mp e;subst e2;obtain⟨a,us,rfl,sq,q⟩ : ∃a us,v=.ref a/\cR K H a us/\aC K cA U H xs us:=r1;have hl:=q.len;unfold yj at e1;by_cases hk:(xs.all jL||xs.all iM)=true
  ·rw[if_pos hk] at e1;unfold pY at e1;by_cases h2:xs.length<2
   ·rw[if_pos h2] at e1;cases e1;refine⟨a,us,λ_ _=>none,#[],rfl,sq,by lia,λz=>absurd z gV,λr hr=>?_⟩;have:j_ us #[]=us:=by unfold j_;rw[if_pos gV]
    rw[this];exact(o.of e) r us hr q
   ·rw[if_neg h2] at e1;by_cases sU:xs.length<64
    ·rw[if_pos sU] at e1;cases ek:bN (yh xs) (PySem.W.kas_sort xs.length) with
     |none=>rw[ek] at e1;cases e1
     |some p=>
      rw[ek] at e1;dsimp only at e1;by_cases hp:p.size=xs.length
      ·rw[if_pos hp] at e1;cases e1;refine⟨a,us,yh xs,p,rfl,sq,by lia,λ_=>⟨zhg q hk,by rw[<-hl];exact ek,by lia⟩,λr hr=>?_⟩;have:j_ us p=p.toList.map λi=>us.getD i .non:=by unfold j_;rw[if_neg gV]
       rw[this];exact(o.of e) r _ hr (q.Je p.toList)
      ·rw[if_neg hp] at e1;cases e1
    ·rw[if_neg sU] at e1;cases e1
  ·rw[if_neg hk] at e1;cases e1
 ·exact o.elim
end
section
variable {X:Cx}{cA:Cl}{aq:Nat->Nat->Bool}{aj:Bool}{F:Fn}{EX:XS}{e:Expr}{pos p:Pos}{es:List Expr}{Xs:Es}{fz:Bool}
theorem zdD:bootBuiltins "sorted"=some (.builtin "sorted"):=by decide +kernel
theorem zhL(hm:X.mg "sorted"=none)(hg:JK X "sorted" .globalImplicit)(ha:JA X cA aq aj F EX (e::es) Xs)(he:aF e=true:=by rfl)(hpl:es.all aF=true:=by rfl):JE X cA aq aj F EX (.Call (.Name "sorted" p) (e::es) [] pos) (.pr fz .sorted Xs):=⟨yw zdJ zgo hg.o hm zdD ha.o J0 J0 (bA he) (aY hpl)⟩
end
section
variable {K:W.Frag}{cA:Cl}{U:Ph}{H:Hp}
theorem Mz:∀{xs:List D} {k i:Nat},(enumFrom k xs)[i]?=(xs[i]?).map λd=>.tup [.int ((k+i:Nat):Int),d]
 |[],k,i=>by simp[enumFrom]
 |x::r,k,0=>by simp[enumFrom]
 |x::r,k,i+1=>by
  unfold enumFrom;rw[Cg,Cg,Mz]
  congr 1
  funext d
  rw[show k+1+i=k+(i+1) by lia]
noncomputable def qX(K:W.Frag)(U:Ph)(H:Hp):Bool->Addr->List V->Prop
 |true,a,vs=>LstAt K U H a vs
 |false,a,vs=>TupAt K U H a vs
theorem qX.sk{kd:Bool}{a:Addr}{vs:List V}(h:qX K U H kd a vs):Sk kd K H a vs:=by
 cases kd
 ·exact TupAt.iV h
 ·exact LstAt.rF h
theorem qX.later{U':Ph}{H₁ H':Hp}{kd:Bool}{a:Addr}{vs:List V}(hz:∀a∈U.l,U.z a)(h:qX K U H kd a vs)(x:Ext U H U' H₁)(o:dj U' H₁ H'):qX K U' H' kd a vs:=by
 cases kd
 ·exact TupAt.later hz h x o
 ·exact LstAt.later hz h x o
theorem jx.enum{kd:Bool}{l:Addr}{xs:List D}{vs:List V}(hz:∀a∈U.l,U.z a)(h:qX K U H kd l vs)(r:aC K cA U H xs vs):jx K cA (.fix (enumFrom 0 xs)) U H (Ite K kd l):=by
 refine⟨λU' H₁ H' s' i x o hS e=>⟨vs,(h.later hz x o).sk,?_⟩,λU' H₁ H' s' i d x o hS e=>?_,λU' H₁ H' s' i d v H2 x o hS e y=>?_⟩
 ·have e:(enumFrom 0 xs)[i]?=none:=cW e;rw[Mz,Option.map_eq_none_iff] at e;exact oN.mp ((r.mono x hz).none e)
 ·have e:(enumFrom 0 xs)[i]?=some d:=cW e;rw[Mz] at e;obtain⟨d',e',_⟩:=iZ.mp e;obtain⟨v,q,_⟩:=r.get e';exact⟨vs,v,(h.later hz x o).sk,q⟩
 ·have e:(enumFrom 0 xs)[i]?=some d:=cW e;rw[Mz] at e;obtain⟨d',e',rfl⟩:=iZ.mp e;obtain⟨a,u,hn,rfl,rfl,hu⟩:=y;obtain⟨w,q,j8⟩:=((r.mono x hz).out o).get e';have:=hu vs (h.later hz x o).sk;rw[q] at this;cases this;have g:bC H' (upd H' a (.tup [.int i,u])):=bC.new hn;refine⟨g,?_⟩;rw[show ((0+i:Nat):Int)=(i:Int) by simp];exact .tup (.inl ⟨.inl jO,hS.nz hn⟩) (.cons (.int _) (.cons (j8.mono g.ext hS.lz) .nil))
theorem S9(h:(Src.lu n).at i s=some o):∃xs,s[n]?=some (.lst xs)/\(xs[i]?.map λx=>D.tup [.int i,x])=o:=by
 unfold Src.at at h;dsimp only at h;cases e:s[n]? with
 |none=>rw[e] at h;cases h
 |some ob=>
  rw[e] at h;cases ob with
  |lst xs=>exact⟨xs,rfl,cW h⟩
  |_=>cases h
theorem jx.lu{a:Addr}{n:Nat}(h:U.l[n]?=some a):jx K cA (.lu n) U H (Ite K true a):=by
 refine⟨λU' H₁ H' s' i x o hS e=>?_,λU' H₁ H' s' i d x o hS e=>?_,λU' H₁ H' s' i d v H2 x o hS e y=>?_⟩
 ·obtain⟨xs,e1,e2⟩:=S9 e;rw[Option.map_eq_none_iff] at e2;obtain⟨vs,q1,q2⟩:=hS.obj n _ a e1 (x.get h);exact⟨vs,cR.of q1,oN.mp (q2.none e2)⟩
 ·obtain⟨xs,e1,e2⟩:=S9 e;obtain⟨d',e',_⟩:=iZ.mp e2;obtain⟨vs,q1,q2⟩:=hS.obj n _ a e1 (x.get h);obtain⟨v,q3,_⟩:=q2.get e';exact⟨vs,v,cR.of q1,q3⟩
 ·obtain⟨xs,e1,e2⟩:=S9 e;obtain⟨d',e',rfl⟩:=iZ.mp e2;obtain⟨vs,q1,q2⟩:=hS.obj n _ a e1 (x.get h);obtain⟨w,q3,j8⟩:=q2.get e';obtain⟨b,u,hn,rfl,rfl,hu⟩:=y;have:=hu vs (cR.of q1);rw[q3] at this;cases this;have g:bC H' (upd H' b (.tup [.int i,w])):=bC.new hn;exact⟨g,.tup (.inl ⟨.inl jO,hS.nz hn⟩) (.cons (.int _) (.cons (j8.mono g.ext hS.lz) .nil))⟩
end
section
variable {X:Cx}{cA:Cl}{aq:Nat->Nat->Bool}{aj:Bool}{F:Fn}{EX:XS}{a b:Expr}{A B:E}{pos pp tpos:Pos}{elts:List Expr}{kk:Nat}
theorem zjP(pq:Gl X "enumerate")(hmg:X.mg "enumerate"=none)(hb:SE X cA aq aj F EX b B)(h2:starEach [b] X.env=(false,eval b X.env)::starEach [] X.env) :
  SI X cA aq aj F EX (.Tuple elts kk tpos) (.Call (.Name "enumerate" pp) [b] [] pos) (.enum B):=PI.weak (zjO pq hmg (uO hb Af h2) (by rw[h2];rfl)) λZ H R hh=>un hh λU J s hL hS h=>by
 refine aV hL hS h λy H2 U2 d2 s2 x2 hL2 aP r2 h2=>?_;cases r2 with
 |@l n ad hl=>
  unfold Run nJ at h2;dsimp only at h2;cases e:s2[n]? with
  |none=>rw[e] at h2;exact h2.elim
  |some o=>
   rw[e] at h2;cases o with
   |lst xs=>
    obtain⟨vs,q1,q2⟩:=aP.obj n _ _ e hl;exact⟨true,_,_,rfl,cR.of q1,h2 U2 H2 Ext.refl aP _ (jx.lu hl)⟩
   |_=>exact h2.elim
 |d r2=>
  cases r2 with
  |fl q r=>exact⟨true,_,_,rfl,q.rF,h2 U2 H2 Ext.refl aP _ (jx.enum (kd:=true) aP.lz q r)⟩
  |tup q r=>exact⟨false,_,_,rfl,q.iV,h2 U2 H2 Ext.refl aP _ (jx.enum (kd:=false) aP.lz q r)⟩
  |_=>exact h2.elim
theorem ZS:∀(ns:List Str) (vs:List V),((ns.zip vs).map (·.1)).Sublist ns
 |[],vs=>by simp
 |n::ns,[]=>by simp
 |n::ns,v::vs=>by
  rw[Em,jr];exact(ZS ns vs).cons₂ n
theorem zeD:∀{ns:List Str} {vs:List V} {i:Nat} {x:Str} {v:V},ns.Nodup->ns[i]?=some x->vs[i]?=some v->(ns.zip vs).lookup x=some v
 |ns,vs,i,x,v,hn,h1,h2=>by
  refine Yb ?_ (zi4 h1 h2);exact List.Sublist.nodup (ZS ns vs) hn
end
section
variable {X:Cx}{cA:Cl}{aq:Nat->Nat->Bool}{aj:Bool}{F:Fn}{EX:XS}{a b:Expr}{A B:E}{pos p tpos:Pos}{elts:List Expr}{kk:Nat}
theorem S_(hmg:X.mg "enumerate"=none)(pq:JK X "enumerate" .globalImplicit)(hb:JE X cA aq aj F EX b B)(h2:aF b=true:=by rfl):JI X cA aq aj F EX (.Tuple elts kk tpos) (.Call (.Name "enumerate" p) [b] [] pos) (.enum B):=⟨zjP pq.o hmg hb.o (bA h2)⟩
end
end Mi
namespace Mi
open PySem PySem.Spec PyProof.Rows L2 PySem.W
theorem zjA{fd:FuncData}{q:Str}{st:Stmt}(h:m5 fd=zM q st):fd=fnOf "__init__" q (aO st) (aL st) (au st) .none fd.kwdefaults fd.doc fd.pyModule fd.annotations fd.code fd.closureTuple:=by
 cases fd;unfold m5 zM at h;cases h;rfl
structure Jf(K:Frag)(C:Addr)(q:Str)(st:Stmt):Prop where
 ex:∃(fI:Addr) (od:Option Addr) (kV doc pm:Value) (an:Option Addr) (cdv ct:Value) (osl:Array (Option Value)) (cd:ClassData),
  K.lookup fI=some ⟨.type "function",od,.func (fnOf "__init__" q (aO st) (aL st) (au st) .none kV doc pm an cdv ct),osl⟩/\codeIn K cdv q=true/\rY K C fI=true/\clsIn K C=some cd/\rW cd.mro=true/\cd.hasDict=true
theorem zn6{K:Frag}{C:Addr}{q:Str}{st:Stmt}(h:(Fx K C).map m5=some (zM q st)):Jf K C q st:=by
 cases e:Fx K C with
 |none=>rw[e] at h;cases h
 |some fd=>
  rw[e] at h;have hp:m5 fd=zM q st:=cW h;unfold Fx at e;split at e
  ·rename_i cd jP;split at e
   ·rename_i f hf;split at e
    ·rename_i od fd' sl hl;split at e
     ·rename_i hc;cases e;simp only[gw] at hc;obtain⟨⟨⟨c1,c2⟩,c3⟩,c4⟩:=hc;have eq:=zjA hp;have qn:fd.qualname=q:=by rw[eq]
      refine⟨⟨f,od,fd.kwdefaults,fd.doc,fd.pyModule,fd.annotations,fd.code,fd.closureTuple,sl,cd,?_,by rw[<-qn];exact c1,c2,jP,c3,c4⟩⟩;rw[<-eq];exact hl
     ·cases e
    ·cases e
   ·cases e
  ·cases e
theorem znk{K:Frag}{C:Addr}{f:Str}(h:KQ K C f=true):XF K C f:=by
 unfold KQ at h;simp only[gw,pI] at h;obtain⟨⟨⟨⟨h1,h2⟩,h3⟩,h4⟩,h5⟩:=h;exact⟨h1,h2,h3,h4,h5⟩
structure nY(fs:List (Str×Stmt))(ms:List su)(xs:List (Nat×Str))(l:Lk)(K:Frag):Prop where
 fn:∀p∈fs,FnAt K p.1 p.2
 gd:yL l K
 mi:∀m∈ms,Jf K (iH (l.L K) m.c) m.q m.st
 se:∀m∈ms,setB K (iH (l.L K) m.c) m.fs=true
 xf:∀x∈xs,XF K (iH (l.L K) x.1) x.2
theorem Tc{a:Nat}{o:Obj}:∀{l:List Obj} {i:Nat},((a:Addr),o)∈Fy i l->i<=a/\l[a-i]?=some o/\o.isFreed=false
 |[],i,h=>by cases h
 |p::r,i,h=>by
  unfold Fy at h;split at h
  ·obtain⟨h1,h2,h3⟩:=Tc h;refine⟨by lia,?_,h3⟩;rw[show a-i=(a-(i+1))+1 by lia];exact h2
  ·rename_i hf;rcases iG.mp h with e|h
   ·cases e;exact⟨bU _,by simp,hf⟩
   ·obtain⟨h1,h2,h3⟩:=Tc h;refine⟨by lia,?_,h3⟩;rw[show a-i=(a-(i+1))+1 by lia];exact h2
theorem ZV:∀{K:Frag},K.lookup a=some o->(a,o)∈K
 |[],h=>by cases h
 |(b,p)::r,h=>by
  rw[oO] at h;by_cases e:a=b
  ·subst e;simp only[zA] at h;cases h;exact lG
  ·rw[show (a==b)=false by simpa using e] at h;exact iz _ (ZV h)
theorem zhb:(bK h).In h:=λa o e=>by
 have hm:=ZV e;unfold bK at hm;rcases kO.mp hm with z|z
 ·unfold pK at z;split at z
  ·rename_i p hp;rcases iG.mp z with e|z
   ·cases e;exact hp
   ·cases z
  ·cases z
 ·obtain⟨_,h2,h3⟩:=Tc (List.mem_reverse.mp z);rw[Heap.get?_some_iff];refine⟨?_,h3⟩;have:h.objs.toList[a]?=some o:=by simpa using h2
  simpa using this
end Mi
namespace Mi
open PySem PySem.Spec PyProof.Rows L2
section
variable {K:W.Frag}{cA:Cl}{U:Ph}{H:Hp}
noncomputable def jg(K:W.Frag)(U:Ph)(H:Hp):Bool->Addr->List V->Prop
 |true,a,vs=>LstAt K U H a vs
 |false,a,vs=>TupAt K U H a vs
theorem jg.sk{kd:Bool}{a:Addr}{vs:List V}(h:jg K U H kd a vs):Sk kd K H a vs:=by
 cases kd
 ·exact TupAt.iV h
 ·exact LstAt.rF h
theorem jg.later{kd:Bool}{a:Addr}{vs:List V}{U':Ph}{H₁ H':Hp}(hz:∀a∈U.l,U.z a)(h:jg K U H kd a vs)(x:Ext U H U' H₁)(o:dj U' H₁ H'):jg K U' H' kd a vs:=by
 cases kd
 ·exact TupAt.later hz h x o
 ·exact LstAt.later hz h x o
theorem Td{xs ys:List D}{i:Nat}:(List.zipWith (λp q=>D.tup [p,q]) xs ys)[i]?=match xs[i]?,ys[i]? with
  |some p,some q=>some (.tup [p,q])
  |_,_=>none:=by
 rw[List.getElem?_zipWith];cases xs[i]?<;>cases ys[i]?<;>rfl
theorem jx.zip{k1 k2:Bool}{l1 l2:Addr}{xs ys:List D}{us vs:List V}(hz:∀a∈U.l,U.z a)(h1:jg K U H k1 l1 us)(h2:jg K U H k2 l2 vs)(r1:aC K cA U H xs us)(r2:aC K cA U H ys vs):jx K cA (.fix (List.zipWith (λp q=>D.tup [p,q]) xs ys)) U H (Rh K k1 k2 l1 l2):=by
 refine⟨λU' H₁ H' s' i x o hS e=>?_,λU' H₁ H' s' i d x o hS e=>?_,λU' H₁ H' s' i d v H2 x o hS e y=>?_⟩
 ·have e:(List.zipWith (λp q=>D.tup [p,q]) xs ys)[i]?=none:=cW e;rw[Td] at e;refine⟨us,vs,(h1.later hz x o).sk,(h2.later hz x o).sk,?_⟩;cases ex:xs[i]? with
  |none=>exact .inl (oN.mp (r1.none ex))
  |some p=>
   cases ey:ys[i]? with
   |none=>exact .inr (oN.mp (r2.none ey))
   |some q=>rw[ex,ey] at e;cases e
 ·have e:(List.zipWith (λp q=>D.tup [p,q]) xs ys)[i]?=some d:=cW e;rw[Td] at e;cases ex:xs[i]? with
  |none=>rw[ex] at e;cases e
  |some p=>
   cases ey:ys[i]? with
   |none=>rw[ex,ey] at e;cases e
   |some q=>
    obtain⟨u,q1,_⟩:=r1.get ex;obtain⟨v,q2,_⟩:=r2.get ey;exact⟨us,vs,u,v,(h1.later hz x o).sk,(h2.later hz x o).sk,q1,q2⟩
 ·have e:(List.zipWith (λp q=>D.tup [p,q]) xs ys)[i]?=some d:=cW e;rw[Td] at e;cases ex:xs[i]? with
  |none=>rw[ex] at e;cases e
  |some p=>
   cases ey:ys[i]? with
   |none=>rw[ex,ey] at e;cases e
   |some q=>
    rw[ex,ey] at e;cases e;obtain⟨a,u,w,hn,rfl,rfl,hu,hw⟩:=y;obtain⟨u',q1,ru⟩:=((r1.mono x hz).out o).get ex;obtain⟨w',q2,j8⟩:=((r2.mono x hz).out o).get ey;have e1:=hu us (h1.later hz x o).sk;have e2:=hw vs (h2.later hz x o).sk;rw[q1] at e1;rw[q2] at e2;cases e1;cases e2;have g:bC H' (upd H' a (.tup [u,w])):=bC.new hn;exact⟨g,.tup (.inl ⟨.inl jO,hS.nz hn⟩) (.cons (ru.mono g.ext hS.lz) (.cons (j8.mono g.ext hS.lz) .nil))⟩
theorem ZW(r:aW K cA U H x v)(h:Run K cA (M.bd (o9 x) k) U H s P Ee) :
  ∃xs kd a vs,v=.ref a/\jg K U H kd a vs/\aC K cA U H xs vs/\Run K cA (k xs) U H s P Ee:=by
 cases r with
 |l _=>exact h.elim
 |d r=>
  cases r with
  |tup q r=>exact⟨_,false,_,_,rfl,q,r,h⟩
  |fl q r=>exact⟨_,true,_,_,rfl,q,r,h⟩
  |_=>exact h.elim
end
section
variable {X:Cx}{cA:Cl}{aq:Nat->Nat->Bool}{aj:Bool}{F:Fn}{EX:XS}{a b:Expr}{A B:E}{pos pp tpos:Pos}{elts:List Expr}{kk:Nat}
theorem zmM(pq:Gl X "zip")(hmg:X.mg "zip"=none)(ha:SE X cA aq aj F EX a A)(hb:SE X cA aq aj F EX b B)(h1:starEach [a,b] X.env=(false,eval a X.env)::starEach [b] X.env)(h2:starEach [b] X.env=(false,eval b X.env)::starEach [] X.env) :
  SI X cA aq aj F EX (.Tuple elts kk tpos) (.Call (.Name "zip" pp) [a,b] [] pos) (.zip A B):=PI.weak (zmH pq hmg (uO ha (uO hb Af h2) h1) (by rw[h1,h2];rfl) (by rw[h2];rfl)) λZ H R hh=>un hh λU J s hL hS h=>by
 refine aV hL hS h λx H1 U1 d1 s1 x1 hL1 aK r1 h1=>aV hL1 aK h1 λy H2 U2 d2 s2 x2 hL2 aP r2 h2=>?_;obtain⟨xs,k1,l1,us,e1,q1,p1,h3⟩:=ZW (r1.mono x2 aK.lz) h2;obtain⟨ys,k2,l2,vs,e2,q2,p2,h4⟩:=ZW r2 h3;subst e1 e2;exact⟨k1,k2,l1,l2,us,vs,rfl,q1.sk,q2.sk,(h4.bG aP) _ (jx.zip aP.lz q1 q2 p1 p2)⟩
theorem zm9(hmg:X.mg "zip"=none)(pq:JK X "zip" .globalImplicit)(ha:JE X cA aq aj F EX a A)(hb:JE X cA aq aj F EX b B)(h1:aF a=true:=by rfl)(h2:aF b=true:=by rfl):JI X cA aq aj F EX (.Tuple elts kk tpos) (.Call (.Name "zip" p) [a,b] [] pos) (.zip A B):=⟨zmM pq.o hmg ha.o hb.o (bA h1) (bA h2)⟩
end
noncomputable def DN(i:Int)(n:Nat):List V:=(List.range n).map λk=>.int (i+(k:Nat))
theorem zkl{i:Int}{acc:Array Value}:∀{n m:Nat},(∀k v,acc.toList[k]?=some (v:Value)->∃t,v=Value.int (i+((m+k:Nat):Int)) t)->acc.toList.length=n->Vals ((List.range n).map λk=>V.int (i+((m+k:Nat):Int))) acc.toList:=by
 generalize acc.toList=l
 induction l with
 |nil=>intro n m _ e;subst e;exact .nil
 |cons v l ih=>
  intro n m h e;subst e;rw[fX,Og,jr,zF];refine .cons (h 0 v rfl) ?_;have:=ih (n:=l.length) (m:=m+1) (λk v e=>by
   have:=h (k+1) v e;rw[show m+1+k=m+(k+1) by lia];exact this) rfl
  have e:((λk=>V.int (i+((m+k:Nat):Int)))∘Nat.succ)=λk=>V.int (i+((m+1+k:Nat):Int)):=by
   funext k
   show V.int (i+((m+(k+1):Nat):Int))=_;rw[show m+(k+1)=m+1+k by lia]
  rw[e];exact this
section
variable {K:W.Frag}{cA:Cl}{U:Ph}{H:Hp}
theorem ZX:∀l:List Nat,aC K cA U H (l.map λk=>D.int (i+(k:Nat))) (l.map λk=>V.int (i+(k:Nat)))
 |[]=>.nil
 |_::l=>.cons (.int _) (ZX l)
end
end Mi
namespace Mi
open PySem PySem.Spec PyProof.Rows L2 PySem.W
structure D3(K:Frag)(mg:Str->Option Value)(x:Str)(st:Stmt)(ps:List Str):Prop where
 f:nQ K x x st (g_ K x) (fdOf K x st)
 m:mg x=some (.ref (g_ K x))
 b:Binds K (fdOf K x st) ps []
theorem dk{p:Prop}(h:p:=by decide +kernel):p:=h
section
variable {fs:List (Str×Stmt)}{ms:List su}{xs:List (Nat×Str)}{lk:Lk}{K:Frag}{h:Heap}{mg:Str->Option Value}{x:Str}{st:Stmt}
theorem u5(S:nY fs ms xs lk K)(X:K.In h)(G:h.Ns mainGlobals mg)(j:Nat)(hj:fs[j]?=some (x,st):=by rfl)(hb:∀(kV doc pm:Value) (an:Option Addr) (cdv ct a:Value),bindArgs (fnOf x x (aO st) (aL st) (au st) .none kV doc pm an cdv ct) ⟨[a],[]⟩=pure [(p,a)]:=by intros;rfl):D3 K mg x st [p]:=have F:=S.fn (x,st) (dM hj);⟨F.fn,F.m X G,wI F.fn hb⟩
theorem u6(S:nY fs ms xs lk K)(X:K.In h)(G:h.Ns mainGlobals mg)(j:Nat)(hj:fs[j]?=some (x,st):=by rfl)(hb:∀(kV doc pm:Value) (an:Option Addr) (cdv ct a b:Value),bindArgs (fnOf x x (aO st) (aL st) (au st) .none kV doc pm an cdv ct) ⟨[a,b],[]⟩=pure [(p,a),(q,b)]:=by intros;rfl):D3 K mg x st [p,q]:=have F:=S.fn (x,st) (dM hj);⟨F.fn,F.m X G,wJ F.fn hb⟩
theorem pA(S:nY fs ms xs lk K)(X:K.In h)(G:h.Ns mainGlobals mg)(j:Nat)(hj:fs[j]?=some (x,st):=by rfl)(hb:∀(kV doc pm:Value) (an:Option Addr) (cdv ct a b c:Value),bindArgs (fnOf x x (aO st) (aL st) (au st) .none kV doc pm an cdv ct) ⟨[a,b,c],[]⟩=pure [(p,a),(q,b),(t,c)]:=by intros;rfl):D3 K mg x st [p,q,t]:=have F:=S.fn (x,st) (dM hj);⟨F.fn,F.m X G,wK F.fn hb⟩
theorem Te(S:nY fs ms xs lk K)(X:K.In h)(G:h.Ns mainGlobals mg)(j:Nat)(hj:fs[j]?=some (x,st):=by rfl)(hb:∀(kV doc pm:Value) (an:Option Addr) (cdv ct a b c d:Value),bindArgs (fnOf x x (aO st) (aL st) (au st) .none kV doc pm an cdv ct) ⟨[a,b,c,d],[]⟩=pure [(p,a),(q,b),(t,c),(u,d)]:=by intros;rfl):D3 K mg x st [p,q,t,u]:=have F:=S.fn (x,st) (dM hj);⟨F.fn,F.m X G,wL F.fn hb⟩
theorem mG{α:Type}{l:List α}{a:α}(j:Nat)(h:l[j]?=some a:=by rfl):a∈l:=dM h
end
end Mi
namespace L2
open PySem PySem.Spec PyProof.Rows
section
variable {prog:Program}{w:World}{A:Around}{E:Value->Shared->Prop}{s:Shared}
theorem zfe(r:Addr)(x b:Int)(k t u v:Tok) :
  Meets (Builtin.«range.__contains__» ⟨[.ref r,.int x k],[]⟩) (λ_ R s=>s.heap.get? r=some {cls:=.type "range",dict:=none,data:=.fields #[.int 0 t,.int b u,.int 1 v],slots:=#[]} /\
   R (.ok (.ret (Value.bool (Builtin.Range.rangePlace? 0 b 1 x).isSome))) s):=
 .of_wp λprog w A R s h=>by
  obtain⟨hp,g,d,tk,os⟩:=s;obtain⟨hl,h⟩:=h
  wp_walk
  exact⟨_,rfl,h⟩
theorem zf4{x b:Int}:(Builtin.Range.rangePlace? 0 b 1 x).isSome=decide (0<=x/\x<b):=by
 unfold Builtin.Range.rangePlace?;by_cases h:0<=x/\x<b
 ·simp[h.1,h.2]
 ·by_cases h0:0<=x
  ·have:¬x<b:=λz=>h ⟨h0,z⟩;simp[this]
  ·simp[h0]
theorem zhV{r:Addr}{x b:Int}{k t u v:Tok}{Q:Value->Shared->Prop}(hr:IsRange s.heap r 0 b 1 t u v)
  (h:Q (.bool (decide (0<=x/\x<b))) s):wpAny (model prog w) A (call (.builtin "range.__contains__") [.ref r,.int x k]) Q E s:=by
 refine zK F.slot_range_contains ⟨_,hr,rfl⟩ F.entry_range_contains (F.args_range_contains_2 _ _) (zfe r x b k t u v) ⟨hr,?_⟩;rw[zf4];exact h
end
section
variable {X:Cx}{a b:Expr}{ta tb:TE}{pos pos' p':Pos}
def MF(X:Cx)(op:CmpOp)(r:R2):Prop:=
 ∀(ao:List (Addr×Obj)) (s:Shared) (Z:St) (H:Hp) (x y:V) (v u:Value) (Q:VK),Inv X ao Z H s->RelV x v->RelV y u->r x y H Q->
  wpAny (model X.prog X.w) X.A (call (.type "range") [u]) (λz s'=>wpAny (model X.prog X.w) X.A (compareOp op v z) (EP X ao Z Q) X.xe s') X.xe s
theorem zkY:MF X .NotIn (nj λi j=>.bl (!decide (0<=i/\i<j))):=by
 rintro ao s Z H x y v u Q I rx ry ⟨i,j,rfl,rfl,q⟩;obtain⟨t,rfl⟩:=rx;obtain⟨t',rfl⟩:=ry;refine call_range_1 (NotIn_slot (T:="range") ⟨_,IsRange.new ..,rfl⟩ F.slot_range_contains (zhV (IsRange.new ..) (rz ?_)));exact⟨.bl _,H,I.kept λb u q=>cQ _ q,rfl,q⟩
theorem zni{op:CmpOp}{r:R2}(ho:MF X op r)(hg:Gl X "range")(hm:X.mg "range"=none)(ha:PE X a ta)(hb:PE X b tb)(he:starEach [b] X.env=(false,eval b X.env)::starEach [] X.env)(hpl:(backTo pos' (starEach [] X.env)).any (·.1)=false)
  {ao:List (Addr×Obj)} {s:Shared} {Z:St} {H:Hp} {Q:VK} (I:Inv X ao Z H s) (h:Dh r ta tb Z H Q):wpAny (model X.prog X.w) X.A (eval a X.env) (λv s₁=>wpAny (model X.prog X.w) X.A (eval (.Call (.Name "range" p') [b] [] pos') X.env) (λu s₂=>wpAny (model X.prog X.w) X.A (compareOp op v u) (EP X ao Z Q) X.xe s₂) X.xe s₁) X.xe s:=by
 refine aX (ha ao s Z H _ I h) λv s1 hx=>dX hx λx H1 I1 r1 q1=>?_;refine zy (uN I1 hg hm boot_range ?_);refine wX ?_ he hpl;rw[he];show wpAny _ _ (spliced ((false,eval b X.env)::backTo pos' (starEach [] X.env))) _ _ s1;refine Calls.spliced_cons (aX (hb ao s1 Z H1 _ I1 q1) λu s2 hx=>dX hx λy H2 I2 r2 q2=>Calls.spliced_nil ?_);exact ho ao s2 Z H2 x y v u Q I2 r1 r2 q2
theorem zmt{op:CmpOp}{r:R2}(ho:MF X op r)(hg:Gl X "range")(hm:X.mg "range"=none)(ha:PE X a ta)(hb:PE X b tb)(he:starEach [b] X.env=(false,eval b X.env)::starEach [] X.env)(hpl:(backTo pos' (starEach [] X.env)).any (·.1)=false):PT X (.Compare a [op] [.Call (.Name "range" p') [b] [] pos'] pos) (xW (Dh r ta tb)):=by
 intro ao s Z H Q I h;refine Oh (aX (zni ho hg hm ha hb he hpl I h) λv s1 hx=>aX hx λu s2 hx=>aX hx λc s3 hx=>KZ hx λz H3 I3 r3 k e q3=>?_) (by cases op<;>rfl);subst e;cases r3;exact rz ⟨H3,I3,q3⟩
end
end L2
namespace Mi
open PySem PySem.Spec PyProof.Rows L2
theorem zmc{K:W.Frag}{cA:Cl}:aZ K cA .LR (r2 (nj λi j=>.bl (!decide (0<=i/\i<j)))):=Bk (f:=λi j=>.bl (!decide (0<=i/\i<j))) rfl λi j _ _=>.bl _
section
variable {X:Cx}{cA:Cl}{aq:Nat->Nat->Bool}{aj:Bool}{F:Fn}{EX:XS}{a b:Expr}{A B:E}{pos pos' p p':Pos}
theorem zmp{op:CmpOp}{r:R2}{p:Pr}(ho:MF X op r)(hp:aZ X.K cA p (r2 r))(hg:Gl X "range")(hm:X.mg "range"=none)(ha:SE X cA aq aj F EX a A)(hb:SE X cA aq aj F EX b B)(he:starEach [b] X.env=(false,eval b X.env)::starEach [] X.env)(hpl:(backTo pos' (starEach [] X.env)).any (·.1)=false):ST X cA aq aj F EX (.Compare a [op] [.Call (.Name "range" p') [b] [] pos'] pos) (.pr true p (.cons A (.cons B .nil))):=PT.weak (zmt ho hg hm ha hb he hpl) λZ H Q hh=>un hh λU J s hL hS h=>by
 have h:Run X.K cA (M.bd (M.bd (M.bd (ev aq aj F A J) λx=>M.bd (M.bd (ev aq aj F B J) λy=>M.bd (M.ret []) λz=>M.ret (y::z)) λys=>M.ret (x::ys)) λvs=>M.bd (gb vs) λds=>bV true (prim p ds)) bool) U H s _ _:=h;simp only[jm] at h;refine aV hL hS h λx H1 U1 d1 s1 x1 hL1 aK r1 h1=>aV hL1 aK h1 λy H2 U2 d2 s2 x2 hL2 aP r2' h2=>?_;obtain⟨ds,rs,h3⟩:=rG aP (.cons (r1.mono x2 aK.lz) (.cons r2' .nil)) h2;refine Bj (hp U2 H2 ds _ _ aP.zs rs (qQ (Ee:=eX X.K cA EX Z) aP (h3.bd.imp λt s3 U3 H3 ⟨x3,jT,h4⟩ v rv=>?_)));cases rv with
 |l _=>exact h4.elim
 |d rv=>cases rv with
  |bl k=>exact⟨k,rfl,h4 U3 H3 Ext.refl jT⟩
  |_=>exact h4.elim
theorem znJ(hm:X.mg "range"=none)(hg:JK X "range" .globalImplicit)(ha:JE X cA aq aj F EX a A)(hb:JE X cA aq aj F EX b B)(he:aF b=true:=by rfl):JT X cA aq aj F EX (.Compare a [.NotIn] [.Call (.Name "range" p') [b] [] pos'] pos) (.pr true .LR (.cons A (.cons B .nil))):=⟨zmp zkY zmc hg.o hm ha.o hb.o (bA he) (aY rfl)⟩
end
end Mi
namespace Mi
open PySem
def W{α:Type}(m:M α)(s:S)(P:α->S->Prop):Prop:=∃a s',m s=some (.ok a,s')/\P a s'
def WS(m:MS)(s:S)(Q:Out->S->Prop):Prop:=∃o s',m s=some (o,s')/\Q o s'
section
variable {α β:Type}{m:M α}{k:α->M β}{s:S}{P:α->S->Prop}{R:β->S->Prop}
theorem W.bd(h:W m s λa s'=>W (k a) s' R):W (M.bd m k) s R:=by
 obtain⟨a,s',e,b,s2,e2,r⟩:=h;exact⟨b,s2,by unfold M.bd;rw[e];exact e2,r⟩
theorem W.ret{a:α}(h:P a s):W (M.ret a) s P:=⟨a,s,rfl,h⟩
theorem W.qt(h:W m s P):W (M.qt m) s P:=by
 obtain⟨a,s',e,p⟩:=h;exact⟨a,s',by unfold M.qt;rw[e],p⟩
theorem W.opt(e:o=some a)(h:P a s):W (M.opt o) s P:=by subst e;exact⟨a,s,rfl,h⟩
theorem W.imp{P':α->S->Prop}(h:W m s P)(f:∀a s',P a s'->P' a s'):W m s P':=let ⟨a,s',e,p⟩:=h;⟨a,s',e,f a s' p⟩
theorem W.eq(e:m s=some (.ok a,s'))(p:P a s'):W m s P:=⟨a,s',e,p⟩
theorem Ka7{d:D}{P:D->S->Prop}(h:P d s):W (rd (.d d)) s P:=⟨d,s,rfl,h⟩
theorem Z0{n:Nat}{xs:List D}{P:D->S->Prop}(e:s[n]?=some (.lst xs))(h:P (.fl xs) s):W (rd (.l n)) s P:=⟨.fl xs,s,by unfold rd;simp only[e],h⟩
theorem Kba{P:List D->S->Prop}(h:P [] s):W (gb []) s P:=⟨[],s,rfl,h⟩
theorem Ka9{x:Xv}{r:List Xv}{P:List D->S->Prop}(h:W (rd x) s λd s1=>W (gb r) s1 λds s2=>P (d::ds) s2):W (gb (x::r)) s P:=W.bd (h.imp λd s1 h1=>W.bd (h1.imp λds s2 h2=>W.ret h2))
theorem KaB{P:List D->S->Prop}(h:P [] s):W (cB []) s P:=⟨[],s,rfl,h⟩
theorem KaA{d:D}{r:List Xv}{P:List D->S->Prop}(h:W (cB r) s λds s2=>P (d::ds) s2):W (cB (.d d::r)) s P:=W.bd (W.ret (W.bd (h.imp λds s2 h2=>W.ret h2)))
theorem W.dat{x:D}{P:D->S->Prop}(h:P x s):W (dat (.d x)) s P:=⟨x,s,rfl,h⟩
theorem W.bool{b:Bool}{P:Bool->S->Prop}(h:P b s):W (bool (.d (.bl b))) s P:=⟨b,s,rfl,h⟩
theorem W.int{b:Int}{P:Int->S->Prop}(h:P b s):W (int (.d (.int b))) s P:=⟨b,s,rfl,h⟩
theorem cH{fz:Bool}{o:Option Rz}{d:D}{P:Xv->S->Prop}(e:o=some (.dat d))(h:P (.d d) s):W (bV fz o) s P:=by subst e;exact⟨_,s,rfl,h⟩
theorem MJ{o:Option Rz}{xs:List D}{P:Xv->S->Prop}(e:o=some (.nw xs))(h:P (.d (.fl xs)) s):W (bV true o) s P:=by subst e;exact⟨_,s,rfl,h⟩
theorem Z9{xs:List D}{P:Xv->S->Prop}(h:P (.d (.fl xs)) s):W (newL true xs) s P:=⟨_,s,rfl,h⟩
theorem Z_{xs:List D}{P:Xv->S->Prop}(h:P (.l s.length) (s++[.lst xs])):W (newL false xs) s P:=⟨_,_,rfl,h⟩
theorem oJ{F:List Xv->M Xv}{xs:List Xv}{P:Xv->S->Prop}(hl:locs xs=[])(h:W (F (cU 0 xs)) [] λv _=>∃d,v=.d d/\P (.d d) s):W (bR F xs) s P:=by
 obtain⟨v,s1,e,d,rfl,p⟩:=h;refine⟨.d d,s,?_,p⟩;unfold bR;rw[hl,if_pos Cy];simp only[iR,e,cV]
theorem Kap{F:List Xv->M Xv}{xs:List Xv}{P:Xv->S->Prop}(hl:locs xs=[])(h:W (F (cU 0 xs)) [] λv s1=>∃n o,v=.l n/\s1[n]?=some o/\P (.l s.length) (s++[o])):W (bR F xs) s P:=by
 obtain⟨v,s1,e,n,o,rfl,eo,p⟩:=h;refine⟨.l s.length,s++[o],?_,p⟩;unfold bR;rw[hl,if_pos Cy];simp only[iR,e,cV,List.getElem?_nil,eo]
theorem MK{F:List Xv->M Xv}{xs:List Xv}{n:Nat}{o:SO}{P:Xv->S->Prop}(hl:locs xs=[n])(ho:s[n]?=some o)(h:W (F (cU 0 xs)) [o] λv s1=>∃d o',v=.d d/\s1=[o']/\P (.d d) (s.set n o')):W (bR F xs) s P:=by
 obtain⟨v,s1,e,d,o',rfl,rfl,p⟩:=h;refine⟨.d d,s.set n o',?_,p⟩;unfold bR;rw[hl,if_pos Rb];simp only[iR,ho,e,cV]
end
section
variable {s:S}{Q:Out->S->Prop}
theorem WS.ofM(h:W m s λa s'=>WS (k a) s' Q):WS (Mi.ofM m J k) s Q:=by
 obtain⟨a,s',e,o,s2,e2,q⟩:=h;exact⟨o,s2,by unfold Mi.ofM;rw[e];exact e2,q⟩
theorem WS.nx(h:Q (.nx J) s):WS (λs=>some (.nx J,s)) s Q:=⟨_,s,rfl,h⟩
theorem WS.rt(h:Q (.rt x) s):WS (λs=>some (.rt x,s)) s Q:=⟨_,s,rfl,h⟩
end
theorem W.call(hT:T f=some d)(hl:xs.length=d.g8)
  (h:WS (exs aq aj (λc=>Mi.call aq T k c) d.body (xs.map some++List.replicate (d.many-d.g8) none)) s λo s'=>match o with|.nx _=>P (.d .non) s'|.rt v=>P v s'|_=>False):W (Mi.call aq T (k+1) aj f xs) s P:=by
 obtain⟨o,s',e,q⟩:=h;unfold Mi.call;simp only[hT,if_pos hl];unfold W;simp only[e];cases o with
 |nx J=>exact⟨_,_,rfl,q⟩
 |rt v=>exact⟨_,_,rfl,q⟩
 |bk J=>exact q.elim
 |ct J=>exact q.elim
 |er c fs J=>exact q.elim
theorem u9(I:Nat->Vs->S->Prop)(h0:I 0 J s)(hb:∀i x J s,c[i]?=some x->I i J s->WS (b x J) s λo s'=>∃J',o=.nx J'/\I (i+1) J' s')
  (he:∀J s,I c.length J s->Q (.nx J) s):WS (dJ (.fix c) b (c.length+1) 0 J) s Q:=by
 have key:∀n i J s,i+n=c.length->I i J s->WS (dJ (.fix c) b (n+1) i J) s Q:=by
  intro n
  induction n with
  |zero=>
   intro i J s hi hI;have e:c[i]?=none:=by rw[oN];lia
   have:i=c.length:=by lia
   subst this;refine⟨_,s,?_,he J s hI⟩;unfold dJ;simp only[Src.at,e]
  |succ n ih=>
   intro i J s hi hI;have dh:i<c.length:=by lia
   have e:c[i]?=some c[i]:=cP dh;obtain⟨o,s',eb,J',rfl,wM⟩:=hb i c[i] J s e hI;obtain⟨o2,s2,e2,q⟩:=ih (i+1) J' s' gV wM;refine⟨o2,s2,?_,q⟩;unfold dJ;simp only[Src.at,e,eb];exact e2
 exact key c.length 0 J s gV h0
theorem zoa{i j:Int}(h:(-(2^64)<i/\i<2^64)\/(-(2^64)<j/\j<2^64)):prim .mul [.int i,.int j]=some (.dat (.int (i*j))):=by
 show Option.map _ (if _ then _ else _)=_;rw[if_pos h];rfl
theorem znx{i j:Int}(h:0<j):prim .mod [.int i,.int j]=some (.dat (.int (i%j))):=by
 show Option.map _ (if _ then _ else _)=_;rw[if_pos h];rfl
theorem zlL{i j:Int}(h:0<j/\j<1073741824):prim .fdiv [.int i,.int j]=some (.dat (.int (i/j))):=by
 show Option.map _ (if _ then _ else _)=_;rw[if_pos h];rfl
theorem zg4{i j:Int}(h:0<j/\j<1073741824):prim .divmod [.int i,.int j]=some (.dat (.tup [.int (i/j),.int (i%j)])):=by
 show Option.map _ (if _ then _ else _)=_;rw[if_pos h];rfl
theorem znN{i j:Int}(h:0<=j/\j<=1000000/\i.natAbs<2^64):prim .pow [.int i,.int j]=some (.dat (.int (i^j.toNat))):=by
 show Option.map _ (if _ then _ else _)=_;rw[if_pos h];rfl
theorem Jg{xs:List D}{i:Nat}{x:D}(h:xs[i]?=some x):prim .ix [.fl xs,.int i]=some (.dat x):=by
 show Option.map Rz.dat (L2.nu xs i)=_;have:L2.nu xs (i:Int)=some x:=by
  unfold L2.nu L2.oE;have hl:i<xs.length:=(cI.mp h).1;simp[hl];exact(cI.mp h).2
 rw[this];rfl
theorem zhZ(h:xs.length+ys.length<=sizeLine):prim .add [.fl xs,.fl ys]=some (.nw (xs++ys)):=by
 show (if _ then _ else _)=_;rw[if_pos h]
theorem W.ite[Decidable c](h1:c->W m1 s P)(h2:¬c->W m2 s P):W (if c then m1 else m2) s P:=by
 by_cases h:c
 ·rw[if_pos h];exact h1 h
 ·rw[if_neg h];exact h2 h
theorem WS.ite[Decidable c](h1:c->WS m1 s P)(h2:¬c->WS m2 s P):WS (if c then m1 else m2) s P:=by
 by_cases h:c
 ·rw[if_pos h];exact h1 h
 ·rw[if_neg h];exact h2 h
theorem MN{n:Nat}{xs:List D}{s:S}{P:Unit->S->Prop}(h:P () (s.set n (.lst xs))):W (putL n xs) s P:=⟨_,_,rfl,h⟩
theorem W.cJ{n:Nat}{xs:List D}{s:S}{P:Nat×List D->S->Prop}(e:s[n]?=some (.lst xs))(h:P (n,xs) s):W (cJ (.l n)) s P:=⟨_,s,by unfold Mi.cJ;simp only[e],h⟩
theorem Kbc{xs:List D}{s:S}{P:Src×Nat->S->Prop}(h:P (.fix xs,xs.length) s):W (src (.d (.tup xs))) s P:=⟨_,s,rfl,h⟩
theorem Kbb{xs:List D}{s:S}{P:Src×Nat->S->Prop}(h:P (.fix xs,xs.length) s):W (src (.d (.fl xs))) s P:=⟨_,s,rfl,h⟩
theorem WS.nil{aq:Nat->Nat->Bool}{aj:Bool}{F:Bool->Fn}{J:Vs}{s:S}{Q:Out->S->Prop}(h:Q (.nx J) s):WS (exs aq aj F .nil J) s Q:=⟨_,s,rfl,h⟩
theorem WS.cons{aq:Nat->Nat->Bool}{aj:Bool}{F:Bool->Fn}{a:St}{r:bT}{J:Vs}{s:S}{Q:Out->S->Prop}(h:WS (ex aq aj F a J) s λo s'=>match o with|.nx J'=>WS (exs aq aj F r J') s' Q|.rt x=>Q (.rt x) s'|_=>False):WS (exs aq aj F (.cons a r) J) s Q:=by
 obtain⟨o,s',e,q⟩:=h;unfold WS exs Mi.cC;rw[e];cases o with
 |nx J'=>exact q
 |rt x=>exact⟨_,_,rfl,q⟩
 |bk _=>exact q.elim
 |ct _=>exact q.elim
 |er _ _ _=>exact q.elim
def qY{α:Type}(o:Option α)(P:α->Prop):Prop:=∃a,o=some a/\P a
theorem qY.mk{α:Type}{o:Option α}{P:α->Prop}{a:α}(e:o=some a)(h:P a):qY o P:=⟨a,e,h⟩
section
variable {aq:Nat->Nat->Bool}{aj:Bool}{F:Fn}{J:Vs}{s:S}{P:Xv->S->Prop}
theorem W.eC{d:D}(h:P (.d d) s):W (ev aq aj F (.c d) J) s P:=W.ret h
theorem W.eV{i:Nat}{x:Xv}(e:J[i]?.join=some x)(h:P x s):W (ev aq aj F (.v i) J) s P:=W.opt e h
theorem KaM{fz:Bool}{p:Pr}{xs:Es}(h:W (evs aq aj F xs J) s λvs s1=>W (gb vs) s1 λds s2=>W (bV fz (prim p ds)) s2 P):W (ev aq aj F (.pr fz p xs) J) s P:=W.bd (h.imp λ_ _ h=>W.bd h)
theorem KaD{a b:E}(h:W (ev aq aj F a J) s λx s1=>W (Mi.bool x) s1 λk s2=>W (if k=true then ev aq aj F b J else M.ret (.d (.bl false))) s2 P):W (ev aq aj F (.and a b) J) s P:=W.bd (h.imp λ_ _ h=>W.bd h)
theorem KaL{a b:E}(h:W (ev aq aj F a J) s λx s1=>W (Mi.bool x) s1 λk s2=>W (if k=true then M.ret (.d (.bl true)) else ev aq aj F b J) s2 P):W (ev aq aj F (.or a b) J) s P:=W.bd (h.imp λ_ _ h=>W.bd h)
theorem KaK{a:E}(h:W (ev aq aj F a J) s λx s1=>W (Mi.bool x) s1 λk s2=>P (.d (.bl (!k))) s2):W (ev aq aj F (.not a) J) s P:=W.bd (h.imp λ_ _ h=>W.bd (h.imp λ_ _ h=>W.ret h))
theorem KaO{xs:Es}(h:W (evs aq aj F xs J) s λvs s1=>W (cB vs) s1 λds s2=>P (.d (.tup ds)) s2):W (ev aq aj F (.tup xs) J) s P:=W.bd (h.imp λ_ _ h=>W.bd (h.imp λ_ _ h=>W.ret h))
theorem KaJ{fz:Bool}{xs:Es}(h:W (evs aq aj F xs J) s λvs s1=>W (cB vs) s1 λds s2=>W (newL fz ds) s2 P):W (ev aq aj F (.lst fz xs) J) s P:=W.bd (h.imp λ_ _ h=>W.bd h)
theorem KaG{k:Str}{i:Int}(h:P (.d (.fd [.str k] [.int i])) s):W (ev aq aj F (.Hw k i) J) s P:=W.ret h
theorem KaE{f:Nat}{xs:Es}(h:W (evs aq aj F xs J) s λvs s1=>W (bR (F f) vs) s1 P):W (ev aq aj F (.call f xs) J) s P:=W.bd h
theorem KaN{fz:Bool}{a:E}{lo hi:Eo}(h:W (ev aq aj F a J) s λx s1=>W (vW aq aj F lo J) s1 λl s2=>W (vW aq aj F hi J) s2 λu s3=>W (rd x) s3 λd s4=>W (bV fz (cutD d l u)) s4 P):W (ev aq aj F (.sl fz a lo hi) J) s P:=W.bd (h.imp λ_ _ h=>W.bd (h.imp λ_ _ h=>W.bd (h.imp λ_ _ h=>W.bd h)))
theorem KaY{P:Option Int->S->Prop}(h:P none s):W (vW aq aj F .no J) s P:=W.ret h
theorem KaZ{a:E}{P:Option Int->S->Prop}(h:W (ev aq aj F a J) s λx s1=>W (Mi.int x) s1 λi s2=>P (some i) s2):W (vW aq aj F (.yes a) J) s P:=W.bd (h.imp λ_ _ h=>W.bd (h.imp λ_ _ h=>W.ret h))
theorem Kal{P:List Xv->S->Prop}(h:P [] s):W (evs aq aj F .nil J) s P:=W.ret h
theorem Kak{a:E}{r:Es}{P:List Xv->S->Prop}(h:W (ev aq aj F a J) s λx s1=>W (evs aq aj F r J) s1 λxs s2=>P (x::xs) s2):W (evs aq aj F (.cons a r) J) s P:=W.bd (h.imp λ_ _ h=>W.bd (h.imp λ_ _ h=>W.ret h))
theorem KaT{a:E}{P:Src×Nat->S->Prop}(h:W (ev aq aj F a J) s λx s1=>W (src x) s1 P):W (mH aq aj F (.seq a) J) s P:=W.bd h
end
section
variable {aq:Nat->Nat->Bool}{aj:Bool}{F:Bool->Fn}{J:Vs}{s:S}{Q:Out->S->Prop}
theorem WS.Jh{b:Bool}{m1 m2:MS}(e:b=true)(h:WS m1 s Q):WS (if b=true then m1 else m2) s Q:=by rw[if_pos e];exact h
theorem WS.Ji{b:Bool}{m1 m2:MS}(e:b=false)(h:WS m2 s Q):WS (if b=true then m1 else m2) s Q:=by rw[if_neg (by rw[e];decide)];exact h
theorem WS.yM{m1 m2:MS}(h:WS m1 s Q):WS (if true=true then m1 else m2) s Q:=by rw[if_pos rfl];exact h
theorem WS.Tf{m1 m2:MS}(h:WS m2 s Q):WS (if false=true then m1 else m2) s Q:=by rw[if_neg J0];exact h
theorem Kbk{e:E}(h:W (ev aq aj (F aj) e J) s λ_ s1=>Q (.nx J) s1):WS (ex aq aj F (.ex e) J) s Q:=WS.ofM (h.imp λ_ _ h=>WS.nx h)
theorem Kbn{i:Nat}{e:E}(h:W (ev aq aj (F aj) e J) s λx s1=>Q (.nx (J.set i (some x))) s1):WS (ex aq aj F (.asg (.nm i) e) J) s Q:=WS.ofM (h.imp λ_ _ h=>WS.nx h)
theorem Kbs{is:List Nat}{e:E}(h:W (ev aq true (F true) e J) s λx s1=>W (dat x) s1 λd s2=>qY ((lA d).bind λds=>gH is (ds.map .d) J) λJ'=>Q (.nx J') s2):WS (ex aq true F (.asg (.tp is) e) J) s Q:=by
 refine WS.ofM (h.imp λx s1 h=>?_);exact WS.yM (m2:=λ_=>none) (WS.ofM (W.bd (h.imp λd s2 ⟨J',e,q⟩=>W.opt e (WS.nx q))))
theorem Kbr{o i e:E}(h:W (ev aq aj (F aj) e J) s λx s1=>W (dat x) s1 λd s2=>W (ev aq aj (F aj) o J) s2 λy s3=>W (ev aq aj (F aj) i J) s3 λz s4=>W (Mi.int z) s4 λj s5=>W (cJ y) s5 λnx s6=>qY (L2.oE nx.2.length j) λq=>Q (.nx J) (s6.set nx.1 (.lst (nx.2.set q d)))):WS (ex aq aj F (.asg (.aq o i) e) J) s Q:=by
 refine WS.ofM (h.imp λx s1 h=>WS.ofM (W.bd (h.imp λd s2 h=>W.bd (h.imp λy s3 h=>W.bd (h.imp λz s4 h=>W.bd (h.imp λj s5 h=>W.bd (h.imp λnx s6 h=>?_)))))));obtain⟨q,e,h⟩:=h;simp only[e];exact MN (WS.nx h)
theorem Kbo{i j:Nat}{a b:E}(h:W (ev aq true (F true) a J) s λx s1=>W (ev aq true (F true) b J) s1 λy s2=>Q (.nx ((J.set i (some x)).set j (some y))) s2):WS (ex aq true F (.par i j a b) J) s Q:=by
 exact WS.yM (m2:=λ_=>none) (WS.ofM (W.bd (h.imp λx s1 h=>W.bd (h.imp λy s2 h=>W.ret (WS.nx h)))))
theorem Kbp{e:E}(h:W (ev aq aj (F aj) e J) s λx s1=>Q (.rt x) s1):WS (ex aq aj F (.ret e) J) s Q:=WS.ofM (h.imp λ_ _ h=>WS.rt h)
theorem Ti{c:E}{t e:bT}(h:W (ev aq aj (F aj) c J) s λx s1=>W (Mi.bool x) s1 λb s2=>WS (if b=true then exs aq aj F t J else exs aq aj F e J) s2 Q):WS (ex aq aj F (.iff c t e) J) s Q:=WS.ofM (W.bd h)
theorem Kbl{t:Tg}{w:Wk}{b:bT}(h:W (mH aq true (F true) w J) s λcn s1=>WS (dJ cn.1 (λd J=>Mi.cC (store aq true (F true) t (.d d) J) λJ'=>exs aq true F b J') (cn.2+1) 0 J) s1 Q):WS (ex aq true F (.fr t w b) J) s Q:=by
 exact WS.yM (m2:=λ_=>none) (WS.ofM h)
end
theorem W.Jh{α:Type}{b:Bool}{m1 m2:M α}{s:S}{P:α->S->Prop}(e:b=true)(h:W m1 s P):W (if b=true then m1 else m2) s P:=by rw[if_pos e];exact h
theorem W.Ji{α:Type}{b:Bool}{m1 m2:M α}{s:S}{P:α->S->Prop}(e:b=false)(h:W m2 s P):W (if b=true then m1 else m2) s P:=by rw[if_neg (by rw[e];decide)];exact h
theorem W.yM{α:Type}{m1 m2:M α}{s:S}{P:α->S->Prop}(h:W m1 s P):W (if true=true then m1 else m2) s P:=by rw[if_pos rfl];exact h
theorem W.Tf{α:Type}{m1 m2:M α}{s:S}{P:α->S->Prop}(h:W m2 s P):W (if false=true then m1 else m2) s P:=by rw[if_neg J0];exact h
structure Bx(R:Prop):Prop where
 o:R
end Mi
namespace Mi
open PySem PySem.W PyProof.Rows L2
def qZ{α:Type}(lt:Nat->Nat->Option Bool)(t:KasT α)(P:α->Prop):Prop:=∃a,bN lt t=some a/\P a
section
variable {α β:Type}{lt:Nat->Nat->Option Bool}{n:Nat}
theorem qZ.ret(h:P a):qZ lt (.ret a) P:=⟨a,rfl,h⟩
theorem qZ.bind(hf:∀a,P a->qZ lt (f a) R):∀{t:KasT α},qZ lt t P->qZ lt (t.bind f) R
 |.ret a,⟨a',e,h⟩=>by cases e;exact hf _ h
 |.ask i j k,⟨a',e,h⟩=>by
  unfold bN at e;cases el:lt i j with
  |none=>rw[el] at e;cases e
  |some b=>
   rw[el] at e;obtain⟨c,e1,h1⟩:=qZ.bind hf (t:=k b) ⟨a',e,h⟩;refine⟨c,?_,h1⟩;show bN lt (.ask i j λb=>(k b).bind f)=some c;unfold bN;rw[el];exact e1
def Tot(n:Nat)(lt:Nat->Nat->Option Bool):Prop:=∀i j,i<n->j<n->∃b,lt i j=some b
variable (ht:Tot n lt)(hn:0<n)
include ht hn
end
section
variable {lt:Nat->Nat->Option Bool}{n:Nat}
theorem zfk(h:∀k,1<=k->k<n->lt (p.getD k 0) (p.getD (k-1) 0)=some false):∀f k,1<=k->k+f=n->qZ lt (kas_asc p f k) λr=>r=n
 |0,k,h1,e=>.ret gV
 |f+1,k,h1,e=>by
  obtain⟨a,e1,e2⟩:=zfk h f (k+1) gV gV;refine⟨a,?_,e2⟩;unfold kas_asc bN;rw[h k h1 gV];exact e1
theorem zev(hk:k<n):(List.range n).toArray.getD k 0=k:=by
 simp[Array.getD,hk]
theorem zfn(hn:0<n)(h:∀k,k+1<n->lt (k+1) k=some false):bN lt (kas_sort n)=some (List.range n).toArray:=by
 have h1:qZ lt (kas_asc (List.range n).toArray (n-1) 1) λr=>r=n:=zfk (λk a b=>by
  rw[zev b,zev gV];have:=h (k-1) gV
  rwa [show k-1+1=k by lia] at this) _ _ (bU _) gV
 have h2:qZ lt (kas_count n (List.range n).toArray) λr=>r=(n,(List.range n).toArray):=by
  refine qZ.bind (λr hr=>?_) h1;subst hr;rw[if_pos Rb];exact .ret rfl
 have h3:qZ lt (kas_sort n) λr=>r=(List.range n).toArray:=by
  refine qZ.bind (λr hr=>?_) h2;subst hr;rw[if_neg (qC _)];exact .ret rfl
 obtain⟨a,e,rfl⟩:=h3;exact e
end
theorem zgT(hk:(xs.all jL||xs.all iM)=true)(sU:xs.length<64)(h:∀k,k+1<xs.length->yh xs (k+1) k=some false):yj xs=some xs:=by
 unfold yj;rw[if_pos hk];unfold pY;by_cases h2:xs.length<2
 ·rw[if_pos h2]
 ·rw[if_neg h2,if_pos sU,zfn gV h];dsimp only;rw[if_pos Rb]
  congr 1
  apply List.ext_getElem
  ·simp
  ·intro i a b;simp[jW,b]
noncomputable def h_(p:Int×Int):D:=.tup [.int p.1,.int p.2]
end Mi
namespace Mi
open PySem
theorem W.walk{c:List D}{f:D->List D->M (List D)}{s:S}{acc:List D}{P:List D->S->Prop}(I:Nat->List D->S->Prop)(h0:I 0 acc s)(hb:∀i x acc s,c[i]?=some x->I i acc s->W (f x acc) s λa s'=>I (i+1) a s')
  (he:∀acc s,I c.length acc s->P acc s):W (Mi.walk (.fix c) f (c.length+1) 0 acc) s P:=by
 have key:∀n i acc s,i+n=c.length->I i acc s->W (Mi.walk (.fix c) f (n+1) i acc) s P:=by
  intro n
  induction n with
  |zero=>
   intro i acc s hi hI;have e:c[i]?=none:=by rw[oN];lia
   have:i=c.length:=by lia
   subst this;refine⟨acc,s,?_,he acc s hI⟩;unfold Mi.walk;simp only[Src.at,e]
  |succ n ih=>
   intro i acc s hi hI;have dh:i<c.length:=by lia
   have e:c[i]?=some c[i]:=cP dh;obtain⟨a,s',eb,wM⟩:=hb i c[i] acc s e hI;obtain⟨a2,s2,e2,q⟩:=ih (i+1) a s' gV wM;refine⟨a2,s2,?_,q⟩;unfold Mi.walk;simp only[Src.at,e,M.bd,eb];exact e2
 exact key c.length 0 acc s gV h0
section
variable {aq:Nat->Nat->Bool}{F:Fn}{J:Vs}{s:S}{P:Xv->S->Prop}
theorem Kav{fz:Bool}{elt:E}{tg:List Nat}{it:Wk}{fr:List Nat}{many:Nat}{cond:Eo}{c:List D}(g:D->Option D)(hc:c.length<=sizeLine)
  (hw:W (mH aq true F it J) s λcn s1=>cn=(.fix c,c.length)/\s1=s)
  (hb:∀x∈c,∃J',gB tg x (blk many fr J)=some J'/\W (pZ aq true F cond J') s λb s1=>s1=s/\(if b=true then W (ev aq true F elt J') s λy s2=>s2=s/\∃d,y=.d d/\g x=some d else g x=none))
  (h:W (newL fz (c.filterMap g)) s P):W (ev aq true F (.comp fz elt tg it fr many cond) J) s P:=by
 change W (_root_.ite (true=true) _ _) s P
 rw[if_pos rfl];refine W.bd (hw.imp λcn s1=>?_);rintro⟨rfl,rfl⟩;refine W.bd ?_;refine W.walk (c:=c) (λi acc s'=>s'=s1/\acc=(c.take i).filterMap g) ⟨rfl,rfl⟩ (λi x acc s' e hI=>?_) (λacc s' hI=>?_)
 ·obtain⟨rfl,rfl⟩:=hI;have hi:i<c.length:=(cI.mp e).1;have ht:c.take (i+1)=c.take i++[x]:=by rw[Cz,e];rfl
  have hl:((c.take i).filterMap g).length<sizeLine:=Ox (wY _ _) (by rw[uF];lia);obtain⟨J',e1,h1⟩:=hb x (dM e);refine W.bd (W.opt e1 ?_);refine W.bd (W.qt (h1.imp λb s2=>?_));rintro⟨rfl,h2⟩;rw[ht,Eh];cases b
  ·rw[if_neg J0] at h2 ⊢;refine W.ret ⟨rfl,?_⟩;simp[h2]
  ·rw[if_pos rfl] at h2 ⊢;refine W.bd (W.qt (h2.imp λy s3=>?_));rintro⟨rfl,d,rfl,eg⟩;refine W.bd (W.dat ?_);rw[if_pos hl];refine W.ret ⟨rfl,?_⟩;simp[eg]
 ·obtain⟨rfl,rfl⟩:=hI;rw[xH];exact h
end
section
variable {aq:Nat->Nat->Bool}{aj:Bool}{F:Fn}{J:Vs}{s:S}{P:Xv->S->Prop}
theorem KaH(h:W (ev aq aj F a J) s λx s1=>W (rd x) s1 λd s2=>∃b,lq aq d k=some b/\P (.d (.bl b)) s2):W (ev aq aj F (.mC a k) J) s P:=
 W.bd (h.imp λ_ _ h=>W.bd (h.imp λ_ _ ⟨_,e,h⟩=>W.bd (W.opt e (W.ret h))))
theorem KaF(h:W (ev aq aj F a J) s λx s1=>W (ev aq aj F b J) s1 λy s2=>W (gb [x,y]) s2 λds s3=>W (bV true (prim p ds)) s3 λt s4=>W (Mi.bool t) s4 λk s5=>
  W (if k=true then M.bd (ev aq aj F c J) λz=>M.bd (gb [y,z]) λds=>bV true (prim q ds) else M.ret (.d (.bl false))) s5 P):W (ev aq aj F (.xZ p q a b c) J) s P:=
 W.bd (h.imp λ_ _ h=>W.bd (h.imp λ_ _ h=>W.bd (h.imp λ_ _ h=>W.bd (h.imp λ_ _ h=>W.bd h))))
end
noncomputable def Jj(fz:Bool):Option Rz->Option Xv
 |some (.dat d)=>some (.d d)
 |some (.nw ys)=>match fz with
  |true=>some (.d (.fl ys))
  |false=>none
 |none=>none
noncomputable def addQ:D->D->Option Rz
 |.int i,.int j=>some (.dat (.int (i+j)))
 |_,_=>none
noncomputable def yN:List D->Option Rz
 |a::r=>match r with
  |b::r=>match r with
   |[]=>addQ a b
   |_::_=>none
  |[]=>none
 |[]=>none
noncomputable def quick:Pr->Bool
 |.qK=>false|.Dm=>false|.mul=>false|.fdiv=>false|.mod=>false|.pow=>false|.divmod=>false|.sorted=>false|.pW=>false|.Hv=>false|.mult=>false|.xY=>false|.repr=>false|.str1=>false|.Yh=>false|.Ht=>false|.Hu=>false|.shl=>false|.shr=>false|.band=>false|.sW=>false
 |_=>true
noncomputable def qg(p:Pr)(ds:List D):Option Rz:=match p with
 |.add=>yN ds
 |p=>match quick p with
  |true=>prim p ds
  |false=>none
theorem Jk{ds:List D}{r:Rz}(h:yN ds=some r):Ax ds=some r:=by
 cases ds with
 |nil=>cases h
 |cons a t=>cases t with
  |nil=>cases h
  |cons b t=>cases t with
   |cons _ _=>cases h
   |nil=>cases a with
    |int i=>cases b with
     |int j=>exact h
     |_=>cases h
    |_=>cases h
theorem Bw{p:Pr}{ds:List D}{r:Rz}(h:qg p ds=some r):prim p ds=some r:=by
 cases p with
 |add=>exact Jk h
 |_=>first|exact h|cases h
noncomputable def Tj(fz:Bool)(ds:List D):Option Xv:=match fz with
 |true=>some (.d (.fl ds))
 |false=>none
noncomputable def Jl:Xv->Option D
 |.d x=>some x
 |.l _=>none
noncomputable def obP(c:Nat):Xv->Option (List D)
 |.d (.ob e fs)=>if e=c then some fs else none
 |_=>none
noncomputable def notP:Xv->Option Xv
 |.d (.bl b)=>some (.d (.bl (!b)))
 |_=>none
noncomputable def Tn(r:Option Xv):Xv->Option Xv
 |.d (.bl true)=>r
 |.d (.bl false)=>some (.d (.bl false))
 |_=>none
noncomputable def orP(r:Option Xv):Xv->Option Xv
 |.d (.bl true)=>some (.d (.bl true))
 |.d (.bl false)=>r
 |_=>none
section
variable (aq:Nat->Nat->Bool)
mutual
noncomputable def dB:E->Vs->Option Xv
 |.c d,_=>some (.d d)
 |.v i,J=>J[i]?.join
 |.pr fz p xs,J=>(pB xs J).bind λds=>Jj fz (qg p ds)
 |.tup xs,J=>(pB xs J).bind λds=>some (.d (.tup ds))
 |.lst fz xs,J=>(pB xs J).bind λds=>Tj fz ds
 |.not a,J=>(dB a J).bind notP
 |.and a b,J=>(dB a J).bind (Tn (dB b J))
 |.or a b,J=>(dB a J).bind (orP (dB b J))
 |.mC a k,J=>(dB a J).bind λx=>(Jl x).bind λd=>(lq aq d k).bind λb=>some (.d (.bl b))
 |.of o c i,J=>(dB o J).bind λx=>(obP c x).bind λfs=>fs[i]?.map .d
 |_,_=>none
noncomputable def pB:Es->Vs->Option (List D)
 |.nil,_=>some []
 |.cons a r,J=>(dB a J).bind λx=>(Jl x).bind λd=>(pB r J).bind λds=>some (d::ds)
end
noncomputable def nZ:Es->Vs->Option (List Xv)
 |.nil,_=>some []
 |.cons a r,J=>(dB aq a J).bind λx=>(nZ r J).bind λxs=>some (x::xs)
end
theorem mU{α β:Type}{o:Option α}{f:α->Option β}{b:β}(h:o.bind f=some b):∃a,o=some a/\f a=some b:=vh.mp h
theorem jh{α β:Type}{m:M α}{k:α->M β}{s s':S}{a:α}(e:m s=some (.ok a,s')):M.bd m k s=k a s':=by
 show (match m s with|some (.ok a,s')=>k a s'|some (.er c f,s')=>some (.er c f,s')|none=>none)=_;rw[e]
theorem BJ(s:S):∀ds:List D,gb (ds.map .d) s=some (.ok ds,s)
 |[]=>rfl
 |d::r=>(jh (s':=s) (a:=d) rfl).trans ((jh (BJ s r)).trans rfl)
theorem uc(s:S):∀ds:List D,cB (ds.map .d) s=some (.ok ds,s)
 |[]=>rfl
 |d::r=>(jh (s':=s) (a:=d) rfl).trans ((jh (uc s r)).trans rfl)
theorem Tq{fz:Bool}{p:Pr}{ds:List D}{x:Xv}{s:S}(h:Jj fz (qg p ds)=some x):bV fz (prim p ds) s=some (.ok x,s):=by
 cases o:qg p ds with
 |none=>rw[o] at h;cases h
 |some r=>
  rw[o] at h;rw[Bw o];cases r with
  |dat d=>cases h;rfl
  |nw ys=>cases fz with
   |true=>cases h;rfl
   |false=>cases h
section
variable {aq:Nat->Nat->Bool}{aj:Bool}{F:Fn}{J:Vs}{s:S}
theorem gD(e:E):∀x:Xv,dB aq e J=some x->ev aq aj F e J s=some (.ok x,s):=by
 refine E.rec (motive_1:=λe=>∀x:Xv,dB aq e J=some x->ev aq aj F e J s=some (.ok x,s)) (motive_2:=λ_=>True) (motive_3:=λxs=>∀ds:List D,pB aq xs J=some ds->evs aq aj F xs J s=some (.ok (ds.map .d),s)) (motive_4:=λ_=>True)
  ?c ?v ?pr (λ_ _ _ _ _ _ _ _ _ h=>nomatch h) (λ_ _ _ _ _ _ _ _ _ _ _ _ h=>nomatch h) ?and ?or ?not (λ_ _ _ _ _ _ _ h=>nomatch h) ?tup ?lst (λ_ _ _ h=>nomatch h) (λ_ _ _ _ h=>nomatch h) ?mC (λ_ _ _ _ _ _ _ _ h=>nomatch h) (λ_ _ _ _ _ _ _ _ h=>nomatch h) (λ_ _ _ _ _ h=>nomatch h) (λ_ _ _ h=>nomatch h)
  (λ_ _ _ _ _ _ _ _ _ _ _ h=>nomatch h) (λ_ _ _ _ _ _ _ _ _ _ _ _ _ _ h=>nomatch h) (λ_ _ _ _ _ h=>nomatch h) ?of (λ_ _ _ _ _ h=>nomatch h) (λ_ _ _ _ _ _ _ h=>nomatch h) (λ_ h=>nomatch h) (λ_ _ _ _ _ _ h=>nomatch h) (λ_ _ _ _ _ h=>nomatch h) (λ_ _ _ h=>nomatch h) (λ_ _ _ _ _ _ h=>nomatch h) (λ_ _ _ _ _ h=>nomatch h) (λ_ _ _ _ _ _ _ h=>nomatch h) (λ_ h=>nomatch h)
  (λ_ _=>trivial) (λ_ _ _ _=>trivial) (λ_ _ _ _=>trivial) (λ_ _=>trivial) (λ_ _=>trivial) ?nil ?cons trivial (λ_ _=>trivial) e
 case c=>intro d x h;cases h;rfl
 case v=>intro i x h;exact(show M.opt (J[i]?.join) s=_ from by rw[show J[i]?.join=some x from h];rfl)
 case pr=>
  intro fz p xs ih x h;obtain⟨ds,e1,e2⟩:=mU h;exact(jh (ih _ e1)).trans ((jh (BJ s ds)).trans (Tq e2))
 case tup=>
  intro xs ih x h;obtain⟨ds,e1,e2⟩:=mU h;cases e2;exact(jh (ih _ e1)).trans ((jh (uc s ds)).trans rfl)
 case lst=>
  intro fz xs ih x h;obtain⟨ds,e1,e2⟩:=mU h;cases fz with
  |false=>cases e2
  |true=>cases e2;exact(jh (ih _ e1)).trans ((jh (uc s ds)).trans rfl)
 case not=>
  intro a ih x h;obtain⟨y,e1,e2⟩:=mU h;cases y with
  |l n=>cases e2
  |d y=>cases y with
   |bl b=>cases e2;exact(jh (ih _ e1)).trans rfl
   |_=>cases e2
 case and=>
  intro a b ih ih2 x h;obtain⟨y,e1,e2⟩:=mU h;cases y with
  |l n=>cases e2
  |d y=>cases y with
   |bl b=>cases b with
    |true=>exact(jh (ih _ e1)).trans (ih2 _ e2)
    |false=>cases e2;exact(jh (ih _ e1)).trans rfl
   |_=>cases e2
 case or=>
  intro a b ih ih2 x h;obtain⟨y,e1,e2⟩:=mU h;cases y with
  |l n=>cases e2
  |d y=>cases y with
   |bl b=>cases b with
    |true=>cases e2;exact(jh (ih _ e1)).trans rfl
    |false=>exact(jh (ih _ e1)).trans (ih2 _ e2)
   |_=>cases e2
 case mC=>
  intro a k ih x h;obtain⟨y,e1,e2⟩:=mU h;cases y with
  |l n=>cases e2
  |d y=>
   obtain⟨d,e3,e4⟩:=mU e2;cases e3;obtain⟨b,e5,e6⟩:=mU e4;cases e6;refine(jh (ih _ e1)).trans ((jh (s':=s) (a:=y) rfl).trans ((jh (s':=s) (a:=b) ?_).trans rfl));rw[e5];rfl
 case of=>
  intro o c i ih x h;obtain⟨y,e1,e2⟩:=mU h;obtain⟨fs,e3,e4⟩:=mU e2;refine(jh (ih _ e1)).trans ((jh (s':=s) (a:=fs) ?_).trans ?_)
  ·cases y with
   |l n=>cases e3
   |d y=>cases y with
    |ob e gs=>
     have e3:(if e=c then some gs else none)=some fs:=e3;show (if e=c then M.ret gs else M.no) s=_;split at e3
     ·rename_i h;cases e3;rw[if_pos h];rfl
     ·cases e3
    |_=>cases e3
  ·show M.opt (fs[i]?.map Xv.d) s=_;rw[e4];rfl
 case nil=>intro ds h;cases h;rfl
 case cons=>
  intro a r ih ih2 ds h;obtain⟨y,e1,e2⟩:=mU h;cases y with
  |l n=>cases e2
  |d y=>
   obtain⟨d,e3,e4⟩:=mU e2;cases e3;obtain⟨rs,e5,e6⟩:=mU e4;cases e6;exact(jh (ih _ e1)).trans ((jh (ih2 _ e5)).trans rfl)
theorem ud:∀(xs:Es) (ds:List D),pB aq xs J=some ds->evs aq aj F xs J s=some (.ok (ds.map .d),s)
 |.nil,ds,h=>by cases h;rfl
 |.cons a r,ds,h=>by
  obtain⟨y,e1,e2⟩:=mU h;cases y with
  |l n=>cases e2
  |d y=>
   obtain⟨d,e3,e4⟩:=mU e2;cases e3;obtain⟨rs,e5,e6⟩:=mU e4;cases e6;exact(jh (gD a _ e1)).trans ((jh (ud r _ e5)).trans rfl)
theorem jy:∀(xs:Es) {vs:List Xv},nZ aq xs J=some vs->evs aq aj F xs J s=some (.ok vs,s)
 |.nil,vs,h=>by cases h;rfl
 |.cons a r,vs,h=>by
  obtain⟨y,e1,e2⟩:=mU h;obtain⟨ys,e3,e4⟩:=mU e2;cases e4;exact(jh (gD a _ e1)).trans ((jh (jy r e3)).trans rfl)
variable {P:Xv->S->Prop}
theorem W.pv{e:E}{x:Xv}(h:dB aq e J=some x)(k:P x s):W (ev aq aj F e J) s P:=W.eq (gD e _ h) k
theorem Ka5{f:Nat}{xs:Es}{vs:List Xv}(h:nZ aq xs J=some vs)(k:W (bR (F f) vs) s P):W (ev aq aj F (.call f xs) J) s P:=KaE (W.eq (jy xs h) k)
theorem Ka6{fz:Bool}{p:Pr}{xs:Es}{ds:List D}(h:pB aq xs J=some ds)(k:W (bV fz (prim p ds)) s P):W (ev aq aj F (.pr fz p xs) J) s P:=KaM (W.eq (ud xs _ h) (W.eq (BJ s ds) k))
theorem Ka4{xs:Es}{vs:List Xv}{P:List Xv->S->Prop}(h:nZ aq xs J=some vs)(k:P vs s):W (evs aq aj F xs J) s P:=W.eq (jy xs h) k
end
section
variable {aq:Nat->Nat->Bool}{aj:Bool}{F:Bool->Fn}{J:Vs}{s:S}{Q:Out->S->Prop}{e:E}{r:bT}
theorem Kbi{i:Nat}{x:Xv}(h:dB aq e J=some x)(k:WS (exs aq aj F r (J.set i (some x))) s Q):WS (exs aq aj F (.cons (.asg (.nm i) e) r) J) s Q:=WS.cons (Kbn (W.pv h k))
theorem Kbj{x:Xv}(h:dB aq e J=some x)(k:Q (.rt x) s):WS (exs aq aj F (.cons (.ret e) r) J) s Q:=WS.cons (Kbp (W.pv h k))
theorem Kbh{b:Bool}{t u:bT}(h:dB aq e J=some (.d (.bl b)))(k:WS (if b=true then exs aq aj F t J else exs aq aj F u J) s λo s'=>match o with|.nx J'=>WS (exs aq aj F r J') s' Q|.rt x=>Q (.rt x) s'|_=>False):WS (exs aq aj F (.cons (.iff e t u) r) J) s Q:=WS.cons (Ti (W.pv h (W.bool k)))
end
section
variable {aq:Nat->Nat->Bool}{aj:Bool}{F:Bool->Fn}{J:Vs}{s:S}{Q:Out->S->Prop}{c:Nat}{fs:List D}
theorem Kbq{c:Nat}{kp:Bool}{xs:Es}(h:W (evs aq true (F true) xs J) s λvs s1=>W (cB vs) s1 λds s2=>Q (.er c (if kp=true then ds else []) J) s2):WS (ex aq true F (.rise c kp xs) J) s Q:=by
 refine WS.yM (m2:=λ_=>none) (WS.ofM (W.bd (h.imp λvs s1 h=>h.imp λds s2 h=>?_)));exact⟨_,s2,rfl,h⟩
theorem Kbv{m:MS}{k:Vs->MS}(h:WS m s λo s'=>match o with|.nx J'=>WS (k J') s' Q|.rt x=>Q (.rt x) s'|_=>False):WS (Mi.cC m k) s Q:=by
 obtain⟨o,s',e,q⟩:=h;unfold WS Mi.cC;rw[e];cases o with
 |nx J'=>exact q
 |rt x=>exact⟨_,_,rfl,q⟩
 |bk _=>exact q.elim
 |ct _=>exact q.elim
 |er _ _ _=>exact q.elim
theorem Kbt{F:Fn}{i:Nat}{x:Xv}(h:Q (.nx (J.set i (some x))) s):WS (store aq aj F (.nm i) x J) s Q:=⟨_,s,rfl,h⟩
theorem Kbu{F:Fn}{is:List Nat}{d:D}(h:qY ((lA d).bind λds=>gH is (ds.map .d) J) λJ'=>Q (.nx J') s):WS (store aq true F (.tp is) (.d d) J) s Q:=by
 obtain⟨J',e,q⟩:=h;exact WS.yM (m2:=λ_=>none) (WS.ofM (W.bd (W.dat (W.opt e (WS.nx q)))))
end
section
variable {aq:Nat->Nat->Bool}{aj:Bool}{F:Fn}{J:Vs}{s:S}{P:Xv->S->Prop}
theorem W.mC{a:E}{k:Kd}(h:W (ev aq aj F a J) s λx s1=>W (rd x) s1 λd s2=>qY (lq aq d k) λb=>P (.d (.bl b)) s2):W (ev aq aj F (.mC a k) J) s P:=KaH h
theorem W.xZ{p q:Pr}{a b c:E}(h:W (ev aq aj F a J) s λx s1=>W (ev aq aj F b J) s1 λy s2=>W (gb [x,y]) s2 λds s3=>W (bV true (prim p ds)) s3 λt s4=>W (Mi.bool t) s4 λk s5=>
  W (if k=true then M.bd (ev aq aj F c J) λz=>M.bd (gb [y,z]) λds=>bV true (prim q ds) else M.ret (.d (.bl false))) s5 P):W (ev aq aj F (.xZ p q a b c) J) s P:=KaF h
theorem KaI{c a b:E}(h:W (ev aq aj F c J) s λx s1=>W (Mi.bool x) s1 λk s2=>W (if k=true then ev aq aj F a J else ev aq aj F b J) s2 P):W (ev aq aj F (.ite c a b) J) s P:=W.bd (h.imp λ_ _ h=>W.bd h)
theorem KaR{a:E}{P:Src×Nat->S->Prop}(h:W (ev aq aj F a J) s λx s1=>W (nJ x) s1 P):W (mH aq aj F (.enum a) J) s P:=W.bd h
theorem KaP{xs:List D}{P:Src×Nat->S->Prop}(h:P (.fix (enumFrom 0 xs),(enumFrom 0 xs).length) s):W (nJ (.d (.fl xs))) s P:=⟨_,s,rfl,h⟩
theorem KaS{a b:E}{P:Src×Nat->S->Prop}(h:W (ev aq aj F a J) s λx s1=>W (ev aq aj F b J) s1 λy s2=>W (Mi.int x) s2 λi s3=>W (Mi.int y) s3 λj s4=>(fL i&&fL j)=true/\P (.fix (gZ i j),(gZ i j).length) s4):W (mH aq aj F (.rg a b) J) s P:=by
 refine W.bd (h.imp λx s1 h=>W.bd (h.imp λy s2 h=>W.bd (h.imp λi s3 h=>W.bd (h.imp λj s4 h=>?_))));rw[if_pos h.1];exact W.ret h.2
theorem KaU{a b:E}{P:Src×Nat->S->Prop}(h:W (ev aq aj F a J) s λx s1=>W (ev aq aj F b J) s1 λy s2=>W (o9 x) s2 λxs s3=>W (o9 y) s3 λys s4=>P (.fix (List.zipWith (λp q=>.tup [p,q]) xs ys),(List.zipWith (λ(p q:D)=>D.tup [p,q]) xs ys).length) s4):W (mH aq aj F (.zip a b) J) s P:=
 W.bd (h.imp λx s1 h=>W.bd (h.imp λy s2 h=>W.bd (h.imp λxs s3 h=>W.bd (h.imp λys s4 h=>W.ret h))))
theorem W.iV{xs:List D}{P:List D->S->Prop}(h:P xs s):W (o9 (.d (.tup xs))) s P:=W.ret h
theorem W.rF{xs:List D}{P:List D->S->Prop}(h:P xs s):W (o9 (.d (.fl xs))) s P:=W.ret h
theorem Kam{P:Bool->S->Prop}(h:P true s):W (pZ aq aj F .no J) s P:=W.ret h
theorem Kan{a:E}{P:Bool->S->Prop}(h:W (ev aq aj F a J) s λx s1=>W (Mi.bool x) s1 P):W (pZ aq aj F (.yes a) J) s P:=W.bd h
theorem Kax(g:D->D)(hc:c.length<=sizeLine)
  (hw:W (mH aq true F it J) s λcn s1=>cn=(.fix c,c.length)/\s1=s)
  (hb:∀x∈c,qY (gB tg x (blk many fr J)) λJ'=>W (ev aq true F elt J') s λy s2=>s2=s/\y=.d (g x))
  (h:W (newL fz (c.map g)) s P):W (ev aq true F (.comp fz elt tg it fr many .no) J) s P:=by
 refine Kav (c:=c) (λx=>some (g x)) hc hw (λx hx=>?_) ?_
 ·obtain⟨J',e,h1⟩:=hb x hx;refine⟨J',e,W.ret ⟨rfl,?_⟩⟩;rw[if_pos rfl];exact h1.imp λy s2 ⟨a,b⟩=>⟨a,_,b,rfl⟩
 ·rw[show c.filterMap (λx=>some (g x))=c.map g by rw[<-List.filterMap_eq_map];rfl];exact h
theorem n6{α:Type}{f:α->D}{l:List α}{fz:Bool}{elt:E}{tg:List Nat}{it:Wk}{fr:List Nat}{many:Nat}{cond:Eo}(g:α->Option D)(hc:l.length<=sizeLine)
  (hw:W (mH aq true F it J) s λcn s1=>cn=(.fix (l.map f),(l.map f).length)/\s1=s)
  (hb:∀x∈l,qY (gB tg (f x) (blk many fr J)) λJ'=>W (pZ aq true F cond J') s λb s1=>s1=s/\(b=true->W (ev aq true F elt J') s λy s2=>s2=s/\∃d,y=.d d/\g x=some d)/\(b=false->g x=none))
  (h:W (newL fz (l.filterMap g)) s P):W (ev aq true F (.comp fz elt tg it fr many cond) J) s P:=by
 change W (_root_.ite (true=true) _ _) s P
 rw[if_pos rfl];refine W.bd (hw.imp λcn s1=>?_);rintro⟨rfl,rfl⟩;refine W.bd ?_;refine W.walk (c:=l.map f) (λi acc s'=>s'=s1/\acc=(l.take i).filterMap g) ⟨rfl,rfl⟩ (λi x acc s' e hI=>?_) (λacc s' hI=>?_)
 ·obtain⟨rfl,rfl⟩:=hI;rw[fB] at e;cases el:l[i]? with
  |none=>rw[el] at e;cases e
  |some y=>
   rw[el] at e;cases e;have hi:i<l.length:=(cI.mp el).1;have ht:l.take (i+1)=l.take i++[y]:=by rw[Cz,el];rfl
   have hl:((l.take i).filterMap g).length<sizeLine:=Ox (wY _ _) (by rw[uF];lia);obtain⟨J',e1,h1⟩:=hb y (dM el);refine W.bd (W.opt e1 ?_);refine W.bd (W.qt (h1.imp λb s2=>?_));rintro⟨rfl,h2,h3⟩;rw[ht,Eh];cases b
   ·rw[if_neg J0];refine W.ret ⟨rfl,?_⟩;simp[h3 rfl]
   ·rw[if_pos rfl];refine W.bd (W.qt ((h2 rfl).imp λy s3=>?_));rintro⟨rfl,d,rfl,eg⟩;refine W.bd (W.dat ?_);rw[if_pos hl];refine W.ret ⟨rfl,?_⟩;simp[eg]
 ·obtain⟨rfl,rfl⟩:=hI;rw[cj,xH];exact h
theorem Kaw{c:List D}{fz:Bool}{elt:E}{tg:List Nat}{it:Wk}{fr:List Nat}{many:Nat}{cond:Eo}(I:Nat->List D->S->Prop)
  (hw:W (mH aq true F it J) s λcn s1=>cn=(.fix c,c.length)/\I 0 [] s1)
  (hb:∀i x acc s,c[i]?=some x->I i acc s->qY (gB tg x (blk many fr J)) λJ'=>W (pZ aq true F cond J') s λb s1=>(b=true->W (ev aq true F elt J') s1 λy s2=>∃d,y=.d d/\acc.length<sizeLine/\I (i+1) (acc++[d]) s2)/\(b=false->I (i+1) acc s1))
  (h:∀acc s,I c.length acc s->W (newL fz acc) s P):W (ev aq true F (.comp fz elt tg it fr many cond) J) s P:=by
 change W (_root_.ite (true=true) _ _) s P
 rw[if_pos rfl];refine W.bd (hw.imp λcn s1=>?_);rintro⟨rfl,h0⟩;refine W.bd ?_;refine W.walk (c:=c) I h0 (λi x acc s' e hI=>?_) (λacc s' hI=>h acc s' hI);obtain⟨J',e1,h1⟩:=hb i x acc s' e hI;refine W.bd (W.opt e1 ?_);refine W.bd (W.qt (h1.imp λb s2=>?_));rintro⟨h2,h3⟩;cases b
 ·rw[if_neg J0];exact W.ret (h3 rfl)
 ·rw[if_pos rfl];refine W.bd (W.qt ((h2 rfl).imp λy s3=>?_));rintro⟨d,rfl,hl,hi⟩;refine W.bd (W.dat ?_);rw[if_pos hl];exact W.ret hi
theorem W.push{o a:E}(h:W (ev aq aj F o J) s λx s1=>W (Mi.cJ x) s1 λ_ s2=>W (ev aq aj F a J) s2 λy s3=>W (Mi.dat y) s3 λd s4=>W (Mi.cJ x) s4 λnx s5=>nx.2.length<sizeLine/\P (.d .non) (s5.set nx.1 (.lst (nx.2++[d])))):W (ev aq aj F (.push o a) J) s P:=by
 refine W.bd (h.imp λx s1 h=>W.bd (h.imp λ_ s2 h=>W.bd (h.imp λy s3 h=>W.bd (h.imp λd s4 h=>W.bd (h.imp λnx s5 h=>?_)))));rw[if_pos h.1];exact W.bd (MN (W.ret h.2))
end
theorem zdY{s:S}{o:SO}:(s++[o])[s.length]?=some o:=by simp
theorem Y{P R:Prop}(k:R)(h:Bx R->P:=by
 intro k
 repeat (first|with_reducible first
   |refine Kbi (by with_unfolding_all rfl) ?_|refine Kbj (by with_unfolding_all rfl) ?_|refine Kbh (by with_unfolding_all rfl) ?_|refine W.pv (by with_unfolding_all rfl) ?_|refine Ka6 (by with_unfolding_all rfl) ?_|refine Ka5 (by with_unfolding_all rfl) ?_|refine Ka4 (by with_unfolding_all rfl) ?_
   |refine WS.cons ?_|refine WS.nil ?_|refine Kbv ?_|refine Kbt ?_|refine Kbu ?_|refine Kbn ?_|refine Kbp ?_|refine Ti ?_|refine Kbs ?_|refine Kbr ?_|refine Kbo ?_|refine Kbk ?_|refine Kbl ?_|refine Kbq ?_|refine WS.yM ?_|refine WS.Tf ?_|refine WS.Jh (by with_unfolding_all rfl) ?_|refine WS.Ji (by with_unfolding_all rfl) ?_|refine qY.mk (by with_unfolding_all rfl) ?_
   |refine Kak ?_|refine Kal ?_|refine W.eC ?_|refine W.eV (by with_unfolding_all rfl) ?_|refine KaM ?_|refine KaE ?_|refine KaO ?_|refine KaJ ?_|refine KaK ?_|refine KaD ?_|refine KaL ?_|refine KaI ?_|refine W.mC ?_|refine W.xZ ?_|refine W.push ?_|refine KaN ?_|refine KaG ?_|refine KaY ?_|refine KaZ ?_|refine KaT ?_|refine KaS ?_|refine KaU ?_|refine KaR ?_|refine Kam ?_|refine Kan ?_|refine W.yM ?_|refine W.Tf ?_|refine W.Jh (by with_unfolding_all rfl) ?_|refine W.Ji (by with_unfolding_all rfl) ?_
   |refine Ka9 ?_|refine Kba ?_|refine Ka7 ?_|refine Z0 (by with_unfolding_all rfl) ?_|refine Z0 zdY ?_|refine KaA ?_|refine KaB ?_|refine W.dat ?_|refine W.bool ?_|refine W.int ?_|refine W.cJ (by with_unfolding_all rfl) ?_|refine W.cJ zdY ?_|refine MN ?_|refine Kbc ?_|refine KaP ?_|refine W.iV ?_|refine W.rF ?_|refine Kbb ?_|refine Z9 ?_|refine Z_ ?_
   |refine cH (by first|(with_unfolding_all rfl)|exact zoa (by first|(left;constructor<;>lia)|(right;constructor<;>lia))|exact znx gV|exact zlL gV|exact zg4 gV|exact znN J0) ?_|refine MJ (by with_unfolding_all rfl) ?_
   |refine W.ret ?_|refine W.bd ?_
   | (dsimp only))
 all_goals exact k.o):P:=h ⟨k⟩
def lx(p q:Int×Int):Prop:=p.1<q.1\/p.1=q.1/\p.2<q.2
noncomputable def bJ(n:Int)(ps:List (Int×Int)):D:=.tup [.int n,.tup (ps.map h_)]
structure Web(n:Int)(ps:List (Int×Int)):Prop where
 h1:1<=n
 h8:n<=8
 tie:∀p∈ps,0<=p.1/\p.1<p.2/\p.2<n
 inc:ps.Pairwise lx
 len:(ps.length:Int)<=7*n
theorem zjy(h:∀x∈xs,x=.bl true):eO xs=some (List.replicate xs.length true):=by
 induction xs with
 |nil=>rfl
 |cons x r ih=>
  rw[h x Rb];show Option.map _ (eO r)=_;rw[ih λy hy=>h y (by simp[hy])];rfl
theorem zij(h:∀x∈xs,x=.bl true):prim .all [.fl xs]=some (.dat (.bl true)):=by
 show Option.map _ (eO xs)=_;rw[zjy h];simp
theorem zn1(h:lx p q):ltI [p.1,p.2] [q.1,q.2]=true:=by
 simp only[ltI];rcases h with h|⟨h,h2⟩
 ·rw[if_neg gV];simp[h]
 ·rw[if_pos h,if_neg gV];simp[h2]
theorem Tt(xs:List D):cut xs (some 1) none=xs.drop 1:=by
 unfold cut;rw[HT.jF];rw[show (some 1:Option Int)=some ((1:Nat):Int) from rfl,HT.lX];cases xs with
 |nil=>rfl
 |cons x r=>simp
theorem ziw:∀{ps:List (Int×Int)},ps.Pairwise lx->∀x∈List.zipWith (λ(p q:D)=>D.tup [p,q]) (ps.map h_) ((ps.map h_).drop 1),∃p q,x=.tup [h_ p,h_ q]/\lx p q
 |[],_,x,hx=>by simp at hx
 |[p],_,x,hx=>by simp at hx
 |p::q::r,h,x,hx=>by
  rw[show (List.map h_ (p::q::r)).drop 1=List.map h_ (q::r) from rfl] at hx;have e:List.zipWith (λ(p q:D)=>D.tup [p,q]) (List.map h_ (p::q::r)) (List.map h_ (q::r))=.tup [h_ p,h_ q]::List.zipWith (λ(p q:D)=>D.tup [p,q]) (List.map h_ (q::r)) (List.map h_ r):=rfl;rw[e,iG] at hx;rcases hx with rfl|hx
  ·exact⟨p,q,rfl,(Cq.mp h).1 q Rb⟩
  ·exact ziw (ps:=q::r) (Cq.mp h).2 x hx
theorem Tv:∀(xs:List D) (j i:Nat),(enumFrom j xs)[i]?=xs[i]?.map λx=>.tup [.int ((j+i:Nat):Int),x]
 |[],j,i=>by simp[enumFrom]
 |x::r,j,0=>by simp[enumFrom]
 |x::r,j,i+1=>by
  simp only[enumFrom,Cg,Tv r (j+1) i];rw[show j+1+i=j+(i+1) by lia]
theorem Tw:∀(xs:List D) (j:Nat),(enumFrom j xs).length=xs.length
 |[],j=>rfl
 |x::r,j=>by simp[enumFrom,Tw r (j+1)]
theorem zfT(h:yj xs=some ys):prim .sorted [.fl xs]=some (.nw ys):=by
 show Option.map Rz.nw (yj xs)=_;rw[h];rfl
theorem zhF{es:List Int}(sU:es.length<64)(h:es.Pairwise (·<·)):yj (es.map D.int)=some (es.map D.int):=by
 refine zgT ?_ (by rw[cj];exact sU) λk hk=>?_
 ·rw[Bool.or_eq_true]
  left
  rw[Fg,fC];intro x _;rfl
 ·rw[cj] at hk;unfold yh;rw[fB,fB,cP hk,cP (show k<es.length by lia)];have:=List.pairwise_iff_getElem.mp h k (k+1) gV hk gV;simp only[Ew]
  congr 1
  apply gQ
  lia
noncomputable def endOf(i:Int)(p:Int×Int):Option Int:=if p.1=i then some p.2 else if p.2=i then some p.1 else none
noncomputable def aA(i:Int)(ps:List (Int×Int)):List Int:=ps.filterMap (endOf i)
theorem zes(h:Web n ps)(i:Int):(aA i ps).Pairwise (·<·):=by
 have ht:=h.tie;have hi:=h.inc;clear h;unfold aA
 induction ps with
 |nil=>simp
 |cons p r ih=>
  obtain⟨hp,hr⟩:=Cq.mp hi;have ih:=ih (λq hq=>ht q (by simp[hq])) hr;rw[zu]
  split
  ·exact ih
  ·rename_i b eb;refine Cq.mpr ⟨λc hc=>?_,ih⟩;obtain⟨q,hq,eq⟩:=qw.mp hc;have l:=hp q hq;have tp:=ht p Rb;have tq:=ht q (by simp[hq]);unfold endOf at eb eq;unfold lx at l;split at eb
   ·cases eb;split at eq
    ·cases eq;lia
    ·split at eq
     ·cases eq;lia
     ·cases eq
   ·split at eb
    ·cases eb;split at eq
     ·cases eq;lia
     ·split at eq
      ·cases eq;lia
      ·cases eq
    ·cases eb
theorem Jm(h:Web n ps)(he:e∈aA i ps):0<=e/\e<n:=by
 obtain⟨q,hq,eq⟩:=qw.mp he;have tq:=h.tie q hq;unfold endOf at eq;split at eq
 ·cases eq;lia
 ·split at eq
  ·cases eq;lia
  ·cases eq
theorem Tz:∀{es:List Int} {a n:Int},es.Pairwise (·<·)->(∀e∈es,a<=e/\e<n)->a<=n->(es.length:Int)<=n-a
 |[],a,n,_,_,h=>by simp;lia
 |e::r,a,n,h,hb,ha=>by
  obtain⟨h1,h2⟩:=Cq.mp h;have he:=hb e Rb;have:=Tz (es:=r) (a:=e+1) (n:=n) h2 (λx hx=>⟨by have:=h1 x hx;lia,(hb x (by simp[hx])).2⟩) gV;rw[fX]
  lia
theorem zl2{a b:Int}{i:Nat}{x:D}(h:(gZ a b)[i]?=some x):x=.int (a+i)/\a+i<b:=by
 unfold gZ at h;rw[fB] at h;cases e:(List.range (b-a).toNat)[i]? with
 |none=>rw[e] at h;cases h
 |some j=>
  rw[e] at h;cases h;obtain⟨hl,rfl⟩:=cI.mp e;rw[qx] at hl;rw[List.getElem_range];exact⟨rfl,by lia⟩
theorem zh1:(gZ a b).length=(b-a).toNat:=by unfold gZ;simp
theorem lC(h1 : -1000<=a)(h2:a<=1000):fL a=true:=by
 unfold fL;rw[fZ gV,fZ gV];rfl
theorem rM(hl:locs xs=[s.length])(h:W (F (cU 0 xs)) [o] λv s1=>∃d o',v=.d d/\s1=[o']/\P (.d d) (s++[o'])):W (bR F xs) (s++[o]) P:=by
 refine MK (n:=s.length) (o:=o) hl Rb (h.imp λv s1=>?_);rintro⟨d,o',rfl,rfl,hp⟩;exact⟨d,o',rfl,rfl,by rw[show (s++[o]).set s.length o'=s++[o'] by simp];exact hp⟩
theorem zjk{ns:List Int}{lo hi:Option Int}{x:D}(h:x∈cut (ns.map D.int) lo hi):∃n,x=.int n:=by
 have:=List.mem_of_mem_drop (List.mem_of_mem_take h);obtain⟨n,_,rfl⟩:=rB.mp this;exact⟨n,rfl⟩
theorem zjI{ns:List Int}{lo hi:Option Int}:(cut (ns.map D.int) lo hi).length<=ns.length:=by
 unfold cut;rw[uF,Et,cj]
 lia
noncomputable def at'(fs:List Int)(j:Int):Int:=fs.getD j.toNat 0
theorem TF{fs:List Int}{j:Int}(h0:0<=j)(h:j<fs.length):∃(i:Nat) (hi:i<fs.length),j=i/\at' fs j=fs[i]:=by
 obtain⟨i,rfl⟩:=wZ h0;have hi:i<fs.length:=by lia
 refine⟨i,hi,rfl,?_⟩;unfold at';rw[jA,jW,cP hi];rfl
theorem TJ{fs:List Int}{j:Int}(h0:0<=j)(h:j<fs.length):at' fs j∈fs:=by
 obtain⟨i,hi,_,e⟩:=TF h0 h;rw[e];exact Kv _
theorem zo8{fs:List Int}{j:Int}(h0:0<=j)(h:j<fs.length):(fs.map D.int)[j.toNat]?=some (.int (at' fs j)):=by
 obtain⟨i,hi,rfl,e⟩:=TF h0 h;rw[e,jA,fB,cP hi];rfl
theorem lD{fs gs:List Int}{j:Int}(h0:0<=j)(h:j<fs.length):at' (fs++gs) j=at' fs j:=by
 obtain⟨i,hi,rfl,e⟩:=TF h0 h;unfold at';rw[jA,jW,jW,oM hi]
theorem yO:at' (fs++[x]) fs.length=x:=by
 unfold at';rw[jA,jW,pG (bU _)];simp
theorem uf(h0:0<=j)(h:xs[j.toNat]?=some x):prim .ix [.fl xs,.int j]=some (.dat x):=by
 obtain⟨k,rfl⟩:=wZ h0;exact Jg h
theorem rN(h0:0<=j)(h:xs[j.toNat]?=some x):prim .ix [.tup xs,.int j]=some (.dat x):=uf h0 h
theorem znW(h0:0<=j)(h:j<fs.length):prim .ix [.fl (fs.map .int),.int j]=some (.dat (.int (at' fs j))):=uf h0 (zo8 h0 h)
theorem TQ:L2.oE (n+1) (-1)=some n:=by
 unfold L2.oE;simp
 lia
theorem Jo:prim .ix [.fl (xs++[x]),.int (-1)]=some (.dat x):=by
 show Option.map Rz.dat (L2.nu (xs++[x]) (-1))=_;have:L2.nu (xs++[x]) (-1)=some x:=by
  unfold L2.nu;rw[dH];show (L2.oE (xs.length+1) (-1)).bind _=_;rw[TQ];simp
 rw[this];rfl
noncomputable def cO(k a b:Int):Int:=if k-(if a-b<0 then -(a-b) else a-b)<(if a-b<0 then -(a-b) else a-b) then k-(if a-b<0 then -(a-b) else a-b) else (if a-b<0 then -(a-b) else a-b)
theorem DP(hd:1<=d):d<=cO k a b↔(d<=a-b/\a-b<=k-d)\/(d<=b-a/\b-a<=k-d):=by
 unfold cO
 split<;>split<;>lia
theorem zfa(j:Int)(ls:List Int):memD (.int j) (ls.map .int)=some (decide (j∈ls)):=by
 induction ls with
 |nil=>rfl
 |cons q r ih=>
  have hi:bY 50 (.int q) (.int j)=some (q==j):=rfl;simp only[jr,memD,ih,hi]
  congr 1
  by_cases h:q=j
  ·subst h;simp
  ·have h2:¬j=q:=λe=>h e.symm;simp[h,h2]
structure TV(n k d:Int)(ps:List (Int×Int))(hs:List Int):Prop where
 len:(hs.length:Int)=n
 lo:∀x∈hs,0<=x/\x<k
 fit:∀p∈ps,d<=cO k (at' hs p.1) (at' hs p.2)
section
variable {aq:Nat->Nat->Bool}{aj:Bool}{F:Bool->Fn}{J:Vs}{s:S}{Q:Out->S->Prop}
theorem WS.wh(I:Nat->Vs->S->Prop)(hm:m<nM)(h0:I m J s)
  (step:∀m J s,I m J s->W (ev aq aj (F aj) c J) s λx s1=>W (Mi.bool x) s1 λk s2=>(k=true->WS (exs aq aj F b J) s2 λo s3=>(∃J' m',o=.nx J'/\m'<m/\I m' J' s3)\/(∃x,o=.rt x/\Q (.rt x) s3))/\(k=false->Q (.nx J) s2)):WS (ex aq aj F (.wh c b) J) s Q:=by
 have key:∀n m J s,m<n->I m J s->WS (gJ (λJ=>M.bd (ev aq aj (F aj) c J) Mi.bool) (λJ=>exs aq aj F b J) n J) s Q:=by
  intro n
  induction n with
  |zero=>intro m J s h;exact absurd h (Ky _)
  |succ n ih=>
   intro m J s hmn hI;obtain⟨x,s1,e1,k,s2,e2,hk⟩:=step m J s hI;unfold gJ;refine WS.ofM (W.bd ⟨x,s1,e1,k,s2,e2,?_⟩);cases k with
   |false=>exact⟨_,s2,by rw[if_neg J0],hk.2 rfl⟩
   |true=>
    obtain⟨o,s3,e3,hr⟩:=hk.1 rfl;rcases hr with ⟨J',m',rfl,MP,wM⟩|⟨x,rfl,hq⟩
    ·obtain⟨o2,s4,e4,q⟩:=ih m' J' s3 gV wM;exact⟨o2,s4,by rw[if_pos rfl,e3];exact e4,q⟩
    ·exact⟨_,s3,by rw[if_pos rfl,e3],hq⟩
 exact key nM m J s hm h0
end
section
variable {aq:Nat->Nat->Bool}{aj:Bool}{F:Fn}{J:Vs}{s:S}{P:Xv->S->Prop}
theorem W.pop(h:W (ev aq aj F o J) s λv s1=>v=.l n/\s1[n]?=some (.lst (xs++[x]))/\P (.d x) (s1.set n (.lst xs))):W (ev aq aj F (.pop o) J) s P:=by
 refine W.bd (h.imp λv s1 h=>?_);obtain⟨rfl,e,h⟩:=h;refine W.bd (W.cJ e ?_);have e1:(xs++[x]).getLast?=some x:=by simp
 have e2:(xs++[x]).dropLast=xs:=by simp
 simp only[e1,e2];exact W.bd (MN (W.ret h))
end
def Ge(h r:List Int):Prop:=∀j:Nat,j<r.length->(∀i:Nat,i<j->at' h i=at' r i)->at' r j<=at' h j
theorem zf2(g:Ge h r)(h0:∀j:Nat,0<=at' h j):Ge h (r++[0]):=by
 intro j hj ha;rw[dH] at hj;by_cases hl:j<r.length
 ·rw[lD gV gV];exact g j hl λi hi=>by rw[ha i hi,lD gV gV]
 ·have:j=r.length:=by simp at hj;lia
  subst this;rw[yO];exact h0 _
theorem zil(g:Ge h (r++[x]))(hx:(∀i:Nat,i<r.length->at' h i=at' r i)->at' h r.length≠x):Ge h (r++[x+1]):=by
 intro j hj ha;rw[dH] at hj;by_cases hl:j<r.length
 ·rw[lD gV gV];have:=g j (by rw[dH];lia) λi hi=>by rw[ha i hi,lD gV gV,lD gV gV]
  rwa [lD gV gV] at this
 ·have:j=r.length:=by simp at hj;lia
  subst this;rw[yO];have ha':∀i:Nat,i<r.length->at' h i=at' r i:=λi hi=>by rw[ha i hi,lD gV gV]
  have:=g r.length Rb λi hi=>by rw[ha' i hi,lD gV gV]
  rw[yO] at this;have:=hx ha'
  lia
theorem zlv(g:Ge h (r++[y]++[x]))(hx:(∀i:Nat,i<(r++[y]).length->at' h i=at' (r++[y]) i)->False):Ge h (r++[y+1]):=by
 have g1:Ge h (r++[y]):=by
  intro j hj ha;have:=g j (by rw[dH];lia) λi hi=>by rw[ha i hi,lD (fs:=r++[y]) (gs:=[x]) gV gV]
  rwa [lD gV gV] at this
 refine zil g1 λha e=>hx λi hi=>?_;rw[dH] at hi;by_cases hl:i<r.length
 ·rw[ha i hl,lD gV gV]
 ·have:i=r.length:=by simp at hi;lia
  subst this;rw[yO,e]
noncomputable def val(B:Nat):List Int->Nat->Nat
 |[],_=>0
 |x::r,n=>x.toNat*B^(n-1)+val B r (n-1)
theorem BK(B:Nat):∀(r t:List Int) (n:Nat),val B (r++t) n=val B r n+val B t (n-r.length)
 |[],t,n=>by simp[val]
 |x::r,t,n=>by
  simp only[List.cons_append,val,BK B r t (n-1),fX];rw[show n-1-r.length=n-(r.length+1) by lia]
  lia
theorem M4{B:Nat}(hB:0<B):∀{r:List Int} {n:Nat},(∀z∈r,z<B)->r.length<=n->val B r n+B^(n-r.length)<=B^n
 |[],n,_,_=>by simp[val]
 |x::r,n,h,hl=>by
  rw[fX] at hl;have ih:=M4 hB (r:=r) (n:=n-1) (λz hz=>h z (by simp[hz])) gV;have hx:x.toNat+1<=B:=by have:=h x Rb;lia
  simp only[val,fX];rw[show n-(r.length+1)=n-1-r.length by lia];have h2:B^n=B*B^(n-1):=by
   conv=>lhs;rw[show n=n-1+1 by lia]
   rw[Nat.pow_succ,Nat.mul_comm]
  rw[h2];have h3:=zp (B^(n-1)) hx;rw[zG] at h3
  lia
noncomputable def left'(B n:Nat)(r:List Int):Nat:=(n+1)*(B^n-val B r n)+(n-r.length)
theorem zgn(h:r.length<n):left' B n (r++[0])<left' B n r:=by
 unfold left';rw[BK];simp[val]
 lia
theorem ze7{B n a b la lb:Nat}(h:a<b)(hb:b<=B^n)(hl:la<=n)(uR:lb<=n):(n+1)*(B^n-b)+(n-lb)<(n+1)*(B^n-a)+(n-la):=by
 have:B^n-b+1<=B^n-a:=by lia
 have:=Ot (n+1) this;rw[Nat.mul_add] at this
 lia
theorem zhT{B n:Nat}{r:List Int}{x:Int}(h0:0<=x)(hx:x+1<B)(hr:∀z∈r,z<B)(h:r.length<n):left' B n (r++[x+1])<left' B n (r++[x]):=by
 have h1:=M4 (B:=B) gV (r:=r++[x+1]) (n:=n) (λz hz=>by
  rcases kO.mp hz with hz|hz
  ·exact hr z hz
  ·have:z=x+1:=by simpa using hz
   lia) (by rw[dH];simp;lia)
 unfold left';refine ze7 ?_ gV (by simp;lia) (by simp;lia);rw[BK,BK];simp only[val];rw[show (x+1).toNat=x.toNat+1 by lia,zG];have:0<B^(n-r.length-1):=Nat.pow_pos gV
 lia
theorem zhc{B n:Nat}{r:List Int}{y x:Int}(h0:0<=y)(hy:y+1<B)(TX:0<=x)(hx:x<B)(hr:∀z∈r,z<B)(h:r.length+1<n):left' B n (r++[y+1])<left' B n (r++[y]++[x]):=by
 have h1:=M4 (B:=B) gV (r:=r++[y+1]) (n:=n) (λz hz=>by
  rcases kO.mp hz with hz|hz
  ·exact hr z hz
  ·have:z=y+1:=by simpa using hz
   lia) (by rw[dH];simp;lia)
 unfold left';refine ze7 ?_ gV (by simp;lia) (by simp;lia);rw[BK,BK,BK];simp only[val,dH];rw[show (y+1).toNat=y.toNat+1 by lia,zG];have e1:B^(n-r.length-1)=B*B^(n-(r.length+[y].length)-1):=by
  conv=>lhs;rw[show n-r.length-1=n-(r.length+[y].length)-1+1 by simp;lia]
  rw[Nat.pow_succ,Nat.mul_comm]
 have h2:x.toNat+1<=B:=by lia
 have h3:=zp (B^(n-(r.length+[y].length)-1)) h2;rw[zG] at h3;have:0<B^(n-(r.length+[y].length)-1):=Nat.pow_pos gV
 lia
theorem zkh(xs:List D):bY 50 (.fl xs) (.fl [])=some (decide (xs=[])):=by
 cases xs with
 |nil=>rfl
 |cons x r=>rfl
theorem TY:yc f [.fl xs,.fl []]=some (.dat (.bl (f (decide (xs=[]))))):=by
 show Option.map _ (bY 50 (.fl xs) (.fl []))=_;rw[zkh];rfl
theorem zml{f:Bool->Bool}{j:Int}{ls:List Int}:yd f [.int j,.tup (ls.map .int)]=some (.dat (.bl (f (decide (j∈ls))))):=by
 show Option.map _ (memD (.int j) (ls.map .int))=_;rw[zfa];rfl
noncomputable def bB(k d:Int):D:=.tup [.int k,.int d]
theorem Kbe{c:Src}{xs:List D}{f:D->List D->M (List D)}{s1:S}{acc:List D}{P:List D->S->Prop}(hc:∀i,c.at i s1=some xs[i]?)(I:Nat->List D->Prop)(h0:I 0 acc)(hb:∀i x acc,xs[i]?=some x->I i acc->W (f x acc) s1 λa s'=>s'=s1/\I (i+1) a)
  (he:∀acc,I xs.length acc->P acc s1):W (Mi.walk c f (xs.length+1) 0 acc) s1 P:=by
 have key:∀n i acc,i+n=xs.length->I i acc->W (Mi.walk c f (n+1) i acc) s1 P:=by
  intro n
  induction n with
  |zero=>
   intro i acc hi hI;have e:xs[i]?=none:=by rw[oN];lia
   have:i=xs.length:=by lia
   subst this;refine⟨acc,s1,?_,he acc hI⟩;unfold Mi.walk;simp only[hc,e]
  |succ n ih=>
   intro i acc hi hI;have dh:i<xs.length:=by lia
   have e:xs[i]?=some xs[i]:=cP dh;obtain⟨a,s',eb,rfl,wM⟩:=hb i xs[i] acc e hI;obtain⟨a2,s2,e2,q⟩:=ih (i+1) a gV wM;refine⟨a2,s2,?_,q⟩;unfold Mi.walk;simp only[hc,e,M.bd,eb];exact e2
 exact key xs.length 0 acc gV h0
section
variable {aq:Nat->Nat->Bool}{F:Fn}{J:Vs}{s:S}{P:Xv->S->Prop}
theorem Kay{α:Type}{f:α->D}{l:List α}{fz:Bool}{elt:E}{tg:List Nat}{it:Wk}{fr:List Nat}{many:Nat}{cond:Eo}(s1:S)(g:α->Option D)(hc:l.length<=sizeLine)
  (hw:W (mH aq true F it J) s λcn s'=>s'=s1/\cn.2=(l.map f).length/\∀i,cn.1.at i s1=some (l.map f)[i]?)
  (hb:∀x∈l,qY (gB tg (f x) (blk many fr J)) λJ'=>W (pZ aq true F cond J') s1 λb s'=>s'=s1/\(b=true->W (ev aq true F elt J') s1 λy s2=>s2=s1/\∃d,y=.d d/\g x=some d)/\(b=false->g x=none))
  (h:W (newL fz (l.filterMap g)) s1 P):W (ev aq true F (.comp fz elt tg it fr many cond) J) s P:=by
 change W (_root_.ite (true=true) _ _) s P
 rw[if_pos rfl];refine W.bd (hw.imp λcn s'=>?_);rintro⟨rfl,h2,h3⟩;refine W.bd ?_;rw[h2];refine Kbe h3 (λi acc=>acc=(l.take i).filterMap g) rfl (λi x acc e hI=>?_) (λacc hI=>?_)
 ·subst hI;rw[fB] at e;cases el:l[i]? with
  |none=>rw[el] at e;cases e
  |some y=>
   rw[el] at e;cases e;have hi:i<l.length:=(cI.mp el).1;have ht:l.take (i+1)=l.take i++[y]:=by rw[Cz,el];rfl
   have hl:((l.take i).filterMap g).length<sizeLine:=Ox (wY _ _) (by rw[uF];lia);obtain⟨J',e1,h1⟩:=hb y (dM el);refine W.bd (W.opt e1 ?_);refine W.bd (W.qt (h1.imp λb s2=>?_));rintro⟨rfl,h2,h3⟩;rw[ht,Eh];cases b
   ·rw[if_neg J0];refine W.ret ⟨rfl,?_⟩;simp[h3 rfl]
   ·rw[if_pos rfl];refine W.bd (W.qt ((h2 rfl).imp λy s3=>?_));rintro⟨rfl,d,rfl,eg⟩;refine W.bd (W.dat ?_);rw[if_pos hl];refine W.ret ⟨rfl,?_⟩;simp[eg]
 ·subst hI;rw[cj,xH];exact h
end
theorem u_{α:Type}{l:List α}{f:α->D}:l.filterMap (λx=>some (f x))=l.map f:=by
 rw[<-List.filterMap_eq_map];rfl
theorem zoc{α:Type}{l:List α}{f:α->D}{q:α->Prop}[DecidablePred q]:l.filterMap (λx=>if q x then some (f x) else none)=(l.filter λx=>decide (q x)).map f:=by
 induction l with
 |nil=>rfl
 |cons x r ih=>
  rw[zu,List.filter_cons];by_cases e:q x
  ·simp[e,ih]
  ·simp[e,ih]
theorem M5(I:Nat->Vs->S->Prop)(h0:I 0 J s)(hb:∀i x J s,c[i]?=some x->I i J s->WS (b x J) s λo s'=>(∃J',o=.nx J'/\I (i+1) J' s')\/(∃x,o=.rt x/\Q (.rt x) s'))
  (he:∀J s,I c.length J s->Q (.nx J) s):WS (dJ (.fix c) b (c.length+1) 0 J) s Q:=by
 have key:∀n i J s,i+n=c.length->I i J s->WS (dJ (.fix c) b (n+1) i J) s Q:=by
  intro n
  induction n with
  |zero=>
   intro i J s hi hI;have e:c[i]?=none:=by rw[oN];lia
   have:i=c.length:=by lia
   subst this;refine⟨_,s,?_,he J s hI⟩;unfold dJ;simp only[Src.at,e]
  |succ n ih=>
   intro i J s hi hI;have dh:i<c.length:=by lia
   have e:c[i]?=some c[i]:=cP dh;obtain⟨o,s',eb,hr⟩:=hb i c[i] J s e hI;rcases hr with ⟨J',rfl,wM⟩|⟨x,rfl,hq⟩
   ·obtain⟨o2,s2,e2,q⟩:=ih (i+1) J' s' gV wM;refine⟨o2,s2,?_,q⟩;unfold dJ;simp only[Src.at,e,eb];exact e2
   ·refine⟨_,s',?_,hq⟩;unfold dJ;simp only[Src.at,e,eb]
 exact key c.length 0 J s gV h0
theorem BL{n k:Int}(hn:n<=6)(hk:k<=18):(n.toNat+1)*(k.toNat+1)^n.toNat+n.toNat<1000000000:=by
 have h1:(k.toNat+1)^n.toNat<=19^n.toNat:=Nat.pow_le_pow_left gV _;have h2:19^n.toNat<=19^6:=Nat.pow_le_pow_right J0 gV;have h3:(n.toNat+1)*(k.toNat+1)^n.toNat<=7*19^6:=CG gV gV;have h4:7*19^6=329321167:=by decide
 lia
theorem Jp{xs:List D}{i:Nat}(h:i<=xs.length):cut xs none (some (i:Int))=xs.take i:=by
 unfold cut;rw[HT.jF,HT.lX,Nat.min_eq_left h];simp
theorem wN{xs:List D}{i:Nat}(h:i<=xs.length):cut xs (some (i:Int)) none=xs.drop i:=by
 unfold cut;rw[HT.jF,HT.lX,Nat.min_eq_left h];rw[List.take_of_length_le];rw[Et]
 lia
theorem zh3(h:xs.length+ys.length<=sizeLine):prim .add [.tup xs,.tup ys]=some (.dat (.tup (xs++ys))):=by
 show (if _ then _ else _)=_;rw[if_pos h]
noncomputable def q_:D->Bool
 |.exc _ _=>false
 |.ob _ _=>false
 |.any=>false
 |_=>true
noncomputable def whB:D->Bool
 |.int _=>true
 |_=>false
noncomputable def M6:D->Bool
 |.tup xs=>xs.all q_
 |d=>q_ d
theorem zgN{α:Type}(l:List α)(f:α->Bool):eO (l.map λx=>D.bl (f x))=some (l.map f):=by
 induction l with
 |nil=>rfl
 |cons x r ih=>
  show Option.map _ (eO (r.map λx=>D.bl (f x)))=_;rw[ih];rfl
theorem T3{α:Type}{l:List α}{f:α->Bool}:prim .all [.fl (l.map λx=>D.bl (f x))]=some (.dat (.bl (l.all f))):=by
 show Option.map _ (eO (l.map λx=>D.bl (f x)))=_;rw[zgN];show some (Rz.dat (.bl ((l.map f).all id)))=_;rw[Fg];rfl
end Mi
namespace Mi
open PySem PySem.W PyProof.Rows L2
structure Ord(n:Nat)(lt:Nat->Nat->Option Bool)(le:Nat->Nat->Prop):Prop where
 ans:∀i j,i<n->j<n->(lt i j=some true/\le i j)\/(lt i j=some false/\le j i)
 tr:∀i j k,i<n->j<n->k<n->le i j->le j k->le i k
end Mi
namespace Mi
open PySem PySem.Spec PyProof.Rows L2 PySem.W
section
variable {K:W.Frag}{cA:Cl}{U:Ph}{H:Hp}
theorem zmE{d:D}{v:V}{k:Bool}(r:Rv K cA U H d v)(e:vV d=some k):Ae K v H k:=by
 cases d with
 |non=>
  cases (show Rep K cA U H .non v from r);cases e;rfl
 |bl c=>
  cases (show Rep K cA U H (.bl c) v from r);cases e;rfl
 |int i=>
  cases (show Rep K cA U H (.int i) v from r);cases e;rfl
 |tup xs=>
  cases (show Rep K cA U H (.tup xs) v from r) with
  |tup t q=>
   cases e;refine .inr (.inl ⟨_,t.iV,?_⟩);cases q<;>rfl
 |fl xs=>
  obtain⟨a,us,rfl,sq,q⟩ : ∃a us,v=.ref a/\cR K H a us/\aC K cA U H xs us:=r;cases e;refine .inl ⟨_,sq,?_⟩;cases q<;>rfl
 |_=>cases e
end
section
variable {X:Cx}{cA:Cl}{aq:Nat->Nat->Bool}{aj:Bool}{F:Fn}{EX:XS}{a b:Expr}{A B:E}{pos p:Pos}{x:Str}{e:Expr}{es:List Expr}{Xs:Es}
noncomputable def ug(sc:Scope)(x:Str):Bool:=match sc.names.lookup x with
 |some k=>Bq k
 |none=>false
noncomputable def M7(sc:Scope)(x:Str):Bool:=match sc.names.lookup x with
 |some .globalImplicit=>true
 |_=>false
theorem T4{sc:Scope}{x:Str}(h:ug sc x=true):∃k,sc.names.lookup x=some k/\Bq k=true:=by
 unfold ug at h;split at h
 ·rename_i k e;exact⟨k,e,h⟩
 ·cases h
theorem zio{sc:Scope}{x:Str}(h:M7 sc x=true):sc.names.lookup x=some .globalImplicit:=by
 unfold M7 at h;split at h
 ·assumption
 ·cases h
theorem gk(h:M7 X.env.scope x=true:=by kernel_rfl):JK X x .globalImplicit:=⟨zio h⟩
theorem jl(h:(match X.env.scope.names.lookup x with|some .local=>true|_=>false)=true:=by kernel_rfl):JK X x .local:=by
 split at h
 ·exact⟨by assumption⟩
 ·cases h
theorem jc(h:(match X.env.scope.names.lookup x with|some .cell=>true|_=>false)=true:=by kernel_rfl):JK X x .cell:=by
 split at h
 ·exact⟨by assumption⟩
 ·cases h
theorem vd{scope:Scope}{cl:List (Str×Addr)}{N:List Str}{Cc:Addr}{s3:Shared}{H3:Hp}{fp:List Addr}{ao:List (Addr×Obj)}(h:M7 scope x=true:=by kernel_rfl):JK (X.blk scope cl N Cc s3 H3 fp ao) x .globalImplicit:=Zh (zio h) rfl
theorem gv(i:Nat)(h:(decide (X.N[i]?=some x)&&ug X.env.scope x&&okN x)=true:=by kernel_rfl):JE X cA aq aj F EX (.Name x pos) (.v i):=by
 rw[gw,gw] at h;obtain⟨k,e,hv⟩:=T4 h.1.2;exact Zi i (kJ h.1.1) ⟨e⟩ hv h.2
theorem bI(i:Nat){scope:Scope}{cl:List (Str×Addr)}{N:List Str}{Cc:Addr}{s3:Shared}{H3:Hp}{fp:List Addr}{ao:List (Addr×Obj)}(h:(decide (N[i]?=some x)&&ug scope x&&okN x)=true:=by kernel_rfl):JE (X.blk scope cl N Cc s3 H3 fp ao) cA aq aj F EX (.Name x pos) (.v i):=by
 rw[gw,gw] at h;obtain⟨k,e,hv⟩:=T4 h.1.2;by_cases hk:k=.free
 ·subst hk;exact zo0 i (kJ h.1.1) e h.2
 ·exact Zi i (kJ h.1.1) (Zh e (by cases k<;>first|rfl|exact absurd rfl hk)) hv h.2
theorem gc{f k:Nat}{cm:Bool}{st:Stmt}{ps:List Str}(Fo:bZ X.prog X.w X.K X.mg X.base (gA X.prog X.w) cm k (g_ X.K x) (fdOf X.K x st) ps (kj X.K cA (F f)))(D:D3 X.K X.mg x st ps)(hr:bD k X.A)(R:JR X EX)(g:JK X x .globalImplicit)(ha:JA X cA aq aj F EX (e::es) Xs)(h:okN x=true:=by kernel_rfl)
  (ji:cm=true->X.aj=true:=by first|exact λ_=>rfl|exact λz=>nomatch z) (he:aF e=true:=by rfl) (hpl:es.all aF=true:=by rfl):JE X cA aq aj F EX (.Call (.Name x p) (e::es) [] pos) (.call f Xs):=
 zkD f Fo ji hr D.m D.f.kp D.b R g ha h he hpl
theorem nd(h:decide X.N.Nodup=true:=by kernel_rfl):X.N.Nodup:=kJ h
end
theorem fJ{P:Program}{w:World}{K:W.Frag}{mg:Str->Option Value}{base:Heap}{cA:Cl}{aq:Nat->Nat->Bool}{T:Nat->Option Df}{x:Str}{st:Stmt}{ps:List Str}{k n:Nat}{cm:Bool}{df:Df}(D:D3 K mg x st ps)(N:List Str)(hT:T n=some df)
  (hb:∀(cdv:Value) (A:Around) (outer:List Env) (s:Shared) (H:Hp) (E:XK),bD k (A.deeper (envOfC x (au st) s.heap.objs.size (g_ K x) cdv))->
   JB (f9 (gA P w) P w K mg base N x (au st) (g_ K x) cdv A outer s H E cm) cA aq cm (λc=>call aq T k c) (λ_ C dx H'=>E C dx H') (aL st) df.body) (S:cX N ps (au st):=by exact⟨rfl,rfl,rfl,dk,rfl,dk,dk⟩) (hp:df.g8=ps.length:=by rfl) (hm:df.many=N.length:=by rfl) :
  bZ P w K mg base (gA P w) cm (k+1) (g_ K x) (fdOf K x st) ps (kj K cA (call aq T (k+1) cm n)):=Zy D.f S hT hp hm hb
end Mi
namespace Mi
open PySem PySem.Spec PyProof.Rows L2
section
variable {K:W.Frag}{cA:Cl}{U:Ph}{H:Hp}{s:S}
theorem zey{β:Type}{c:Nat}{x:Xv}{v:V}{k:List D->M β}{P:β->S->Ph->Hp->Prop}{Ee:Nat->List D->S->Ph->Hp->Prop}(r:aW K cA U H x v)(h:Run K cA (M.bd (qO c x) k) U H s P Ee) :
  ∃fs ad dx vs,v=.ref ad/\H ad=some (.ins (cA.b c) dx ((cA.g c).zip vs))/\aC K cA U H fs vs/\Run K cA (k fs) U H s P Ee:=by
 cases r with
 |l _=>exact h.elim
 |d r=>cases r with
  |@ob ad e fs vs q r=>
   have h2:Run K cA (M.bd (if e=c then M.ret fs else M.no) k) U H s P Ee:=h;clear h;by_cases z:e=c
   ·rw[if_pos z] at h2;subst z;obtain⟨_,dx,q1,_⟩:=q;exact⟨fs,ad,dx,vs,rfl,q1,r,h2⟩
   ·rw[if_neg z] at h2;exact h2.elim
  |_=>exact h.elim
theorem Run.qt'{α:Type}{m:M α}{P:α->S->Ph->Hp->Prop}{Ee Ee':Nat->List D->S->Ph->Hp->Prop}(h:Run K cA (M.qt m) U H s P Ee):Run K cA m U H s P Ee':=by
 unfold Run M.qt at *;cases e:m s with
 |none=>rw[e] at h;exact h
 |some r=>
  obtain⟨r,s1⟩:=r;rw[e] at h;cases r with
  |ok a=>exact h
  |er c f=>exact h.elim
theorem zcf:∀{ns:List Str} {vs:List V} {m:Str},m∉ns->(ns.zip vs).lookup m=none
 |[],vs,m,_=>by simp
 |n::ns,[],m,_=>by simp
 |n::ns,v::vs,m,h=>by
  rw[Em,oO,show (m==n)=false from w6.mpr λe=>h (by simp[e])];exact zcf λz=>h (iz _ z)
end
structure Ow(K:W.Frag)(cA:Cl)(c:Nat):Prop where
 cl:Cls K (cA.b c)
 nf:∀f∈cA.g c,gG K (cA.b c) f
 nd:(cA.g c).Nodup
section
variable {X:Cx}{cA:Cl}{aq:Nat->Nat->Bool}{aj:Bool}{F:Fn}{EX:XS}{a e:Expr}{es:List Expr}{A:E}{Xs:Es}{pos apos p:Pos}{x:Str}
theorem vf{c i:Nat}(o:Ow X.K cA c)(ha:JE X cA aq aj F EX a A)(hi:((cA.g c)[i]?==some x)=true:=by kernel_rfl)(hb:attributeBase a x X.env (eval a X.env)=eval a X.env:=by rfl):JE X cA aq aj F EX (.Attribute a x pos) (.of A c i):=⟨PE.weak (zkT ha.o hb) λZ H Q hh=>un hh λU J s hL hS h=>by
 refine aV hL hS h λy H1 U1 d1 s1 x1 hL1 aK r1 h1=>?_;obtain⟨fs,ad,dx,vs,rfl,q1,q2,h2⟩:=zey r1 h1;have hi:(cA.g c)[i]?=some x:=pI.mp hi;cases ef:fs[i]? with
 |none=>rw[ef] at h2;exact h2.elim
 |some d=>
  rw[ef] at h2;obtain⟨v,e1,rv⟩:=q2.get ef;exact⟨ad,_,dx,_,v,rfl,q1,o.cl,o.nf x (dM hi),zeD o.nd hi e1,h2.bG aK v (.d rv)⟩⟩
theorem zfb:Passes (gA X.prog X.w) X λ_ _ _=>False:=λao Z H s e s' I h=>by
 obtain⟨_,_,_,_,_,_,_,_,_,_,z⟩:=h;exact z.elim
structure Mt(K:W.Frag)(C:Addr)(m q:Str)(st:Stmt)(ps:List Str)(f:Addr)(fd:FuncData):Prop where
 fn:nQ K m q st f fd
 mt:Meth K C m f
 bd:Binds K fd ps []
theorem qj{c f k:Nat}{cm:Bool}{m q:Str}{st:Stmt}{ps:List Str}{fa:Addr}{fd:FuncData}{pl:Sem Bool}(o:Ow X.K cA c)(D:Mt X.K (cA.b c) m q st ps fa fd)(Fo:bZ X.prog X.w X.K X.mg X.base (gA X.prog X.w) cm k fa fd ps (kj X.K cA (F f)))(hr:bD k X.A)(ha:JE X cA aq aj F EX a A)(hb:JA X cA aq aj F EX (e::es) Xs)
  (hm:decide (m∉cA.g c)=true:=by kernel_rfl) (ji:cm=true->X.aj=true:=by first|exact λ_=>rfl|exact λz=>nomatch z) (he:aF e=true:=by rfl) (hpl:es.all aF=true:=by rfl)
  (ht:eval (.Call (.Attribute a m apos) (e::es) [] pos) X.env=(do
   let ov <-eval a X.env
   standAt apos.atName
   let (f,first) <-holding [ov] (getMethod ov m pl)
   callWith pos f first (backTo pos (starEach (e::es) X.env)) (backToKw pos (keywordEach [] X.env))):=by rfl):JE X cA aq aj F EX (.Call (.Attribute a m apos) (e::es) [] pos) (.cm c f A Xs):=⟨PE.weak (ziK (pl:=pl) (nq:=[]) ha.o o.cl D.mt Fo ji hr D.bd .nil zfb hb.o (bA he) (aY hpl) ht) λZ H Q hh=>un hh λU J s hL hS h=>by
 refine aV hL hS h λy H1 U1 d1 s1 x1 hL1 aK r1 h1=>?_;obtain⟨fs,ad,dx,vs,rfl,q1,q2,h2⟩:=zey r1 h1;refine⟨ad,dx,_,rfl,q1,zcf (kJ hm),nO hL1 aK h2 λus H2 U2 ds s2 x2 hL2 aP r2 h3=>?_⟩;rw[vo];obtain⟨U0,s0,a1,a2,a3⟩:=YX (EE:=λ_ _ _ _=>False) aP (.cons (r1.mono x2 aK.lz) r2) (λ_ _ _ _ _ _ z=>z) (h3.qt');refine⟨U0,_,s0,a1,a2,?_⟩;unfold Run at a3 ⊢;split at a3
 ·exact a3
 ·exact λU' H' x r=>(a3 U' H' x r).elim
 ·exact a3⟩
end
noncomputable def Jq(K:W.Frag)(cA:Cl)(c:Nat)(m:List Xv->M Xv):Sp:=λvs H Q _=>∃x dx us U H0 xs s,vs=.ref x::us/\H0 x=none/\H0 dx=none/\dx≠x/\H=upd (upd H0 dx (.own x)) x (.ins (cA.b c) dx [])/\aQ K cA U H0 xs us/\aH K cA U H0 s /\
 Run K cA (m (.d .any::xs)) U H0 s (λr _ U' H'=>∀ds ws,r=.d (.tup ds)->aC K cA U' H' ds ws->eU U' H' x (.ins (cA.b c) dx ((cA.g c).zip ws))->(cA.g c).length=ws.length->Q .non H') (λ_ _ _ _ _=>False)
section
variable {K:W.Frag}{cA:Cl}{U:Ph}{H:Hp}{s:S}
theorem zhw{xs:List Xv}{vs:List V}(h:locs xs=[])(r:aQ K cA U H xs vs)(l:List Addr):aQ K cA ⟨U.z,l⟩ H xs vs:=by
 induction r with
 |nil=>exact .nil
 |cons a r ih=>cases a with
  |d a=>exact .cons (.d (Rep.zl a l)) (ih h)
  |l a=>cases h
theorem Ext.made{x dx:Addr}{C:Addr}(hx:H x=none)(hd:H dx=none)(hn:dx≠x):Ext U H (U.mark x) (upd (upd H dx (.own x)) x (.ins C dx [])):=by
 have g:bC H (upd (upd H dx (.own x)) x (.ins C dx [])):=(bC.new hd).trans (bC.new (by rw[eE hn.symm];exact hx));exact⟨⟨[],by simp[Ph.mark],by simp⟩,λa z=>.inl z,λa z=>z.imp id λe=>by rw[e];exact hx,λa o h _=>g a o h,λa o h=>⟨o,g a o h⟩⟩
theorem aH.made{x dx:Addr}{C:Addr}(hS:aH K cA U H s)(hx:H x=none)(hd:H dx=none)(hn:dx≠x):aH K cA (U.mark x) (upd (upd H dx (.own x)) x (.ins C dx [])) s:=by
 have xt:=Ext.made (U:=U) (C:=C) hx hd hn;refine⟨hS.len,λn o a e1 e2=>(hS.obj n o a e1 e2).map (λu q=>?_) λ_ _ r=>r.mono xt hS.lz,hS.uniq,λa ha=>.inl (hS.lz a ha),λa z=>?_⟩
 ·have n1:a≠x:=λy=>by rw[y,hx] at q;cases q
  have n2:a≠dx:=λy=>by rw[y,hd] at q;cases q
  rw[eE n1,eE n2];exact q
 ·rcases z with z|z
  ·obtain⟨o,e⟩:=hS.zt a z;exact xt.stay a o e
  ·subst z;exact⟨_,jO⟩
end
section
variable {X:Cx}{cA:Cl}{aq:Nat->Nat->Bool}{aj:Bool}{F:Fn}{EX:XS}{e:Expr}{es:List Expr}{Xs:Es}{pos p:Pos}{x:Str}
theorem zo4{c f k:Nat}{cm:Bool}{ps:List Str}{fa:Addr}{fd:FuncData}(M:Mk X.K (cA.b c) fa)(Fo:bZ X.prog X.w X.K X.mg X.base (gA X.prog X.w) cm k fa fd ps (Jq X.K cA c (F f)))(hr:∀us,bD k (X.A.under (.builtin "type.__call__" ⟨.ref (cA.b c)::us,[]⟩)))(hb:Binds X.K fd ps [])(hm:X.mg x=some (.ref (cA.b c)))(hg:JK X x .globalImplicit)
  (ha:JA X cA aq aj F EX (e::es) Xs) (h:okN x=true:=by kernel_rfl) (ji:cm=true->X.aj=true:=by first|exact λ_=>rfl|exact λz=>nomatch z) (he:aF e=true:=by rfl) (hpl:es.all aF=true:=by rfl):JE X cA aq aj F EX (.Call (.Name x p) (e::es) [] pos) (.mk c f Xs):=⟨PE.weak (zju (nq:=[]) M Fo ji hr hg.o hm hb .nil zfb ha.o (rJ h).1 (bA he) (aY hpl)) λZ H Q hh=>un hh λU J s hL hS h=>
 nO hL hS h λus H1 U1 ds s1 x1 hL1 aK r1 h1 x dx hx hd hn=>by
  rw[vo];unfold Run RM at h1;by_cases hl:locs ds=[]
  ·simp only[if_pos hl] at h1;refine⟨x,dx,us,⟨U1.z,[]⟩,H1,ds,[],rfl,hx,hd,hn,rfl,zhw hl r1 [],⟨rfl,(λn o a e=>by simp at e),Cy,(λa ha=>by cases ha),aK.zt⟩,?_⟩;unfold Run;cases e:F f (.d .any::ds) [] with
   |none=>simp only[e] at h1
   |some r=>
    obtain⟨r,s2⟩:=r;simp only[e] at h1;cases r with
    |er c f=>exact h1.elim
    |ok r=>
     intro U' H' xt aP ts ws er rs kp hlen;subst er;have nx:¬U1.z x:=aK.nz hx;have ne:∀a o,H1 a=some o->a≠x:=λa o q y=>by rw[y,hx] at q;cases q
     have xt2:Ext U1 H1 ⟨λa=>U'.z a/\a≠x,U1.l⟩ H':=by
      refine⟨⟨[],by simp,by simp⟩,λa z=>⟨xt.rE a z,λy=>nx (y▸z)⟩,λa z=>xt.mK a z.1,λa o q _=>xt.frame a o q Rb,xt.stay⟩
     refine⟨rfl,h1 _ H' xt2 ⟨aK.len,λn o a e1 e2=>(aK.obj n o a e1 e2).map (λu q=>xt.frame a u q Rb) λ_ _ r=>r.mono xt2 aK.lz,aK.uniq,λa ha=>⟨xt.rE a (aK.lz a ha),λy=>nx (y▸aK.lz a ha)⟩,λa z=>aP.zt a z.1⟩ _ (.d (.ob ⟨λz=>z.2 rfl,dx,kp.at_,hlen⟩ (rs.jN (U':=⟨λa=>U'.z a/\a≠x,U1.l⟩) λ_ z=>z.1)))⟩
  ·simp only[if_neg hl] at h1⟩
end
structure wO(X:Cx)(cA:Cl)(aq:Nat->Nat->Bool)(aj:Bool)(F:Fn)(EX:XS)(c:Nat)(body:List Stmt)(is:Es)(ns:List Str):Prop where
 o:oU X body λD Z H=>∃U0 H0 U J s x dx done vs ys,Ext U0 H0 U H/\bx X.K cA U H Z J/\aH X.K cA U H s/\H0 x=none/\Z[0]?=some (some (.ref x))/\eU U H x (.ins (cA.b c) dx (done.zip vs))/\aQ X.K cA U H ys vs/\done.length=vs.length/\done++ns=cA.g c/\done.length+ns.length<=900 /\
  Run X.K cA (M.bd (evs aq aj F is J) λzs=>cB (ys++zs)) U0 H0 s (λes _ U' H'=>∀ws,aC X.K cA U' H' es ws->eU U' H' x (.ins (cA.b c) dx ((cA.g c).zip ws))->(cA.g c).length=ws.length->D.nx Z H') (eX X.K cA EX Z)
theorem zdV{f:Str}{v:V}:∀{fs:List (Str×V)},f∉fs.map (·.1)->eZ f v fs=fs++[(f,v)]
 |[],_=>rfl
 |(g,x)::r,h=>by
  unfold eZ;rw[if_neg λe=>h (by simp[e]),zdV λz=>h (iz _ z)];rfl
theorem aQ.out{K:W.Frag}{cA:Cl}{U:Ph}{H H':Hp}(x:dj U H H'){ds:List Xv}{vs:List V}(h:aQ K cA U H ds vs):aQ K cA U H' ds vs:=by
 induction h with
 |nil=>exact .nil
 |cons h _ ih=>exact .cons (h.out x) ih
theorem aQ.app{K:W.Frag}{cA:Cl}{U:Ph}{H:Hp}{ds es:List Xv}{vs us:List V}(h:aQ K cA U H ds vs)(s:aQ K cA U H es us):aQ K cA U H (ds++es) (vs++us):=by
 induction h with
 |nil=>exact s
 |cons h _ ih=>exact .cons h ih
theorem Run.er{K:W.Frag}{cA:Cl}{U:Ph}{H:Hp}{s:S}{α:Type}{m:M α}{P:α->S->Ph->Hp->Prop}{Ee:Nat->List D->S->Ph->Hp->Prop}(h:Run K cA m U H s P λ_ _ _ _ _=>False):Run K cA m U H s P Ee:=by
 unfold Run at *;split at h
 ·exact h
 ·exact λU' H' x r=>(h U' H' x r).elim
 ·exact h
section
variable {X:Cx}{cA:Cl}{aq:Nat->Nat->Bool}{aj:Bool}{F:Fn}{EX:XS}{c:Nat}{a:Expr}{A:E}{is:Es}{ns:List Str}{body:List Stmt}{f:Str}{pos p p2:Pos}
theorem zkZ:wO X cA aq aj F EX c [] .nil []:=⟨λao s Z H D I hh=>W3 ao s Z H D I (by
 obtain⟨U0,H0,U,J,st,x,dx,done,vs,ys,xt,hL,hS,hx,h0,kp,rs,hl,hg,hz,h⟩:=hh;rw[vo] at hg;subst hg;have h2:Run X.K cA (M.bd (cB ys) M.ret) U H st (λes _ U' H'=>∀ws,aC X.K cA U' H' es ws->eU U' H' x (.ins (cA.b c) dx ((cA.g c).zip ws))->(cA.g c).length=ws.length->D.nx Z H') (eX X.K cA EX Z):=by
  have h3:=h.ext xt;unfold Run at h3 ⊢;have e0:M.bd (evs aq aj F .nil J) (λzs=>cB (ys++zs)) st=cB ys st:=by show cB (ys++[]) st=_;rw[vo]
  rw[e0] at h3;unfold M.bd;cases e1:cB ys st with
  |none=>rw[e1] at h3;exact h3
  |some r=>
   obtain⟨r,s2⟩:=r;rw[e1] at h3;cases r with
   |er c f=>exact h3
   |ok ds=>exact h3
 obtain⟨ds,_,rs2,h4⟩:=RV rs h2;exact h4.bG hS vs rs2 kp hl)⟩
theorem M8{j:Nat}(ow:Ow X.K cA c)(ha:JE X cA aq aj F EX a A)(hr:wO X cA aq aj F EX c body is ns)(h0:(decide (X.N[0]?=some ("self" : Str))&&ug X.env.scope "self"&&okN "self")=true:=by kernel_rfl)
  (hs:swapsWith a (some (.Attribute (.Name "self" p) f p2)) pos.line X.env=pure false:=by rfl):wO X cA aq aj F EX c (.Assign [.Attribute (.Name "self" p) f p2] a pos::body) (.cons A is) (f::ns):=by
 rw[gw,gw] at h0;obtain⟨k,e,hv⟩:=T4 h0.1.2;refine⟨λao s Z H D I hh=>W4 (zlu (WW (i:=0) (kJ h0.1.1) (by cases k<;>first|exact .inl e|exact .inr (.inl e)|exact .inr (.inr e)|cases hv) (rJ h0.2).1 (rJ h0.2).2.1) ha.o hs) hr.o ao s Z H D I ?_⟩;obtain⟨U0,H0,U,J,st,x,dx,done,vs,ys,xt,hL,hS,hx,TX,kp,rs,hl,hg,hz,h⟩:=hh;have h:Run X.K cA (M.bd (M.bd (ev aq aj F A J) λy=>M.bd (evs aq aj F is J) λzs=>M.ret (y::zs)) λzs=>cB (ys++zs)) U0 H0 st _ _:=h;simp only[jm] at h;refine⟨U,J,st,hL,hS,(h.bd0 xt).imp λy s1 U1 H1 ⟨x1,aK,h1⟩ v rv=>?_⟩;have M9:=kp.mono x1;have nf:f∈cA.g c:=by rw[<-hg];simp
 have nd:f∉done:=λz=>by
  have:=ow.nd;rw[<-hg,Kq] at this;exact this.2.2 f z f Rb rfl
 have hk:(done.zip vs).map (·.1)=done:=by rw[List.map_fst_zip];lia
 refine⟨.ref x,TX,x,_,dx,_,rfl,M9.at_,ow.cl,ow.nf f nf,?_,?_⟩
 ·have:(done.zip vs).length<=done.length:=by rw[List.length_zip];lia
  simp at hz
  lia
 rw[zdV (by rw[hk];exact nd)];have ez:done.zip vs++[(f,v)]=(done++[f]).zip (vs++[v]):=by rw[List.zip_append hl];rfl
 rw[ez];have ox:dj U1 H1 (upd H1 x (.ins (cA.b c) dx ((done++[f]).zip (vs++[v])))):=M9.ext.1;refine⟨U0,H0,U1,J,s1,x,dx,done++[f],vs++[v],ys++[y],Ext.keep (vs:=[]) (xt.trans x1) hx,(hL.mono x1 hS.lz).out ox,aK.keep M9,hx,TX,M9.ext.2,((rs.mono x1 hS.lz).app (.cons rv .nil)).out ox,by simp[hl],by rw[<-hg,Kp];rfl,by simp at hz ⊢;lia,?_⟩;have h1:Run X.K cA (M.bd (evs aq aj F is J) λzs=>M.bd (M.ret (y::zs)) λzs=>cB (ys++zs)) U0 H0 s1 _ _:=h1;have e2:(λzs=>cB (ys++[y]++zs))=λzs=>M.bd (M.ret (y::zs)) λzs=>cB (ys++zs):=by
  funext zs
  rw[Kp];rfl
 rw[e2];exact h1
end
theorem zhk{K:W.Frag}{cA:Cl}{U:Ph}{H:Hp}{s:S}{α:Type}{m m':M α}{P:α->S->Ph->Hp->Prop}{Ee:Nat->List D->S->Ph->Hp->Prop}(e:m s=m' s)(h:Run K cA m U H s P Ee):Run K cA m' U H s P Ee:=by
 unfold Run at *;rw[<-e];exact h
theorem zfQ{aq:Nat->Nat->Bool}{T:Nat->Option Df}{k n m p:Nat}{cm:Bool}{is:Es}{xs:List Xv}{s:S}(hT:T n=some ⟨m,p,.cons (.ret (.tup is)) .nil⟩)(hl:xs.length=p) :
  call aq T (k+1) cm n xs s=M.bd (M.bd (evs aq cm (call aq T k cm) is (xs.map some++List.replicate (m-p) none)) cB) (λds=>M.ret (.d (.tup ds))) s:=by
 unfold call;simp only[hT,if_pos hl];show (match cC (ofM (M.bd (evs aq cm (call aq T k cm) is _) λvs=>M.bd (cB vs) λds=>M.ret (.d (.tup ds))) _ λx s=>some (.rt x,s)) _ s with|some (.nx _,s')=>_|some (.rt v,s')=>_|some (.er c fs _,s')=>_|_=>none)=_;rw[jm];unfold cC ofM;cases e:M.bd (evs aq cm (call aq T k cm) is (xs.map some++List.replicate (m-p) none)) (λvs=>M.bd (cB vs) λds=>M.ret (Xv.d (.tup ds))) s with
 |none=>rfl
 |some r=>
  obtain⟨r,s1⟩:=r;cases r<;>rfl
theorem zi2{P:Program}{w:World}{K:W.Frag}{mg:Str->Option Value}{base:Heap}{cA:Cl}{aq:Nat->Nat->Bool}{T:Nat->Option Df}{x qual:Str}{st:Stmt}{f:Addr}{fd:FuncData}{N ps:List Str}{k n c m p:Nat}{cm:Bool}{is:Es}(F:nQ K x qual st f fd)(hT:T n=some ⟨m,p,.cons (.ret (.tup is)) .nil⟩)
  (hb:∀(cdv:Value) (A:Around) (outer:List Env) (s:Shared) (H:Hp) (E:XK),bD k (A.deeper (envOfC qual (au st) s.heap.objs.size f cdv))->
   wO (f9 (gA P w) P w K mg base N qual (au st) f cdv A outer s H E cm) cA aq cm (call aq T k cm) (λ_ C dx H'=>E C dx H') c (aL st) is (cA.g c)) (hg:(cA.g c).length<=900) (S:cX N ps (au st):=by exact⟨rfl,rfl,rfl,dk,rfl,dk,dk⟩) (hp:p=ps.length:=by rfl) (hm:m=N.length:=by rfl) (h0:0<p:=by decide) :
  bZ P w K mg base (gA P w) cm (k+1) f fd ps (Jq K cA c (call aq T (k+1) cm n)):=by
 obtain⟨oc,od,kV,doc,pm,an,cdv,ct,osl,rfl,lk,jP⟩:=F.ex;have hlen:∀{U:Ph} {H:Hp} {s:Mi.S} {xs:List Xv} {P:Xv->Mi.S->Ph->Hp->Prop},Run K cA (call aq T (k+1) cm n (.d .any::xs)) U H s P (λ_ _ _ _ _=>False)->xs.length+1=p:=λ{U H s xs P} h=>by
  unfold call at h;simp only[hT] at h;by_cases hl:(Xv.d D.any::xs).length=p
  ·simpa using hl
  ·rw[if_neg hl] at h;exact h.elim
 refine Xi lk jP S (λvs H Q E hz=>?_) λA outer s H vs Q E hr hz=>?_
 ·obtain⟨x,dx,us,U,H0,xs,s,e,_,_,_,_,r,_,h⟩:=hz;have:=hlen h;rw[e,fX,<-r.len,<-hp]
  lia
 ·obtain⟨x,dx,us,U,H0,xs,st',e,hx,hd,hn,eH,r,hS,h⟩:=hz;refine⟨_,(hb cdv A outer s H E (hr.deeper _)).o,?_⟩;subst e eH;have hl:=hlen h;have xt:=Ext.made (U:=U) (C:=cA.b c) hx hd hn;refine⟨U,H0,U.mark x,(Xv.d .any::xs).map some++List.replicate (m-p) none,st',x,dx,[],[],[],xt,Zb (.cons (.d (.any x)) (r.mono xt hS.lz)) (by simp;lia) hm,hS.made hx hd hn,hx,rfl,⟨jO,λz=>hS.nz hx (hS.lz x z),.inr rfl⟩,.nil,rfl,rfl,by simpa using hg,?_⟩;have h2:=(zhk (zfQ hT (by simpa using hl)) h).bd0 Ext.refl;exact Run.er (Run.imp h2 λds s1 U1 H1 ⟨x1,aK,h4⟩ ws rs kp hl=>h4 U1 H1 x1 aK ds ws rfl rs kp hl)
section
variable {prog:Program}{w:World}{A:Around}{E:Value->Shared->Prop}{s:Shared}
theorem zds{r:Addr}{n:Nat}{lo hi:Int}{t u v:Tok}{Q:List Value->Shared->Prop}(hh:A.handled=none)(hr:IsRange s.heap r lo hi 1 t u v)(hs:Builtin.Range.small lo hi 1=true)(hn:Builtin.Range.rangeSize lo hi 1=n)(hl:n<=65536)
  (q:∀(h':Heap) (tk:Nat) (acc:Array Value),(∀b o,s.heap.get? b=some o->h'.get? b=some o)->ItemsOf (λi v=>∃t,v=.int (lo+i*1) t) acc n->Q acc.toList {s with heap:=h',toks:=tk}):wpAny (model prog w) A (collect (.ref r)) Q E s:=by
 unfold collect;refine aD (wpAny_runValue (Ey F.entry_proto_collect ?_));rw[Ek F.plain_proto_collect _];refine aD (m:=newList []) (wpAny_newList (bw ⟨Fd F.plain_list_iadd _,Ey F.entry_list_iadd ?_⟩));rw[Ek F.plain_list_iadd _];have fin:∀{r':Result} {s':Shared},(∃h' tk acc c,r'=.ok (.ret (.ref s.heap.objs.size))/\s'={s with heap:=h',toks:=tk}/\h'.get? s.heap.objs.size=some (seqObj "list" acc c)/\(∀b o,s.heap.get? b=some o->h'.get? b=some o)/\ItemsOf (λi v=>∃t,v=.int (lo+i*1) t) acc n)->(match r' with
   |.ok (.ret v)=>wpAny (model prog w) A (match v with
    |.ref a=>do
     match (<-load a).data with
      |.seq xs _=>pure xs.toList
      |_=>unsupported "internal:collect"
    |_=>unsupported "internal:collect") Q E s'
   |.ok _=>False
   |.error e=>E e s'):=λ{r' s'} z=>by
  obtain⟨h',tk,acc,c,rfl,rfl,hS,kp,rm⟩:=z;exact aD (wpAny_load hS (bw (q h' tk acc kp rm)))
 refine mX (wpAny_extend_range (A:=A) (s:={s with heap:=s.heap.push (seqObj "list" #[] 0)}) (R:=λr' s'=>∃h' tk acc c,r'=.ok (.ret (.ref s.heap.objs.size))/\s'={s with heap:=h',toks:=tk}/\h'.get? s.heap.objs.size=some (seqObj "list" acc c)/\(∀b o,s.heap.get? b=some o->h'.get? b=some o)/\ItemsOf (λi v=>∃t,v=.int (lo+i*1) t) acc n)
  hh (cQ _ hr) hs hn gV s.heap.objs.size (.ref s.heap.objs.size) 0 (fu _ rfl) λh' tk acc c kp hS rm=>⟨h',tk,acc,c,rfl,rfl,hS,λb o e=>kp b o (dU (bW e)) (cQ _ e),rm⟩) (λf s' z=>?_) λe s' z=>?_
 ·cases f with
  |done f=>exact fin z
  |again c'=>exact⟨z.1,CJ z.2 λr s'' hr=>fin hr⟩
 ·obtain⟨_,_,_,_,e,_⟩:=z;cases e
end
theorem ze2(r:Addr)(lo hi:Int)(t u v:Tok)(n:Nat)(hs:Builtin.Range.small lo hi 1=true)(hn:Builtin.Range.rangeSize lo hi 1=n)(hl:n<=65536):Meets (Builtin.«tuple.__new__» ⟨[.type "tuple",.ref r],[]⟩)
   (λA R s=>A.handled=none/\IsRange s.heap r lo hi 1 t u v/\∀(h':Heap) (tk:Nat) (acc:Array Value),(∀b o,s.heap.get? b=some o->h'.get? b=some o)->ItemsOf (λi v=>∃t,v=.int (lo+i*1) t) acc n->R (.ok (.ret (.ref h'.objs.size))) {s with heap:=h'.push {cls:=.type "tuple",data:=.seq acc},toks:=tk}):=
 .of_wp λprog w A R s h=>by
  obtain⟨hh,hr,h⟩:=h;have hsub:=sub_tuple_self;have hinit:=init_tuple_lookup;have hmh:=madeHere_tuple;have hT:s.TypeIs (.ref r) "range":=⟨_,hr,rfl⟩;have hh1:A.in1.handled=none:=hh
  wp_walk using wpAny_typeOf hT,J_ hr,zds hh1 hr hs hn hl
  intro h' tk acc hk rm;show wpAny _ _ (Builtin.Tuple.tupleExact acc.toList.toArray >>= λv=>ret v) _ _ _;unfold Builtin.Tuple.tupleExact;have e:acc.toList.toArray=acc:=by simp
  rw[e];exact aD (uD (bw ⟨_,rfl,h h' tk acc hk rm⟩) (show acc.size<=sizeLine by rw[rm.1];exact kW hl J0))
section
variable {X:Cx}
theorem zca{ao:List (Addr×Obj)}{Z:L2.St}{H:Hp}{s:Shared}{Q:VK}{hi:Int}{t u v:Tok}{tk:Nat}(hc:X.aj=true)(I:Inv X ao Z H s)(hk:okR 0 hi=true)
  (q:∀l,H l=none->Q (.ref l) (upd H l (.tup (DN 0 (hi-0).toNat)))) :
  wpAny (model X.prog X.w) X.A (PySem.call (.type "tuple") [.ref s.heap.objs.size]) (EP X ao Z Q) X.xe {s with heap:=s.heap.push {cls:=.type "range",data:=.fields #[.int 0 t,.int hi u,.int 1 v]},toks:=tk}:=by
 obtain⟨h1,h2,h3,h4,h5⟩:=kJ hk;have en:Builtin.Range.rangeSize 0 hi 1=((hi-0).toNat:Nat):=by rw[rangeSize_one];split<;>lia
 refine callType_new F.called_tuple J0 (F.typeCall_tuple_1 _) (F.newCall_tuple_1 _) (λobj=>F.args_object_init_2 obj _) F.entry_tuple_new (ze2 _ 0 hi t u v _ (small_one h1 h2 h3 h4) en h5) ⟨I.ok.hd hc,IsRange.new ..,λh' tk' acc kp ⟨z1,z2⟩=>?_⟩;have hv:Vals (DN 0 (hi-0).toNat) acc.toList:=by
  have:=zkl (i:=0) (acc:=acc) (n:=(hi-0).toNat) (m:=0) (λk v e=>by
   obtain⟨t,e⟩:=z2 k v (by simpa using e);exact⟨t,by rw[e,Int.mul_one,Fe]⟩) (by rw[xg];exact z1)
  simpa [DN] using this
 have hz:s.heap.objs.size<=h'.objs.size:=xM (bW (kp _ _ (fu s.heap rfl)));have I':=I.laid (a:=h'.objs.size) (o:=.tup (DN 0 (hi-0).toNat)) (h':=h'.push {cls:=.type "tuple",data:=.seq acc}) (t':=tk') (λb u q=>cQ _ (kp b u (cQ _ q))) hz (show bH X.prog X.w _ _ _ (.tup (DN 0 (hi-0).toNat)) from ⟨by
  rw[hv.length,xg,z1];exact kW h5 J0,acc.toList,hv,⟨_,fu _ rfl,rfl,0,by simp,rfl⟩⟩)
 exact⟨⟨_,fu _ rfl,rfl⟩,.ref h'.objs.size,_,I',rfl,q _ (I.hok.fresh hz)⟩
def Jr(vs:List V)(H:Hp)(Q:VK):Prop:=∃j:Int,vs=[.int j]/\okR 0 j=true/\∀l,H l=none->Q (.ref l) (upd H l (.tup (DN 0 (j-0).toNat)))
theorem zlb{e:Expr}{t:TA}{p p' pos pos':Pos}(hc:X.aj=true)(hg:Gl X "tuple")(hm:X.mg "tuple"=none)(T6:Gl X "range")(MP:X.mg "range"=none)(ha:PA X [e] t)(he:starEach [e] X.env=(false,eval e X.env)::starEach [] X.env:=by rfl) :
  PE X (.Call (.Name "tuple" p) [.Call (.Name "range" p') [e] [] pos'] [] pos) (Qq Jr t):=by
 intro ao s Z H Q I h;refine zy (uN I hg hm Du ?_);refine wX ?_ rfl rfl;show wpAny _ _ (spliced ((false,eval (.Call (.Name "range" p') [e] [] pos') X.env)::backTo pos (starEach [] X.env))) _ _ s;refine Calls.spliced_cons ?_;refine zy (uN I T6 MP boot_range ?_);refine wX (aX (ha pos' ao s Z H _ I h) λus s1 hz=>?_) he rfl;obtain⟨vs,H1,I1,r1,q1⟩:=hz;obtain⟨j,rfl,hk,q⟩:=q1;cases r1 with
 |cons r rr=>
  cases rr;obtain⟨t,rfl⟩:=r;exact call_range_1 (Calls.spliced_nil (zca hc I1 hk q))
theorem zlf{e:Expr}{te:TE}(h:PE X e te)(he:∀whole,isTrue e X.env whole=(do let v <-whole;standAt e.pos;holding [v] (truthy v))):PT X e (λZ H Q=>te Z H λx H1=>∃k,Ae X.K x H1 k/\Q k H1):=by
 intro ao s Z H Q I hw;exact isTrue_plain (aX (h ao s Z H _ I hw) λv s1 hx=>dX hx λx H1 I1 r1 q1=>zlc ao s1 Z H1 x v Q I1 r1 q1) (he _)
end
section
variable {K:W.Frag}{cA:Cl}{U:Ph}{H:Hp}
theorem zms:aZ K cA .Dm Jr:=by
 intro U H ds vs Q zt rs o;have o:bF K cA U H (A_ ds) Q:=o;unfold A_ at o;split at o
 ·rename_i j _;obtain⟨v,rfl,r1⟩:=rs.one;cases (show Rep K cA U H (.int j) v from r1);by_cases hk:okR 0 j=true
  ·rw[if_pos hk] at o;exact⟨j,rfl,hk,λl hl=>o.tup zt (ZX _) hl⟩
  ·rw[if_neg hk] at o;exact o.elim
 ·exact o.elim
end
section
variable {X:Cx}{cA:Cl}{aq:Nat->Nat->Bool}{aj:Bool}{F:Fn}{EX:XS}{a e:Expr}{A:E}{pos pos' p p':Pos}{Xs:Es}{fz:Bool}
theorem znB(hc:X.aj=true)(hm:X.mg "tuple"=none)(hg:JK X "tuple" .globalImplicit)(MP:X.mg "range"=none)(T6:JK X "range" .globalImplicit)(ha:JA X cA aq aj F EX [e] Xs)(he:aF e=true:=by rfl):JE X cA aq aj F EX (.Call (.Name "tuple" p) [.Call (.Name "range" p') [e] [] pos'] [] pos) (.pr fz .Dm Xs):=⟨PE.weak (zlb hc hg.o hm T6.o MP ha.o (bA he)) λZ H Q hh=>un hh λU J s hL hS h=>
 nO hL hS h λvs H1 U1 ds s1 x1 hL1 aK r1 h1=>by
  obtain⟨ds,rs,h3⟩:=rG aK r1 h1;exact zms U1 H1 ds _ _ aK.zs rs (qQ aK h3)⟩
theorem znv(ha:JE X cA aq aj F EX a A)(he:yG a=true:=by rfl):JT X cA aq aj F EX a (.Dn A):=⟨PT.weak (zlf ha.o (by cases a<;>first|(intro _;rfl)|cases he)) λZ H Q hh=>un (ZG hh) λU J s hL hS h=>by
 refine aV hL hS h λx H1 U1 d1 s1 x1 hL1 aK r1 h1=>?_;obtain⟨dd,rv,h2⟩:=Ij aK r1 h1;obtain⟨bb,e,h3⟩:=Ma h2;obtain⟨c,ec,q⟩:=h3.bG aK _ (.d (.bl bb));cases ec;exact⟨bb,zmE rv e,q⟩⟩
end
def gM(h:Heap)(items:Array Value)(rows:List (List Int))(no:List Addr):Prop:=∀i v,items[i]?=some v->∃a xs,v=.ref a/\IsTup h a xs/\IntsAre xs.toList (rows.getD i [])/\a∉no
theorem gM.keep{h h':Heap}{items:Array Value}{rows:List (List Int)}{no:List Addr}(g:gM h items rows no)(k:∀b o,b∉no->h.get? b=some o->h'.get? b=some o):gM h' items rows no:=λi v e=>by
 obtain⟨a,xs,e1,⟨o,e2,r⟩,e3,e4⟩:=g i v e;exact⟨a,xs,e1,⟨o,k a o e4 e2,r⟩,e3,e4⟩
noncomputable abbrev vg(rows:List (List Int))(i j:Nat):Bool:=HT.lexLt (rows.getD i []) (rows.getD j [])
section
variable {prog:Program}{w:World}{A:Around}{R:Result->Shared->Prop}{I S l:Addr}{items:Array Value}{rows:List (List Int)}
theorem zjN{s:Shared}{i j:Nat}{u v:Value}{Q:Value->Shared->Prop}{E:Value->Shared->Prop}(hu:A.units<cLine)(g:gM s.heap items rows [I,S])(h1:items[i]?=some u)(h2:items[j]?=some v)(q:Q (.bool (vg rows i j)) s):wpAny (model prog w) A (richCompare .Lt u v) Q E s:=by
 obtain⟨a,xs,rfl,p1,i1,_⟩:=g i u h1;obtain⟨b,ys,rfl,p2,i2,_⟩:=g j v h2;exact HT.jE p1 p2 i1 i2 hu q
theorem zeB(hh:A.handled=none)(hu:A.units+1<cLine)(hlI:l≠I)(hS:S∉[I,l]):∀(k j:Nat) (s:Shared) (vb:Value) (c:Nat),items.size-(j+1)=k->j+1<=items.size->(s.heap.IsListIter I l (j+1)/\s.heap.IsList l items)->items[argBest (vg rows) j]?=some vb->gM s.heap items rows [I,S]->
  s.heap.get? S=some (seqObj "list" #[vb,vb] c)->(∀v h' tk,items[argBest (vg rows) (items.size-1)]?=some v->(∀b o,b∉[I,S]->s.heap.get? b=some o->h'.get? b=some o)->R (.ok (.ret v)) {s with heap:=h',toks:=tk})->
  codeAny (model prog w) A (.builtin "min.loop" ⟨[.ref I,.none,.ref S],[]⟩) R s:=by
 have W:=Walks.list (prog:=prog) (w:=w) (A:=A.in1) hh I l hlI items;have nm:(toString "min"++toString ".loop" : String)="min.loop":=by decide
 have SI:S∉[I]:=λz=>hS (by simp at z;simp[z]);intro k
 induction k with
 |zero=>
  intro j s vb c e1 e2 st hb g oS q;refine Ey F.entry_min_loop ?_;rw[Ek zB _];refine aD (m:=seqItems? (.ref S)) (qz oS rfl ?_);refine aD (m:=tryCatch (pyNext (.ref I)) _) (wpAny_tryCatch (W.done s _ _ ((show j+1=items.size by lia)▸st) λh' tk kp=>?_));refine aD (m:=updateSeq S λ_=>#[]) (wpAny_updateSeq (kp S _ SI oS) rfl (aD (zJ (bw (q vb _ tk ?_ λb o hb e=>?_)))))
  ·rw[show items.size-1=j by lia];exact hb
  ·exact(vm _ _ (λz=>hb (by simp[z]))).trans (kp b o (λz=>hb (by simp at z;simp[z])) e)
 |succ k ih=>
  intro j s vb c e1 e2 st hb g oS q;refine Ey F.entry_min_loop ?_;rw[Ek zB _];refine aD (m:=seqItems? (.ref S)) (qz oS rfl ?_);refine aD (m:=tryCatch (pyNext (.ref I)) _) (wpAny_tryCatch (W.item (j+1) s _ _ gV st λv h' tk hP st' kp=>?_));have T7:=kp S _ SI oS;have g':gM h' items rows [I,S]:=g.keep λb o hb e=>kp b o (λz=>hb (by simp at z;simp[z])) e;refine aD (m:=tryCatch (holding [v,v] (richCompare .Lt v vb >>= _)) _) (wpAny_tryCatch (rA (aD (zjN (A:=A.in1) (s:={s with heap:=h',toks:=tk}) hu g' hP hb ?_))));refine aD (rA (rz (aD (zJ (bw ?_)))));cases e3:vg rows (j+1) (argBest (vg rows) j) with
  |true=>
   simp only[if_true];refine aD (wpAny_updateSeq T7 rfl (aD (zJ ?_)));rw[nm];have DQ:∀b o,b≠S->h'.get? b=some o->(h'.update S (Obj.mapSeq λ_=>#[v,v])).get? b=some o:=λb o hb e=>(vm _ _ (Ne.symm hb)).trans e;refine bw ⟨Fd zB _,ih (j+1) _ v _ gV gV (W.frame _ _ _ st' λb hb o e=>DQ b o (λz=>hS (by rw[<-z];exact hb)) e) (by simp only[argBest,e3,if_true];exact hP) (g'.keep λb o hb e=>DQ b o (λz=>hb (by simp[z])) e) (zm _ T7 rfl) λv' h2 tk2 Js Jt=>q v' h2 tk2 Js λb o hb e=>Jt b o hb (DQ b o (λz=>hb (by simp[z])) (kp b o (λz=>hb (by simp at z;simp[z])) e))⟩
  |false=>
   simp only[xu,rC];refine aD (zJ ?_);rw[nm];exact bw ⟨Fd zB _,ih (j+1) _ vb c gV gV st' (by simp only[argBest,e3,xu,rC];exact hb) g' T7 λv' h2 tk2 Js Jt=>q v' h2 tk2 Js λb o hb e=>Jt b o hb (kp b o (λz=>hb (by simp at z;simp[z])) e)⟩
theorem zeP{s:Shared}{E:Value->Shared->Prop}{Q:Value->Shared->Prop}(hh:A.handled=none)(hu:A.units+2<cLine)(hl:s.heap.IsList l items)(h0:0<items.size)(g:gM s.heap items rows [])
  (q:∀v h' tk,items[argBest (vg rows) (items.size-1)]?=some v->(∀b o,s.heap.get? b=some o->h'.get? b=some o)->Q v {s with heap:=h',toks:=tk}):wpAny (model prog w) A (PySem.call (.builtin "min") [.ref l]) Q E s:=by
 have nm:(toString "min"++toString ".loop" : String)="min.loop":=by decide
 have dh:l<s.heap.objs.size:=by obtain⟨o,e,_⟩:=hl;exact bW e
 refine call_function_tree F.kind_min F.plain_min F.entry_min (F.args_min1 _) ?_;refine aD (m:=Builtin.Builtins.bindParams "min" ["key","default"] 0 ⟨[],[]⟩) (wpAny_of_eq (show Builtin.Builtins.bindParams "min" ["key","default"] 0 ⟨[],[]⟩=pure [none,none] from rfl) (aD (bw ?_)));refine aD (Ko hl (aD (uD ?_)));rw[nm];have n1:(s.heap.push {cls:=.type "list_iterator",data:=.fields #[.ref l,.int 0 0]}).objs.size=s.heap.objs.size+1:=uH ..;refine bw ⟨Fd zB _,?_⟩;refine Ey F.entry_min_loop ?_;rw[Ek zB _];have W:=Walks.list (prog:=prog) (w:=w) (A:=A.in1) hh s.heap.objs.size l (dU dh) items;have oS:((s.heap.push {cls:=.type "list_iterator",data:=.fields #[.ref l,.int 0 0]}).push (seqObj "list" #[] 0)).get? (s.heap.objs.size+1)=some (seqObj "list" #[] 0):=by rw[<-n1];exact fu _ rfl
 have k0:∀b o,s.heap.get? b=some o->((s.heap.push {cls:=.type "list_iterator",data:=.fields #[.ref l,.int 0 0]}).push (seqObj "list" #[] 0)).get? b=some o:=λb o e=>cQ _ (cQ _ e);rw[n1];refine aD (m:=seqItems? (.ref (s.heap.objs.size+1))) (qz oS rfl ?_);refine aD (m:=tryCatch (pyNext (.ref s.heap.objs.size)) _) (wpAny_tryCatch (W.item 0 _ _ _ h0 ⟨⟨_,cQ _ (fu _ rfl),rfl,rfl⟩,hl.at λo e=>k0 l o e⟩ λv h' tk hP st' kp=>?_));have ne1:s.heap.objs.size+1∉[s.heap.objs.size]:=by simp
 refine aD (m:=updateSeq (s.heap.objs.size+1) λ_=>#[v,v]) (wpAny_updateSeq (kp _ _ ne1 oS) rfl ?_);rw[nm];have DQ:∀b o,b≠s.heap.objs.size+1->h'.get? b=some o->(h'.update (s.heap.objs.size+1) (Obj.mapSeq λ_=>#[v,v])).get? b=some o:=λb o hb e=>(vm _ _ (Ne.symm hb)).trans e;have Ju:∀b o,s.heap.get? b=some o->(h'.update (s.heap.objs.size+1) (Obj.mapSeq λ_=>#[v,v])).get? b=some o:=λb o e=>DQ b o (dU (uE (bW e))) (kp b o (by simpa using dU (bW e)) (k0 b o e));have out:∀b o,s.heap.get? b=some o->b∉[s.heap.objs.size,s.heap.objs.size+1]:=λb o e z=>by
  rcases iG.mp z with z|z
  ·exact absurd z (dU (bW e))
  ·exact absurd (rT.mp z) (dU (uE (bW e)))
 refine bw ⟨Fd zB _,zeB (A:=A) (rows:=rows) hh gV (dU dh) (λz=>by
  rcases iG.mp z with z|z
  ·exact absurd z (Nat.succ_ne_self _)
  ·exact absurd (rT.mp z) (vp (uE dh))) _ 0 _ v _ rfl h0 (W.frame _ _ _ st' λb hb o e=>DQ b o (λz=>by
  rcases iG.mp hb with y|y
  ·exact absurd (z.symm.trans y) (Nat.succ_ne_self _)
  ·exact absurd (z.symm.trans (rT.mp y)) (vp (uE dh))) e) hP ?_ (zm _ (kp _ _ ne1 oS) rfl) λv' h2 tk2 Js Jt=>q v' h2 tk2 Js λb o e=>Jt b o (out b o e) (Ju b o e)⟩
 intro i u e;obtain⟨a,xs,e1,⟨o,e2,r⟩,e3,_⟩:=g i u e;exact⟨a,xs,e1,⟨o,Ju a o e2,r⟩,e3,out a o e2⟩
end
theorem zel{x:List Int}{rs:List (List Int)}:∀k,k<=rs.length->(x::rs).getD (argBest (vg (x::rs)) k) []=fH x (rs.take k)
 |0,_=>rfl
 |k+1,hk=>by
  have ih:=zel (x:=x) (rs:=rs) k gV;have app:∀(a b:List (List Int)) (y:List Int),fH y (a++b)=fH (fH y a) b:=λa=>by
   induction a with
   |nil=>intro b y;rfl
   |cons z a ih=>intro b y;exact ih b _
  have ht:rs.take (k+1)=rs.take k++[rs[k]' gV]:=List.take_succ_eq_append_getElem gV;have hv:(x::rs).getD (k+1) []=rs[k]' gV:=by
   rw[jW,Cg,cP gV];rfl
  rw[ht,app,<-ih];show _=(if ltI (rs[k]' gV) _=true then _ else _);rw[argBest.eq_2,R5];unfold vg;rw[hv]
  split
  ·exact hv
  ·rfl
theorem zch{K:W.Frag}{cA:Cl}{U:Ph}{H:Hp}:∀{xs:List D} {rs:List (List Int)} {vs:List V},jK xs=some rs->aC K cA U H xs vs->rs.length=vs.length/\∀(i:Nat) v,vs[i]?=some v->∃a,v=.ref a/\TupAt K U H a ((rs.getD i []).map .int)
 |[],rs,vs,h,r=>by cases h;cases r;exact⟨rfl,λi v e=>by simp at e⟩
 |d::xs,rs,vs,h,r=>by
  cases r with
  |cons q r=>cases q with
   |@tup a ys us t ts=>
    unfold jK at h;cases e1:b_ ys with
    |none=>simp only[e1] at h;cases h
    |some is=>cases e2:jK xs with
     |none=>simp only[e1,e2] at h;cases h
     |some rr=>
      simp only[e1,e2] at h;cases h;obtain⟨l,k⟩:=zch e2 r;refine⟨by simp[l],λi v e=>?_⟩;cases i with
      |zero=>
       simp at e;subst e;refine⟨a,rfl,?_⟩;show TupAt K U H a (is.map V.int);rw[<-show _=is.map V.int from Ml e1 ts];exact t
      |succ i=>exact k i v (by simpa using e)
   |_=>cases h
section
variable {X:Cx}{cA:Cl}{aq:Nat->Nat->Bool}{aj:Bool}{F:Fn}{EX:XS}{e:Expr}{pos p:Pos}{es:List Expr}{Xs:Es}{fz:Bool}
def uh(K:W.Frag)(vs:List V)(H:Hp)(Q:VK):Prop:=∃(l:Addr) (x:List Int) (rs:List (List Int)) (us:List V),vs=[.ref l]/\cR K H l us/\(x::rs).length=us.length/\(∀(i:Nat) v,us[i]?=some v->∃a,v=.ref a/\fD K H a (((x::rs).getD i []).map V.int))/\∀(i:Nat) a,us[i]?=some (.ref a)->(x::rs).getD i []=fH x rs->Q (.ref a) H
theorem zfM:∀{is:List Int} {us:List Value},Vals (is.map V.int) us->IntsAre us is
 |[],_,.nil=>.nil
 |_::is,_,.cons ⟨t,e⟩ r=>by subst e;exact .cons _ t (zfM r)
theorem zfR(hc:X.aj=true)(hu:X.A.units+2<cLine):cT X (.builtin "min") (uh X.K):=by
 rintro ao s Z H xs us Q I r ⟨l,x,rs,ws,e,hl,hlen,Jv,q⟩;subst e;obtain⟨u,rfl,ru⟩:=Vals.one r;cases (show u=Value.ref l from ru);obtain⟨its,rv,pl,hz⟩:=I.list hl;have hL:=rv.length;have hsz:its.toArray.size=rs.length+1:=by rw[eY,<-hL,<-hlen];rfl
 refine zeP (rows:=x::rs) (I.ok.hd hc) hu pl.isList gV (λi v e=>?_) λv h' tk hP hk=>?_
 ·have hi:its[i]?=some v:=by simpa using e
  have dh:i<ws.length:=by rw[hL];exact(cI.mp hi).1
  obtain⟨a,ea,ht⟩:=Jv i _ (cP dh);obtain⟨v',e1,e2⟩:=rv.get (cP dh);rw[hi] at e1;cases e1;rw[ea] at e2;cases (show v=Value.ref a from e2);obtain⟨xs,rx,p,_⟩:=I.tuple ht;exact⟨a,_,rfl,p,by simpa using zfM rx,by simp⟩
 ·rw[hsz,Nat.add_sub_cancel] at hP;have hi:its[argBest (vg (x::rs)) rs.length]?=some v:=by simpa using hP
  have dh:argBest (vg (x::rs)) rs.length<ws.length:=by rw[hL];exact(cI.mp hi).1
  obtain⟨a,ea,ht⟩:=Jv _ _ (cP dh);obtain⟨v',e1,e2⟩:=rv.get (cP dh);rw[hi] at e1;cases e1;rw[ea] at e2;cases (show v=Value.ref a from e2);exact⟨.ref a,H,I.kept (h':=h') (t':=tk) hk,rfl,q _ a ((cP dh).trans (by rw[ea])) (by rw[zel rs.length (bU _),xH])⟩
theorem zkt{K:W.Frag}:aZ K cA .qK (uh K):=by
 intro U H ds vs Q zt rs o;have o:bF K cA U H (nH ds) Q:=o;unfold nH at o;split at o
 ·rename_i xs _;obtain⟨v,rfl,rv⟩:=rs.one;obtain⟨a,us,rfl,sq,q⟩ : ∃a us,v=.ref a/\cR K H a us/\aC K cA U H xs us:=rv;split at o
  ·rename_i x r e;obtain⟨l,k⟩:=zch e q;refine⟨a,x,r,us,rfl,sq,l,λi v ei=>?_,λi b ei hb=>?_⟩
   ·obtain⟨c,e1,e2⟩:=k i v ei;exact⟨c,e1,e2.iV⟩
   ·obtain⟨c,e1,e2⟩:=k i _ ei;cases e1;rw[hb] at e2;have rr:∀is:List Int,aC K cA U H (is.map D.int) (is.map V.int):=λis=>by
     induction is with
     |nil=>exact .nil
     |cons j is ih=>exact .cons (.int j) ih
    exact o.here (.tup e2 (rr _))
  ·exact o.elim
 ·exact o.elim
theorem zkF{k:Nat}(hr:bD k X.A)(hc:X.aj=true)(hm:X.mg "min"=none)(hg:JK X "min" .globalImplicit)(ha:JA X cA aq aj F EX (e::es) Xs)(he:aF e=true:=by rfl)(hpl:es.all aF=true:=by rfl):JE X cA aq aj F EX (.Call (.Name "min" p) (e::es) [] pos) (.pr fz .qK Xs):=⟨yw (zfR hc (by have:=hr.un;lia)) zkt hg.o hm PyProof.Rows.boot_min ha.o J0 J0 (bA he) (aY hpl)⟩
end
end Mi
namespace Mi
open PySem PySem.Spec PyProof.Rows L2 PySem.W
theorem iW(its:List Value):∀(n:Nat) (acc:Array Value),(List.replicate n its.toArray).foldl (λx y=>x++y) acc=acc++(rep its n).toArray
 |0,acc=>by simp[rep]
 |n+1,acc=>by
  rw[Cm,KD,iW its n];simp[rep,Cm]
theorem ql{α:Type}(xs:List α)(n:Nat):(rep xs n).length=n*xs.length:=by
 unfold rep
 induction n with
 |zero=>simp
 |succ n ih=>rw[Cm,O1,dH,ih,zG];lia
theorem Jw{α:Type}(xs:List α)(n:Nat):rep xs (n+1)=xs++rep xs n:=by
 unfold rep;rw[Cm,O1]
theorem zew{ys:List V}{its:List Value}(r:Vals ys its):∀n,Vals (rep ys n) (rep its n)
 |0=>.nil
 |n+1=>by
  rw[Jw,Jw];have key:∀{as:List V} {bs:List Value},Vals as bs->∀{cs:List V} {ds:List Value},Vals cs ds->Vals (as++cs) (bs++ds):=by
   intro as bs h
   induction h with
   |nil=>intro cs ds h2;exact h2
   |cons a _ ih=>intro cs ds h2;exact .cons a (ih h2)
  exact key r (zew r n)
section
variable {K:W.Frag}{cA:Cl}{U:Ph}{H:Hp}
theorem zhI{as:List D}{bs:List V}(h:aC K cA U H as bs){cs:List D}{ds:List V}(h2:aC K cA U H cs ds):aC K cA U H (as++cs) (bs++ds):=by
 exact h.app h2
theorem zer{xs:List D}{ys:List V}(r:aC K cA U H xs ys):∀n,aC K cA U H (rep xs n) (rep ys n)
 |0=>.nil
 |n+1=>by
  rw[Jw,Jw];exact zhI r (zer r n)
end
end Mi
end Lake
namespace PySem
open Lake
open Builtin
theorem zbz:fillsNumberSlot (.type "tuple") "mul"=pure false:=
 fillsNumberSlot_seq (id:="tuple.__mul__") (r:=some (.builtin "tuple.__rmul__")) Kw.lookup Dc F.slot_tuple_rmul.lookup Dc
theorem zdo:seqRepeat? (.type "tuple")=pure (some (.builtin "tuple.__mul__")):=by
 unfold seqRepeat?;rw[seqSlot_of (T:="tuple") (name:="__mul__") (id:="tuple.__mul__") Kw.lookup Dc,seqSlot_of (T:="tuple") (name:="__rmul__") (id:="tuple.__rmul__") F.slot_tuple_rmul.lookup Dc];rfl
theorem zb4(a:Int)(t:Tok)(l:Addr)(items:Array Value)(n:Nat)(d:Option Addr)(sl:Array (Option Value)) :
  Meets (Builtin.«int.__rmul__» ⟨[.int a t,.ref l],[]⟩) (λ_ R s=>s.heap.get? l=some {cls:=.type "tuple",dict:=d,data:=.seq items n,slots:=sl}/\R (.ok (.ret Value.notImplemented)) s):=
 .of_wp λprog w A R s h=>by obtain⟨hp,g,d,tk,os⟩:=s;obtain⟨hl,h⟩:=h;wp_walk;exact⟨_,rfl,h⟩
theorem zct(l:Addr)(items:Array Value)(n:Nat)(d:Option Addr)(sl:Array (Option Value))(u:Tok) :
  Meets (Builtin.«tuple.__mul__» ⟨[.ref l,.int 1 u],[]⟩) (λ_ R s=>s.heap.get? l=some {cls:=.type "tuple",dict:=d,data:=.seq items n,slots:=sl}/\R (.ok (.ret (Value.ref l))) s):=
 .of_wp λprog w A R s h=>by
  obtain⟨hp,g,d,tk,os⟩:=s;obtain⟨hl,h⟩:=h
  wp_walk
  exact⟨_,rfl,h⟩
theorem zcD(l:Addr)(items:Array Value)(n:Nat)(d:Option Addr)(sl:Array (Option Value))(x:Int)(u:Tok)(h2:2<=x)(h3:x<=1000)(he:items.isEmpty=false)(hs:items.size<=1000) :
  Meets (Builtin.«tuple.__mul__» ⟨[.ref l,.int x u],[]⟩) (λ_ R s=>s.heap.get? l=some {cls:=.type "tuple",dict:=d,data:=.seq items n,slots:=sl}/\R (.ok (.ret (Value.ref s.heap.objs.size))) {s with heap:=s.heap.push {cls:=Value.type "tuple",data:=Data.seq (List.foldl (λx1 x2=>x1++x2) #[] (List.replicate x.toNat items))},toks:=s.toks}):=
 .of_wp λprog w A R s h=>by
  obtain⟨hp,g,d,tk,os⟩:=s;obtain⟨hl,h⟩:=h;have h1:(x==1)=false:=by simpa using show ¬x=1 by lia
  have hb:(decide (x < -(2^63))||decide (x>=2^63))=false:=by rw[gQ gV,gQ gV];rfl
  have hm:(items.size:Int)*x<=1000000:=Int.le_trans (Int.mul_le_mul (show (items.size:Int)<=1000 by lia) h3 gV gV) J0;have vB:(1000000:Int)<=(sizeLine:Int):=by decide
  have hz:(List.foldl (λx1 x2=>x1++x2) #[] (List.replicate x.toNat items)).size<=1000000:=by
   have:=Mi.iW items.toList x.toNat #[];simp only[Array.toArray_toList] at this;rw[this];simp only[Array.size_append,eY,Mi.ql,xg];have:=CG (show x.toNat<=1000 by lia) hs;simp
   lia
  have Q0:(1000000:Nat)<=sizeLine:=by decide
  have nt:∀{b:Bool},b=false->decide (b=true)=false:=λ{b} e=>by rw[e];rfl
  wp_walk
  refine Ez (nt hb) ?_
  wp_walk
  refine Ez (nt (b:=decide (x<=0)||items.isEmpty) (by rw[he,gQ gV];rfl)) ?_
  wp_walk
  refine Ez (gQ gV) ?_
  wp_walk
  refine Ez (nt (b:=Builtin.Tuple.tupleTooMany (items.size*x)) (gQ gV)) ?_
  wp_walk
  refine Ez (gQ gV) ?_
  wp_walk
  exact⟨_,rfl,h⟩
end PySem
namespace Lake
namespace Mi
open PySem PySem.Spec PyProof.Rows L2 PySem.W
noncomputable def yP(K:W.Frag):R2:=λx y H Q=>∃l ys n,x=.ref l/\fD K H l ys/\y=.int n/\(1<=n/\n<=1000/\1<=ys.length/\ys.length<=1000)/\(n=1->Q (.ref l) H)/\∀p,H p=none->Q (.ref p) (upd H p (.tup (rep ys n.toNat)))
theorem zi9{X:Cx}:eF X (binaryOp .Mult) (yP X.K):=by
 intro ao s Z H x y v u Q I rx ry h;obtain⟨l,ys,n,rfl,hq,rfl,⟨h0,h1,hl1,hl⟩,q1,q⟩:=h;cases (show v=Value.ref l from rx);obtain⟨t,rfl⟩:=ry;obtain⟨its,rv,⟨o,e,hc,c,qJ⟩,hz⟩:=I.tuple hq;obtain⟨ocls,odict,odata,oslots⟩:=o;simp only at hc qJ;subst hc qJ;have hlen:=rv.length;refine wpAny_binaryOp_repeat_ref (T:="tuple") («U»:="int") J0 ⟨_,e,rfl⟩ (λ_=>rfl) zbz F.fills_int_mul F.slot_int_rmul zdo int_index ?_;refine zK F.slot_int_rmul rfl F.entry_int_rmul (F.args_int_rmul_2 _ _) (zb4 n t l its.toArray c odict oslots) ⟨e,rfl,⟨_,e,rfl⟩,?_⟩;by_cases hn:n=1
 ·subst hn;exact zK Kw ⟨_,e,rfl⟩ F.entry_tuple_mul (F.args_tuple_mul_2 _ _) (zct l its.toArray c odict oslots t) ⟨e,⟨.ref l,H,I,rfl,q1 rfl⟩⟩
 ·have o7:its≠[]:=λz=>by rw[z] at hlen;have:ys.length=0:=hlen;lia
  refine zK Kw ⟨_,e,rfl⟩ F.entry_tuple_mul (F.args_tuple_mul_2 _ _) (zcD l its.toArray c odict oslots n t gV h1 (by simpa using o7) (by rw[eY,<-hlen];exact hl)) ⟨e,?_⟩;have hn:H s.heap.objs.size=none:=I.hok.fresh (bU _);have ea:(List.replicate n.toNat its.toArray).foldl (λx y=>x++y) #[]=(rep its n.toNat).toArray:=by
   rw[iW];simp
  refine⟨.ref s.heap.objs.size,_,I.laid (a:=s.heap.objs.size) (o:=.tup (rep ys n.toNat)) (t':=s.toks) (λb w q=>cQ _ q) (bU _) ?_,rfl,q _ hn⟩;refine⟨?_,_,zew rv n.toNat,?_⟩
  ·rw[ql];have:=CG (show n.toNat<=1000 by lia) hl;have Q0:(1000000:Nat)<=sizeLine:=by decide
   lia
  ·rw[ea];exact jB.new _ _
section
variable {K:W.Frag}{cA:Cl}{U:Ph}{H:Hp}
theorem ziL:aZ K cA .mult (r2 (yP K)):=by
 intro U H ds vs Q zt rs o;have o:bF K cA U H (yr ds) Q:=o;cases ds with
 |nil=>exact False.elim o
 |cons a t=>cases a with
  |tup xs=>cases t with
   |nil=>exact False.elim o
   |cons b t=>cases b with
    |int n=>cases t with
     |cons _ _=>exact False.elim o
     |nil=>
      obtain⟨v,v',rfl,r1,r2⟩:=rs.two (ds:=[]);rw[r2.int];obtain⟨a,us,rfl,ta,q⟩:=r1.tup;have hl:=q.len;have o:bF K cA U H (if 1<=n/\n<=1000/\1<=xs.length/\xs.length<=1000 then some (.dat (.tup (rep xs n.toNat))) else none) Q:=o;by_cases hk:1<=n/\n<=1000/\1<=xs.length/\xs.length<=1000
      ·rw[if_pos hk] at o;refine⟨_,_,rfl,a,us,n,rfl,ta.iV,rfl,⟨hk.1,hk.2.1,by lia,by lia⟩,λe=>?_,λp hp=>o.tup zt (zer q _) hp⟩;subst e;have e1:rep xs (1:Int).toNat=xs:=by show rep xs (0+1)=xs;rw[Jw];simp[rep]
       rw[e1] at o;exact o.here (.tup ta q)
      ·rw[if_neg hk] at o;exact o.elim
    |_=>exact False.elim o
  |_=>exact False.elim o
end
theorem ziy{X:Cx}{cA:Cl}:JQ X cA .Mult .mult:=⟨_,zi9,ziL⟩
end Mi
namespace L2
open PySem PySem.Spec PyProof.Rows
theorem zgg(l:Addr)(its:Array Value)(n:Nat)(dd:Option Addr)(sl:Array (Option Value))(x:Value)(j:Nat)(hj:j<its.size) :
  Meets (Builtin.«tuple.index» ⟨[.ref l,x],[]⟩) (λA R s=>s.heap.get? l=some {cls:=.type "tuple",dict:=dd,data:=.seq its n,slots:=sl}/\(∀m (hm:m<its.size),m<=j->SeqAt.EqAt A.in1 s its[m] x (m==j))/\R (.ok (.ret (.int j s.toks))) {s with toks:=s.toks+1}):=
 .of_wp λprog w A R s h=>by
  obtain⟨hp,g,d,tk,os⟩:=s;obtain⟨hl,he,h⟩:=h
  wp_walk using Oq hl
  refine(show wpAny _ _ (forIn (m:=Sem) [:min its.size its.size] ((none,()):Option Fin×PUnit) λ(i:Nat) _=>match its[i]? with
      |some y=>do
       let r <-eqBool y x
       if r=true then do
         let r <-retInt (i:Int)
         pure (ForInStep.done (some r,()))
        else pure (ForInStep.yield (none,()))
      |_=>pure (ForInStep.yield (none,()))) _ _ _ from ?_)
  rw[Std.Legacy.Range.forIn_eq_forIn_range',Nat.min_self,show ([:its.size]:Std.Legacy.Range).size=its.size by simp[Std.Legacy.Range.size]];refine Kr _ (λrest (b:Option Fin×PUnit) s'=>b.1=none/\s'=⟨hp,g,d,tk,os⟩/\∃i,i<=j/\rest=List.range' i (its.size-i)) _ ?_ ?_ _ _ ⟨rfl,rfl,0,vq _,rfl⟩
  ·rintro a rest b s' ⟨hb,rfl,i,hi,hr⟩;have dh:i<its.size:=by lia
   rw[show its.size-i=(its.size-(i+1))+1 by lia,List.range'_succ] at hr;injection hr with h1 h2;subst h1 h2;have e1:its[a]?=some its[a]:=by simp[dh]
   rw[e1];refine aD (he _ dh hi prog w _ _ ?_);by_cases hq:a=j
   ·subst hq;rw[zA]
    wp_walk
    exact⟨_,rfl,h⟩
   ·rw[w6.mpr hq]
    wp_walk
    exact⟨rfl,rfl,a+1,by lia,rfl⟩
  ·rintro⟨b1,b2⟩ s' ⟨hb,rfl,i,hi,hr⟩
   exfalso
   have:=mY List.length hr;simp at this
   lia
end L2
namespace Mi
open PySem PySem.Spec PyProof.Rows L2
theorem zl5:∀{ds:List D} {j:Nat},oF ds=some j->∀m,m<=j->∃d,ds[m]?=some d/\bY 50 d (.tup [])=some (m==j):=by
 intro ds
 induction ds with
 |nil=>intro j h;cases h
 |cons d r ih=>
  have nxt:∀{j:Nat},(oF r).map (·+1)=some j->bY 50 d (.tup [])=some false->∀m,m<=j->∃x,(d::r)[m]?=some x/\bY 50 x (.tup [])=some (m==j):=by
   intro j h hd m hm;obtain⟨k,h1,rfl⟩:=iZ.mp h;cases m with
   |zero=>exact⟨d,rfl,hd⟩
   |succ m=>
    obtain⟨x,e1,e2⟩:=ih h1 m gV;exact⟨x,e1,by rw[e2];congr 1;simp⟩
  intro j h
  match d,h with
  |.tup [],h=>
   cases (show some 0=some j from h);intro m hm;cases Nat.le_zero.mp hm;exact⟨_,rfl,rfl⟩
  |.tup (x::xs),h=>exact nxt h rfl
  |.non,h=>exact nxt h rfl
section
variable {X:Cx}{cA:Cl}{aq:Nat->Nat->Bool}{aj:Bool}{F:Fn}{EX:XS}{a e:Expr}{A:E}{pos apos:Pos}{es:List Expr}{Xs:Es}
def Jx(K:W.Frag)(cA:Cl)(x:V)(xs:List V)(H:Hp)(Q:VK):Prop:=∃U ds v j,xs=[v]/\Rv K cA U H (.tup ds) x/\Rv K cA U H (.tup []) v/\oF ds=some j/\Q (.int (j:Nat)) H
theorem zk7(hu:X.A.units+60<cLine):Lg X "tuple.index" (Jx X.K cA):=by
 rintro ao sh Z H x xs v us Q I rx r ⟨U,ds,y,j,e2,r1,r2,hj,q⟩;subst e2;obtain⟨u,rfl,ru⟩:=Vals.one r;have gK:X.A.in1.units+50<cLine:=by show X.A.units+1+50<cLine;lia
 have i1:=uQ I r2 ru;cases uQ I r1 rx with
 |@tup l _ its p rr=>
  obtain⟨⟨cls,dd,data,sl⟩,hg,hc,n,hd⟩:=p;simp only at hc hd;subst hc hd;have at':=λm hm=>(zl5 hj m hm).elim λd z=>(rr.get z.1).elim λw k=>(⟨w,d,k.1,k.2,z.2⟩ : ∃w d,its[m]?=some w/\Is sh.heap d w/\bY 50 d (.tup [])=some (m==j));have dh:j<its.length:=by
   obtain⟨w,_,e,_⟩:=at' j (bU _);exact(cI.mp e).1
  refine zK PySem.F.slot_tuple_index ⟨_,hg,rfl⟩ PySem.F.entry_tuple_index (PySem.F.args_tuple_index_2 _ _) (zgg l _ n dd sl u j (by simpa using dh)) ⟨hg,λm hm hle=>?_,⟨.int j,H,I.tok _,⟨_,rfl⟩,q⟩⟩;obtain⟨w,d,e,q1,q2⟩:=at' m hle;have e':its.toArray[m]=w:=by
   obtain⟨_,z⟩:=cI.mp e;simpa using z
  rw[e'];exact yx 50 gK q1 i1 q2
 |oth k=>cases k
theorem zk9{K:W.Frag}:YB K cA .oF (Jx K cA):=by
 intro U H ds vs Q zt rs o;have o:bF K cA U H (Bg ds) Q:=o;unfold Bg at o;split at o
 ·obtain⟨v,v',rfl,r1,r2⟩:=rs.two (ds:=[]);obtain⟨z,e⟩:=o.some';obtain⟨j,e1,e2⟩:=iZ.mp e;subst e2;exact⟨_,_,rfl,U,_,_,j,rfl,r1,r2,e1,(o.of e).here (.int _)⟩
 ·exact o.elim
theorem znA{k:Nat}(hr:bD k X.A)(ho:JE X cA aq aj F EX a A)(ha:JA X cA aq aj F EX (e::es) Xs)(cZ:attributeBase a "index" X.env (eval a X.env)=eval a X.env:=by rfl)(oY:decide (es.length<28)=true:=by rfl)(c7:(apos.endLine==pos.line)=true:=by rfl)(hs:aF e=true:=by rfl)(fG:es.all aF=true:=by rfl) :
  JE X cA aq aj F EX (.Call (.Attribute a "index" apos) (e::es) [] pos) (.meth true .oF .tuple A Xs):=⟨zi8 (k:=.tuple) PySem.F.plainAttrs_tuple PySem.F.slot_tuple_index PySem.F.type_tuple_index (zk7 (by have:=hr.un;lia)) zk9 ho.o ha.o cZ (qd hs fG oY) c7 (bA hs) (aY fG)⟩
end
end Mi
namespace Mi
open PySem PySem.Spec PyProof.Rows L2 PySem.W
noncomputable def gO(K:Frag)(C:Addr)(m:Str):Addr:=match kY K C m with
 |some p=>p.1
 |none=>0
noncomputable def jq(K:Frag)(C:Addr)(m:Str)(st:Stmt):FuncData:=match kY K C m with
 |some p=>p.2
 |none=>CK m m st
theorem zjs{fd:FuncData}{m q:Str}{st:Stmt}(h:m5 fd=CK m q st):fd=fnOf m q (aO st) (aL st) (au st) .none fd.kwdefaults fd.doc fd.pyModule fd.annotations fd.code fd.closureTuple:=by
 cases fd;unfold m5 CK at h;cases h;rfl
theorem znm{K:Frag}{C:Addr}{m q:Str}{st:Stmt}(h:(kY K C m).map (λp=>m5 p.2)=some (CK m q st)):nQ K m q st (gO K C m) (jq K C m st)/\Meth K C m (gO K C m):=by
 cases e:kY K C m with
 |none=>rw[e] at h;cases h
 |some p=>
  rw[e] at h;have hp:m5 p.2=CK m q st:=cW h;have h1:gO K C m=p.1:=by unfold gO;rw[e]
  have h2:jq K C m st=p.2:=by unfold jq;rw[e]
  rw[h1,h2];unfold kY at e;split at e
  ·rename_i f hf;split at e
   ·rename_i oc od fd sl hl;split at e
    ·rename_i hc;cases e;simp only[gw] at hc;have eq:fd=_:=zjs hp;have qn:fd.qualname=q:=by rw[eq]
     exact⟨⟨⟨oc,od,_,_,_,_,_,_,sl,eq,hl,by rw[<-qn];exact hc.1.1⟩,hc.1.2⟩,hf,hc.2,hc.1.2⟩
    ·cases e
   ·cases e
  ·cases e
structure qm(fs:List (Str×Stmt))(ms:List su)(xs:List (Nat×Str))(l:Lk)(b:Bd)(K:Frag):Prop where
 i:nY fs ms xs l K
 m:∀p∈b.ms,nQ K p.1 p.2.1 p.2.2 (gO K (dN K b.n) p.1) (jq K (dN K b.n) p.1 p.2.2)/\Meth K (dN K b.n) p.1 (gO K (dN K b.n) p.1)
 b:xR K b=true
noncomputable def lE(fs:List (Str×Stmt))(ms:List su)(xs:List (Nat×Str))(l:Lk)(b:Bd):Hook where
 α:=(List (Option FuncData)×List (Option FuncData)×Bool)×(List (Option FuncData)×Bool)
 obs:=λs=>(lM fs ms xs l s,zO b s)
 val:=λw=>(m6 fs ms w,zP b)
 says:=λ_ h=>∃K:Frag,K.In h/\qm fs ms xs l b K
 of:=λw s e=>by
  have e0:lM fs ms xs l s=m6 fs ms w:=mY Prod.fst e;have e4:zO b s=zP b:=mY Prod.snd e;have e3:(_&&_&&_)=true:=mY (λx=>x.2.2) e0;rw[gw,gw,fC,fC] at e3;refine⟨bK s.heap,zhb,⟨λp hp=>?_,Kab e3.1.1,λm hm=>?_,e3.1.2,λx hx=>znk (e3.2 x hx)⟩,λp hp=>?_,mY Prod.snd e4⟩
  ·exact zn7 (O2.mp (mY Prod.fst e0) p hp)
  ·exact zn6 (O2.mp (mY (λx=>x.2.1) e0) m hm)
  ·exact znm (O2.mp (mY Prod.fst e4) p hp)
 keeps:=λw h h' ⟨K,X,Y⟩ k=>⟨K,X.keeps k,Y⟩
theorem Jy{l:OpenLaw}{k:Nat}{q:Program}{loose:List Str}{XP:(Str->Option Value)->Heap->Prop}{fs:List (Str×Stmt)}{ms:List su}{xs:List (Nat×Str)}{lk:Lk}{b:Bd}{d:DefRec}{x:Str}(hn:l.most=some 63)(QF:d.params.defaults=[])(hr:bD k callerA)
  (F:∀(w:World) (K:Frag) (mg:Str->Option Value) (fa:Addr) (h:Heap),qm fs ms xs lk b K->K.In h->h.Ns mainGlobals mg->mg d.name=some (.ref fa)->
   ∃fd:FuncData,(∀(s:Shared) (u:Value),BindsTo s fd ⟨[u],[]⟩ [(x,u)])/\∀base:Heap,K.In base->base.Ns mainGlobals mg->bZ l.prog w K mg base (gA l.prog w) true k fa fd [x] (tR K)) :
  WalkO q loose XP (lE fs ms xs lk b).says l.row.toRowW d [] (λf vs=>PySem.call f vs):=by
 refine Xx.nA hn QF λw s₀ s₁ mg mb fa o pm cd doc a vs ns G Y ho hd jP hmg Ak hints hlen hg=>?_;obtain⟨K,KX,SY⟩:=Y;obtain⟨fd,hb,hF⟩:=F w K mg fa _ SY KX G.T.g hmg;exact zhR KX G.T.g G.T.b G.T.builtins G.T.nolimit hg Ak hints (kW hlen J0) hr hF hb (λH hO hS=>⟨a,ns,rfl,hS,hlen,hO,λ_=>rfl⟩) λH e s' h=>by
  obtain⟨_,_,_,_,_,_,_,_,_,_,z⟩:=h;exact z
section
variable {K:Frag}{b:Bd}
theorem zog{cA:Cl}(h:xR K b=true)(hb:cA.b 0=dN K b.n)(hg:cA.g 0=b.fs)(nd:b.fs.Nodup):Ow K cA 0:=by
 unfold xR at h;simp only[gw,pI,fC] at h;obtain⟨⟨⟨⟨⟨⟨⟨h1,h2⟩,h3⟩,h4⟩,h5⟩,h6⟩,h7⟩,h8⟩:=h;exact⟨by rw[hb];exact⟨h2,h3,h4,h5⟩,λf hf=>by rw[hb];rw[hg] at hf;exact h8 f hf,by rw[hg];exact nd⟩
theorem znO{f:Addr}(h:xR K b=true)(m:Meth K (dN K b.n) "__init__" f):Mk K (dN K b.n) f:=by
 unfold xR at h;simp only[gw,pI,fC] at h;exact⟨h.1.1.2,m.at_,m.fn,h.1.2⟩
theorem znP{h:Heap}{mg:Str->Option Value}(z:xR K b=true)(X:K.In h)(G:h.Ns mainGlobals mg):mg b.n=some (.ref (dN K b.n)):=by
 unfold xR at z;simp only[gw] at z;exact zn9 z.1.1.1.1.1.1.1 X G
end
theorem bD.made{k:Nat}{A:Around}(r:bD (k+1) A)(env:Env)(C:Addr)(us:List Value):bD k ((A.deeper env).under (.builtin "type.__call__" ⟨.ref C::us,[]⟩)):=
 ⟨by have:=r.dp;rw[zeY];show A.depth+1+1+3*k+5<_;lia,by have:=r.un;rw[ze3];show A.units+3+1+16*k+200<_;lia,by
  have e:(A.deeper env).guards=some []:=r.gd;rw[<-e];cases h:(A.deeper env).guards<;>simp[Around.under,pushGuards,Code.guards,Code.isGuard,guardIds,h]⟩
section
variable {P:Program}{w:World}{K:Frag}{mg:Str->Option Value}{base:Heap}{cA:Cl}{aq:Nat->Nat->Bool}{T:Nat->Option Df}{x m q:Str}{st:Stmt}{ps:List Str}{k n:Nat}{cm:Bool}{df:Df}{C fa:Addr}{fd:FuncData}
theorem fM(D:Mt K C m q st ps fa fd)(N:List Str)(hT:T n=some df)
  (hb:∀(cdv:Value) (A:Around) (outer:List Env) (s:Shared) (H:Hp) (E:XK),bD k (A.deeper (envOfC q (au st) s.heap.objs.size fa cdv))->
   JB (f9 (gA P w) P w K mg base N q (au st) fa cdv A outer s H E cm) cA aq cm (λc=>call aq T k c) (λ_ C dx H'=>E C dx H') (aL st) df.body) (S:cX N ps (au st):=by exact⟨rfl,rfl,rfl,dk,rfl,dk,dk⟩) (hp:df.g8=ps.length:=by rfl) (hm:df.many=N.length:=by rfl) :
  bZ P w K mg base (gA P w) cm (k+1) fa fd ps (kj K cA (call aq T (k+1) cm n)):=Zy D.fn S hT hp hm hb
theorem zhK{c:Nat}:bZ P w K mg base (gA P w) cm 0 fa fd ps (Jq K cA c (call aq T 0 cm n)):=by
 have no:∀vs H Q E,Jq K cA c (call aq T 0 cm n) vs H Q E->False:=by
  rintro vs H Q E ⟨_,_,_,_,_,_,_,_,_,_,_,_,_,_,h⟩;exact h.elim
 exact⟨λvs H Q E h=>(no _ _ _ _ h).elim,λA outer s H args us vs Q E _ _ _ _ _ h=>(no _ _ _ _ h).elim⟩
theorem fR(D:D3 K mg x st ps)(N:List Str)(hT:T n=some df)
  (hb:∀(cdv:Value) (A:Around) (outer:List Env) (s:Shared) (H:Hp) (E:XK),bD (k+1) A->
   JB (f9 (gA P w) P w K mg base N x (au st) (g_ K x) cdv A outer s H E cm) cA aq cm (λc=>call aq T k c) (λ_ C dx H'=>E C dx H') (aL st) df.body) (S:cX N ps (au st):=by exact⟨rfl,rfl,rfl,dk,rfl,dk,dk⟩) (hp:df.g8=ps.length:=by rfl) (hm:df.many=N.length:=by rfl) :
  bZ P w K mg base (gA P w) cm (k+1) (g_ K x) (fdOf K x st) ps (kj K cA (call aq T (k+1) cm n)):=Zd D.f S hT hp hm λcdv A outer s H E hr=>(hb cdv A outer s H E hr).o
theorem T8{p p2:Str}(h:nQ K m q st fa fd/\Meth K C m fa)(hb:∀(kV doc pm:Value) (an:Option Addr) (cdv ct a b:Value),bindArgs (fnOf m q (aO st) (aL st) (au st) .none kV doc pm an cdv ct) ⟨[a,b],[]⟩=pure [(p,a),(p2,b)]:=by intros;rfl):Mt K C m q st [p,p2] fa fd:=⟨h.1,h.2,by
 obtain⟨oc,od,kV,doc,pm,an,cdv,ct,osl,rfl,lk,jP⟩:=h.1.ex;exact tU (hb kV doc pm an cdv ct)⟩
theorem zox{p p2 p3:Str}(h:nQ K m q st fa fd/\Meth K C m fa)(hb:∀(kV doc pm:Value) (an:Option Addr) (cdv ct a b c:Value),bindArgs (fnOf m q (aO st) (aL st) (au st) .none kV doc pm an cdv ct) ⟨[a,b,c],[]⟩=pure [(p,a),(p2,b),(p3,c)]:=by intros;rfl):Mt K C m q st [p,p2,p3] fa fd:=⟨h.1,h.2,by
 obtain⟨oc,od,kV,doc,pm,an,cdv,ct,osl,rfl,lk,jP⟩:=h.1.ex;exact tV (hb kV doc pm an cdv ct)⟩
theorem zoC{p p2 p3 p4:Str}(h:nQ K m q st fa fd/\Meth K C m fa)(hb:∀(kV doc pm:Value) (an:Option Addr) (cdv ct a b c d:Value),bindArgs (fnOf m q (aO st) (aL st) (au st) .none kV doc pm an cdv ct) ⟨[a,b,c,d],[]⟩=pure [(p,a),(p2,b),(p3,c),(p4,d)]:=by intros;rfl):Mt K C m q st [p,p2,p3,p4] fa fd:=⟨h.1,h.2,by
 obtain⟨oc,od,kV,doc,pm,an,cdv,ct,osl,rfl,lk,jP⟩:=h.1.ex;exact tW (hb kV doc pm an cdv ct)⟩
end
end Mi
namespace Mi
open PySem
theorem zn2{r:List Int}{x j:Int}(h0:0<=j)(h:j<(r.length:Int)+1):prim .ix [.fl (r.map .int++[.int x]),.int j]=some (.dat (.int (at' (r++[x]) j))):=by
 have:=znW (fs:=r++[x]) h0 (by rw[dH];simp;lia)
 rwa [qy] at this
theorem uo{α:Type}{l:List α}{g:α->Option D}:l.filterMap g=[]↔∀x∈l,g x=none:=by
 rw[N_]
noncomputable def BP(n:Int):D->Bool
 |.tup xs=>decide ((xs.length:Int)=n)
 |_=>false
noncomputable def Jz(a b:Int):D->Bool
 |.int i=>decide (a<=i/\i<=b)
 |_=>false
theorem zlz{d:D}(h:M6 d=true):q_ d=true:=by cases d<;>first|rfl|cases h
theorem Kbd{n:Nat}{c:List D}{s:S}{P:Src×Nat->S->Prop}(e:s[n]?=some (.lst c))(h:P (.live n,c.length) s):W (src (.l n)) s P:=⟨_,s,by unfold src;simp only[e],h⟩
theorem W.c0{F:List Xv->M Xv}{xs:List Xv}{s:S}{e:D}{P:Xv->S->Prop}(h:W (F (cU 0 xs)) [] λv _=>v=.d e)(k:P (.d e) s)(hl:locs xs=[]:=by rfl):W (bR F xs) s P:=oJ hl (h.imp λ_ _ q=>⟨_,q,k⟩)
theorem W.c1{F:List Xv->M Xv}{xs:List Xv}{s:S}{P:Xv->S->Prop}(h:W (F (cU 0 xs)) [] λv _=>∃d,v=.d d)(k:∀d,P (.d d) s)(hl:locs xs=[]:=by rfl):W (bR F xs) s P:=oJ hl (h.imp λ_ _ ⟨d,q⟩=>⟨d,q,k d⟩)
section
variable {s:S}{o o' L L':SO}
theorem g1_:(s++[o]++[L])[s.length]?=some o:=by simp
theorem znq:(s++[o]++[L]).set s.length o'=s++[o']++[L]:=by simp
theorem Kau{F:List Xv->M Xv}{xs:List Xv}{P:Xv->S->Prop}(hl:locs xs=[s.length])(h:W (F (cU 0 xs)) [o] λv s1=>∃d o',v=.d d/\s1=[o']/\P (.d d) (s++[o']++[L])):W (bR F xs) (s++[o]++[L]) P:=by
 refine MK (n:=s.length) (o:=o) hl g1_ (h.imp λv s1=>?_);rintro⟨d,o',rfl,rfl,hp⟩;exact⟨d,o',rfl,rfl,by rw[znq];exact hp⟩
end
noncomputable abbrev Fr:=List (Option (List Int))
noncomputable def aU:Option (List Int)->D
 |none=>.non
 |some l=>.tup (l.map .int)
noncomputable def cellK:Option (List Int)->Kx
 |none=>.non
 |some l=>.row l
noncomputable def iu(F:Fr):D:=.tup (F.map aU)
theorem T9:∀l:List Int,b_ (l.map .int)=some l
 |[]=>rfl
 |i::l=>by show Option.map _ (b_ (l.map .int))=_;rw[T9 l];rfl
theorem yQ(F:Fr):kOf (iu F)=some (F.map cellK):=by
 show Bh (F.map aU)=_
 induction F with
 |nil=>rfl
 |cons c F ih=>
  have e:sX (aU c)=some (cellK c):=by
   cases c with
   |none=>rfl
   |some l=>show Option.map _ (b_ (l.map .int))=_;rw[T9];rfl
  simp only[jr,Bh,e,ih]
theorem T_:∀{F G:Fr},F.map cellK=G.map cellK->F=G
 |[],[],_=>rfl
 |[],_::_,h=>by cases h
 |_::_,[],h=>by cases h
 |c::F,e::G,h=>by
  simp only[jr,List.cons.injEq] at h;rw[T_ h.2]
  congr 1
  have h1:=h.1;cases c with
  |none=>cases e with
   |none=>rfl
   |some _=>cases h1
  |some l=>cases e with
   |none=>cases h1
   |some m=>cases h1;rfl
structure Bo(n k:Nat)(es:Nat->List Int)(A:Int->Int->Bool):Prop where
 hn:n<=8
 hk:k<=24
 mem:∀i,i<n->∀e∈es i,0<=e/\e<n/\e≠i
 sym:∀i e:Nat,i<n->e<n->(e:Int)∈es i->(i:Int)∈es e
 len:∀i,i<n->(es i).length<=8
 asy:∀a b:Int,0<=a->a<k->0<=b->b<k->A a b=A b a
structure Fv(n k:Nat)(F:Fr):Prop where
 len:F.length=n
 lo:∀(i:Nat) L,F[i]?=some (some L)->∀x∈L,0<=x/\x<k
 ll:∀(i:Nat) L,F[i]?=some (some L)->L.length<=24
 so:∀(i:Nat) L,F[i]?=some (some L)->L.Pairwise (·<·)
structure pC(es:Nat->List Int)(A:Int->Int->Bool)(F:Fr)(g:Nat->Int):Prop where
 mem:∀(i:Nat) L,F[i]?=some (some L)->g i∈L
 fit:∀(i e:Nat) L M,F[i]?=some (some L)->F[e]?=some (some M)->(e:Int)∈es i->A (g i) (g e)=true
def Sat(es:Nat->List Int)(A:Int->Int->Bool)(F:Fr):Prop:=∃g,pC es A F g
noncomputable def fP(f:Int->Bool)(F:Fr)(e:Int):Fr:=F.set e.toNat ((F[e.toNat]?.join).map (·.filter f))
noncomputable def settle(es:Nat->List Int)(A:Int->Int->Bool)(F:Fr)(p:Nat)(x:Int):Fr:=(es p).foldl (fP (A x)) (F.set p none)
theorem zeh{f:Int->Bool}{F:Fr}{e:Int}:(fP f F e).length=F.length:=ou ..
theorem Ua{f:Int->Bool}:∀{l:List Int} {F:Fr},(l.foldl (fP f) F).length=F.length
 |[],F=>rfl
 |e::l,F=>by rw[KD,Ua,zeh]
theorem zki{f:Int->Bool}{F:Fr}{e:Int}(h0:0<=e)(i:Nat)(hi:i<F.length):(fP f F e)[i]?=if (i:Int)=e then F[i]?.map (Option.map (·.filter f)) else F[i]?:=by
 unfold fP;by_cases z:(i:Int)=e
 ·have:e.toNat=i:=by lia
  rw[if_pos z,this,pH hi,cP hi];rfl
 ·rw[if_neg z,mW gV]
theorem Ub{f:Int->Bool}:∀{l:List Int} {F:Fr} (i:Nat),(∀e∈l,0<=e)->i<F.length->(l.foldl (fP f) F)[i]?=if (i:Int)∈l then F[i]?.map (Option.map (·.filter f)) else F[i]?
 |[],F,i,_,hi=>by simp
 |e::l,F,i,h,hi=>by
  rw[KD,Ub i (λx hx=>h x (by simp[hx])) (by rw[zeh];exact hi),zki (h e Rb) i hi];have ff:∀c:Option (Option (List Int)),(c.map (Option.map (·.filter f))).map (Option.map (·.filter f))=c.map (Option.map (·.filter f)):=λc=>by
   cases c with
   |none=>rfl
   |some c=>cases c with
    |none=>rfl
    |some L=>simp
  by_cases a:(i:Int)=e
  ·by_cases b:(i:Int)∈l
   ·rw[if_pos b,if_pos a,if_pos (by simp[b]),ff]
   ·rw[if_neg b,if_pos a,if_pos (by simp[a])]
  ·by_cases b:(i:Int)∈l
   ·rw[if_pos b,if_neg a,if_pos (by simp[b])]
   ·rw[if_neg b,if_neg a,if_neg (by simp[a,b])]
section
variable {n k:Nat}{es:Nat->List Int}{A:Int->Int->Bool}{F:Fr}{p:Nat}{x:Int}{g:Nat->Int}
theorem zci:(settle es A F p x).length=F.length:=by unfold settle;rw[Ua,ou]
theorem zc4(B:Bo n k es A)(hF:F.length=n)(hp:p<n)(i:Nat)(hi:i<n):(settle es A F p x)[i]?=if i=p then some none else if (i:Int)∈es p then F[i]?.map (Option.map (·.filter (A x))) else F[i]?:=by
 unfold settle;rw[Ub i (λe he=>(B.mem p hp e he).1) (by rw[ou,hF];exact hi)];by_cases e:i=p
 ·subst e;rw[if_pos rfl,if_neg (λz=>(B.mem i hp _ z).2.2 rfl),pH (by rw[hF];exact hi)]
 ·rw[if_neg e,mW (Ne.symm e)]
theorem mV{i:Nat}{c:Option (List Int)}(hF:F.length=n)(h:F[i]?=some c):i<n:=by rw[<-hF];exact(cI.mp h).1
theorem JD(B:Bo n k es A)(hF:F.length=n)(hp:p<n){i:Nat}{M:List Int}(h:(settle es A F p x)[i]?=some (some M)):i≠p/\∃L,F[i]?=some (some L)/\M=if (i:Int)∈es p then L.filter (A x) else L:=by
 have hi:i<n:=mV (by rw[zci];exact hF) h;rw[zc4 B hF hp i hi] at h;by_cases e:i=p
 ·rw[if_pos e] at h;cases h
 ·rw[if_neg e] at h;refine⟨e,?_⟩;by_cases m:(i:Int)∈es p
  ·rw[if_pos m] at h;obtain⟨c,e1,e2⟩:=iZ.mp h;cases c with
   |none=>cases e2
   |some L=>cases e2;exact⟨L,e1,by rw[if_pos m]⟩
  ·rw[if_neg m] at h;exact⟨M,h,by rw[if_neg m]⟩
theorem DR(B:Bo n k es A)(hF:F.length=n)(hp:p<n){i:Nat}{L:List Int}(hi:i≠p)(h:F[i]?=some (some L)):(settle es A F p x)[i]?=some (some (if (i:Int)∈es p then L.filter (A x) else L)):=by
 rw[zc4 B hF hp i (mV hF h),if_neg hi,h]
 split<;>rfl
theorem JF(B:Bo n k es A)(v:Fv n k F)(hp:p<n):Fv n k (settle es A F p x):=by
 refine⟨by rw[zci];exact v.len,λi M h=>?_,λi M h=>?_,λi M h=>?_⟩<;>obtain⟨_,L,e,rfl⟩:=JD B v.len hp h
 ·intro y hy;refine v.lo i L e y ?_;split at hy
  ·exact(oh.mp hy).1
  ·exact hy
 ·split
  ·exact kW (Oi _ _) (v.ll i L e)
  ·exact v.ll i L e
 ·split
  ·exact(v.so i L e).filter _
  ·exact v.so i L e
theorem M_(B:Bo n k es A)(v:Fv n k F)(hp:p<n){L:List Int}(hL:F[p]?=some (some L))(s:pC es A F g):pC es A (settle es A F p (g p)) g:=by
 refine⟨λi M h=>?_,λi e M N h1 h2 he=>?_⟩
 ·obtain⟨_,L',e,rfl⟩:=JD B v.len hp h;have:=s.mem i L' e
  split
  ·exact oh.mpr ⟨this,s.fit p i L L' hL e (by assumption)⟩
  ·exact this
 ·obtain⟨_,L',e1,_⟩:=JD B v.len hp h1;obtain⟨_,L2,e2,_⟩:=JD B v.len hp h2;exact s.fit i e L' L2 e1 e2 he
theorem zd5(B:Bo n k es A)(v:Fv n k F)(hp:p<n){L:List Int}(hL:F[p]?=some (some L))(hx:x∈L)(s:pC es A (settle es A F p x) g):pC es A F λi=>if i=p then x else g i:=by
 have ap:∀(i:Nat) M,i≠p->F[i]?=some (some M)->(i:Int)∈es p->A x (g i)=true/\(0<=g i/\g i<k):=λi M ni h m=>by
  have h2:=DR (x:=x) B v.len hp ni h;have:=s.mem i _ h2;rw[if_pos m] at this;exact⟨(oh.mp this).2,v.lo i M h _ (oh.mp this).1⟩
 have hxk:=v.lo p L hL x hx;refine⟨λi M h=>?_,λi e M N h1 h2 he=>?_⟩
 ·by_cases z:i=p
  ·subst z;rw[if_pos rfl];rw[hL] at h;cases h;exact hx
  ·rw[if_neg z];have:=s.mem i _ (DR (x:=x) B v.len hp z h);split at this
   ·exact(oh.mp this).1
   ·exact this
 ·have li:=mV v.len h1;have le:=mV v.len h2;by_cases z:i=p
  ·subst z;have ne:e≠i:=λq=>(B.mem i li _ he).2.2 (by rw[q]);rw[if_pos rfl,if_neg ne];exact(ap e N ne h2 he).1
  ·by_cases y:e=p
   ·subst y;rw[if_neg z,if_pos rfl];have m:=B.sym i e li le he;obtain⟨q1,q2⟩:=ap i M z h1 m;rw[B.asy _ _ q2.1 q2.2 hxk.1 hxk.2];exact q1
   ·rw[if_neg z,if_neg y];exact s.fit i e _ _ (DR (x:=x) B v.len hp z h1) (DR (x:=x) B v.len hp y h2) he
theorem BR(B:Bo n k es A)(v:Fv n k F)(hp:p<n){L:List Int}(hL:F[p]?=some (some L)):Sat es A F↔∃x∈L,Sat es A (settle es A F p x):=
 ⟨λ⟨g,s⟩=>⟨g p,s.mem p L hL,g,M_ B v hp hL s⟩,λ⟨x,hx,g,s⟩=>⟨_,zd5 B v hp hL hx s⟩⟩
noncomputable def dG(es:Nat->List Int)(F:Fr)(p:Nat):Nat:=((es p).filter λe=>(F[e.toNat]?.join).isSome).length
noncomputable def bnd(es:Nat->List Int)(F:Fr):Fr:=F.mapIdx λi c=>if 0<dG es F i then c else none
theorem zim{i:Nat}:(bnd es F)[i]?=F[i]?.map λc=>if 0<dG es F i then c else none:=by unfold bnd;rw[List.getElem?_mapIdx]
theorem BW{i:Nat}{L:List Int}(h:(bnd es F)[i]?=some (some L)):F[i]?=some (some L)/\0<dG es F i:=by
 rw[zim] at h;obtain⟨c,e1,e2⟩:=iZ.mp h;split at e2
 ·subst e2;exact⟨e1,by assumption⟩
 ·cases e2
theorem zif(v:Fv n k F):Fv n k (bnd es F):=⟨by unfold bnd;rw[Oz];exact v.len,λi L h=>v.lo i L (BW h).1,λi L h=>v.ll i L (BW h).1,λi L h=>v.so i L (BW h).1⟩
theorem zeu{i e:Nat}{L:List Int}(hm:(e:Int)∈es i)(h:F[e]?=some (some L)):0<dG es F i:=by
 unfold dG;refine List.length_pos_of_mem (a:=(e:Int)) (oh.mpr ⟨hm,?_⟩);rw[jA,h];rfl
theorem zgf(B:Bo n k es A)(v:Fv n k F)(ne:∀(i:Nat) L,F[i]?=some (some L)->L≠[]):Sat es A (bnd es F)↔Sat es A F:=by
 constructor
 ·rintro⟨g,s⟩;have to:∀(i:Nat) L,F[i]?=some (some L)->0<dG es F i->(bnd es F)[i]?=some (some L):=λi L h q=>by rw[zim,h];show some (if _ then _ else _)=_;rw[if_pos q]
  refine⟨λi=>if 0<dG es F i then g i else ((F[i]?.join).getD []).headD 0,λi L h=>?_,λi e L M h1 h2 he=>?_⟩
  ·by_cases q:0<dG es F i
   ·rw[if_pos q];exact s.mem i L (to i L h q)
   ·rw[if_neg q,h];show L.headD 0∈L;cases L with
    |nil=>exact absurd rfl (ne i [] h)
    |cons a L=>exact lG
  ·have q1:=zeu he h2;have q2:=zeu (B.sym i e (mV v.len h1) (mV v.len h2) he) h1;rw[if_pos q1,if_pos q2];exact s.fit i e L M (to i L h1 q1) (to e M h2 q2) he
 ·rintro⟨g,s⟩;exact⟨g,λi L h=>s.mem i L (BW h).1,λi e L M h1 h2 he=>s.fit i e L M (BW h1).1 (BW h2).1 he⟩
theorem Uc(h:∀(i:Nat) L,F[i]?≠some (some L)):Sat es A F:=⟨λ_=>0,λi L q=>absurd q (h i L),λi _ L _ q=>absurd q (h i L)⟩
theorem zjU{i:Nat}(h:F[i]?=some (some [])):¬Sat es A F:=λ⟨g,s⟩=>nomatch s.mem i [] h
noncomputable def eN(k:Nat):List Int:=(List.range k).map λ(i:Nat)=>(i:Int)
theorem dw{k:Nat}{y:Int}:y∈eN k↔0<=y/\y<k:=by
 unfold eN;rw[rB]
 constructor
 ·rintro⟨i,hi,rfl⟩;have:=uG.mp hi;lia
 ·intro h;exact⟨y.toNat,uG.mpr gV,by lia⟩
theorem zfo(B:Bo n k es A)(v:Fv n k F)(hp:p<n)(hk:1<=k)(iw:∀t a b:Int,0<=a->a<k->0<=b->b<k->A ((a+t)%k) ((b+t)%k)=A a b)(all:∀(i:Nat) L,F[i]?=some (some L)->L=eN k)(hL:F[p]?=some (some (eN k))):Sat es A F↔Sat es A (settle es A F p 0):=by
 constructor
 ·rintro⟨g,s⟩;have md:∀z:Int,0<=z%(k:Int)/\z%(k:Int)<k:=λz=>⟨Cw _ gV,En _ gV⟩;have s2:pC es A F λi=>(g i + -(g p))%k:=by
   refine⟨λi L h=>?_,λi e L M h1 h2 he=>?_⟩
   ·rw[all i L h];exact dw.mpr (md _)
   ·have a:=dw.mp (all i L h1▸s.mem i L h1);have b:=dw.mp (all e M h2▸s.mem e M h2);show A ((g i + -(g p))%k) ((g e + -(g p))%k)=true;rw[iw _ _ _ a.1 a.2 b.1 b.2];exact s.fit i e L M h1 h2 he
  have:=M_ B v hp hL s2;have e0:(g p + -(g p))%(k:Int)=0:=by rw[Int.add_right_neg];rfl
  simp only[e0] at this;exact⟨_,this⟩
 ·intro h;exact(BR B v hp hL).mpr ⟨0,dw.mpr ⟨by lia,by lia⟩,h⟩
noncomputable def unset(F:Fr):Nat:=F.countP Option.isSome
theorem zc7:unset (bnd es F)<=unset F:=by
 unfold unset bnd;generalize dG es F=f
 induction F generalizing f with
 |nil=>simp
 |cons c F ih=>
  rw[List.mapIdx_cons,Cr,Cr];have:=ih (λi=>f (i+1));have e:(if (if 0<f 0 then c else none).isSome=true then 1 else 0)<=(if c.isSome=true then 1 else 0):=by
   split<;>split<;>simp_all
  lia
theorem zgh{F:Fr}:∀{p:Nat} {L:List Int},F[p]?=some (some L)->unset (F.set p none)+1=unset F:=by
 unfold unset
 induction F with
 |nil=>intro p L h;simp at h
 |cons c F ih=>
  intro p L h;cases p with
  |zero=>simp at h;subst h;simp
  |succ p=>
   have:=ih (p:=p) (L:=L) (by simpa using h);rw[List.set_cons_succ,Cr,Cr]
   lia
theorem zgw{f:Int->Bool}{F:Fr}{e:Int}:unset (fP f F e)<=unset F:=by
 unfold unset fP;generalize e.toNat=j
 induction F generalizing j with
 |nil=>simp
 |cons c F ih=>
  cases j with
  |zero=>cases c<;>simp
  |succ j=>
   rw[List.set_cons_succ,Cr,Cr,Cg];have:=ih j
   lia
theorem zcg{f:Int->Bool}:∀{l:List Int} {F:Fr},unset (l.foldl (fP f) F)<=unset F
 |[],F=>bU _
 |e::l,F=>kW (zcg (l:=l)) zgw
theorem JL{L:List Int}(h:F[p]?=some (some L)):unset (settle es A F p x)+1<=unset F:=by
 have:=zcg (f:=A x) (l:=es p) (F:=F.set p none);have:=zgh h;unfold settle
 lia
theorem zeN(h:unset F=0)(i:Nat)(L:List Int):F[i]?≠some (some L):=λe=>by
 have:=List.countP_eq_zero.mp h _ (dM e);exact this rfl
def pD(es:Nat->List Int)(A:Int->Int->Bool)(kvs:gY):Prop:=∀F d,bO (F.map cellK) kvs=some d->∃b,d=.bl b/\(b=true↔Sat es A F)
theorem Nb{j q:List Kx}{d:D}:∀{kvs:gY},bO j (iQ q d kvs)=if j=q then some d else bO j kvs:=by
 intro kvs;unfold iQ;have app:∀{r:gY},bO j (r++[(q,d)])=match bO j r with|some e=>some e|none=>if j=q then some d else none:=λ{r}=>by
  induction r with
  |nil=>
   show (if q=j then some d else none)=if j=q then some d else none
   by_cases e:q=j
   ·rw[if_pos e,if_pos e.symm]
   ·rw[if_neg e,if_neg λz=>e z.symm]
  |cons p r ih=>
   rw[List.cons_append];unfold bO;by_cases e:p.1=j
   ·simp[e]
   ·simp only[e,rC];exact ih
 by_cases h:(bO q kvs).isSome=true
 ·rw[if_pos h];by_cases e:j=q
  ·subst e;rw[if_pos rfl]
   induction kvs with
   |nil=>simp[bO] at h
   |cons p r ih=>
    rw[jr];by_cases z:p.1=j
    ·rw[if_pos z];unfold bO;rw[if_pos z]
    ·rw[if_neg z];unfold bO at h ⊢;rw[if_neg z] at h ⊢;exact ih h
  ·rw[if_neg e];clear h
   induction kvs with
   |nil=>rfl
   |cons p r ih=>
    rw[jr];by_cases z:p.1=q
    ·rw[if_pos z];unfold bO;rw[if_neg (λy=>e (y.symm.trans z)),if_neg (λy=>e (y.symm.trans z))];exact ih
    ·rw[if_neg z];unfold bO;by_cases y:p.1=j
     ·rw[if_pos y,if_pos y]
     ·rw[if_neg y,if_neg y];exact ih
 ·rw[if_neg h,app];by_cases e:j=q
  ·subst e;have:bO j kvs=none:=by simpa using h
   simp[this]
  ·rw[if_neg e,if_neg e];cases bO j kvs<;>rfl
theorem zen{q:List Kx}{d:D}{kvs:gY}:(iQ q d kvs).length<=kvs.length+1:=by
 unfold iQ
 split
 ·rw[cj];lia
 ·simp
theorem zkd{kvs:gY}{b:Bool}(h:pD es A kvs)(hb:b=true↔Sat es A F):pD es A (iQ (F.map cellK) (.bl b) kvs):=λG d e=>by
 rw[Nb] at e;by_cases z:G.map cellK=F.map cellK
 ·rw[if_pos z] at e;cases e;rw[T_ z];exact⟨b,rfl,hb⟩
 ·rw[if_neg z] at e;exact h G d e
end
noncomputable def cnt(k:Nat):Nat->Nat
 |0=>1
 |m+1=>1+k*cnt k m
section
variable {aq:Nat->Nat->Bool}{aj:Bool}{F:Fn}{J:Vs}{s:S}{P:Xv->S->Prop}
theorem W.qO{c:Nat}{fs:List D}{P:List D->S->Prop}(h:P fs s):W (Mi.qO c (.d (.ob c fs))) s P:=by
 show W (if c=c then M.ret fs else M.no) s P;rw[if_pos rfl];exact W.ret h
theorem W.cm{c f:Nat}{o:E}{xs:Es}{fs:List D}{vs:List Xv}(h1:dB aq o J=some (.d (.ob c fs)))(h2:nZ aq xs J=some vs)(k:W (bR (F f) (.d (.ob c fs)::vs)) s P):W (ev aq aj F (.cm c f o xs) J) s P:=
 W.bd (W.eq (gD o _ h1) (W.bd (W.qO (W.bd (W.eq (jy xs h2) (W.qt k))))))
theorem W.nG(h:P (.l s.length) (s++[.dct []])):W (ev aq aj F .nG J) s P:=⟨_,_,rfl,h⟩
theorem W.key{x:D}{kx:List Kx}{P:List Kx->S->Prop}(e:kOf x=some kx)(h:P kx s):W (Mi.key (.d x)) s P:=W.opt e h
theorem W.fK{n:Nat}{kvs:gY}{P:Nat×gY->S->Prop}(e:s[n]?=some (.dct kvs))(h:P (n,kvs) s):W (Mi.fK (.l n)) s P:=⟨_,s,by unfold Mi.fK;simp only[e],h⟩
theorem W.vR{b:Bool}{k d:E}{x:D}{n:Nat}{kx:List Kx}{kvs:gY}(h1:dB aq k J=some (.d x))(h2:dB aq d J=some (.l n))(e:kOf x=some kx)(hn:s[n]?=some (.dct kvs))(h:P (.d (.bl ((bO kx kvs).isSome==b))) s):W (ev aq aj F (.vR b k d) J) s P:=
 W.bd (W.eq (gD k _ h1) (W.bd (W.eq (gD d _ h2) (W.bd (W.key e (W.bd (W.fK hn (W.ret h))))))))
theorem W.kh{d k:E}{x v:D}{n:Nat}{kx:List Kx}{kvs:gY}(h1:dB aq d J=some (.l n))(h2:dB aq k J=some (.d x))(e:kOf x=some kx)(hn:s[n]?=some (.dct kvs))(hv:bO kx kvs=some v)(h:P (.d v) s):W (ev aq aj F (.kh d k) J) s P:=
 W.bd (W.eq (gD d _ h1) (W.bd (W.eq (gD k _ h2) (W.bd (W.key e (W.bd (W.fK hn (W.opt (a:=.d v) (by show Option.map _ (bO kx kvs)=_;rw[hv];rfl) h))))))))
theorem W.Dn{a:E}(h:W (ev aq aj F a J) s λx s1=>W (rd x) s1 λd s2=>∃b,vV d=some b/\P (.d (.bl b)) s2):W (ev aq aj F (.Dn a) J) s P:=
 W.bd (h.imp λ_ _ h=>W.bd (h.imp λ_ _ ⟨_,e,h⟩=>W.bd (W.opt e (W.ret h))))
theorem Ud{xs:List D}{P:Src×Nat->S->Prop}(h:P (.fix (enumFrom 0 xs),(enumFrom 0 xs).length) s):W (nJ (.d (.tup xs))) s P:=⟨_,s,rfl,h⟩
theorem W.mk{c f:Nat}{xs:Es}{vs:List Xv}{ds:List D}(h:W (evs aq aj F xs J) s λus s1=>us=vs/\P (.d (.ob c ds)) s1)(hl:locs vs=[])(k:W (F f (.d .any::vs)) [] λv _=>v=.d (.tup ds)):W (ev aq aj F (.mk c f xs) J) s P:=by
 refine W.bd (h.imp λus s1 ⟨e,hp⟩=>?_);subst e;obtain⟨v,s2,e1,rfl⟩:=k;refine⟨_,s1,?_,hp⟩;unfold RM;rw[if_pos hl];simp only[e1]
end
theorem WS.dput{aq:Nat->Nat->Bool}{aj:Bool}{F:Bool->Fn}{J:Vs}{s:S}{Q:Out->S->Prop}{d k v:E}{x:D}{n:Nat}{kx:List Kx}(h1:dB aq d J=some (.l n))(h2:dB aq k J=some (.d x))(e:kOf x=some kx)
  (h:W (ev aq aj (F aj) v J) s λz s1=>∃w kvs,z=.d w/\s1[n]?=some (.dct kvs)/\kvs.length<sizeLine/\Q (.nx J) (s1.set n (.dct (iQ kx w kvs)))):WS (ex aq aj F (.dput d k v) J) s Q:=by
 refine WS.ofM (W.bd (h.imp λz s1 hz=>?_));obtain⟨w,kvs,ez,hn,hl,q⟩:=hz;subst ez;refine W.bd (W.dat (W.bd (W.eq (gD d _ h1) (W.bd (W.eq (gD k _ h2) (W.bd (W.key e (W.bd (W.fK hn ?_)))))))));rw[if_pos hl];exact⟨_,_,rfl,WS.nx q⟩
theorem zbw{α:Type}{f:α->D}:∀(l:List α) (j:Nat),enumFrom j (l.map f)=(l.zipIdx j).map λp=>.tup [.int p.2,f p.1]
 |[],j=>rfl
 |a::l,j=>by rw[jr,List.zipIdx_cons,jr,<-zbw l (j+1)];rfl
theorem Ka2{o:Option Rz}{xs:List D}{s:S}{P:Xv->S->Prop}(e:o=some (.nw xs))(h:P (.l s.length) (s++[.lst xs])):W (bV false o) s P:=by subst e;exact⟨_,_,rfl,h⟩
theorem zh2{n:Nat}{j:Int}(h0:0<=j)(h:j<n):L2.oE n j=some j.toNat:=by
 unfold L2.oE;rw[if_pos h0,if_pos h]
theorem zjg{n:Nat}{j:Int}(h0:j<0)(h : -(n:Int)<=j):L2.oE n j=some (j+n).toNat:=by
 unfold L2.oE;rw[if_neg gV,if_pos h]
theorem zns{xs:List D}{j:Int}{x:D}(h0:j<0)(h1 : -(xs.length:Int)<=j)(h:xs[(j+xs.length).toNat]?=some x):prim .ix [.fl xs,.int j]=some (.dat x):=by
 show Option.map Rz.dat (L2.nu xs j)=_;have:L2.nu xs j=some x:=by
  unfold L2.nu;rw[zjg h0 h1];exact h
 rw[this];rfl
theorem zhB(F:Fr):memD (.tup []) (F.map aU)=some (decide (some []∈F)):=by
 induction F with
 |nil=>rfl
 |cons c F ih=>
  simp only[jr,memD,ih];cases c with
  |none=>
   have e:bY 50 (aU none) (.tup [])=some false:=rfl;simp[e]
  |some l=>
   cases l with
   |nil=>
    have:bY 50 (aU (some [])) (.tup [])=some true:=rfl;rw[this];simp
   |cons a l=>
    have:bY 50 (aU (some (a::l))) (.tup [])=some false:=rfl;rw[this];simp
theorem zll{f:Bool->Bool}{F:Fr}:yd f [.tup [],iu F]=some (.dat (.bl (f (decide (some []∈F))))):=by
 show Option.map _ (memD (.tup []) (F.map aU))=_;rw[zhB];rfl
theorem zfr{k':Nat}:∀(a b:List Int),dI (bY k') (a.map D.int) (b.map D.int)=some (decide (a=b))
 |[],[]=>by simp[dI]
 |[],_::_=>by simp[dI]
 |_::_,[]=>by simp[dI]
 |x::a,y::b=>by
  have hi:bY k' (.int x) (.int y)=some (x==y):=by cases k'<;>rfl
  simp only[jr,dI,zfr a b,hi]
  congr 1
  by_cases e:x=y<;>by_cases e2:a=b<;>simp[e,e2]
theorem znc{f:Bool->Bool}{a b:List Int}:yc f [.tup (a.map .int),.tup (b.map .int)]=some (.dat (.bl (f (decide (a=b))))):=by
 show Option.map _ (dI (bY 49) (a.map D.int) (b.map D.int))=_;rw[zfr];rfl
theorem zdg:∀rs:List (List Int),jK (rs.map λr=>D.tup (r.map .int))=some rs
 |[]=>rfl
 |r::rs=>by simp only[jr,jK,T9,zdg rs]
theorem Ue:∀(rs:List (List Int)) (b:List Int),fH b rs=b\/fH b rs∈rs
 |[],b=>.inl rfl
 |x::r,b=>by
  unfold fH
  split
  ·rcases Ue r x with h|h
   ·rw[h];exact .inr lG
   ·exact .inr (iz _ h)
  ·rcases Ue r b with h|h
   ·exact .inl h
   ·exact .inr (iz _ h)
theorem zmD{rs:List (List Int)}(h:rs≠[]):∃r∈rs,prim .qK [.fl (rs.map λr=>D.tup (r.map .int))]=some (.dat (.tup (r.map .int))):=by
 cases rs with
 |nil=>exact absurd rfl h
 |cons x r=>
  refine⟨fH x r,?_,?_⟩
  ·rcases Ue r x with h|h
   ·rw[h];exact lG
   ·exact iz _ h
  ·show nH [.fl ((x::r).map λr=>D.tup (r.map .int))]=_;unfold nH;simp only[zdg]
theorem znK{n:Nat}(h:n<=65536):prim .Dm [.int n]=some (.dat (.tup ((eN n).map .int))):=by
 show (if okR 0 (n:Int)=true then some (Rz.dat (.tup (HJ 0 ((n:Int)-0).toNat))) else none)=_;rw[if_pos (show okR 0 (n:Int)=true from fZ gV)];unfold HJ eN;rw[zF,show ((n:Int)-0).toNat=n by lia]
 congr 4
 funext i
 simp
noncomputable def yR(n:Nat)(es:Nat->List Int):List D:=(List.range n).map λi=>.tup ((es i).map .int)
noncomputable def uq(k:Nat)(A:Int->Int->Bool):List D:=(List.range k).map λ(a:Nat)=>.fl ((List.range k).map λ(b:Nat)=>.bl (A a b))
noncomputable def jV(al:Bool)(n k:Nat)(es:Nat->List Int)(A:Int->Int->Bool):D:=.ob 0 [.fl (yR n es),.tup ((eN k).map .int),.fl (uq k A),.bl al]
noncomputable abbrev yS(n k:Nat)(es:Nat->List Int)(A:Int->Int->Bool):D:=jV true n k es A
theorem Ug{n:Nat}{es:Nat->List Int}{i:Nat}(h:i<n):(yR n es)[i]?=some (.tup ((es i).map .int)):=by
 unfold yR;rw[fB,zx h];rfl
theorem zof{k:Nat}{A:Int->Int->Bool}{a:Int}(h0:0<=a)(h:a<k):(uq k A)[a.toNat]?=some (.fl ((List.range k).map λ(b:Nat)=>.bl (A a b))):=by
 unfold uq;rw[fB,zx gV];have:((a.toNat:Nat):Int)=a:=by lia
 simp[this]
theorem Uh{k:Nat}{f:Int->Bool}{b:Int}(h0:0<=b)(h:b<k):((List.range k).map λ(b:Nat)=>D.bl (f b))[b.toNat]?=some (.bl (f b)):=by
 rw[fB,zx gV];have:((b.toNat:Nat):Int)=b:=by lia
 simp[this]
theorem JM{F:Fr}{i:Nat}{c:Option (List Int)}(h:F[i]?=some c):(F.map aU)[i]?=some (aU c):=by rw[fB,h];rfl
theorem zjC{f:Int->Bool}{F:Fr}{e:Int}:(fP f F e).map aU=(F.map aU).set e.toNat (aU ((F[e.toNat]?.join).map (·.filter f))):=by
 unfold fP;rw[List.map_set]
theorem zgV{f:Int->Bool}{F:Fr}{e:Int}(h:F[e.toNat]?=some none):fP f F e=F:=by
 unfold fP;rw[h];obtain⟨hl,e2⟩:=cI.mp h;show F.set e.toNat none=F;rw[<-e2,List.set_getElem_self]
theorem Ui{α:Type}{p:Int->Bool}(l:List Int):l.filterMap (λy=>if p y=true then some (D.int y) else none)=(l.filter p).map .int:=by
 induction l with
 |nil=>rfl
 |cons a l ih=>
  rw[zu,List.filter_cons];by_cases q:p a=true
  ·simp[q,ih]
  ·simp[q,ih]
noncomputable def tot(k:Nat):Nat->Nat
 |0=>0
 |m+1=>k*cnt k m+tot k m
theorem zhY{k:Nat}{L:List Int}(h:L.Pairwise (·<·))(hb:∀x∈L,0<=x/\x<k):L.length<=k:=by
 have key:∀(L:List Int) (a:Int),L.Pairwise (·<·)->(∀x∈L,a<=x/\x<k)->a<=k->(L.length:Int)<=k-a:=by
  intro L
  induction L with
  |nil=>intro a _ _ ha;simp;lia
  |cons x r ih=>
   intro a h hb ha;rw[Cq] at h;have hx:=hb x Rb;have:=ih (x+1) h.2 (λy hy=>by have:=h.1 y hy;have:=hb y (by simp[hy]);lia) gV;rw[fX]
   lia
 have:=key L 0 h hb gV
 lia
noncomputable def bf(k d:Int)(a b:Int):Bool:=decide (d<=cO k a b)
section
variable {n k d:Int}{ps:List (Int×Int)}{ls:List Int}
theorem DW(hd:1<=d){a b:Int}:bf k d a b=bf k d b a:=by
 unfold bf;rw[Cu,DP hd,DP hd]
 lia
theorem zjW(hd:1<=d)(t a b:Int)(a0:0<=a)(ak:a<k)(b0:0<=b)(bk:b<k):bf k d ((a+t)%k) ((b+t)%k)=bf k d a b:=by
 unfold bf;rw[Cu,DP hd,DP hd];have e1:=Int.emod_add_mul_ediv (a+t) k;have e2:=Int.emod_add_mul_ediv (b+t) k;have u0:=Cw (a+t) (b:=k) gV;have w0:=Cw (b+t) (b:=k) gV;have uk:=En (a+t) (b:=k) gV;have wk:=En (b+t) (b:=k) gV;generalize (a+t)%k=u at *;generalize (b+t)%k=w at *;generalize (a+t)/k=q1 at *;generalize (b+t)/k=q2 at *;have e3:k*(q1-q2)=(a-b)-(u-w):=by rw[Int.mul_sub];lia
 have c:q1-q2 = -1\/q1-q2=0\/q1-q2=1:=by
  have h1:q1-q2<2:=Int.not_le.mp λz=>by
   have:=Int.mul_le_mul_of_nonneg_left z (show 0<=k by lia)
   lia
  have h2 : -2<q1-q2:=Int.not_le.mp λz=>by
   have:=Int.mul_le_mul_of_nonneg_left z (show 0<=k by lia)
   lia
  lia
 rcases c with c|c|c<;>rw[c] at e3<;>lia
theorem yU(w:Web n ps){i e:Int}:e∈aA i ps↔(i,e)∈ps\/(e,i)∈ps:=by
 unfold aA;rw[qw]
 constructor
 ·rintro⟨p,hp,h⟩;obtain⟨a,b⟩:=p;unfold endOf at h;dsimp only at h;split at h
  ·cases h;subst_vars;exact .inl hp
  ·split at h
   ·cases h;subst_vars;exact .inr hp
   ·cases h
 ·rintro(hp|hp)
  ·exact⟨_,hp,by simp[endOf]⟩
  ·have:=w.tie _ hp;dsimp only at this;exact⟨_,hp,by unfold endOf;dsimp only;rw[if_neg gV,if_pos rfl]⟩
theorem wQ(w:Web n ps)(hd:1<=d)(hk:k<=24):Bo n.toNat k.toNat (λi=>aA i ps) (bf k d) where
 hn:=by have:=w.h8;lia
 hk:=by lia
 mem:=λi hi e he=>by
  have:=Jm w he;refine⟨this.1,by lia,λz=>?_⟩;subst z;rcases(yU w).mp he with h|h<;>have:=w.tie _ h<;>dsimp only at this<;>lia
 sym:=λi e _ _ he=>(yU w).mpr ((yU w).mp he).symm
 len:=λi hi=>by
  have:=zhY (k:=n.toNat) (zes w i) (λx hx=>by have:=Jm w hx;have:=w.h1;lia);have:=w.h8
  lia
 asy:=λa b _ _ _ _=>DW hd
end
theorem Uj{k k2 m m2:Nat}(hk:k<=k2)(hm:m<=m2):cnt k m<=cnt k2 m2:=by
 have h1:∀m,cnt k m<=cnt k2 m:=by
  intro m
  induction m with
  |zero=>exact bU _
  |succ m ih=>exact Nat.add_le_add_left (CG hk ih) 1
 have h3:∀m,1<=cnt k2 m:=λm=>by cases m<;>unfold cnt<;>lia
 by_cases c:k2=0
 ·subst c;have:k=0:=by lia
  subst this;cases m<;>cases m2<;>simp[cnt]
 ·have h2:∀j,cnt k2 m<=cnt k2 (m+j):=by
   intro j
   induction j with
   |zero=>exact bU _
   |succ j ih=>
    have:1*cnt k2 (m+j)<=k2*cnt k2 (m+j):=zp _ gV;show _<=1+k2*cnt k2 (m+j)
    lia
  have:=h2 (m2-m);rw[show m+(m2-m)=m2 by lia] at this;exact kW (h1 m) this
theorem zhP{k k2 m m2:Nat}(hk:k<=k2)(hm:m<=m2):tot k m<=tot k2 m2:=by
 have h1:∀m,tot k m<=tot k2 m:=by
  intro m
  induction m with
  |zero=>exact bU _
  |succ m ih=>exact Nat.add_le_add (CG hk (Uj hk (bU _))) ih
 have h2:∀j,tot k2 m<=tot k2 (m+j):=by
  intro j
  induction j with
  |zero=>exact bU _
  |succ j ih=>show _<=k2*cnt k2 (m+j)+tot k2 (m+j);lia
 have:=h2 (m2-m);rw[show m+(m2-m)=m2 by lia] at this;exact kW (h1 m) this
noncomputable def cD:Option Int->D
 |none=>.non
 |some i=>.int i
noncomputable def DX(k:Int)(t:D):Bool:=t.jJ||Jz 0 (k-1) t
noncomputable def JV(n k:Int):D->Bool
 |.tup xs=>decide ((xs.length:Int)=n)&&xs.all (DX k)
 |_=>false
structure Kn(n k:Int)(ks:List (Option Int)):Prop where
 len:(ks.length:Int)=n
 lo:∀i,some i∈ks->0<=i/\i<k
structure oK(n k d:Int)(ps:List (Int×Int))(ks:List (Option Int))(h:List Int):Prop where
 hu:TV n k d ps h
 kn:∀(j:Nat) i,ks[j]?=some (some i)->at' h j=i
structure ur(n k d:Int)(ps:List (Int×Int))(ks:List (Option Int))(r:List Int)(x:Int):Prop where
 lo:∀z∈r,0<=z/\z<k
 x0:0<=x
 xk:x<=k
 len:(r.length:Int)<n
 fit:∀p∈ps,p.2<r.length->d<=cO k (at' r p.1) (at' r p.2)
 kn:∀(j:Nat) i,j<r.length->ks[j]?=some (some i)->at' r j=i
 ge:∀h,oK n k d ps ks h->Ge h (r++[x])
section
variable {n k d:Int}{ps:List (Int×Int)}{ks:List (Option Int)}{r:List Int}{x y:Int}
theorem ziD{h:List Int}(g:oK n k d ps ks h)(j:Nat):0<=at' h j:=by
 by_cases hj:j<h.length
 ·exact(g.hu.lo _ (TJ gV gV)).1
 ·unfold at';rw[jA,jW,Ke gV];exact Int.le_refl _
theorem Uk(w:Web n ps)(hk:1<=k):ur n k d ps ks [] 0 where
 lo:=by simp
 x0:=by lia
 xk:=by lia
 len:=by have:=w.h1;simp;lia
 fit:=λp hp h=>by have:=w.tie p hp;simp at h;lia
 kn:=λj i h=>by simp at h
 ge:=λh g=>zf2 (r:=[]) (λj hj=>by simp at hj) (ziD g)
theorem zid(S:ur n k d ps ks r k){h:List Int}(g:oK n k d ps ks h)(ha:∀i:Nat,i<r.length->at' h i=at' r i):False:=by
 have hge:=S.ge h g r.length Rb λi hi=>by rw[ha i hi,lD gV gV]
 rw[yO] at hge;have hlen:=g.hu.len;have:=S.len;have:=(g.hu.lo _ (TJ (fs:=h) (j:=(r.length:Nat)) gV gV)).2
 lia
theorem zjT(w:Web n ps)(S:ur n k d ps ks (r++[y]) k):ur n k d ps ks r (y+1) where
 lo:=λz hz=>S.lo z (Kf _ hz)
 x0:=by have:=S.lo y Rb;lia
 xk:=by have:=S.lo y Rb;lia
 len:=by have:=S.len;rw[dH] at this;simp at this;lia
 fit:=λp hp h=>by
  have ht:=w.tie p hp;have:=S.fit p hp (by rw[dH];simp;lia)
  rwa [lD gV gV,lD gV gV] at this
 kn:=λj i hj e=>by
  have:=S.kn j i (by rw[dH];simp;lia) e
  rwa [lD gV gV] at this
 ge:=λh g=>zlv (S.ge h g) λha=>zid S g ha
theorem zjf(w:Web n ps)(S:ur n k d ps ks r x)(hx:x≠k)(hn:(∃p∈ps,p.2=r.length/\cO k (at' (r++[x]) p.1) x<d)\/∃i,ks[r.length]?=some (some i)/\i≠x):ur n k d ps ks r (x+1) where
 lo:=S.lo
 x0:=by have:=S.x0;lia
 xk:=by have:=S.xk;lia
 len:=S.len
 fit:=S.fit
 kn:=S.kn
 ge:=λh g=>zil (S.ge h g) λha e=>by
  rcases hn with ⟨p,hp,e2,hg⟩|⟨i,ei,hi⟩
  ·have ht:=w.tie p hp;have:=g.hu.fit p hp;rw[e2,e] at this;obtain⟨i,hi⟩:=wZ ht.1;rw[hi,ha i gV] at this;rw[hi,lD gV gV] at hg
   lia
  ·have:=g.kn _ _ ei
   lia
theorem zii(w:Web n ps)(S:ur n k d ps ks r x)(hx:x≠k)(hn:∀p∈ps,p.2=r.length->d<=cO k (at' (r++[x]) p.1) x)(hk:∀i,ks[r.length]?=some (some i)->i=x) :
  (∀z∈r++[x],0<=z/\z<k)/\(∀p∈ps,p.2<(r++[x]).length->d<=cO k (at' (r++[x]) p.1) (at' (r++[x]) p.2))/\(∀(j:Nat) i,j<(r++[x]).length->ks[j]?=some (some i)->at' (r++[x]) j=i):=by
 refine⟨λz hz=>?_,λp hp hl=>?_,λj i hj e=>?_⟩
 ·rcases kO.mp hz with hz|hz
  ·exact S.lo z hz
  ·have:z=x:=by simpa using hz
   have:=S.x0;have:=S.xk
   lia
 ·have ht:=w.tie p hp;rw[dH] at hl;simp at hl;by_cases c:p.2<r.length
  ·rw[lD gV gV,lD gV gV];exact S.fit p hp c
  ·have e:p.2=r.length:=by lia
   have:=hn p hp e;rw[e,yO];exact this
 ·rw[dH] at hj;simp at hj;by_cases c:j<r.length
  ·rw[lD gV gV];exact S.kn j i c e
  ·have c:j=r.length:=by lia
   subst c;rw[yO];exact(hk i e).symm
theorem zhM(w:Web n ps)(S:ur n k d ps ks r x)(rO:1<=k)(hx:x≠k)(hl:(r.length:Int)+1≠n)(hn:∀p∈ps,p.2=r.length->d<=cO k (at' (r++[x]) p.1) x)(hk:∀i,ks[r.length]?=some (some i)->i=x):ur n k d ps ks (r++[x]) 0:=
 have h:=zii w S hx hn hk
 ⟨h.1,by lia,by lia,by have:=S.len;rw[dH];simp;lia,h.2.1,h.2.2,λg q=>zf2 (S.ge g q) (ziD q)⟩
theorem zhU(w:Web n ps)(S:ur n k d ps ks r x)(hx:x≠k)(hl:(r.length:Int)+1=n)(hkl:(ks.length:Int)=n)(hn:∀p∈ps,p.2=r.length->d<=cO k (at' (r++[x]) p.1) x)(hk:∀i,ks[r.length]?=some (some i)->i=x):oK n k d ps ks (r++[x]):=
 have h:=zii w S hx hn hk;have el:((r++[x]).length:Int)=n:=by rw[dH];simp;lia
 ⟨⟨el,h.1,λp hp=>h.2.1 p hp (by have:=w.tie p hp;lia)⟩,λj i e=>h.2.2 j i (by have:=(cI.mp e).1;lia) e⟩
noncomputable def fQ(k:Int):Option Int->List Int
 |none=>eN k.toNat
 |some i=>[i]
noncomputable def rP(k:Int)(ks:List (Option Int)):Fr:=ks.map λc=>some (fQ k c)
theorem BX{j:Nat}{L:List Int}(h:(rP k ks)[j]?=some (some L)):∃c,ks[j]?=some c/\L=fQ k c:=by
 unfold rP at h;rw[fB,iZ] at h;obtain⟨c,e,e2⟩:=h;exact⟨c,e,(cW e2).symm⟩
theorem znd(q:Kn n k ks)(hk:k<=24)(hn:0<=n):Fv n.toNat k.toNat (rP k ks) where
 len:=by unfold rP;rw[cj];have:=q.len;lia
 lo:=λj L h x hx=>by
  obtain⟨c,e,rfl⟩:=BX h;cases c with
  |none=>exact dw.mp hx
  |some i=>
   have:=q.lo i (dM e);have:x=i:=rT.mp hx
   lia
 ll:=λj L h=>by
  obtain⟨c,e,rfl⟩:=BX h;cases c with
  |none=>show (eN k.toNat).length<=24;unfold eN;simp;lia
  |some i=>show [i].length<=24;simp
 so:=λj L h=>by
  obtain⟨c,e,rfl⟩:=BX h;cases c with
  |none=>
   show (eN k.toNat).Pairwise _;unfold eN;rw[O4];exact List.pairwise_lt_range.imp (by intro a b h;lia)
  |some i=>exact List.pairwise_singleton ..
theorem JZ{j:Nat}{c:Option Int}(h:ks[j]?=some c):(rP k ks)[j]?=some (some (fQ k c)):=by
 unfold rP;rw[fB,h];rfl
theorem zf3(w:Web n ps)(hd:1<=d)(q:Kn n k ks){hs:List Int}(h:oK n k d ps ks hs):pC (λi=>aA i ps) (bf k d) (rP k ks) λj=>at' hs j where
 mem:=λj L e=>by
  obtain⟨c,e1,rfl⟩:=BX e;have hj:=(cI.mp e1).1;have:=h.hu.len;have hl:=q.len;have:=h.hu.lo _ (TJ (fs:=hs) (j:=j) gV gV);cases c with
  |none=>exact dw.mpr gV
  |some i=>exact rT.mpr (h.kn j i e1)
 fit:=λi e L M _ _ he=>by
  rcases(yU w).mp he with q|q
  ·have:=h.hu.fit _ q;show bf k d (at' hs i) (at' hs e)=true;unfold bf;rw[Kg];exact this
  ·have:=h.hu.fit _ q;rw[DW hd];show bf k d (at' hs e) (at' hs i)=true;unfold bf;rw[Kg];exact this
theorem zfV(w:Web n ps)(q:Kn n k ks){hs:List Int}(hl:hs.length=n.toNat)(s:pC (λi=>aA i ps) (bf k d) (rP k ks) λj=>at' hs j):oK n k d ps ks hs:=by
 have h1:=w.h1;have hkl:=q.len;have mem:∀j:Nat,j<n.toNat->0<=at' hs j/\at' hs j<k:=λj hj=>by
  obtain⟨c,e⟩ : ∃c,ks[j]?=some c:=⟨_,cP gV⟩;have m:=s.mem j _ (JZ e);cases c with
  |none=>have:=dw.mp m;lia
  |some i=>have m:=rT.mp m;have:=q.lo i (dM e);lia
 refine⟨⟨by lia,λx hx=>?_,λp hp=>?_⟩,λj i e=>?_⟩
 ·obtain⟨j,hj,e⟩:=xq hx;have e2:at' hs (j:Int)=x:=by
   unfold at';rw[jA,jW,cP hj,e];rfl
  rw[<-e2];exact mem j gV
 ·have ht:=w.tie p hp;obtain⟨a,b⟩:=p;dsimp only at ht;obtain⟨i,rfl⟩:=wZ ht.1;obtain⟨e,rfl⟩:=wZ (show 0<=b by lia);have:=s.fit i e _ _ (JZ (cP (l:=ks) (i:=i) gV)) (JZ (cP (l:=ks) (i:=e) gV)) ((yU w).mpr (.inl hp));unfold bf at this;rw[Kg] at this;exact this
 ·exact rT.mp (s.mem j _ (JZ e))
end
noncomputable def Nf(x:Int):Option Int->Bool
 |none=>false
 |some i=>decide (i≠x)
theorem znS{c:Option Int}{x:Int}:prim .nin [cD c,.tup [.non,.int x]]=some (.dat (.bl (Nf x c))):=by
 cases c with
 |none=>rfl
 |some i=>
  show Option.map (λk=>Rz.dat (.bl (!k))) (memD (.int i) [.non,.int x])=_;have e1:bY 50 .non (.int i)=some false:=rfl;have e2:bY 50 (.int x) (.int i)=some (x==i):=rfl;simp only[memD,e1,e2];show some (Rz.dat (.bl (!(false||(x==i||false)))))=_
  congr 3
  unfold Nf;by_cases c:i=x
  ·subst c;simp
  ·have:(x==i)=false:=w6.mpr λz=>c z.symm;simp[c,this]
theorem yV{x:Int}{c:Option Int}:Nf x c=true↔∃i,c=some i/\i≠x:=by
 cases c with
 |none=>exact⟨λz=>(by cases z),λ⟨i,e,_⟩=>(by cases e)⟩
 |some i=>exact⟨λz=>⟨i,rfl,kJ z⟩,λ⟨j,e,q⟩=>by cases e;exact fZ q⟩
theorem wR{ks:List (Option Int)}{j:Nat}{c:Option Int}(h:ks[j]?=some c):(ks.map cD)[j]?=some (cD c):=by rw[fB,h];rfl
theorem zh6{c:Option Int}:(cD c).jJ=c.isNone:=by cases c<;>rfl
noncomputable def dR(ks:List (Option Int))(es:List Int):List Int:=es.filterMap λe=>(ks[e.toNat]?).join
noncomputable def iY(k d:Int)(ns:List Int)(x:Int):Bool:=ns.all λo=>bf k d x o
noncomputable def jz(k d:Int)(ps:List (Int×Int))(ks:List (Option Int))(p:Int):Bool:=match (ks[p.toNat]?).join with
 |none=>(eN k.toNat).all λx=>!(iY k d (dR ks (aA p ps)) x)
 |some i=>!(iY k d (dR ks (aA p ps)) i)
noncomputable def lF(ks:List (Option Int))(p:Int)(ps:List (Int×Int)):List (Option Int):=ps.filterMap λq=>if p=q.1\/p=q.2 then some (ks[(q.1+q.2-p).toNat]?).join else none
theorem zkC{n:Int}{ps:List (Int×Int)}(w:Web n ps){ks:List (Option Int)}{p o:Int}:some o∈lF ks p ps↔o∈dR ks (aA p ps):=by
 unfold lF dR;rw[qw,qw]
 constructor
 ·rintro⟨⟨a,b⟩,hq,h⟩;dsimp only at h;split at h
  ·rename_i hc;have h:=cW h;rcases hc with hc|hc
   ·refine⟨b,(yU w).mpr (.inl (by rw[hc];exact hq)),?_⟩;rw[<-h,show a+b-p=b by lia]
   ·refine⟨a,(yU w).mpr (.inr (by rw[hc];exact hq)),?_⟩;rw[<-h,show a+b-p=a by lia]
  ·cases h
 ·rintro⟨e,he,h⟩;rcases(yU w).mp he with hq|hq
  ·exact⟨_,hq,by dsimp only;rw[if_pos (.inl rfl),show p+e-p=e by lia,h]⟩
  ·exact⟨_,hq,by dsimp only;rw[if_pos (.inr rfl),show e+p-p=e by lia,h]⟩
noncomputable def wU(cs:List (Option Int)):List Int:=cs.filterMap id
theorem zlg{n k d:Int}{ps:List (Int×Int)}(w:Web n ps)(hd:1<=d){ks:List (Option Int)}{p x:Int}:((wU (lF ks p ps)).all λo=>decide (d<=cO k o x))=iY k d (dR ks (aA p ps)) x:=by
 have key:∀o,o∈wU (lF ks p ps)↔o∈dR ks (aA p ps):=λo=>by
  rw[<-zkC w];unfold wU;rw[qw];exact⟨λ⟨c,hc,e⟩=>by cases (show c=some o from e);exact hc,λh=>⟨_,h,rfl⟩⟩
 rw[KC,fC];unfold iY;rw[fC]
 constructor
 ·intro h o ho;rw[DW hd];exact h o ((key o).mpr ho)
 ·intro h o ho;have:=h o ((key o).mp ho);rw[DW hd] at this;exact this
noncomputable def n8(w:Str):D->Bool
 |.str x=>x==w
 |_=>false
noncomputable def Ng(a:D):Bool:=(kq a).isSome
noncomputable def Sh:Nat->D->Prop
 |0,_=>False
 |m+1,x=>q_ x=true/\∀xs,x=.tup xs->(∀a r,xs=a::r->Ng a=true)/\(∀y∈xs,q_ y=true)/\∀a b ys,xs=[a,b,.tup ys]->∀y∈ys,Sh m y
noncomputable def uw(n k d:Int)(ps:List (Int×Int))(ks:List (Option Int)):D->Bool
 |.int p=>decide (0<=p/\p<n)&&jz k d ps ks p
 |_=>false
noncomputable def kI(P:List (Option Int)->D->Bool)(n k:Int)(ks:List (Option Int)):D->D->Bool
 |.int p,.tup xs=>decide (0<=p/\p<n)&&((ks[p.toNat]?).join).isNone&&decide ((xs.length:Int)=k)&&(List.range k.toNat).all λj=>P (ks.set p.toNat (some (j:Int))) (xs.getD j .non)
 |_,_=>false
noncomputable def pap(n k d:Int)(ps:List (Int×Int)):Nat->List (Option Int)->D->Bool
 |m+1,ks,.tup [a,b]=>n8 "end" a&&uw n k d ps ks b
 |m+1,ks,.tup [a,b,c]=>n8 "case" a&&kI (pap n k d ps m) n k ks b c
 |_,_,_=>false
theorem ziH{n k:Int}{ks:List (Option Int)}(q:Kn n k ks){p:Nat}{j:Int}(h:0<=j/\j<k):Kn n k (ks.set p (some j)) where
 len:=by rw[ou];exact q.len
 lo:=λi hi=>by
  rcases List.mem_or_eq_of_mem_set hi with z|z
  ·exact q.lo i z
  ·cases z;exact h
theorem zlx{ks:List (Option Int)}{i:Nat}{x:Int}(hi:i<ks.length):(ks.map cD).take i++[D.int x]++(ks.map cD).drop (i+1)=(ks.set i (some x)).map cD:=by
 rw[List.map_set,List.set_eq_take_append_cons_drop,if_pos (by rw[cj];exact hi)];simp[cD]
theorem J1{n k:Int}{ks:List (Option Int)}(q:Kn n k ks){p:Int}(h0:0<=p)(h:p<n):∃c,ks[p.toNat]?=some c:=⟨_,cP (by have:=q.len;lia)⟩
noncomputable def Mk(n k:Int):Nat->D->Prop
 |0,x=>∃p:Int,(0<=p/\p<n)/\x=.tup [.str "end",.int p]
 |m+1,x=>(∃p:Int,(0<=p/\p<n)/\x=.tup [.str "end",.int p])\/∃(p:Int) (xs:List D),(0<=p/\p<n)/\(xs.length:Int)=k/\(∀y∈xs,Mk n k m y)/\x=.tup [.str "case",.int p,.tup xs]
theorem Ul{n k:Int}{m:Nat}{p:Int}(h:0<=p/\p<n):Mk n k m (.tup [.str "end",.int p]):=by
 cases m with
 |zero=>exact⟨p,h,rfl⟩
 |succ m=>exact .inl ⟨p,h,rfl⟩
theorem zkw{m:Nat}{a b:D}{ys:List D}(ha:Ng a=true)(hb:q_ b=true)(h:∀y∈ys,Sh m y):Sh (m+1) (.tup [a,b,.tup ys]):=by
 refine⟨rfl,λxs e=>?_⟩;cases e;refine⟨λa' r e=>by cases e;exact ha,λy hy=>?_,λa' b' zs e=>by cases e;exact h⟩;simp only[iG,List.not_mem_nil,or_false] at hy;rcases hy with rfl|rfl|rfl
 ·cases y<;>first|rfl|cases ha
 ·exact hb
 ·rfl
theorem zka{m:Nat}{xs:List D}(ha:∀a r,xs=a::r->Ng a=true)(hb:∀y∈xs,q_ y=true)(hc:∀a b ys,xs≠[a,b,.tup ys]):Sh (m+1) (.tup xs):=⟨rfl,λys e=>by cases e;exact⟨ha,hb,λa b ys e=>absurd e (hc a b ys)⟩⟩
theorem zgc{m:Nat}{a b:D}(ha:Ng a=true)(hb:q_ b=true):Sh (m+1) (.tup [a,b]):=zka (λa' r e=>by cases e;exact ha) (λy hy=>by
 simp only[iG,List.not_mem_nil,or_false] at hy;rcases hy with rfl|rfl
 ·cases y<;>first|rfl|cases ha
 ·exact hb) (λa b ys e=>by cases e)
theorem zlw{n k:Int}:∀{m:Nat} {x:D},Mk n k m x->Sh (m+1) x
 |0,_,⟨p,_,e⟩=>by subst e;exact zgc rfl rfl
 |m+1,x,h=>by
  rcases h with ⟨p,_,e⟩|⟨p,xs,_,_,hx,e⟩
  ·subst e;exact zgc rfl rfl
  ·subst e;exact zkw rfl rfl λy hy=>zlw (hx y hy)
theorem Kar{F:List Xv->M Xv}{xs:List Xv}{n:Nat}{o:SO}{s:S}{P:Xv->S->Prop}(hl:locs xs=[n])(ho:s[n]?=some o)(h:W (F (cU 0 xs)) [o] λv s1=>∃d o' r,v=.d d/\s1=o'::r/\P (.d d) (s.set n o')):W (bR F xs) s P:=by
 obtain⟨v,s1,e,d,o',r,rfl,rfl,p⟩:=h;refine⟨.d d,s.set n o',?_,p⟩;unfold bR;rw[hl,if_pos Rb];simp only[iR,ho,e,cV]
theorem Kat{F:List Xv->M Xv}{s:S}{o:SO}{xs:List Xv}{P:Xv->S->Prop}(hl:locs xs=[s.length])(h:W (F (cU 0 xs)) [o] λv s1=>∃d o' r,v=.d d/\s1=o'::r/\P (.d d) (s++[o'])):W (bR F xs) (s++[o]) P:=by
 refine Kar (n:=s.length) (o:=o) hl Rb (h.imp λv s1=>?_);rintro⟨d,o',r,rfl,rfl,hp⟩;exact⟨d,o',r,rfl,rfl,by rw[show (s++[o]).set s.length o'=s++[o'] by simp];exact hp⟩
open Classical in
open Classical in
open Classical in
open Classical in
open Classical in
section
variable {n k d:Int}{ps:List (Int×Int)}{ks:List (Option Int)}{F:Fr}{p:Nat}{x y:Int}{L:List Int}{m:Nat}
def Ft(k d:Int)(ps:List (Int×Int))(F:Fr)(ks:List (Option Int)):Prop:=∀(i:Nat) L,F[i]?=some (some L)->ks[i]?=some none/\L=(eN k.toNat).filter (iY k d (dR ks (aA i ps)))
theorem Um{i:Nat}{es:List Int}{o:Int}(h0:∀e∈es,0<=e)(hi:ks[i]?=some none):o∈dR (ks.set i (some x)) es↔o∈dR ks es\/((i:Int)∈es/\o=x):=by
 unfold dR;rw[qw,qw];have hl:=(cI.mp hi).1
 constructor
 ·rintro⟨e,he,h⟩;by_cases q:e.toNat=i
  ·rw[q,pH hl] at h;have:=h0 e he;exact .inr ⟨by rw[show (i:Int)=e by lia];exact he,(cW h).symm⟩
  ·rw[mW (Ne.symm q)] at h;exact .inl ⟨e,he,h⟩
 ·rintro(⟨e,he,h⟩|⟨he,rfl⟩)
  ·refine⟨e,he,?_⟩;by_cases q:e.toNat=i
   ·rw[q,hi] at h;cases h
   ·rw[mW (Ne.symm q)];exact h
  ·exact⟨i,he,by rw[jA,pH hl];rfl⟩
theorem Uo{i:Nat}{es:List Int}(h0:∀e∈es,0<=e)(hi:ks[i]?=some none):iY k d (dR (ks.set i (some x)) es) y=(iY k d (dR ks es) y&&(if (i:Int)∈es then bf k d y x else true)):=by
 unfold iY;rw[KC,gw,fC,fC]
 constructor
 ·intro h;refine⟨λo ho=>h o ((Um h0 hi).mpr (.inl ho)),?_⟩
  split
  ·exact h x ((Um h0 hi).mpr (.inr ⟨by assumption,rfl⟩))
  ·rfl
 ·rintro⟨h1,h2⟩ o ho;rcases(Um h0 hi).mp ho with ho|⟨he,rfl⟩
  ·exact h1 o ho
  ·rw[if_pos he] at h2;exact h2
theorem zdl(w:Web n ps)(hd:1<=d)(hk:k<=24)(hF:F.length=n.toNat)(h:Ft k d ps F ks)(hL:F[p]?=some (some L)):Ft k d ps (settle (λi=>aA i ps) (bf k d) F p x) (ks.set p (some x)):=by
 intro i M e;have B:=wQ w hd hk;have hp:=mV hF hL;obtain⟨ne,L',e1,rfl⟩:=JD B hF hp e;have hi:=mV hF e1;obtain⟨f1,f2⟩:=h i L' e1;refine⟨by rw[mW (Ne.symm ne)];exact f1,?_⟩;have h0:∀e∈aA i ps,0<=e:=λe he=>(Jm w he).1;have sy:(i:Int)∈aA p ps↔(p:Int)∈aA i ps:=⟨λz=>B.sym p i hp hi z,λz=>B.sym i p hi hp z⟩;rw[f2];by_cases q:(i:Int)∈aA p ps
 ·rw[if_pos q,List.filter_filter];refine List.filter_congr λy _=>?_;rw[Uo h0 (h p L hL).1,if_pos (sy.mp q),DW hd,Bool.and_comm]
 ·rw[if_neg q];refine List.filter_congr λy _=>?_;rw[Uo h0 (h p L hL).1,if_neg λz=>q (sy.mpr z),Bool.and_true]
theorem zl3(h:Ft k d ps F ks):Ft k d ps (bnd (λi=>aA i ps) F) ks:=λi L e=>h i L (BW e).1
theorem zky(h:Ft k d ps F ks)(hL:F[p]?=some (some [])):jz k d ps ks p=true:=by
 obtain⟨f1,f2⟩:=h p [] hL;unfold jz;rw[jA,f1];show List.all _ _=true;rw[fC];intro x hx;cases e:iY k d (dR ks (aA p ps)) x with
 |false=>rfl
 |true=>
  have:x∈([]:List Int):=by rw[f2];exact oh.mpr ⟨hx,e⟩
  cases this
theorem zmR(w:Web n ps)(hd:1<=d)(hk:k<=24)(hF:F.length=n.toNat)(h:Ft k d ps F ks)(hL:F[p]?=some (some L))(hx:x∈eN k.toNat)(hn:x∉L):jz k d ps (ks.set p (some x)) p=true:=by
 have B:=wQ w hd hk;have hp:=mV hF hL;obtain⟨f1,f2⟩:=h p L hL;unfold jz;rw[jA,pH (cI.mp f1).1];show (!iY k d (dR (ks.set p (some x)) (aA p ps)) x)=true;rw[Uo (λe he=>(Jm w he).1) f1,if_neg λz=>(B.mem p hp _ z).2.2 rfl,Bool.and_true];cases e:iY k d (dR ks (aA p ps)) x with
 |false=>rfl
 |true=>exact absurd (by rw[f2];exact oh.mpr ⟨hx,e⟩) hn
theorem zm2:∀{m:Nat} {P:D},Mk n k m P->Mk n k (m+1) P
 |0,_,h=>.inl h
 |m+1,_,.inl h=>.inl h
 |m+1,_,.inr ⟨p,xs,h1,h2,h3,h4⟩=>.inr ⟨p,xs,h1,h2,λy hy=>zm2 (h3 y hy),h4⟩
theorem zk4:∀{m:Nat} {ks:List (Option Int)} {P:D},pap n k d ps m ks P=true->pap n k d ps (m+1) ks P=true:=by
 intro m
 induction m with
 |zero=>intro ks P h;cases P<;>cases h
 |succ m ih=>
  intro ks P h;cases P with
  |tup xs=>
   match xs,h with
   |[a,b],h=>exact h
   |[a,b,c],h=>
    have h:(n8 "case" a&&kI (pap n k d ps m) n k ks b c)=true:=h;show (n8 "case" a&&kI (pap n k d ps (m+1)) n k ks b c)=true;rw[gw] at h ⊢;refine⟨h.1,?_⟩;have h2:=h.2;cases b with
    |int q=>
     cases c with
     |tup zs=>
      unfold kI at h2 ⊢;rw[gw] at h2 ⊢;exact⟨h2.1,fC.mpr λj hj=>ih (fC.mp h2.2 j hj)⟩
     |_=>cases h2
    |_=>cases h2
  |_=>cases h
def Pp(n k d:Int)(ps:List (Int×Int))(m:Nat)(F:Fr)(P:D):Prop:=Mk n k m P/\∀ks,Kn n k ks->Ft k d ps F ks->pap n k d ps (m+1) ks P=true
theorem Pp.up{P:D}(h:Pp n k d ps m F P):∀{m':Nat},m<=m'->Pp n k d ps m' F P:=by
 have key:∀t,Pp n k d ps (m+t) F P:=λt=>by
  induction t with
  |zero=>exact h
  |succ t ih=>exact⟨zm2 ih.1,λks q f=>zk4 (ih.2 ks q f)⟩
 intro m' hm;have:=key (m'-m)
 rwa [show m+(m'-m)=m' by lia] at this
theorem zmw(hp:p<n.toNat)(h:∀ks,Kn n k ks->Ft k d ps F ks->jz k d ps ks p=true):Pp n k d ps m F (.tup [.str "end",.int p]):=by
 refine⟨Ul ⟨by lia,by lia⟩,λks q f=>?_⟩;show (n8 "end" (.str "end")&&(decide ((0:Int)<=p/\(p:Int)<n)&&jz k d ps ks p))=true;rw[h ks q f,fZ gV];simp[n8]
def Rw(n k d:Int)(ps:List (Int×Int))(m:Nat)(F:Fr)(p:Nat)(L:List Int)(x:Int)(P:D):Prop:=if x∈L then Pp n k d ps m (settle (λi=>aA i ps) (bf k d) F p x) P else P=.tup [.str "end",.int p]
theorem zkn(w:Web n ps)(hd:1<=d)(qp:0<=k)(hk:k<=24)(hF:F.length=n.toNat)(hL:F[p]?=some (some L)){xs:List D}(hl:xs.length=k.toNat)(h:∀(j:Nat) P,xs[j]?=some P->Rw n k d ps m F p L j P):Pp n k d ps (m+1) F (.tup [.str "case",.int p,.tup xs]):=by
 have hp:=mV hF hL;have hr:0<=(p:Int)/\(p:Int)<n:=by lia
 refine⟨.inr ⟨p,xs,hr,by lia,λy hy=>?_,rfl⟩,λks q f=>?_⟩
 ·obtain⟨j,hj,e⟩:=xq hy;have:=h j y (by rw[cP hj,e]);unfold Rw at this;split at this
  ·exact this.1
  ·subst this;exact Ul hr
 ·show (n8 "case" (.str "case")&&(decide ((0:Int)<=p/\(p:Int)<n)&&((ks[((p:Nat):Int).toNat]?).join).isNone&&decide ((xs.length:Int)=k)&&(List.range k.toNat).all λj=>pap n k d ps (m+1) (ks.set ((p:Nat):Int).toNat (some (j:Int))) (xs.getD j .non)))=true;rw[jA,(f p L hL).1,fZ hr,fZ (show (xs.length:Int)=k by lia)];have e1:n8 "case" (.str "case")=true:=by simp[n8]
  rw[e1];show (true&&(true&&true&&true&&_))=true;simp only[KJ,fC];intro j hj;have hj:=uG.mp hj;have hx:(j:Int)∈eN k.toNat:=dw.mpr ⟨by lia,by lia⟩;have e:xs[j]?=some xs[j]:=cP gV;rw[jW,e];have z:=h j _ e;unfold Rw at z;split at z
  ·exact z.2 _ (ziH q ⟨by lia,by lia⟩) (zdl w hd hk hF f hL)
  ·show pap n k d ps (m+1) _ xs[j]=true;rw[z];show (n8 "end" (.str "end")&&(decide ((0:Int)<=p/\(p:Int)<n)&&jz k d ps _ p))=true;rw[zmR w hd hk hF f hL hx (by assumption),fZ hr];simp[n8]
def BZ(n k d:Int)(ps:List (Int×Int))(kvs:gY):Prop:=∀F P,bO (F.map cellK) kvs=some P->Pp n k d ps (unset F) F P
theorem zi1{kvs:gY}{P:D}(h:BZ n k d ps kvs)(hb:Pp n k d ps (unset F) F P):BZ n k d ps (iQ (F.map cellK) P kvs):=λG Q e=>by
 rw[Nb] at e;by_cases z:G.map cellK=F.map cellK
 ·rw[if_pos z] at e;cases e;rw[T_ z];exact hb
 ·rw[if_neg z] at e;exact h G Q e
theorem Uq:∀{F:Fr},some []∈F->∃j:Nat,F[j]?=some (some [])/\oF (F.map aU)=some j
 |none::F,h=>by
  obtain⟨j,h1,h2⟩:=Uq (F:=F) (by simpa using h);exact⟨j+1,h1,by show (oF (F.map aU)).map (·+1)=_;rw[h2];rfl⟩
 |some []::F,_=>⟨0,rfl,rfl⟩
 |some (a::l)::F,h=>by
  obtain⟨j,h1,h2⟩:=Uq (F:=F) (by simpa using h);exact⟨j+1,h1,by show (oF (F.map aU)).map (·+1)=_;rw[h2];rfl⟩
theorem zno{F:Fr}(h:some []∈F):∃j:Nat,F[j]?=some (some [])/\prim .oF [iu F,.tup []]=some (.dat (.int j)):=by
 obtain⟨j,h1,h2⟩:=Uq h;refine⟨j,h1,?_⟩;show (oF (F.map aU)).map _=_;rw[h2];rfl
theorem zmf(w:Web n ps)(hd:1<=d)(hk:k<=24)(hF:F.length=n.toNat)(q:Kn n k ks)(h:Ft k d ps F ks)(full:∀i:Nat,ks[i]?=some none->∃L,F[i]?=some (some L))(qG:∀i:Nat,i<n.toNat->jz k d ps ks i=false)(s:Sat (λi=>aA i ps) (bf k d) F):∃hs,oK n k d ps ks hs:=by
 obtain⟨g,s⟩:=s;have h1:=w.h1;have hql:=q.len
 let f:Nat->Int:=λj=>((ks[j]?).join).getD (g j)
 have Bm:∀j:Nat,j<n.toNat->at' ((List.range n.toNat).map f) j=f j:=λj hj=>by
  unfold at';rw[jA,jW,fB,zx hj];rfl
 have far:∀i e:Nat,i<n.toNat->e<n.toNat->(e:Int)∈aA i ps->∀x,ks[e]?=some (some x)->bf k d (f i) x=true:=λi e hi he hm x hx=>by
  have jQ:x∈dR ks (aA i ps):=qw.mpr ⟨e,hm,by rw[jA,hx];rfl⟩;have hc:ks[i]?=some ks[i]:=cP gV;cases c:ks[i] with
  |none=>
   rw[c] at hc;obtain⟨L,eL⟩:=full i hc;have hm:=s.mem i L eL;rw[(h i L eL).2] at hm;have:f i=g i:=by show ((ks[i]?).join).getD _=_;rw[hc];rfl
   rw[this];exact fC.mp (oh.mp hm).2 x jQ
  |some y=>
   rw[c] at hc;have h2:=qG i hi;unfold jz at h2;rw[jA,hc] at h2;have h2:(!iY k d (dR ks (aA i ps)) y)=false:=h2;have:f i=y:=by show ((ks[i]?).join).getD _=_;rw[hc];rfl
   rw[this];have h3:iY k d (dR ks (aA i ps)) y=true:=by simpa using h2
   exact fC.mp h3 x jQ
 refine⟨(List.range n.toNat).map f,zfV w q Rb ⟨λj L e=>?_,λi e L M e1 e2 he=>?_⟩⟩
 ·obtain⟨c,e1,rfl⟩:=BX e;have hj:=(cI.mp e1).1;rw[Bm j gV];cases c with
  |none=>
   obtain⟨L,eL⟩:=full j e1;have hm:=s.mem j L eL;rw[(h j L eL).2] at hm;have:f j=g j:=by show ((ks[j]?).join).getD _=_;rw[e1];rfl
   rw[this];exact(oh.mp hm).1
  |some y=>
   have:f j=y:=by show ((ks[j]?).join).getD _=_;rw[e1];rfl
   rw[this];exact rT.mpr rfl
 ·obtain⟨c1,f1,_⟩:=BX e1;obtain⟨c2,f2,_⟩:=BX e2;have hi:i<n.toNat:=by have:=(cI.mp f1).1;lia
  have hj:e<n.toNat:=by have:=(cI.mp f2).1;lia
  rw[Bm i hi,Bm e hj];have B:=wQ w hd hk;cases c2 with
  |some x=>
   have:f e=x:=by show ((ks[e]?).join).getD _=_;rw[f2];rfl
   rw[this];exact far i e hi hj he x f2
  |none=>
   cases c1 with
   |some x=>
    have:f i=x:=by show ((ks[i]?).join).getD _=_;rw[f1];rfl
    rw[DW hd,this];exact far e i hj hi (B.sym i e hi hj he) x f1
   |none=>
    obtain⟨L1,g1⟩:=full i f1;obtain⟨L2,g2⟩:=full e f2;have a1:f i=g i:=by show ((ks[i]?).join).getD _=_;rw[f1];rfl
    have a2:f e=g e:=by show ((ks[e]?).join).getD _=_;rw[f2];rfl
    rw[a1,a2];exact s.fit i e L1 L2 g1 g2 he
noncomputable def ktl(ks:List (Option Int))(i:Nat):List (Option Int):=ks.mapIdx λj c=>if j<i then c else none
theorem wV{i j:Nat}:(ktl ks i)[j]?=(ks[j]?).map λc=>if j<i then c else none:=by unfold ktl;rw[List.getElem?_mapIdx]
theorem zkb:ktl ks ks.length=ks:=by
 refine O5 λj=>?_;rw[wV];by_cases h:j<ks.length
 ·rw[cP h,Ew,if_pos h]
 ·rw[Ke gV];rfl
theorem Ur{i:Nat}{c:Option Int}(h:ks[i]?=some c):ktl ks (i+1)=(ktl ks i).set i c:=by
 have hi:=(cI.mp h).1;refine O5 λj=>?_;by_cases e:j=i
 ·subst e;rw[pH (by unfold ktl;rw[Oz];exact hi),wV,h,Ew,if_pos gV]
 ·rw[mW (Ne.symm e),wV,wV]
  congr 1
  funext c
  by_cases q:j<i
  ·rw[if_pos q,if_pos gV]
  ·rw[if_neg q,if_neg gV]
structure Sg(n k d:Int)(ps:List (Int×Int))(ks:List (Option Int))(i:Nat)(F:Fr):Prop where
 fv:Fv n.toNat k.toNat F
 ft:Ft k d ps F (ktl ks i)
 full:∀j:Nat,(ktl ks i)[j]?=some none->∃L,F[j]?=some (some L)
 st:∀j:Nat,j<i->jz k d ps ks j=false
theorem zo2(hk:k<=24)(hl:ks.length=n.toNat):Sg n k d ps ks 0 (ks.map λ_=>some (eN k.toNat)):=by
 have hL:∀(i:Nat) L,(ks.map λ_=>some (eN k.toNat))[i]?=some (some L)->L=eN k.toNat/\∃c,ks[i]?=some c:=λi L e=>by
  rw[fB] at e;obtain⟨c,e1,e2⟩:=iZ.mp e;exact⟨(cW e2).symm,c,e1⟩
 have hn:∀es:List Int,dR (ktl ks 0) es=[]:=λes=>by
  unfold dR;rw[N_];intro e _;rw[wV];cases ks[e.toNat]?<;>rfl
 refine⟨⟨by rw[cj];exact hl,λi L e x hx=>?_,λi L e=>?_,λi L e=>?_⟩,λi L e=>?_,λj e=>?_,λj hj=>absurd hj (Ky _)⟩
 ·rw[(hL i L e).1] at hx;exact dw.mp hx
 ·rw[(hL i L e).1];unfold eN;simp;lia
 ·rw[(hL i L e).1];unfold eN;rw[O4];exact List.pairwise_lt_range.imp (by intro a b h;lia)
 ·obtain⟨e1,c,e2⟩:=hL i L e;refine⟨by rw[wV,e2];rfl,?_⟩;rw[e1,hn];exact(List.filter_eq_self.mpr λ_ _=>rfl).symm
 ·rw[wV] at e;obtain⟨c,e1,_⟩:=iZ.mp e;exact⟨eN k.toNat,by rw[fB,e1];rfl⟩
theorem zmv{i:Nat}(h:Sg n k d ps ks i F)(hi:ks[i]?=some none)(hs:jz k d ps ks i=false):Sg n k d ps ks (i+1) F:=by
 have e:ktl ks (i+1)=ktl ks i:=by
  rw[Ur hi];refine O5 λj=>?_;by_cases e:j=i
  ·subst e;rw[pH (by unfold ktl;rw[Oz];exact(cI.mp hi).1),wV,hi,Ew,if_neg gV]
  ·rw[mW (Ne.symm e)]
 refine⟨h.fv,by rw[e];exact h.ft,by rw[e];exact h.full,λj hj=>?_⟩;by_cases z:j=i
 ·rw[z];exact hs
 ·exact h.st j gV
theorem ziX(w:Web n ps)(hd:1<=d)(hk:k<=24){i:Nat}(h:Sg n k d ps ks i F)(hi:ks[i]?=some (some x))(hs:jz k d ps ks i=false):Sg n k d ps ks (i+1) (settle (λi=>aA i ps) (bf k d) F i x):=by
 have B:=wQ w hd hk;have h0:(ktl ks i)[i]?=some none:=by rw[wV,hi,Ew,if_neg gV]
 obtain⟨L,hL⟩:=h.full i h0;have hp:=mV h.fv.len hL;refine⟨JF B h.fv hp,by rw[Ur hi];exact zdl w hd hk h.fv.len h.ft hL,λj e=>?_,λj hj=>?_⟩
 ·rw[Ur hi] at e;by_cases z:j=i
  ·subst z;rw[pH (cI.mp h0).1] at e;cases e
  ·rw[mW (Ne.symm z)] at e;obtain⟨M,hM⟩:=h.full j e;exact⟨_,DR B h.fv.len hp z hM⟩
 ·by_cases z:j=i
  ·rw[z];exact hs
  ·exact h.st j gV
theorem zhH:unset F<=F.length:=Oj
theorem KaV{aq:Nat->Nat->Bool}{aj:Bool}{F:Fn}{J:Vs}{s:S}{P:Xv->S->Prop}{fz:Bool}{p:Pr}{k:Kd}{o:E}{xs:Es}(h:W (ev aq aj F o J) s λx s1=>W (rd x) s1 λd s2=>mD k d=true/\W (evs aq aj F xs J) s2 λys s3=>W (gb (x::ys)) s3 λds s4=>W (bV fz (prim p ds)) s4 P):W (ev aq aj F (.meth fz p k o xs) J) s P:=
 W.bd (h.imp λ_ _ h=>W.bd (h.imp λ_ _ h=>by rw[if_pos h.1];exact W.bd (h.2.imp λ_ _ h=>W.bd h)))
end
end Mi
namespace dW
open PySem Mi
noncomputable def b0:bT:=(.cons (.ret (.and (.mC (.v 0) .int) (.not (.mC (.v 0) .bool)))) .nil)
noncomputable def b1:bT:=(.cons (.ret (.and (.call 0 (Ea (.v 0))) (.xZ .le .le (.v 1) (.v 0) (.v 2)))) .nil)
noncomputable def b2:bT:=(.cons (.ret (.and (.mC (.v 0) .tuple) (.pr true .eq (Eb (.pr true .len (Ea (.v 0))) (.v 1))))) .nil)
noncomputable def b3:bT:=(.cons (.iff (.not (.call 2 (Eb (.v 0) (Ci 2)))) (.cons (.ret (.c (.bl false))) .nil) .nil) (.cons (.asg (.tp [1,2]) (.v 0)) (.cons (.iff (.or (.not (.call 4 (Ea (.v 1)))) (.not (.mC (.v 2) .tuple))) (.cons (.ret (.c (.bl false))) .nil) .nil) (.cons (.iff (.not (.pr true .all (Ea (.comp true (.call 6 (Eb (.v 1) (.v 0))) [0] (.seq (.v 2)) [1] 1 .no)))) (.cons (.ret (.c (.bl false))) .nil) .nil) (.cons (.ret (.pr true .all (Ea (.comp true (.pr true .lt (Eb (.v 0) (.v 1))) [0,1] (.zip (.v 2) (.sl true (.v 2) (.yes (Ci 1)) .no)) [] 2 .no)))) .nil)))))
noncomputable def b4:bT:=(.cons (.ret (.call 1 (Ec (.v 0) (Ci 1) (Ci 8)))) .nil)
noncomputable def b5:bT:=(.cons (.ret (.call 1 (Ec (.v 1) (Ci 0) (.pr true .aq (Eb (.v 0) (Ci 1)))))) .nil)
noncomputable def b6:bT:=(.cons (.iff (.not (.call 2 (Eb (.v 1) (Ci 2)))) (.cons (.ret (.c (.bl false))) .nil) .nil) (.cons (.asg (.tp [2,3]) (.v 1)) (.cons (.ret (.and (.call 5 (Eb (.v 0) (.v 2))) (.and (.call 5 (Eb (.v 0) (.v 3))) (.pr true .lt (Eb (.v 2) (.v 3)))))) .nil)))
noncomputable def b7:bT:=(.cons (.iff (.not (.call 3 (Ea (.v 0)))) (.cons .no .nil) .nil) .nil)
noncomputable def b8:bT:=(.cons (.asg (.nm 2) (.comp true (.ite (.pr true .eq (Eb (.v 0) (.v 2))) (.v 1) (.v 0)) [0,1] (.seq (Ei (.v 0) (Ci 1))) [1] 2 (.yes (.pr true .inn (Eb (.v 2) (.tup (Eb (.v 0) (.v 1)))))))) (.cons (.ret (.pr true .tuple (Ea (.pr true .sorted (Ea (.v 2)))))) .nil))
noncomputable def b9:bT:=(.cons (.ret (.comp true (.call 8 (Eb (.v 1) (.v 0))) [0] (.rg (Ci 0) (Ei (.v 0) (Ci 0))) [0] 1 .no)) .nil)
noncomputable def b10:bT:=(.cons (.ret (.tup (.cons (.call 9 (Ea (.v 1))) (Ec (.pr true .Dm (Ea (.pr true .len (Ea (.v 2))))) (.v 2) (.v 3))))) .nil)
noncomputable def Us:bT:=(.cons (.ret (Ei (Ei (.of (.v 0) 0 2) (.v 1)) (.v 2))) .nil)
noncomputable def Ut:bT:=(.cons (.asg (.nm 4) (.pr false .list (Ea (.v 1)))) (.cons (.asg (.aq (.v 4) (.v 2)) (.c .non)) (.cons (.fr (.nm 5) (.seq (Ei (.of (.v 0) 0 0) (.v 2))) (.cons (.iff (.pr true .mZ (Ea (Ei (.v 4) (.v 5)))) (.cons (.asg (.aq (.v 4) (.v 5)) (.pr true .tuple (Ea (.comp true (.v 0) [0] (.seq (Ei (.v 4) (.v 5))) [0,3] 1 (.yes (.cm 0 11 (.v 1) (Eb (.v 2) (.v 0)))))))) .nil) .nil) .nil)) (.cons (.ret (.pr true .tuple (Ea (.v 4)))) .nil))))
noncomputable def Uu:bT:=(.cons (.ret (.pr true .len (Ea (.comp true (.v 0) [0] (.seq (Ei (.of (.v 0) 0 0) (.v 2))) [1] 1 (.yes (.pr true .mZ (Ea (Ei (.v 1) (.v 0))))))))) .nil)
noncomputable def Uv:bT:=(.cons (.ret (.pr true .tuple (Ea (.comp true (.ite (.pr true .gt (Eb (.cm 0 13 (.v 2) (Eb (.v 3) (.v 0))) (Ci 0))) (.v 1) (.c .non)) [0,1] (.enum (.v 1)) [0,1] 2 .no)))) .nil)
noncomputable def Uw:bT:=(.cons (.asg (.nm 2) (.lst false .nil)) (.cons (.fr (.tp [3,4]) (.enum (.v 1)) (.cons (.iff (.pr true .mZ (Ea (.v 4))) (.cons (.ex (.push (.v 2) (.tup (Ec (.pr true .len (Ea (.v 4))) (.pr true .neg (Ea (.cm 0 13 (.v 0) (Eb (.v 1) (.v 3))))) (.v 3))))) .nil) .nil) .nil)) (.cons (.ret (.ite (.Dn (.v 2)) (Ei (.pr true .qK (Ea (.v 2))) (Ci 2)) (.c .non))) .nil)))
noncomputable def Ux:bT:=(.cons (.ret (.pr true .all (Ea (.comp true (.or (.pr true .pU (Ea (.v 0))) (.pr true .eq (Eb (.v 0) (.of (.v 1) 0 1)))) [0] (.seq (.v 1)) [0] 1 .no)))) .nil)
noncomputable def Uy:bT:=(.cons (.asg (.tp [2,3]) (.v 1)) (.cons (.asg (.nm 4) (.comp true (.pr true .ge (Eb (.pr true .min2 (Eb (.v 0) (.pr true .aq (Eb (.v 1) (.v 0))))) (.v 2))) [0] (.rg (Ci 0) (.v 2)) [2,3] 1 .no)) (.cons (.ret (.mk 0 10 (Ec (.v 0) (.comp true (.comp true (Ei (.v 1) (.pr true .aq (Eb (.v 2) (.v 0)))) [0] (.rg (Ci 0) (.v 1)) [2,0] 1 .no) [0] (.rg (Ci 0) (.v 2)) [2,4] 1 .no) (.c (.bl true))))) .nil)))
noncomputable def Uz:bT:=(.cons (.iff (.not (.call 2 (Eb (.v 0) (Ci 2)))) (.cons (.ret (.c (.bl false))) .nil) .nil) (.cons (.asg (.tp [1,2]) (.v 0)) (.cons (.ret (.and (.call 1 (Ec (.v 1) (Ci 1) (Ci 24))) (.call 1 (Ec (.v 2) (Ci 1) (.v 1))))) .nil)))
noncomputable def UG:bT:=(.cons (.ret (.call 1 (Ec (.v 1) (Ci 0) (.pr true .aq (Eb (Ei (.v 0) (Ci 0)) (Ci 1)))))) .nil)
noncomputable def UJ:bT:=(.cons (.iff (.not (.call 18 (Ea (.v 0)))) (.cons .no .nil) .nil) .nil)
noncomputable def UL:bT:=(.cons (.ex (.call 23 (Ec (.v 0) (.v 1) (.v 2)))) (.cons (.asg (.nm 3) (.call 17 (Eb (.v 0) (.v 1)))) (.cons (.ret (.call 24 (Eb (.v 3) (.comp true (.ite (.pr true .pU (Ea (.v 0))) (.of (.v 1) 0 1) (.tup (Ea (.v 0)))) [0] (.seq (.v 2)) [3] 1 .no)))) .nil)))
noncomputable def UW:bT:=(.cons (.ret (.and (.call 2 (Eb (.v 2) (Ei (.v 0) (Ci 0)))) (.pr true .all (Ea (.comp true (.or (.pr true .pU (Ea (.v 0))) (.call 19 (Eb (.v 1) (.v 0)))) [0] (.seq (.v 2)) [1] 1 .no))))) .nil)
noncomputable def U6:bT:=(.cons (.ex (.call 7 (Ea (.v 0)))) (.cons (.ex (.call 20 (Ea (.v 1)))) (.cons (.iff (.not (.call 22 (Ec (.v 0) (.v 1) (.v 2)))) (.cons .no .nil) .nil) .nil)))
noncomputable def U7:bT:=(.cons (.asg (.nm 2) (.pr true .tuple (Ea (.v 1)))) (.cons (.asg (.nm 3) .nG) (.cons (.iff (.not (.call 26 (Ec (.v 0) (.v 3) (.v 2)))) (.cons (.ret (.c .non)) .nil) .nil) (.cons (.asg (.nm 4) (.lst false .nil)) (.cons (.fr (.nm 5) (.rg (Ci 0) (.pr true .len (Ea (.v 1)))) (.cons (.asg (.nm 6) (.call 25 (.cons (.v 0) (Ec (.v 3) (.v 2) (.v 5))))) (.cons (.asg (.nm 2) (.cm 0 12 (.v 0) (Ec (.v 2) (.v 5) (.v 6)))) (.cons (.ex (.push (.v 4) (.v 6))) .nil)))) (.cons (.ret (.pr true .tuple (Ea (.v 4)))) .nil))))))
noncomputable def U8:bT:=(.cons (.fr (.nm 4) (.seq (Ei (.v 2) (.v 3))) (.cons (.iff (.call 26 (Ec (.v 0) (.v 1) (.cm 0 12 (.v 0) (Ec (.v 2) (.v 3) (.v 4))))) (.cons (.ret (.v 4)) .nil) .nil) .nil)) (.cons (.ret (.c .non)) .nil))
noncomputable def U9:bT:=(.cons (.iff (.pr true .inn (Eb (.tup .nil) (.v 2))) (.cons (.ret (.c (.bl false))) .nil) .nil) (.cons (.asg (.nm 3) (.cm 0 14 (.v 0) (Ea (.v 2)))) (.cons (.iff (.vR false (.v 3) (.v 1)) (.cons (.dput (.v 1) (.v 3) (.call 27 (Ec (.v 0) (.v 1) (.v 3)))) .nil) .nil) (.cons (.ret (.kh (.v 1) (.v 3))) .nil))))
noncomputable def Nh:bT:=(.cons (.asg (.nm 3) (.cm 0 15 (.v 0) (Ea (.v 2)))) (.cons (.iff (.pr true .pU (Ea (.v 3))) (.cons (.ret (.c (.bl true))) .nil) .nil) (.cons (.iff (.and (.of (.v 0) 0 3) (.cm 0 16 (.v 0) (Ea (.v 2)))) (.cons (.ret (.call 26 (Ec (.v 0) (.v 1) (.cm 0 12 (.v 0) (Ec (.v 2) (.v 3) (Ci 0)))))) .nil) .nil) (.cons (.ret (.pr true .mZ (Ea (.call 25 (.cons (.v 0) (Ec (.v 1) (.v 2) (.v 3))))))) .nil))))
noncomputable def U_:bT:=(.cons (.iff (.pr true .mZ (Ea (.call 21 (Ec (.v 0) (.v 1) (.v 2))))) (.cons (.ret (.c .non)) .nil) .nil) (.cons (.asg (.nm 3) (.call 17 (Eb (.v 0) (.v 1)))) (.cons (.asg (.nm 4) (.pr true .tuple (Ea (.comp true (.of (.v 1) 0 1) [0] (.seq (.v 2)) [3] 1 .no)))) (.cons (.fr (.tp [5,6]) (.enum (.v 2)) (.cons (.iff (.call 29 (Ec (.v 3) (.v 2) (.v 5))) (.cons (.ret (.tup (Eb (.c (.str "end")) (.v 5)))) .nil) .nil) (.cons (.iff (.pr true .mZ (Ea (.v 6))) (.cons (.asg (.nm 4) (.cm 0 12 (.v 3) (Ec (.v 4) (.v 5) (.v 6)))) .nil) .nil) .nil))) (.cons (.ret (.call 30 (Ec (.v 3) .nG (.v 4)))) .nil)))))
noncomputable def Va:bT:=(.cons (.asg (.nm 3) (.comp true (Ei (.v 1) (.v 0)) [0] (.seq (Ei (.of (.v 0) 0 0) (.v 2))) [1] 1 (.yes (.pr true .mZ (Ea (Ei (.v 1) (.v 0))))))) (.cons (.asg (.nm 4) (.ite (.pr true .pU (Ea (Ei (.v 1) (.v 2)))) (.of (.v 0) 0 1) (.tup (Ea (Ei (.v 1) (.v 2)))))) (.cons (.fr (.nm 5) (.seq (.v 4)) (.cons (.iff (.pr true .all (Ea (.comp true (.cm 0 11 (.v 1) (Eb (.v 2) (.v 0))) [0] (.seq (.v 3)) [0,5] 1 .no))) (.cons (.ret (.c (.bl false))) .nil) .nil) .nil)) (.cons (.ret (.c (.bl true))) .nil))))
noncomputable def Vb:bT:=(.cons (.iff (.pr true .inn (Eb (.tup .nil) (.v 2))) (.cons (.ret (.tup (Eb (.c (.str "end")) (.meth true .oF .tuple (.v 2) (Ea (.tup .nil)))))) .nil) .nil) (.cons (.asg (.nm 3) (.cm 0 14 (.v 0) (Ea (.v 2)))) (.cons (.iff (.vR false (.v 3) (.v 1)) (.cons (.dput (.v 1) (.v 3) (.call 31 (Ec (.v 0) (.v 1) (.v 3)))) .nil) .nil) (.cons (.ret (.kh (.v 1) (.v 3))) .nil))))
noncomputable def Vc:bT:=(.cons (.asg (.nm 3) (.cm 0 15 (.v 0) (Ea (.v 2)))) (.cons (.asg (.nm 4) (.lst false .nil)) (.cons (.fr (.nm 5) (.seq (.of (.v 0) 0 1)) (.cons (.iff (.pr true .inn (Eb (.v 5) (Ei (.v 2) (.v 3)))) (.cons (.ex (.push (.v 4) (.call 30 (Ec (.v 0) (.v 1) (.cm 0 12 (.v 0) (Ec (.v 2) (.v 3) (.v 5))))))) .nil) (.cons (.ex (.push (.v 4) (.tup (Eb (.c (.str "end")) (.v 3))))) .nil)) .nil)) (.cons (.ret (.tup (Ec (.c (.str "case")) (.v 3) (.pr true .tuple (Ea (.v 4)))))) .nil))))
noncomputable def Vd:bT:=(.cons (.iff (.pr true .lt (Eb (.v 1) (.pr true .len (Ea (.v 0))))) (.cons (.ret (Ei (.v 0) (.v 1))) .nil) .nil) (.cons (.ret (Ci 0)) .nil))
noncomputable def Ve:bT:=(.cons (.asg (.nm 1) (.pr true .max2 (Eb (.v 0) (.pr true .aq (Eb (Ci 0) (.v 0)))))) (.cons (.ret (.lst false (Eb (.v 1) (.pr true .vQ (Ea (.pr true .ge (Eb (.v 1) (.pr true .pow (Eb (Ci 10) (Ci 18)))))))))) .nil))
noncomputable def Vf:bT:=(.cons (.iff (.pr true .eq (Eb (Ei (.v 0) (Ci 1)) (Ci 1))) (.cons (.asg (.tp [2,3]) (.pr true .divmod (Eb (Ei (.v 0) (Ci 0)) (.v 1)))) (.cons (.asg (.aq (.v 0) (Ci 0)) (.v 2)) (.cons (.ret (.v 3)) .nil))) .nil) (.cons (.asg (.nm 4) (.pr true .mod (Eb (.pr true .mul (Eb (.pr true .add (Eb (.pr true .mod (Eb (Ei (.v 0) (Ci 0)) (Ci 2147483647))) (Ci 40503))) (Ci 69621))) (Ci 2147483629)))) (.cons (.asg (.nm 4) (.pr true .mod (Eb (.pr true .add (Eb (.pr true .mul (Eb (.v 4) (.v 4))) (Ci 7817))) (Ci 2147483587)))) (.cons (.asg (.aq (.v 0) (Ci 0)) (.pr true .mod (Eb (.pr true .add (Eb (.pr true .mul (Eb (.v 4) (Ci 48271))) (Ci 11))) (Ci 2147483629)))) (.cons (.ret (.pr true .mod (Eb (.pr true .fdiv (Eb (Ei (.v 0) (Ci 0)) (Ci 32))) (.v 1)))) .nil)))))
noncomputable def b35:bT:=(.cons (.ret (.and (.mC (.v 0) .int) (.not (.mC (.v 0) .bool)))) .nil)
noncomputable def Vg:bT:=(.cons (.asg (.nm 2) (Ei (.lst true (Ec (Ci 2) (Ci 4) (Ci 6))) (.call 34 (Eb (.v 0) (Ci 3))))) (.cons (.asg (.nm 3) (.lst true .nil)) (.cons (.fr (.nm 4) (.rg (Ci 0) (.v 1)) (.cons (.asg (.nm 3) (.pr true .add (Eb (.v 3) (.comp true (.tup (Eb (.v 1) (.v 0))) [0] (.rg (.pr true .add (Eb (.v 4) (Ci 1))) (.v 1)) [4,0,2] 1 (.yes (.pr true .lt (Eb (.call 34 (Eb (.v 2) (Ci 8))) (.v 3)))))))) .nil)) (.cons (.ret (.tup (Eb (.v 1) (.pr true .tuple (Ea (.v 3)))))) .nil))))
noncomputable def b37:bT:=(.cons (.asg (.nm 3) (.pr true .abs (Ea (.pr true .aq (Eb (.v 1) (.v 2)))))) (.cons (.ret (.pr true .min2 (Eb (.v 3) (.pr true .aq (Eb (.v 0) (.v 3)))))) .nil))
noncomputable def Vh:bT:=(.cons (.asg (.nm 3) (Ei (.lst true (Ec (Ci 1) (Ci 2) (Ci 4))) (.call 34 (Eb (.v 0) (Ci 3))))) (.cons (.ret (.pr true .tuple (Ea (.comp true (.ite (.pr true .lt (Eb (.call 34 (Eb (.v 1) (Ci 5))) (.v 2))) (.call 34 (Eb (.v 1) (Ei (.v 3) (Ci 0)))) (.c .non)) [0] (.rg (Ci 0) (Ei (.v 1) (Ci 0))) [0,3,2] 1 .no)))) .nil))
noncomputable def Vi:bT:=(.cons (.asg (.nm 3) (.lst false (Ea (Ci 0)))) (.cons (.wh (.pr true .ne (Eb (.v 3) (.lst true .nil))) (.cons (.asg (.nm 4) (.pr true .aq (Eb (.pr true .len (Ea (.v 3))) (Ci 1)))) (.cons (.iff (.pr true .eq (Eb (Ei (.v 3) (.pr true .neg (Ea (Ci 1)))) (Ei (.v 1) (Ci 0)))) (.cons (.ex (.pop (.v 3))) (.cons (.iff (.pr true .ne (Eb (.v 3) (.lst true .nil))) (.cons (.asg (.aq (.v 3) (.pr true .neg (Ea (Ci 1)))) (.pr true .add (Eb (Ei (.v 3) (.pr true .neg (Ea (Ci 1)))) (Ci 1)))) .nil) .nil) .nil)) (.cons (.asg (.nm 5) (.comp true (Ei (.v 2) (.v 0)) [0,1] (.seq (Ei (.v 0) (Ci 1))) [3,4] 2 (.yes (.pr true .eq (Eb (.v 1) (.v 3)))))) (.cons (.asg (.nm 6) (.comp true (.v 0) [0] (.seq (.v 5)) [1,3] 1 (.yes (.pr true .lt (Eb (.call 37 (Ec (Ei (.v 1) (Ci 0)) (.v 0) (Ei (.v 2) (.pr true .neg (Ea (Ci 1)))))) (Ei (.v 1) (Ci 1))))))) (.cons (.iff (.or (.pr true .ne (Eb (.v 6) (.lst true .nil))) (.pr true .nin (Eb (Ei (.v 2) (.v 4)) (.tup (Eb (.c .non) (Ei (.v 3) (.pr true .neg (Ea (Ci 1))))))))) (.cons (.asg (.aq (.v 3) (.pr true .neg (Ea (Ci 1)))) (.pr true .add (Eb (Ei (.v 3) (.pr true .neg (Ea (Ci 1)))) (Ci 1)))) .nil) (.cons (.iff (.pr true .eq (Eb (.pr true .len (Ea (.v 3))) (Ei (.v 0) (Ci 0)))) (.cons (.ret (.pr true .tuple (Ea (.v 3)))) .nil) (.cons (.ex (.push (.v 3) (Ci 0))) .nil)) .nil)) .nil)))) .nil))) (.cons (.ret (.c .non)) .nil)))
noncomputable def Vj:bT:=(.cons (.asg (.nm 4) (.lst false .nil)) (.cons (.fr (.tp [5,6]) (.seq (Ei (.v 0) (Ci 1))) (.cons (.iff (.pr true .inn (Eb (.v 3) (.tup (Eb (.v 5) (.v 6))))) (.cons (.ex (.push (.v 4) (Ei (.v 2) (.pr true .aq (Eb (.pr true .add (Eb (.v 5) (.v 6))) (.v 3)))))) .nil) .nil) .nil)) (.cons (.asg (.nm 4) (.comp false (.v 0) [0] (.seq (.v 4)) [] 1 (.yes (.pr true .mZ (Ea (.v 0)))))) (.cons (.asg (.nm 7) (.comp true (.v 0) [0] (.rg (Ci 0) (Ei (.v 1) (Ci 0))) [4,1] 1 (.yes (.pr true .eq (Eb (.comp true (.v 0) [0] (.seq (.v 1)) [2,0] 1 (.yes (.pr true .lt (Eb (.call 37 (Ec (Ei (.v 1) (Ci 0)) (.v 0) (.v 2))) (Ei (.v 1) (Ci 1)))))) (.lst true .nil)))))) (.cons (.ret (.ite (.pr true .pU (Ea (Ei (.v 2) (.v 3)))) (.pr true .eq (Eb (.v 7) (.lst true .nil))) (.pr true .nin (Eb (Ei (.v 2) (.v 3)) (.v 7))))) .nil)))))
noncomputable def Vk:bT:=(.cons (.ret (.pr true .add (Eb (.pr true .add (Eb (.sl true (.v 0) .no (.yes (.v 1))) (.tup (Ea (.v 2))))) (.sl true (.v 0) (.yes (.pr true .add (Eb (.v 1) (Ci 1)))) .no)))) .nil)
noncomputable def Vl:bT:=(.cons (.iff (.or (.not (.mC (.v 3) .tuple)) (.or (.pr true .nin (Eb (.pr true .len (Ea (.v 3))) (.tup (Eb (Ci 2) (Ci 3))))) (.not (.mC (Ei (.v 3) (Ci 0)) .str)))) (.cons (.ret (.c (.bl false))) .nil) .nil) (.cons (.iff (.or (.not (.call 35 (Ea (Ei (.v 3) (Ci 1))))) (.pr true .LR (Eb (Ei (.v 3) (Ci 1)) (Ei (.v 0) (Ci 0))))) (.cons (.ret (.c (.bl false))) .nil) .nil) (.cons (.iff (.pr true .eq (Eb (.pr true .len (Ea (.v 3))) (Ci 2))) (.cons (.ret (.and (.pr true .eq (Eb (Ei (.v 3) (Ci 0)) (.c (.str "end")))) (.call 40 (.cons (.v 0) (Ec (.v 1) (.v 2) (Ei (.v 3) (Ci 1))))))) .nil) .nil) (.cons (.iff (.or (.pr true .ne (Eb (Ei (.v 3) (Ci 0)) (.c (.str "case")))) (.or (.pr true .mZ (Ea (Ei (.v 2) (Ei (.v 3) (Ci 1))))) (.not (.mC (Ei (.v 3) (Ci 2)) .tuple)))) (.cons (.ret (.c (.bl false))) .nil) .nil) (.cons (.iff (.pr true .ne (Eb (.pr true .len (Ea (Ei (.v 3) (Ci 2)))) (Ei (.v 1) (Ci 0)))) (.cons (.ret (.c (.bl false))) .nil) .nil) (.cons (.fr (.nm 4) (.rg (Ci 0) (Ei (.v 1) (Ci 0))) (.cons (.iff (.not (.call 42 (.cons (.v 0) (Ec (.v 1) (.call 41 (Ec (.v 2) (Ei (.v 3) (Ci 1)) (.v 4))) (Ei (Ei (.v 3) (Ci 2)) (.v 4)))))) (.cons (.ret (.c (.bl false))) .nil) .nil) .nil)) (.cons (.ret (.c (.bl true))) .nil)))))))
noncomputable def Vm:bT:=(.cons (.asg (.nm 3) (.call 39 (Ec (.v 0) (.v 1) (.v 2)))) (.cons (.fr (.nm 4) (.rg (Ci 0) (Ci 2)) (.cons (.asg (.nm 5) (.call 28 (Ec (.v 0) (.v 1) (.v 2)))) (.cons (.iff (.pr true .ne (Eb (.pr true .pU (Ea (.v 5))) (.pr true .mZ (Ea (.v 3))))) (.cons (.ret (.c (.bl false))) .nil) .nil) (.cons (.iff (.and (.pr true .mZ (Ea (.v 5))) (.not (.call 42 (.cons (.v 0) (Ec (.v 1) (.v 2) (.v 5)))))) (.cons (.ret (.c (.bl false))) .nil) .nil) .nil)))) (.cons (.ret (.c (.bl true))) .nil)))
noncomputable def Vn:bT:=(.cons (.iff (.or (.not (.call 43 (Ec (.tup (Eb (Ci 1) (.tup .nil))) (.tup (Eb (Ci 1) (Ci 1))) (.tup (Ea (.c .non)))))) (.not (.call 43 (Ec (.tup (Eb (Ci 3) (.tup (Ec (.tup (Eb (Ci 0) (Ci 1))) (.tup (Eb (Ci 0) (Ci 2))) (.tup (Eb (Ci 1) (Ci 2))))))) (.tup (Eb (Ci 2) (Ci 1))) (.pr true .mult (Eb (.tup (Ea (.c .non))) (Ci 3))))))) (.cons (.ret (.c (.bl false))) .nil) .nil) (.cons (.fr (.nm 1) (.seq (.pr true .add (Eb (.lst true (Ea (.call 32 (Eb (.v 0) (Ci 0))))) (.sl true (.v 0) (.yes (Ci 1)) (.yes (Ci 3)))))) (.cons (.asg (.nm 2) (.call 33 (Ea (.v 1)))) (.cons (.asg (.nm 3) (.call 36 (Eb (.v 2) (.pr true .add (Eb (Ci 1) (.call 34 (Eb (.v 2) (Ci 5)))))))) (.cons (.asg (.nm 4) (Ei (.lst true (.cons (.tup (Eb (Ci 2) (Ci 1))) (.cons (.tup (Eb (Ci 3) (Ci 1))) (.cons (.tup (Eb (Ci 5) (Ci 2))) (.cons (.tup (Eb (Ci 4) (Ci 1))) (Ec (.tup (Eb (Ci 4) (Ci 2))) (.tup (Eb (Ci 3) (Ci 2))) (.tup (Eb (Ci 5) (Ci 3))))))))) (.call 34 (Eb (.v 2) (Ci 7))))) (.cons (.fr (.nm 5) (.seq (.lst true (Ec (.pr true .mult (Eb (.tup (Ea (.c .non))) (Ei (.v 3) (Ci 0)))) (.call 38 (Ec (.v 2) (.v 3) (.v 4))) (.call 38 (Ec (.v 2) (.v 3) (.v 4)))))) (.cons (.iff (.not (.call 43 (Ec (.v 3) (.v 4) (.v 5)))) (.cons (.ret (.c (.bl false))) .nil) .nil) .nil)) .nil))))) (.cons (.ret (.c (.bl true))) .nil)))
noncomputable def T(n:Nat):Option Df:=([⟨1,1,b0⟩,⟨3,3,b1⟩,⟨2,2,b2⟩,⟨3,1,b3⟩,⟨1,1,b4⟩,⟨2,2,b5⟩,⟨4,2,b6⟩,⟨1,1,b7⟩,⟨3,2,b8⟩,⟨1,1,b9⟩,⟨4,4,b10⟩,⟨3,3,Us⟩,⟨6,4,Ut⟩,⟨3,3,Uu⟩,⟨2,2,Uv⟩,⟨5,2,Uw⟩,⟨2,2,Ux⟩,⟨5,2,Uy⟩,⟨3,1,Uz⟩,⟨2,2,UG⟩,⟨1,1,UJ⟩,⟨4,3,UL⟩,⟨3,3,UW⟩,⟨3,3,U6⟩,⟨7,2,U7⟩,⟨5,4,U8⟩,⟨4,3,U9⟩,⟨4,3,Nh⟩,⟨7,3,U_⟩,⟨6,3,Va⟩,⟨4,3,Vb⟩,⟨6,3,Vc⟩,⟨2,2,Vd⟩,⟨2,1,Ve⟩,⟨5,2,Vf⟩,⟨1,1,b35⟩,⟨5,2,Vg⟩,⟨4,3,b37⟩,⟨4,3,Vh⟩,⟨7,3,Vi⟩,⟨8,4,Vj⟩,⟨3,3,Vk⟩,⟨5,4,Vl⟩,⟨6,3,Vm⟩,⟨6,1,Vn⟩]:List Df)[n]?
theorem T_0:T 0=some ⟨1,1,b0⟩:=rfl
theorem T_1:T 1=some ⟨3,3,b1⟩:=rfl
theorem T_2:T 2=some ⟨2,2,b2⟩:=rfl
theorem T_3:T 3=some ⟨3,1,b3⟩:=rfl
theorem T_4:T 4=some ⟨1,1,b4⟩:=rfl
theorem T_5:T 5=some ⟨2,2,b5⟩:=rfl
theorem T_6:T 6=some ⟨4,2,b6⟩:=rfl
theorem T_7:T 7=some ⟨1,1,b7⟩:=rfl
theorem T_8:T 8=some ⟨3,2,b8⟩:=rfl
theorem T_9:T 9=some ⟨1,1,b9⟩:=rfl
theorem zoX:T 10=some ⟨4,4,b10⟩:=rfl
theorem zoz:T 11=some ⟨3,3,Us⟩:=rfl
theorem zoy:T 12=some ⟨6,4,Ut⟩:=rfl
theorem zoA:T 13=some ⟨3,3,Uu⟩:=rfl
theorem zoo:T 14=some ⟨2,2,Uv⟩:=rfl
theorem zoS:T 15=some ⟨5,2,Uw⟩:=rfl
theorem zoO:T 16=some ⟨2,2,Ux⟩:=rfl
theorem zoY:T 17=some ⟨5,2,Uy⟩:=rfl
theorem zoI:T 18=some ⟨3,1,Uz⟩:=rfl
theorem zoQ:T 19=some ⟨2,2,UG⟩:=rfl
theorem zoL:T 20=some ⟨1,1,UJ⟩:=rfl
theorem zoG:T 21=some ⟨4,3,UL⟩:=rfl
theorem zou:T 22=some ⟨3,3,UW⟩:=rfl
theorem zoT:T 23=some ⟨3,3,U6⟩:=rfl
theorem zom:T 24=some ⟨7,2,U7⟩:=rfl
theorem zoN:T 25=some ⟨5,4,U8⟩:=rfl
theorem zos:T 26=some ⟨4,3,U9⟩:=rfl
theorem Vo:T 27=some ⟨4,3,Nh⟩:=rfl
theorem zoU:T 28=some ⟨7,3,U_⟩:=rfl
theorem zoV:T 29=some ⟨6,3,Va⟩:=rfl
theorem zoD:T 30=some ⟨4,3,Vb⟩:=rfl
theorem zor:T 31=some ⟨6,3,Vc⟩:=rfl
theorem zoH:T 32=some ⟨2,2,Vd⟩:=rfl
theorem zot:T 33=some ⟨2,1,Ve⟩:=rfl
theorem zoF:T 34=some ⟨5,2,Vf⟩:=rfl
theorem zo7:T 35=some ⟨1,1,b35⟩:=rfl
theorem zoJ:T 36=some ⟨5,2,Vg⟩:=rfl
theorem zo3:T 37=some ⟨4,3,b37⟩:=rfl
theorem zoB:T 38=some ⟨4,3,Vh⟩:=rfl
theorem zon:T 39=some ⟨7,3,Vi⟩:=rfl
theorem zoK:T 40=some ⟨8,4,Vj⟩:=rfl
theorem zoW:T 41=some ⟨3,3,Vk⟩:=rfl
theorem zoP:T 42=some ⟨5,4,Vl⟩:=rfl
theorem zoM:T 43=some ⟨6,3,Vm⟩:=rfl
theorem zoR:T 44=some ⟨6,1,Vn⟩:=rfl
noncomputable def aq:Nat->Nat->Bool:=λc e=>(let n:=λc=>if c<0 then c else 0;n e==0||n c==n e)
end dW
namespace dW
open PySem PySem.Spec PyProof.Rows L2 Mi
abbrev LK(i:Nat)(x:Str)(k:NameKind):Prop:=(au (top i)).names.lookup x=some k
noncomputable abbrev gI:NameKind:=.globalImplicit
abbrev N3:List Str:=["thing","many","ties"]
abbrev N8:List Str:=["web","place","ends"]
abbrev N9:List Str:=["web"]
abbrev N12:List Str:=["self","free","place","spot","left","end"]
abbrev N13:List Str:=["self","free","place"]
abbrev N14:List Str:=["self","free"]
abbrev N16:List Str:=["self","free"]
abbrev Vp:List Str:=["web","ring","k","d","wide"]
abbrev N21:List Str:=["web","ring","known","board"]
abbrev N22:List Str:=["web","ring","thing"]
abbrev N28:List Str:=["web","ring","known","board","free","place","spot"]
abbrev Vq:List Str:=["board","known","place","near","spots","spot"]
abbrev N36:List Str:=["_law_pen_here","_law_many","_law_often","_law_ties","_law_one"]
abbrev N38:List Str:=["_law_pen_here","_law_web_here","_law_ring","_law_often"]
abbrev Vr:List Str:=["_law_web_here","_law_ring","_law_known_here","_law_row","_law_place","_law_back","_law_near"]
abbrev Vt:List Str:=["_law_web_here","_law_ring","_law_known_here","_law_place","_law_near","_law_one","_law_other","_law_some"]
noncomputable def cl(K:W.Frag):Cl:=⟨iH (lk.L K),λ_=>[],λ_=>dN K "Board",λ_=>["ends","spots","apart","alike"]⟩
structure Top(K:W.Frag)(mg:Str->Option Value):Prop where
 d0:D3 K mg "is_whole" (top 6) ["thing"]
 d1:D3 K mg "is_within" (top 7) ["thing","least","most"]
 d2:D3 K mg "is_row" (top 8) ["thing","many"]
 d3:D3 K mg "is_web" (top 11) ["thing"]
 d4:D3 K mg "is_many" (top 12) ["thing"]
 d5:D3 K mg "is_place" (top 13) ["many","thing"]
 d6:D3 K mg "is_tie" (top 14) ["many","thing"]
 d7:D3 K mg "check_web" (top 15) ["thing"]
 d8:D3 K mg "tied_to" (top 16) ["web","place"]
 d9:D3 K mg "all_ends" (top 17) ["web"]
 Ni:D3 K mg "ring_board" (top 20) ["web","ring"]
 Vu:D3 K mg "is_ring" (top 23) ["thing"]
 Vv:D3 K mg "is_spot" (top 24) ["ring","thing"]
 Vw:D3 K mg "check_ring" (top 25) ["thing"]
 Vx:D3 K mg "first_known" (top 27) ["web","ring","known"]
 Vy:D3 K mg "are_known" (top 28) ["web","ring","thing"]
 Vz:D3 K mg "check_known" (top 29) ["web","ring","thing"]
 VB:D3 K mg "first_among" (top 30) ["board","choices"]
 Nj:D3 K mg "first_spot" (top 31) ["board","answers","free","place"]
 J2:D3 K mg "can_settle" (top 32) ["board","answers","free"]
 VD:D3 K mg "search" (top 33) ["board","answers","free"]
 VF:D3 K mg "none_for" (top 37) ["web","ring","known"]
 VG:D3 K mg "is_stuck" (top 38) ["board","known","place"]
 Nk:D3 K mg "paper_of" (top 39) ["board","papers","free"]
 VH:D3 K mg "case_of" (top 40) ["board","papers","free"]
 VJ:D3 K mg "_law_cell" (top 42) ["_law_script","_law_k"]
 VL:D3 K mg "_law_pen" (top 43) ["_law_cell_here"]
 wW:D3 K mg "_law_draw" (top 44) ["_law_pen_here","_law_many"]
 VN:D3 K mg "_law_whole" (top 45) ["_law_thing"]
 VP:D3 K mg "_law_web" (top 46) ["_law_pen_here","_law_many"]
 Nm:D3 K mg "_law_apart" (top 47) ["_law_k","_law_one","_law_other"]
 Np:D3 K mg "_law_known" (top 48) ["_law_pen_here","_law_web_here","_law_ring"]
 VR:D3 K mg "_law_first_with" (top 49) ["_law_web_here","_law_ring","_law_known_here"]
 V0:D3 K mg "_law_ends" (top 50) ["_law_web_here","_law_ring","_law_known_here","_law_place"]
 V1:D3 K mg "_law_put" (top 51) ["_law_known_here","_law_place","_law_spot"]
 Nq:D3 K mg "_law_paper" (top 52) ["_law_web_here","_law_ring","_law_known_here","_law_thing"]
 J3:D3 K mg "_law_right" (top 53) ["_law_web_here","_law_ring","_law_known_here"]
 Nr:D3 K mg "law" (top 54) ["_law_script"]
 gF:∃t,mg "MOST_PLACES"=some (.int 8 t)
 iy:∃t,mg "MOST_SPOTS"=some (.int 24 t)
 qu:∃t,mg "END"=some (.str "end" t)
 ux:∃t,mg "CASE"=some (.str "case" t)
 z14:mg "abs"=none
 z6:mg "all"=none
 z2:mg "bool"=none
 z13:mg "divmod"=none
 Nt:mg "enumerate"=none
 z1:mg "int"=none
 z0:mg "isinstance"=none
 z4:mg "len"=none
 z9:mg "list"=none
 z12:mg "max"=none
 Nu:mg "min"=none
 z8:mg "range"=none
 z7:mg "sorted"=none
 z15:mg "str"=none
 z3:mg "tuple"=none
 z5:mg "zip"=none
 ow:Ow K (cl K) 0
 mq:Mk K ((cl K).b 0) (gO K ((cl K).b 0) "__init__")
 mc:mg "Board"=some (.ref ((cl K).b 0))
 V2:Mt K ((cl K).b 0) "__init__" "Board.__init__" CP ["self","web","apart","alike"] (gO K ((cl K).b 0) "__init__") (jq K ((cl K).b 0) "__init__" CP)
 Nv:Mt K ((cl K).b 0) "far_apart" "Board.far_apart" Fz ["self","spot","other"] (gO K ((cl K).b 0) "far_apart") (jq K ((cl K).b 0) "far_apart" Fz)
 B_:Mt K ((cl K).b 0) "settled" "Board.settled" CQ ["self","free","place","spot"] (gO K ((cl K).b 0) "settled") (jq K ((cl K).b 0) "settled" CQ)
 Ny:Mt K ((cl K).b 0) "ties_left" "Board.ties_left" CT ["self","free","place"] (gO K ((cl K).b 0) "ties_left") (jq K ((cl K).b 0) "ties_left" CT)
 Nz:Mt K ((cl K).b 0) "bound" "Board.bound" CV ["self","free"] (gO K ((cl K).b 0) "bound") (jq K ((cl K).b 0) "bound" CV)
 NK:Mt K ((cl K).b 0) "narrowest" "Board.narrowest" FJ ["self","free"] (gO K ((cl K).b 0) "narrowest") (jq K ((cl K).b 0) "narrowest" FJ)
 V3:Mt K ((cl K).b 0) "all_free" "Board.all_free" CW ["self","free"] (gO K ((cl K).b 0) "all_free") (jq K ((cl K).b 0) "all_free" CW)
theorem zkO{K:W.Frag}{h:Heap}{mg:Str->Option Value}(Sb:qm fs ms xs lk bd K)(X:K.In h)(G:h.Ns mainGlobals mg):Top K mg where
 d0:=u5 Sb.i X G 0
 d1:=pA Sb.i X G 1
 d2:=u6 Sb.i X G 2
 d3:=u5 Sb.i X G 3
 d4:=u5 Sb.i X G 4
 d5:=u6 Sb.i X G 5
 d6:=u6 Sb.i X G 6
 d7:=u5 Sb.i X G 7
 d8:=u6 Sb.i X G 8
 d9:=u5 Sb.i X G 9
 Ni:=u6 Sb.i X G 10
 Vu:=u5 Sb.i X G 11
 Vv:=u6 Sb.i X G 12
 Vw:=u5 Sb.i X G 13
 Vx:=pA Sb.i X G 14
 Vy:=pA Sb.i X G 15
 Vz:=pA Sb.i X G 16
 VB:=u6 Sb.i X G 17
 Nj:=Te Sb.i X G 18
 J2:=pA Sb.i X G 19
 VD:=pA Sb.i X G 20
 VF:=pA Sb.i X G 21
 VG:=pA Sb.i X G 22
 Nk:=pA Sb.i X G 23
 VH:=pA Sb.i X G 24
 VJ:=u6 Sb.i X G 25
 VL:=u5 Sb.i X G 26
 wW:=u6 Sb.i X G 27
 VN:=u5 Sb.i X G 28
 VP:=u6 Sb.i X G 29
 Nm:=pA Sb.i X G 30
 Np:=pA Sb.i X G 31
 VR:=pA Sb.i X G 32
 V0:=Te Sb.i X G 33
 V1:=pA Sb.i X G 34
 Nq:=Te Sb.i X G 35
 J3:=pA Sb.i X G 36
 Nr:=u5 Sb.i X G 37
 gF:=ZP (Sb.i.gd.it ("MOST_PLACES",8) (mG 0)) X G
 iy:=ZP (Sb.i.gd.it ("MOST_SPOTS",24) (mG 1)) X G
 qu:=ZQ (Sb.i.gd.st ("END","end") (mG 0)) X G
 ux:=ZQ (Sb.i.gd.st ("CASE","case") (mG 1)) X G
 z14:=oH (Sb.i.gd.no "abs" (mG 0)) X G
 z6:=oH (Sb.i.gd.no "all" (mG 1)) X G
 z2:=oH (Sb.i.gd.no "bool" (mG 2)) X G
 z13:=oH (Sb.i.gd.no "divmod" (mG 3)) X G
 Nt:=oH (Sb.i.gd.no "enumerate" (mG 4)) X G
 z1:=oH (Sb.i.gd.no "int" (mG 5)) X G
 z0:=oH (Sb.i.gd.no "isinstance" (mG 6)) X G
 z4:=oH (Sb.i.gd.no "len" (mG 7)) X G
 z9:=oH (Sb.i.gd.no "list" (mG 8)) X G
 z12:=oH (Sb.i.gd.no "max" (mG 9)) X G
 Nu:=oH (Sb.i.gd.no "min" (mG 10)) X G
 z8:=oH (Sb.i.gd.no "range" (mG 11)) X G
 z7:=oH (Sb.i.gd.no "sorted" (mG 12)) X G
 z15:=oH (Sb.i.gd.no "str" (mG 13)) X G
 z3:=oH (Sb.i.gd.no "tuple" (mG 14)) X G
 z5:=oH (Sb.i.gd.no "zip" (mG 15)) X G
 ow:=zog Sb.b rfl rfl Dc
 mq:=znO Sb.b (Sb.m ("__init__","Board.__init__",CP) (mG 0)).2
 mc:=znP Sb.b X G
 V2:=zoC (Sb.m ("__init__","Board.__init__",CP) (mG 0))
 Nv:=zox (Sb.m ("far_apart","Board.far_apart",Fz) (mG 1))
 B_:=zoC (Sb.m ("settled","Board.settled",CQ) (mG 2))
 Ny:=zox (Sb.m ("ties_left","Board.ties_left",CT) (mG 3))
 Nz:=T8 (Sb.m ("bound","Board.bound",CV) (mG 4))
 NK:=T8 (Sb.m ("narrowest","Board.narrowest",FJ) (mG 5))
 V3:=T8 (Sb.m ("all_free","Board.all_free",CW) (mG 6))
abbrev FO(P:Program)(w:World)(K:W.Frag)(mg:Str->Option Value)(base:Heap)(k:Nat)(c:Bool)(x:Str)(i:Nat)(ps:List Str)(n:Nat):Prop:=bZ P w K mg base (gA P w) c k (g_ K x) (fdOf K x (top i)) ps (kj K (cl K) (call aq T k c n))
abbrev FM(P:Program)(w:World)(K:W.Frag)(mg:Str->Option Value)(base:Heap)(k:Nat)(m:Str)(st:Stmt)(ps:List Str)(sp:Sp):Prop:=bZ P w K mg base (gA P w) true k (gO K ((cl K).b 0) m) (jq K ((cl K).b 0) m st) ps sp
structure Fs(P:Program)(w:World)(K:W.Frag)(mg:Str->Option Value)(base:Heap)(k:Nat):Prop where
 t0:FO P w K mg base k true "is_whole" 6 ["thing"] 0
 t1:FO P w K mg base k true "is_within" 7 ["thing","least","most"] 1
 t2:FO P w K mg base k true "is_row" 8 ["thing","many"] 2
 t3:FO P w K mg base k true "is_web" 11 ["thing"] 3
 t4:FO P w K mg base k true "is_many" 12 ["thing"] 4
 t5:FO P w K mg base k true "is_place" 13 ["many","thing"] 5
 t6:FO P w K mg base k true "is_tie" 14 ["many","thing"] 6
 t7:FO P w K mg base k true "check_web" 15 ["thing"] 7
 t8:FO P w K mg base k true "tied_to" 16 ["web","place"] 8
 t9:FO P w K mg base k true "all_ends" 17 ["web"] 9
 t10:FM P w K mg base k "__init__" CP ["self","web","apart","alike"] (Jq K (cl K) 0 (call aq T k true 10))
 t11:FM P w K mg base k "far_apart" Fz ["self","spot","other"] (kj K (cl K) (call aq T k true 11))
 DY:FM P w K mg base k "settled" CQ ["self","free","place","spot"] (kj K (cl K) (call aq T k true 12))
 V4:FM P w K mg base k "ties_left" CT ["self","free","place"] (kj K (cl K) (call aq T k true 13))
 V5:FM P w K mg base k "bound" CV ["self","free"] (kj K (cl K) (call aq T k true 14))
 V6:FM P w K mg base k "narrowest" FJ ["self","free"] (kj K (cl K) (call aq T k true 15))
 t16:FM P w K mg base k "all_free" CW ["self","free"] (kj K (cl K) (call aq T k true 16))
 V7:FO P w K mg base k true "ring_board" 20 ["web","ring"] 17
 t18:FO P w K mg base k true "is_ring" 23 ["thing"] 18
 t19:FO P w K mg base k true "is_spot" 24 ["ring","thing"] 19
 t20:FO P w K mg base k true "check_ring" 25 ["thing"] 20
 t21:FO P w K mg base k true "first_known" 27 ["web","ring","known"] 21
 t22:FO P w K mg base k true "are_known" 28 ["web","ring","thing"] 22
 t23:FO P w K mg base k true "check_known" 29 ["web","ring","thing"] 23
 t24:FO P w K mg base k true "first_among" 30 ["board","choices"] 24
 V8:FO P w K mg base k true "first_spot" 31 ["board","answers","free","place"] 25
 NP:FO P w K mg base k true "can_settle" 32 ["board","answers","free"] 26
 t27:FO P w K mg base k true "search" 33 ["board","answers","free"] 27
 t28:FO P w K mg base k true "none_for" 37 ["web","ring","known"] 28
 t29:FO P w K mg base k true "is_stuck" 38 ["board","known","place"] 29
 V9:FO P w K mg base k true "paper_of" 39 ["board","papers","free"] 30
 t31:FO P w K mg base k true "case_of" 40 ["board","papers","free"] 31
 t32:FO P w K mg base k true "_law_cell" 42 ["_law_script","_law_k"] 32
 t33:FO P w K mg base k true "_law_pen" 43 ["_law_cell_here"] 33
 yW:FO P w K mg base k true "_law_draw" 44 ["_law_pen_here","_law_many"] 34
 t35:FO P w K mg base k true "_law_whole" 45 ["_law_thing"] 35
 t36:FO P w K mg base k true "_law_web" 46 ["_law_pen_here","_law_many"] 36
 V_:FO P w K mg base k true "_law_apart" 47 ["_law_k","_law_one","_law_other"] 37
 Wa:FO P w K mg base k true "_law_known" 48 ["_law_pen_here","_law_web_here","_law_ring"] 38
 t39:FO P w K mg base k true "_law_first_with" 49 ["_law_web_here","_law_ring","_law_known_here"] 39
 t40:FO P w K mg base k true "_law_ends" 50 ["_law_web_here","_law_ring","_law_known_here","_law_place"] 40
 t41:FO P w K mg base k true "_law_put" 51 ["_law_known_here","_law_place","_law_spot"] 41
 Wb:FO P w K mg base k true "_law_paper" 52 ["_law_web_here","_law_ring","_law_known_here","_law_thing"] 42
 NQ:FO P w K mg base k true "_law_right" 53 ["_law_web_here","_law_ring","_law_known_here"] 43
 t44:FO P w K mg base k true "law" 54 ["_law_script"] 44
section
variable {P:Program}{w:World}{K:W.Frag}{mg:Str->Option Value}{base:Heap}{k:Nat}
theorem zjB(Tp:Top K mg)(Fk:Fs P w K mg base k):Fs P w K mg base (k+1) where
 t0:=fJ Tp.d0 ["thing"] T_0 λ_ _ _ _ _ _ hr=>(aG (bM (wB (wH rfl Tp.z0 gk (gv 0) (wG rfl Tp.z1 Zf gk dk)) (uV (Zm (wH rfl Tp.z0 gk (gv 0) (wG rfl Tp.z2 Zg gk dk))))))
 aM)
 t1:=fJ Tp.d1 ["thing","least","most"] T_1 λ_ _ _ _ _ _ hr=>(aG (bM (wB (gc Fk.t0 Tp.d0 hr cL gk (aB (gv 0) aJ)) (uV (znE Zo Zo (gv 1) (gv 0) (gv 2)))))
 aM)
 t2:=fJ Tp.d2 ["thing","many"] T_2 λ_ _ _ _ _ _ hr=>(aG (bM (wB (wH rfl Tp.z0 gk (gv 0) (wG rfl Tp.z3 Du gk dk)) (uV (wD (tX hr) (tZ Tp.z4 gk (aB (gv 0) aJ)) (gv 1)))))
 aM)
 t3:=fJ Tp.d3 N3 T_3 λ_ _ _ _ _ _ hr=>(aG (dY (mQ (jo (gc Fk.t2 Tp.d2 hr cL gk (aB (gv 0) (aB aN aJ))))) (aG (bM jU)
 aM) aM)
 (aG (Jd 1 2 rfl rfl nd rfl rfl jc jl rfl rfl (gv 0))
 (aG (dY (yI (yH (mQ (jo (gc Fk.t4 Tp.d4 hr cL gk (aB (gv 1) aJ)))) (Dw (mQ (jo (wH rfl Tp.z0 gk (gv 2) (wG rfl Tp.z3 Du gk dk))))))) (aG (bM jU)
 aM) aM)
 (aG (dY (mQ (jo (I9 rfl Tp.z6 gk (aB (oG (au (top 11)) N3 ["tie"] ["many"] [1] rfl rfl rfl Dc Dc (mO 0) Dc (kE (gv 2)) (λ_ _ _ _ _ _=>(mR 0 Dc rfl Dc)) (λ_ _ _ _ _ _=>qU) (λ_ _ _ _ _ _=>(gc Fk.t6 Tp.d6 hr yK vd (aB (bI 1) (aB (bI 0) aJ))))) aJ)))) (aG (bM jU)
 aM) aM)
 (aG (bM (I9 rfl Tp.z6 gk (aB (oG (au (top 11)) N3 ["tie","later"] [] [] rfl rfl rfl Dc Dc (IK 0 1) Dc (zm9 Tp.z5 gk (gv 2) (Mw (gv 2) (I8 aN) Sy)) (λ_ _ _ _ _ _=>(Mx 0 1 rfl Dc rfl rfl Dc Dc)) (λ_ _ _ _ _ _=>qU) (λ_ _ _ _ _ _=>(wD (Br hr) (bI 0) (bI 1)))) aJ)))
 aM)))))
 t4:=fJ Tp.d4 ["thing"] T_4 λ_ _ _ _ _ _ hr=>(aG (bM (gc Fk.t1 Tp.d1 hr cL gk (aB (gv 0) (aB aN (aB (Zk Tp.gF gk dk) aJ)))))
 aM)
 t5:=fJ Tp.d5 ["many","thing"] T_5 λ_ _ _ _ _ _ hr=>(aG (bM (gc Fk.t1 Tp.d1 hr cL gk (aB (gv 1) (aB aN (aB (fW wA (gv 0) aN) aJ)))))
 aM)
 t6:=fJ Tp.d6 ["many","thing","one","other"] T_6 λ_ _ _ _ _ _ hr=>(aG (dY (mQ (jo (gc Fk.t2 Tp.d2 hr cL gk (aB (gv 1) (aB aN aJ))))) (aG (bM jU)
 aM) aM)
 (aG (Jd 2 3 rfl rfl nd rfl rfl jl jl rfl rfl (gv 1))
 (aG (bM (wB (gc Fk.t5 Tp.d5 hr cL gk (aB (gv 0) (aB (gv 2) aJ))) (wB (gc Fk.t5 Tp.d5 hr cL gk (aB (gv 0) (aB (gv 3) aJ))) (uV (wD (Br hr) (gv 2) (gv 3))))))
 aM)))
 t7:=fJ Tp.d7 ["thing"] T_7 λ_ _ _ _ _ _ hr=>(aG (dY (mQ (jo (gc Fk.t3 Tp.d3 hr cL gk (aB (gv 0) aJ)))) (aG SN
 aM) aM)
 aM)
 t8:=fJ Tp.d8 N8 T_8 λ_ _ _ _ _ _ hr=>(aG (Jc 2 (au (top 16)) N8 ["one","other"] ["place"] [1] nd rfl jl rfl rfl rfl rfl Dc Dc (IK 0 1) Dc (kE (bQ (gv 0) aN)) (λ_ _ _ _ _ _=>(Mx 0 1 rfl Dc rfl rfl Dc Dc)) (λ_ _ _ _ _ _=>(uW (jf (IW hr) (bI 2) (fj (aB (bI 0) (aB (bI 1) aJ)))))) (λ_ _ _ _ _ _=>(Bs (jf (tX hr) (bI 0) (bI 2)) (bI 1) (bI 0))))
 (aG (bM (t_ Tp.z3 gk (aB (zhL Tp.z7 gk (aB (gv 2) aJ)) aJ)))
 aM))
 t9:=fJ Tp.d9 N9 T_9 λ_ _ _ _ _ _ hr=>(aG (bM (oG (au (top 17)) N9 ["place"] ["web"] [0] rfl rfl rfl Dc Dc (mO 0) Dc (uX Tp.z8 gk (bQ (gv 0) aN)) (λ_ _ _ _ _ _=>(mR 0 Dc rfl Dc)) (λ_ _ _ _ _ _=>qU) (λ_ _ _ _ _ _=>(gc Fk.t8 Tp.d8 hr yK vd (aB (bI 1) (aB (bI 0) aJ))))))
 aM)
 t10:=zi2 (N:=["self","web","apart","alike"]) Tp.V2.fn zoX (λ_ _ _ _ _ _ hr=>(M8 (j:=0) Tp.ow (gc Fk.t9 Tp.d9 hr cL gk (aB (gv 1) aJ)) (M8 (j:=0) Tp.ow (znB rfl Tp.z3 gk Tp.z8 gk (aB (tZ Tp.z4 gk (aB (gv 2) aJ)) aJ)) (M8 (j:=0) Tp.ow (gv 2) (M8 (j:=0) Tp.ow (gv 3) zkZ))))) (by show (4:Nat)<=900;decide)
 t11:=fM Tp.Nv ["self","spot","other"] zoz λ_ _ _ _ _ _ hr=>(aG (bM (bQ (bQ (vf Tp.ow (gv 0)) (gv 1)) (gv 2)))
 aM)
 DY:=fM Tp.B_ N12 zoy λ_ _ _ _ _ _ hr=>(aG (fO 4 nd rfl jl rfl (zk8 Tp.z9 gk (aB (gv 1) aJ)))
 (aG (DK (gv 4) (gv 2) rK)
 (aG (qW qe rfl rfl (kE (bQ (vf Tp.ow (gv 0)) (gv 2))) (uZ 5 nd rfl jl rfl) (aG (dY (wF (bQ (gv 4) (gv 5))) (aG (DK (gv 4) (gv 5) (t_ Tp.z3 gk (aB (oG (au (CQ)) N12 ["other"] ["self","spot"] [0,3] rfl rfl rfl Dc Dc (mO 0) Dc (kE (bQ (gv 4) (gv 5))) (λ_ _ _ _ _ _=>(mR 0 Dc rfl Dc)) (λ_ _ _ _ _ _=>(uW (jo (qj Tp.ow Tp.Nv Fk.t11 hr (bI 1) (aB (bI 2) (aB (bI 0) aJ)))))) (λ_ _ _ _ _ _=>(bI 0))) aJ)))
 aM) aM)
 aM))
 (aG (bM (t_ Tp.z3 gk (aB (gv 4) aJ)))
 aM))))
 V4:=fM Tp.Ny N13 zoA λ_ _ _ _ _ _ hr=>(aG (bM (tZ Tp.z4 gk (aB (oG (au (CT)) N13 ["end"] ["free"] [1] rfl rfl rfl Dc Dc (mO 0) Dc (kE (bQ (vf Tp.ow (gv 0)) (gv 2))) (λ_ _ _ _ _ _=>(mR 0 Dc rfl Dc)) (λ_ _ _ _ _ _=>(uW (wF (bQ (bI 1) (bI 0))))) (λ_ _ _ _ _ _=>(bI 0))) aJ)))
 aM)
 V5:=fM Tp.Nz N14 zoo λ_ _ _ _ _ _ hr=>(aG (bM (t_ Tp.z3 gk (aB (oG (au (CV)) N14 ["place","spots"] ["self","free"] [0,1] rfl rfl rfl Dc Dc (IK 0 1) Dc (S_ Tp.Nt gk (gv 1)) (λ_ _ _ _ _ _=>(Mx 0 1 rfl Dc rfl rfl Dc Dc)) (λ_ _ _ _ _ _=>qU) (λ_ _ _ _ _ _=>(Bs (jf zo1 (qj Tp.ow Tp.Ny Fk.V4 hr (bI 2) (aB (bI 3) (aB (bI 0) aJ))) aN) (bI 1) rK))) aJ)))
 aM)
 V6:=fM Tp.NK ["self","free","ranks","place","spots"] zoS λ_ _ _ _ _ _ hr=>(aG (fO 2 nd rfl jl rfl (nW aJ))
 (aG (qW qe rfl rfl (S_ Tp.Nt gk (gv 1)) (S5 3 4 rfl rfl nd rfl rfl jl jl rfl rfl) (aG (dY (wF (gv 4)) (aG (uY (Dy (gv 2) (fj (aB (tZ Tp.z4 gk (aB (gv 4) aJ)) (aB (yF (qj Tp.ow Tp.Ny Fk.V4 hr (gv 0) (aB (gv 1) (aB (gv 3) aJ)))) (aB (gv 3) aJ))))))
 aM) aM)
 aM))
 (aG (bM (Bs (znv (gv 2)) (bQ (zkF hr rfl Tp.Nu gk (aB (gv 2) aJ)) aN) rK))
 aM)))
 t16:=fM Tp.V3 N16 zoO λ_ _ _ _ _ _ hr=>(aG (bM (I9 rfl Tp.z6 gk (aB (oG (au (CW)) N16 ["spots"] ["self"] [0] rfl rfl rfl Dc Dc (mO 0) Dc (kE (gv 1)) (λ_ _ _ _ _ _=>(mR 0 Dc rfl Dc)) (λ_ _ _ _ _ _=>qU) (λ_ _ _ _ _ _=>(Zn (Sx (bI 0)) (uV (wD (tX hr) (bI 0) (vf Tp.ow (bI 1))))))) aJ)))
 aM)
 V7:=fR Tp.Ni Vp zoY λ_ _ _ _ _ _ hr=>(aG (Jd 2 3 rfl rfl nd rfl rfl jc jc rfl rfl (gv 1))
 (aG (fO 4 nd rfl jc rfl (oG (au (top 20)) Vp ["gap"] ["k","d"] [2,3] rfl rfl rfl Dc Dc (mO 0) Dc (uX Tp.z8 gk (gv 2)) (λ_ _ _ _ _ _=>(mR 0 Dc rfl Dc)) (λ_ _ _ _ _ _=>qU) (λ_ _ _ _ _ _=>(wD Zq (Zw rfl Tp.Nu vd (aB (bI 0) (aB (fW wA (bI 1) (bI 0)) aJ))) (bI 2)))))
 (aG (bM (zo4 Tp.mq Fk.t10 (Mi.bD.made hr _ _) Tp.V2.bd Tp.mc gk (aB (gv 0) (aB (oG (au (top 20)) Vp ["spot"] ["k","wide"] [2,4] rfl rfl rfl Dc Dc (mO 0) Dc (uX Tp.z8 gk (gv 2)) (λ_ _ _ _ _ _=>(mR 0 Dc rfl Dc)) (λ_ _ _ _ _ _=>qU) (λ_ _ _ _ _ _=>(Zx ["spot","k","wide"] ["other"] ["wide","spot"] [2,0] rfl rfl Dc Dc (mO 0) Dc (uX Tp.z8 vd (bI 1)) (λ_ _ _ _ _ _=>(mR 0 Dc rfl Dc)) (λ_ _ _ _ _ _=>qU) (λ_ _ _ _ _ _=>(bQ (bI 1) (fW wA (bI 2) (bI 0))))))) (aB jU aJ)))))
 aM)))
 t18:=fJ Tp.Vu ["thing","k","d"] zoI λ_ _ _ _ _ _ hr=>(aG (dY (mQ (jo (gc Fk.t2 Tp.d2 hr cL gk (aB (gv 0) (aB aN aJ))))) (aG (bM jU)
 aM) aM)
 (aG (Jd 1 2 rfl rfl nd rfl rfl jl jl rfl rfl (gv 0))
 (aG (bM (wB (gc Fk.t1 Tp.d1 hr cL gk (aB (gv 1) (aB aN (aB (Zk Tp.iy gk dk) aJ)))) (uV (gc Fk.t1 Tp.d1 hr cL gk (aB (gv 2) (aB aN (aB (gv 1) aJ)))))))
 aM)))
 t19:=fJ Tp.Vv ["ring","thing"] zoQ λ_ _ _ _ _ _ hr=>(aG (bM (gc Fk.t1 Tp.d1 hr cL gk (aB (gv 1) (aB aN (aB (fW wA (bQ (gv 0) aN) aN) aJ)))))
 aM)
 t20:=fJ Tp.Vw ["thing"] zoL λ_ _ _ _ _ _ hr=>(aG (dY (mQ (jo (gc Fk.t18 Tp.Vu hr cL gk (aB (gv 0) aJ)))) (aG SN
 aM) aM)
 aM)
 t21:=fJ Tp.Vx N21 zoG λ_ _ _ _ _ _ hr=>(aG (uY (gc Fk.t23 Tp.Vz hr cL gk (aB (gv 0) (aB (gv 1) (aB (gv 2) aJ)))))
 (aG (fO 3 nd rfl jc rfl (gc Fk.V7 Tp.Ni hr cL gk (aB (gv 0) (aB (gv 1) aJ))))
 (aG (bM (gc Fk.t24 Tp.VB hr cL gk (aB (gv 3) (aB (oG (au (top 27)) N21 ["spot"] ["board"] [3] rfl rfl rfl Dc Dc (mO 0) Dc (kE (gv 2)) (λ_ _ _ _ _ _=>(mR 0 Dc rfl Dc)) (λ_ _ _ _ _ _=>qU) (λ_ _ _ _ _ _=>(Bs (Mv (bI 0)) (vf Tp.ow (bI 1)) (fj (aB (bI 0) aJ))))) aJ))))
 aM)))
 t22:=fJ Tp.Vy N22 zou λ_ _ _ _ _ _ hr=>(aG (bM (wB (gc Fk.t2 Tp.d2 hr cL gk (aB (gv 2) (aB (bQ (gv 0) aN) aJ))) (uV (I9 rfl Tp.z6 gk (aB (oG (au (top 28)) N22 ["spot"] ["ring"] [1] rfl rfl rfl Dc Dc (mO 0) Dc (kE (gv 2)) (λ_ _ _ _ _ _=>(mR 0 Dc rfl Dc)) (λ_ _ _ _ _ _=>qU) (λ_ _ _ _ _ _=>(Zn (Sx (bI 0)) (uV (gc Fk.t19 Tp.Vv hr yK vd (aB (bI 1) (aB (bI 0) aJ))))))) aJ)))))
 aM)
 t23:=fJ Tp.Vz ["web","ring","thing"] zoT λ_ _ _ _ _ _ hr=>(aG (uY (gc Fk.t7 Tp.d7 hr cL gk (aB (gv 0) aJ)))
 (aG (uY (gc Fk.t20 Tp.Vw hr cL gk (aB (gv 1) aJ)))
 (aG (dY (mQ (jo (gc Fk.t22 Tp.Vy hr cL gk (aB (gv 0) (aB (gv 1) (aB (gv 2) aJ)))))) (aG SN
 aM) aM)
 aM)))
 t24:=fJ Tp.VB ["board","choices","free","answers","row","place","spot"] zom λ_ _ _ _ _ _ hr=>(aG (fO 2 nd rfl jl rfl (t_ Tp.z3 gk (aB (gv 1) aJ)))
 (aG (fO 3 nd rfl jl rfl ZK)
 (aG (dY (mQ (jo (gc Fk.NP Tp.J2 hr cL gk (aB (gv 0) (aB (gv 3) (aB (gv 2) aJ)))))) (aG (bM rK)
 aM) aM)
 (aG (fO 4 nd rfl jl rfl (nW aJ))
 (aG (qW qe rfl rfl (uX Tp.z8 gk (tZ Tp.z4 gk (aB (gv 1) aJ))) (uZ 5 nd rfl jl rfl) (aG (fO 6 nd rfl jl rfl (gc Fk.V8 Tp.Nj hr cL gk (aB (gv 0) (aB (gv 3) (aB (gv 2) (aB (gv 5) aJ))))))
 (aG (fO 2 nd rfl jl rfl (qj Tp.ow Tp.B_ Fk.DY hr (gv 0) (aB (gv 2) (aB (gv 5) (aB (gv 6) aJ)))))
 (aG (uY (Dy (gv 4) (gv 6)))
 aM))))
 (aG (bM (t_ Tp.z3 gk (aB (gv 4) aJ)))
 aM))))))
 V8:=fJ Tp.Nj ["board","answers","free","place","spot"] zoN λ_ _ _ _ _ _ hr=>(aG (qW qe rfl rfl (kE (bQ (gv 2) (gv 3))) (uZ 4 nd rfl jl rfl) (aG (dY (jo (gc Fk.NP Tp.J2 hr cL gk (aB (gv 0) (aB (gv 1) (aB (qj Tp.ow Tp.B_ Fk.DY hr (gv 0) (aB (gv 2) (aB (gv 3) (aB (gv 4) aJ)))) aJ))))) (aG (bM (gv 4))
 aM) aM)
 aM))
 (aG (bM rK)
 aM))
 NP:=fJ Tp.J2 ["board","answers","free","rest"] zos λ_ _ _ _ _ _ hr=>(aG (dY (jf (IW hr) (fj aJ) (gv 2)) (aG (bM jU)
 aM) aM)
 (aG (fO 3 nd rfl jl rfl (qj Tp.ow Tp.Nz Fk.V5 hr (gv 0) (aB (gv 2) aJ)))
 (aG (dY (ZJ hr (gv 3) (gv 1)) (aG (ZL hr (gv 1) (gv 3) (gc Fk.t27 Tp.VD hr cL gk (aB (gv 0) (aB (gv 1) (aB (gv 3) aJ)))))
 aM) aM)
 (aG (bM (ZF hr (gv 1) (gv 3)))
 aM))))
 t27:=fJ Tp.VD ["board","answers","free","place"] Vo λ_ _ _ _ _ _ hr=>(aG (fO 3 nd rfl jl rfl (qj Tp.ow Tp.NK Fk.V6 hr (gv 0) (aB (gv 2) aJ)))
 (aG (dY (Mv (gv 3)) (aG (bM jU)
 aM) aM)
 (aG (dY (yI (Zv (jo (vf Tp.ow (gv 0))) (Zu (jo (qj Tp.ow Tp.V3 Fk.t16 hr (gv 0) (aB (gv 2) aJ)))))) (aG (bM (gc Fk.NP Tp.J2 hr cL gk (aB (gv 0) (aB (gv 1) (aB (qj Tp.ow Tp.B_ Fk.DY hr (gv 0) (aB (gv 2) (aB (gv 3) (aB aN aJ)))) aJ)))))
 aM) aM)
 (aG (bM (Zr (gc Fk.V8 Tp.Nj hr cL gk (aB (gv 0) (aB (gv 1) (aB (gv 2) (aB (gv 3) aJ)))))))
 aM))))
 t28:=fJ Tp.VF N28 zoU λ_ _ _ _ _ _ hr=>(aG (dY (wF (gc Fk.t21 Tp.Vx hr cL gk (aB (gv 0) (aB (gv 1) (aB (gv 2) aJ))))) (aG (bM rK)
 aM) aM)
 (aG (fO 3 nd rfl jc rfl (gc Fk.V7 Tp.Ni hr cL gk (aB (gv 0) (aB (gv 1) aJ))))
 (aG (fO 4 nd rfl jl rfl (t_ Tp.z3 gk (aB (oG (au (top 37)) N28 ["place"] ["board"] [3] rfl rfl rfl Dc Dc (mO 0) Dc (kE (gv 2)) (λ_ _ _ _ _ _=>(mR 0 Dc rfl Dc)) (λ_ _ _ _ _ _=>qU) (λ_ _ _ _ _ _=>(vf Tp.ow (bI 1)))) aJ)))
 (aG (qW qe rfl rfl (S_ Tp.Nt gk (gv 2)) (S5 5 6 rfl rfl nd rfl rfl jl jl rfl rfl) (aG (dY (jo (gc Fk.t29 Tp.VG hr cL gk (aB (gv 3) (aB (gv 2) (aB (gv 5) aJ))))) (aG (bM (fj (aB (Mu Tp.qu gk dk) (aB (gv 5) aJ))))
 aM) aM)
 (aG (dY (wF (gv 6)) (aG (fO 4 nd rfl jl rfl (qj Tp.ow Tp.B_ Fk.DY hr (gv 3) (aB (gv 4) (aB (gv 5) (aB (gv 6) aJ)))))
 aM) aM)
 aM)))
 (aG (bM (gc Fk.V9 Tp.Nk hr cL gk (aB (gv 3) (aB ZK (aB (gv 4) aJ)))))
 aM)))))
 t29:=fJ Tp.VG Vq zoV λ_ _ _ _ _ _ hr=>(aG (Jc 3 (au (top 38)) Vq ["end"] ["known"] [1] nd rfl jl rfl rfl rfl rfl Dc Dc (mO 0) Dc (kE (bQ (vf Tp.ow (gv 0)) (gv 2))) (λ_ _ _ _ _ _=>(mR 0 Dc rfl Dc)) (λ_ _ _ _ _ _=>(uW (wF (bQ (bI 1) (bI 0))))) (λ_ _ _ _ _ _=>(bQ (bI 1) (bI 0))))
 (aG (fO 4 nd rfl jl rfl (Bs (Mv (bQ (gv 1) (gv 2))) (vf Tp.ow (gv 0)) (fj (aB (bQ (gv 1) (gv 2)) aJ))))
 (aG (qW qe rfl rfl (kE (gv 4)) (uZ 5 nd rfl jc rfl) (aG (dY (jo (I9 rfl Tp.z6 gk (aB (oG (au (top 38)) Vq ["other"] ["board","spot"] [0,5] rfl rfl rfl Dc Dc (mO 0) Dc (kE (gv 3)) (λ_ _ _ _ _ _=>(mR 0 Dc rfl Dc)) (λ_ _ _ _ _ _=>qU) (λ_ _ _ _ _ _=>(qj Tp.ow Tp.Nv Fk.t11 hr (bI 1) (aB (bI 2) (aB (bI 0) aJ))))) aJ))) (aG (bM jU)
 aM) aM)
 aM))
 (aG (bM jU)
 aM))))
 V9:=fJ Tp.Nk ["board","papers","free","rest"] zoD λ_ _ _ _ _ _ hr=>(aG (dY (jf (IW hr) (fj aJ) (gv 2)) (aG (bM (fj (aB (Mu Tp.qu gk dk) (aB (znA hr (gv 2) (aB (fj aJ) aJ)) aJ))))
 aM) aM)
 (aG (fO 3 nd rfl jl rfl (qj Tp.ow Tp.Nz Fk.V5 hr (gv 0) (aB (gv 2) aJ)))
 (aG (dY (ZJ hr (gv 3) (gv 1)) (aG (ZL hr (gv 1) (gv 3) (gc Fk.t31 Tp.VH hr cL gk (aB (gv 0) (aB (gv 1) (aB (gv 3) aJ)))))
 aM) aM)
 (aG (bM (ZF hr (gv 1) (gv 3)))
 aM))))
 t31:=fJ Tp.VH ["board","papers","free","place","rows","spot"] zor λ_ _ _ _ _ _ hr=>(aG (fO 3 nd rfl jl rfl (qj Tp.ow Tp.NK Fk.V6 hr (gv 0) (aB (gv 2) aJ)))
 (aG (fO 4 nd rfl jl rfl (nW aJ))
 (aG (qW qe rfl rfl (kE (vf Tp.ow (gv 0))) (uZ 5 nd rfl jl rfl) (aG (dY (jf (IW hr) (gv 5) (bQ (gv 2) (gv 3))) (aG (uY (Dy (gv 4) (gc Fk.V9 Tp.Nk hr cL gk (aB (gv 0) (aB (gv 1) (aB (qj Tp.ow Tp.B_ Fk.DY hr (gv 0) (aB (gv 2) (aB (gv 3) (aB (gv 5) aJ)))) aJ))))))
 aM) (aG (uY (Dy (gv 4) (fj (aB (Mu Tp.qu gk dk) (aB (gv 3) aJ)))))
 aM))
 aM))
 (aG (bM (fj (aB (Mu Tp.ux gk dk) (aB (gv 3) (aB (t_ Tp.z3 gk (aB (gv 4) aJ)) aJ)))))
 aM))))
 t32:=fJ Tp.VJ ["_law_script","_law_k"] zoH λ_ _ _ _ _ _ hr=>(aG (dY (jf (Br hr) (gv 1) (tZ Tp.z4 gk (aB (gv 0) aJ))) (aG (bM (bQ (gv 0) (gv 1)))
 aM) aM)
 (aG (bM aN)
 aM))
 t33:=fJ Tp.VL ["_law_cell_here","_law_left"] zot λ_ _ _ _ _ _ hr=>(aG (fO 1 nd rfl jl rfl (zkR rfl Tp.z12 gk (aB (gv 0) (aB (fW wA aN (gv 0)) aJ))))
 (aG (bM (nW (aB (gv 1) (aB (zkz Tp.z1 gk (aB (wD Zq (gv 1) (fW znX aN aN)) aJ)) aJ))))
 aM))
 yW:=fJ Tp.wW ["_law_pen_here","_law_many","_law_left","_law_found","_law_stir"] zoF λ_ _ _ _ _ _ hr=>(aG (dY (jf (tX hr) (bQ (gv 0) aN) aN) (aG (Jd 2 3 rfl rfl nd rfl rfl jl jl rfl rfl (zhQ Tp.z13 gk (aB (bQ (gv 0) aN) (aB (gv 1) aJ))))
 (aG (DK (gv 0) aN (gv 2))
 (aG (bM (gv 3))
 aM))) aM)
 (aG (fO 4 nd rfl jl rfl (fW IV (fW Sv (fW qT (fW IV (bQ (gv 0) aN) aN) aN) aN) aN))
 (aG (fO 4 nd rfl jl rfl (fW IV (fW qT (fW Sv (gv 4) (gv 4)) aN) aN))
 (aG (DK (gv 0) aN (fW IV (fW qT (fW Sv (gv 4) aN) aN) aN))
 (aG (bM (fW IV (fW zmi (bQ (gv 0) aN) aN) (gv 1)))
 aM)))))
 t35:=fJ Tp.VN ["_law_thing"] zo7 λ_ _ _ _ _ _ hr=>(aG (bM (wB (wH rfl Tp.z0 gk (gv 0) (wG rfl Tp.z1 Zf gk dk)) (uV (Zm (wH rfl Tp.z0 gk (gv 0) (wG rfl Tp.z2 Zg gk dk))))))
 aM)
 t36:=fJ Tp.VP N36 zoJ λ_ _ _ _ _ _ hr=>(aG (fO 2 nd rfl jc rfl (bQ (nW (aB aN (aB aN (aB aN aJ)))) (gc Fk.yW Tp.wW hr cL gk (aB (gv 0) (aB aN aJ)))))
 (aG (fO 3 nd rfl jl rfl (nW aJ))
 (aG (qW qe rfl rfl (uX Tp.z8 gk (gv 1)) (uZ 4 nd rfl jc rfl) (aG (fO 3 nd rfl jl rfl (fW qT (gv 3) (oG (au (top 46)) N36 ["_law_other"] ["_law_one","_law_pen_here","_law_often"] [4,0,2] rfl rfl rfl Dc Dc (mO 0) Dc (zo5 Tp.z8 gk (fW qT (gv 4) aN) (gv 1)) (λ_ _ _ _ _ _=>(mR 0 Dc rfl Dc)) (λ_ _ _ _ _ _=>(uW (jf (Br hr) (gc Fk.yW Tp.wW hr yK vd (aB (bI 2) (aB aN aJ))) (bI 3)))) (λ_ _ _ _ _ _=>(fj (aB (bI 1) (aB (bI 0) aJ)))))))
 aM))
 (aG (bM (fj (aB (gv 1) (aB (t_ Tp.z3 gk (aB (gv 3) aJ)) aJ))))
 aM))))
 V_:=fJ Tp.Nm ["_law_k","_law_one","_law_other","_law_there"] zo3 λ_ _ _ _ _ _ hr=>(aG (fO 3 nd rfl jl rfl (znr Tp.z14 gk (aB (fW wA (gv 1) (gv 2)) aJ)))
 (aG (bM (Zw rfl Tp.Nu gk (aB (gv 3) (aB (fW wA (gv 0) (gv 3)) aJ))))
 aM))
 Wa:=fJ Tp.Np N38 zoB λ_ _ _ _ _ _ hr=>(aG (fO 3 nd rfl jc rfl (bQ (nW (aB aN (aB aN (aB aN aJ)))) (gc Fk.yW Tp.wW hr cL gk (aB (gv 0) (aB aN aJ)))))
 (aG (bM (t_ Tp.z3 gk (aB (oG (au (top 48)) N38 ["_law_place"] ["_law_pen_here","_law_often","_law_ring"] [0,3,2] rfl rfl rfl Dc Dc (mO 0) Dc (uX Tp.z8 gk (bQ (gv 1) aN)) (λ_ _ _ _ _ _=>(mR 0 Dc rfl Dc)) (λ_ _ _ _ _ _=>qU) (λ_ _ _ _ _ _=>(Bs (jf (Br hr) (gc Fk.yW Tp.wW hr yK vd (aB (bI 1) (aB aN aJ))) (bI 2)) (gc Fk.yW Tp.wW hr yK vd (aB (bI 1) (aB (bQ (bI 3) aN) aJ))) rK))) aJ)))
 aM))
 t39:=fJ Tp.VR Vr zon λ_ _ _ _ _ _ hr=>(aG (fO 3 nd rfl jc rfl (nW (aB aN aJ)))
 (aG (zjz qe (jf (Dv hr) (gv 3) (nW aJ)) (aG (fO 4 nd rfl jc rfl (fW wA (tZ Tp.z4 gk (aB (gv 3) aJ)) aN))
 (aG (dY (jf (tX hr) (bQ (gv 3) (yF aN)) (bQ (gv 1) aN)) (aG (uY (znV (gv 3)))
 (aG (dY (jf (Dv hr) (gv 3) (nW aJ)) (aG (DK (gv 3) (yF aN) (fW qT (bQ (gv 3) (yF aN)) aN))
 aM) aM)
 aM)) (aG (Jc 5 (au (top 49)) Vr ["_law_one","_law_other"] ["_law_row","_law_place"] [3,4] nd rfl jl rfl rfl rfl rfl Dc Dc (IK 0 1) Dc (kE (bQ (gv 0) aN)) (λ_ _ _ _ _ _=>(Mx 0 1 rfl Dc rfl rfl Dc Dc)) (λ_ _ _ _ _ _=>(uW (jf (tX hr) (bI 1) (bI 3)))) (λ_ _ _ _ _ _=>(bQ (bI 2) (bI 0))))
 (aG (Jc 6 (au (top 49)) Vr ["_law_spot"] ["_law_ring","_law_row"] [1,3] nd rfl jl rfl rfl rfl rfl Dc Dc (mO 0) Dc (kE (gv 5)) (λ_ _ _ _ _ _=>(mR 0 Dc rfl Dc)) (λ_ _ _ _ _ _=>(uW (jf (Br hr) (gc Fk.V_ Tp.Nm hr yK vd (aB (bQ (bI 1) aN) (aB (bI 0) (aB (bQ (bI 2) (yF aN)) aJ)))) (bQ (bI 1) aN)))) (λ_ _ _ _ _ _=>(bI 0)))
 (aG (dY (yI (yH (jf (Dv hr) (gv 6) (nW aJ)) (Dw (jf (Sw hr) (bQ (gv 2) (gv 4)) (fj (aB rK (aB (bQ (gv 3) (yF aN)) aJ))))))) (aG (DK (gv 3) (yF aN) (fW qT (bQ (gv 3) (yF aN)) aN))
 aM) (aG (dY (jf (tX hr) (tZ Tp.z4 gk (aB (gv 3) aJ)) (bQ (gv 0) aN)) (aG (bM (t_ Tp.z3 gk (aB (gv 3) aJ)))
 aM) (aG (uY (Dy (gv 3) aN))
 aM))
 aM))
 aM))))
 aM)))
 (aG (bM rK)
 aM)))
 t40:=fJ Tp.V0 Vt zoK λ_ _ _ _ _ _ hr=>(aG (fO 4 nd rfl jc rfl (nW aJ))
 (aG (qW qe rfl rfl (kE (bQ (gv 0) aN)) (S5 5 6 rfl rfl nd rfl rfl jl jl rfl rfl) (aG (dY (jf (IW hr) (gv 3) (fj (aB (gv 5) (aB (gv 6) aJ)))) (aG (uY (Dy (gv 4) (bQ (gv 2) (fW wA (fW qT (gv 5) (gv 6)) (gv 3)))))
 aM) aM)
 aM))
 (aG (fO 4 nd rfl jc rfl (oG (au (top 50)) Vt ["_law_spot"] [] [] rfl rfl rfl Dc Dc (mO 0) Dc (kE (gv 4)) (λ_ _ _ _ _ _=>(mR 0 Dc rfl Dc)) (λ_ _ _ _ _ _=>(uW (wF (bI 0)))) (λ_ _ _ _ _ _=>(bI 0))))
 (aG (Jc 7 (au (top 50)) Vt ["_law_spot"] ["_law_near","_law_ring"] [4,1] nd rfl jl rfl rfl rfl rfl Dc Dc (mO 0) Dc (uX Tp.z8 gk (bQ (gv 1) aN)) (λ_ _ _ _ _ _=>(mR 0 Dc rfl Dc)) (λ_ _ _ _ _ _=>(uW (jf (tX hr) (Zx ["_law_spot","_law_near","_law_ring"] ["_law_one"] ["_law_ring","_law_spot"] [2,0] rfl rfl Dc Dc (mO 0) Dc (kE (bI 1)) (λ_ _ _ _ _ _=>(mR 0 Dc rfl Dc)) (λ_ _ _ _ _ _=>(uW (jf (Br hr) (gc Fk.V_ Tp.Nm hr yK vd (aB (bQ (bI 1) aN) (aB (bI 0) (aB (bI 2) aJ)))) (bQ (bI 1) aN)))) (λ_ _ _ _ _ _=>(bI 0))) (nW aJ)))) (λ_ _ _ _ _ _=>(bI 0)))
 (aG (bM (Bs (Mv (bQ (gv 2) (gv 3))) (wD (tX hr) (gv 7) (nW aJ)) (wD (Sw hr) (bQ (gv 2) (gv 3)) (gv 7))))
 aM)))))
 t41:=fJ Tp.V1 ["_law_known_here","_law_place","_law_spot"] zoW λ_ _ _ _ _ _ hr=>(aG (bM (fW qT (fW qT (Mw (gv 0) Sy (I8 (gv 1))) (fj (aB (gv 2) aJ))) (Mw (gv 0) (I8 (fW qT (gv 1) aN)) Sy)))
 aM)
 Wb:=fJ Tp.Nq ["_law_web_here","_law_ring","_law_known_here","_law_thing","_law_spot"] zoP λ_ _ _ _ _ _ hr=>(aG (dY (yI (yH (mQ (jo (wH rfl Tp.z0 gk (gv 3) (wG rfl Tp.z3 Du gk dk)))) (yH (jf (Sw hr) (tZ Tp.z4 gk (aB (gv 3) aJ)) (fj (aB aN (aB aN aJ)))) (Dw (mQ (jo (wH rfl Tp.z0 gk (bQ (gv 3) aN) (wG rfl Tp.z15 zk6 gk dk)))))))) (aG (bM jU)
 aM) aM)
 (aG (dY (yI (yH (mQ (jo (gc Fk.t35 Tp.VN hr cL gk (aB (bQ (gv 3) aN) aJ)))) (Dw (znJ Tp.z8 gk (bQ (gv 3) aN) (bQ (gv 0) aN))))) (aG (bM jU)
 aM) aM)
 (aG (dY (jf (tX hr) (tZ Tp.z4 gk (aB (gv 3) aJ)) aN) (aG (bM (wB (wD (tX hr) (bQ (gv 3) aN) Zj) (uV (gc Fk.t40 Tp.V0 hr cL gk (aB (gv 0) (aB (gv 1) (aB (gv 2) (aB (bQ (gv 3) aN) aJ))))))))
 aM) aM)
 (aG (dY (yI (yH (jf (Dv hr) (bQ (gv 3) aN) Zj) (yH (wF (bQ (gv 2) (bQ (gv 3) aN))) (Dw (mQ (jo (wH rfl Tp.z0 gk (bQ (gv 3) aN) (wG rfl Tp.z3 Du gk dk)))))))) (aG (bM jU)
 aM) aM)
 (aG (dY (jf (Dv hr) (tZ Tp.z4 gk (aB (bQ (gv 3) aN) aJ)) (bQ (gv 1) aN)) (aG (bM jU)
 aM) aM)
 (aG (qW qe rfl rfl (uX Tp.z8 gk (bQ (gv 1) aN)) (uZ 4 nd rfl jl rfl) (aG (dY (mQ (jo (gc Fk.Wb Tp.Nq hr cL gk (aB (gv 0) (aB (gv 1) (aB (gc Fk.t41 Tp.V1 hr cL gk (aB (gv 2) (aB (bQ (gv 3) aN) (aB (gv 4) aJ)))) (aB (bQ (bQ (gv 3) aN) (gv 4)) aJ))))))) (aG (bM jU)
 aM) aM)
 aM))
 (aG (bM jU)
 aM)))))))
 NQ:=fJ Tp.J3 ["_law_web_here","_law_ring","_law_known_here","_law_due","_law_turn","_law_found"] zoM λ_ _ _ _ _ _ hr=>(aG (fO 3 nd rfl jl rfl (gc Fk.t39 Tp.VR hr cL gk (aB (gv 0) (aB (gv 1) (aB (gv 2) aJ)))))
 (aG (qW qe rfl rfl (uX Tp.z8 gk aN) (uZ 4 nd rfl jl rfl) (aG (fO 5 nd rfl jl rfl (gc Fk.t28 Tp.VF hr cL gk (aB (gv 0) (aB (gv 1) (aB (gv 2) aJ)))))
 (aG (dY (jf (Dv hr) (Sx (gv 5)) (Zr (gv 3))) (aG (bM jU)
 aM) aM)
 (aG (dY (yI (Zv (wF (gv 5)) (Zu (mQ (jo (gc Fk.Wb Tp.Nq hr cL gk (aB (gv 0) (aB (gv 1) (aB (gv 2) (aB (gv 5) aJ)))))))))) (aG (bM jU)
 aM) aM)
 aM))))
 (aG (bM jU)
 aM)))
 t44:=fJ Tp.Nr ["_law_script","_law_cell_here","_law_pen_here","_law_web_here","_law_ring","_law_known_here"] zoR λ_ _ _ _ _ _ hr=>(aG (dY (yI (yH (mQ (jo (gc Fk.NQ Tp.J3 hr cL gk (aB (fj (aB aN (aB (fj aJ) aJ))) (aB (fj (aB aN (aB aN aJ))) (aB (fj (aB rK aJ)) aJ)))))) (Dw (mQ (jo (gc Fk.NQ Tp.J3 hr cL gk (aB (fj (aB aN (aB (fj (aB (fj (aB aN (aB aN aJ))) (aB (fj (aB aN (aB aN aJ))) (aB (fj (aB aN (aB aN aJ))) aJ)))) aJ))) (aB (fj (aB aN (aB aN aJ))) (aB (fW ziy (fj (aB rK aJ)) aN) aJ))))))))) (aG (bM jU)
 aM) aM)
 (aG (qW qe rfl rfl (kE (fW qT (nW (aB (gc Fk.t32 Tp.VJ hr cL gk (aB (gv 0) (aB aN aJ))) aJ)) (Mw (gv 0) (I8 aN) (I8 aN)))) (uZ 1 nd rfl jl rfl) (aG (fO 2 nd rfl jl rfl (gc Fk.t33 Tp.VL hr cL gk (aB (gv 1) aJ)))
 (aG (fO 3 nd rfl jl rfl (gc Fk.t36 Tp.VP hr cL gk (aB (gv 2) (aB (fW qT aN (gc Fk.yW Tp.wW hr cL gk (aB (gv 2) (aB aN aJ)))) aJ))))
 (aG (fO 4 nd rfl jl rfl (bQ (nW (aB (fj (aB aN (aB aN aJ))) (aB (fj (aB aN (aB aN aJ))) (aB (fj (aB aN (aB aN aJ))) (aB (fj (aB aN (aB aN aJ))) (aB (fj (aB aN (aB aN aJ))) (aB (fj (aB aN (aB aN aJ))) (aB (fj (aB aN (aB aN aJ))) aJ)))))))) (gc Fk.yW Tp.wW hr cL gk (aB (gv 2) (aB aN aJ)))))
 (aG (qW qe rfl rfl (kE (nW (aB (fW ziy (fj (aB rK aJ)) (bQ (gv 3) aN)) (aB (gc Fk.Wa Tp.Np hr cL gk (aB (gv 2) (aB (gv 3) (aB (gv 4) aJ)))) (aB (gc Fk.Wa Tp.Np hr cL gk (aB (gv 2) (aB (gv 3) (aB (gv 4) aJ)))) aJ))))) (uZ 5 nd rfl jl rfl) (aG (dY (mQ (jo (gc Fk.NQ Tp.J3 hr cL gk (aB (gv 3) (aB (gv 4) (aB (gv 5) aJ)))))) (aG (bM jU)
 aM) aM)
 aM))
 aM)))))
 (aG (bM jU)
 aM)))
theorem zih(Tp:Top K mg):∀k,Fs P w K mg base k
 |0=>⟨dF,dF,dF,dF,dF,dF,dF,dF,dF,dF,zhK,dF,dF,dF,dF,dF,dF,dF,dF,dF,dF,dF,dF,dF,dF,dF,dF,dF,dF,dF,dF,dF,dF,dF,dF,dF,dF,dF,dF,dF,dF,dF,dF,dF,dF⟩
 |k+1=>zjB Tp (zih Tp k)
end
theorem all_mk{l:PySem.W.OpenLaw}{w:World}{K:W.Frag}{h:Heap}{mg:Str->Option Value}{fa:Addr}(hm:∀ns:List Int,ns.length<=63->∃s',call aq T 60 true 44 [.d (.fl (ns.map D.int))] []=some (.ok (.d (.bl true)),s'))
  (S:qm fs ms xs lk bd K) (X:K.In h) (G:h.Ns mainGlobals mg) (Wc:mg "law"=some (.ref fa)) :
  ∃fd:FuncData,(∀(s:Shared) (u:Value),BindsTo s fd ⟨[u],[]⟩ [("_law_script",u)])/\∀base:Heap,K.In base->base.Ns mainGlobals mg->bZ l.prog w K mg base (gA l.prog w) true 60 fa fd ["_law_script"] (tR K):=by
 have Tp:Top K mg:=zkO S X G;have e:=Wc.symm.trans Tp.Nr.m;cases e;exact⟨_,Bv Tp.Nr.f (λ_ _ _ _ _ _ _=>rfl),λbase _ _=>(zih Tp 60).t44.imp (zjH hm)⟩
end dW
namespace dW
open PySem Mi
section
variable {al:Bool}{n k:Nat}{es:Nat->List Int}{A:Int->Int->Bool}{F:Fr}{p:Nat}{x y:Int}
theorem zlA{k':Nat}(hx:0<=x/\x<k)(hy:0<=y/\y<k):W (call aq T (k'+1) true 11 [.d (jV al n k es A),.d (.int x),.d (.int y)]) [] λv s=>v=.d (.bl (A x y)):=by
 refine W.call zoz rfl ?_;unfold Us jV;refine Y ?_;refine cH (uf hx.1 (zof hx.1 hx.2)) ?_;refine Y ?_;refine cH (uf hy.1 (Uh hy.1 hy.2)) ?_;exact Y trivial
theorem J5{k':Nat}(B:Bo n k es A)(v:Fv n k F)(hp:p<n)(hx:0<=x/\x<k):W (call aq T (k'+2) true 12 [.d (jV al n k es A),.d (iu F),.d (.int p),.d (.int x)]) [] λv s=>v=.d (iu (settle es A F p x)):=by
 refine W.call zoy rfl ?_;unfold Ut iu;have n_:(100:Nat)<=sizeLine:=by decide
 have hn:=B.hn;have hv:=v.len;have ebo:jV al n k es A=.ob 0 [.fl (yR n es),.tup ((eN k).map .int),.fl (uq k A),.bl al]:=rfl;refine Y ?_;refine Ka2 rfl ?_;refine Y ?_;refine⟨_,zh2 gV (by rw[cj];lia),?_⟩;refine Y ?_;refine cH (uf gV (Ug gV)) ?_;refine Y ?_;refine u9 (λi J s=>s=[.lst ((((es p).take i).foldl (fP (A x)) (F.set p none)).map aU)]/\∃a5:Option Xv,J=[some (.d (jV al n k es A)),some (.d (.tup (F.map aU))),some (.d (.int p)),some (.d (.int x)),some (.l 0),a5]) ⟨?_,_,rfl⟩ (λi z J s e hI=>?_) (λJ s hI=>?_)
 ·show [SO.lst ((F.map aU).set p .non)]=_;rw[List.take_zero,List.foldl_nil,List.map_set];rfl
 ·obtain⟨rfl,a5,rfl⟩:=hI;rw[fB] at e;cases ei:(es p)[i]? with
  |none=>
   rw[jA,ei] at e;cases e
  |some q=>
   rw[jA,ei] at e;cases e;have hq:=B.mem p hp q (dM ei);have ht:(es p).take (i+1)=(es p).take i++[q]:=by rw[Cz,ei];rfl
   rw[ht,List.foldl_append,KD,List.foldl_nil];have hG:(((es p).take i).foldl (fP (A x)) (F.set p none)).length=n:=by rw[Ua,ou,hv]
   have lo:∀L,(((es p).take i).foldl (fP (A x)) (F.set p none))[q.toNat]?=some (some L)->(∀y∈L,0<=y/\y<k)/\L.length<=24:=λL hL=>by
    rw[Ub q.toNat (λe he=>(B.mem p hp e (List.mem_of_mem_take he)).1) (by rw[ou];lia),mW gV] at hL;have hz:∀L',F[q.toNat]?=some (some L')->(∀y∈L',0<=y/\y<k)/\L'.length<=24:=λL' h=>⟨v.lo _ L' h,v.ll _ L' h⟩;split at hL
    ·obtain⟨c,e1,e2⟩:=iZ.mp hL;cases c with
     |none=>cases e2
     |some L'=>
      cases e2;exact⟨λy hy=>(hz L' e1).1 y (oh.mp hy).1,kW (Oi _ _) (hz L' e1).2⟩
    ·exact hz L hL
   generalize ((es p).take i).foldl (fP (A x)) (F.set p none)=G at hG lo ⊢;obtain⟨c,ec⟩ : ∃c,G[q.toNat]?=some c:=⟨_,cP gV⟩;refine Y ?_;refine cH (uf hq.1 (JM ec)) ?_;refine Y ?_;cases c with
   |none=>
    refine Y ?_;exact⟨_,rfl,by rw[zgV ec],_,rfl⟩
   |some L=>
    obtain⟨l1,l2⟩:=lo L ec;refine Y ?_;refine n6 (l:=L) (f:=D.int) (λy=>if A x y=true then some (.int y) else none) gV ?_ (λy hy=>?_) ?_
    ·refine Y ?_;refine cH (uf hq.1 (JM ec)) ?_;show W (src (.d (.tup (L.map .int)))) _ _;refine Y ?_;exact⟨rfl,rfl⟩
    ·refine Y ?_;refine W.cm rfl rfl (W.c0 (zlA hx (l1 y hy)) ?_);refine Y ?_;refine⟨rfl,λhb=>?_,λhb=>?_⟩
     ·refine Y ?_;exact⟨rfl,_,rfl,by rw[if_pos hb]⟩
     ·rw[if_neg (by rw[hb];decide)]
    ·rw[Ui (α:=Unit)];refine Y ?_;refine⟨_,zh2 hq.1 (by rw[cj];lia),?_⟩;refine Y ?_;refine⟨_,rfl,?_,_,rfl⟩;rw[zjC,ec];rfl
 ·obtain⟨rfl,a5,rfl⟩:=hI;rw[cj,jA,xH];refine Y ?_;rfl
theorem zh8{k':Nat}(B:Bo n k es A)(v:Fv n k F)(hp:p<n):W (call aq T (k'+1) true 13 [.d (jV al n k es A),.d (iu F),.d (.int p)]) [] λv s=>v=.d (.int (dG es F p)):=by
 refine W.call zoA rfl ?_;unfold Uu iu jV;have n_:(100:Nat)<=sizeLine:=by decide
 have hn:=B.hn;have hv:=v.len;have hl:=B.len p hp;refine Y ?_;refine n6 (l:=es p) (f:=D.int) (λe=>if ((λe:Int=>(F[e.toNat]?.join).isSome) e)=true then some (.int e) else none) gV ?_ (λe he=>?_) ?_
 ·refine Y ?_;refine cH (uf gV (Ug gV)) ?_;rw[jA];refine Y ?_;exact⟨rfl,rfl⟩
 ·have hq:=B.mem p hp e he;obtain⟨c,ec⟩ : ∃c,F[e.toNat]?=some c:=⟨_,cP gV⟩;refine Y ?_;refine cH (uf hq.1 (JM ec)) ?_;refine Y ?_;have hc:(F[e.toNat]?.join).isSome=c.isSome:=by rw[ec];rfl
  have hd:(!(aU c).jJ)=c.isSome:=by cases c<;>rfl
  rw[hd];refine⟨rfl,λhb=>?_,λhb=>?_⟩
  ·refine Y ?_;exact⟨rfl,_,rfl,if_pos (hc.trans hb)⟩
  ·exact if_neg (λz=>by rw[hc.symm.trans z] at hb;cases hb)
 ·rw[Ui (α:=Unit)];refine Y ?_;show Xv.d (.int (((((es p).filter _).map D.int).length:Nat):Int))=_;rw[cj];rfl
theorem zgs{k':Nat}(B:Bo n k es A)(v:Fv n k F):W (call aq T (k'+2) true 14 [.d (jV al n k es A),.d (iu F)]) [] λv s=>v=.d (iu (bnd es F)):=by
 refine W.call zoo rfl ?_;unfold Uv;have n_:(100:Nat)<=sizeLine:=by decide
 have hn:=B.hn;have hv:=v.len;refine Y ?_;refine n6 (l:=F.zipIdx 0) (f:=λq=>.tup [.int q.2,aU q.1]) (λq=>some (aU (if 0<dG es F q.2 then q.1 else none))) (by rw[List.length_zipIdx];lia) ?_ (λq hq=>?_) ?_
 ·refine KaR ?_;refine Y ?_;refine Ud ?_;rw[zbw];exact⟨rfl,rfl⟩
 ·obtain⟨c,i⟩:=q;have hi:i<n:=by
   have:=List.mem_zipIdx hq
   lia
  refine Y ?_;refine⟨rfl,λ_=>?_,λhb=>by cases hb⟩;refine Y ?_;refine W.cm rfl rfl (W.c0 (zh8 B v hi) ?_);refine Y ?_;refine W.ite (λh1=>?_) (λh1=>?_)
  ·refine Y ?_;have h1:0<dG es F i:=by simpa using h1
   exact⟨rfl,_,rfl,by rw[if_pos h1]⟩
  ·refine Y ?_;have h1:¬0<dG es F i:=by simpa using h1
   exact⟨rfl,_,rfl,by rw[if_neg h1];rfl⟩
 ·rw[u_];refine Y ?_;show Xv.d (.tup _)=_;unfold iu bnd;rw[List.mapIdx_eq_zipIdx_map,zF];rfl
end
theorem zho{k:Nat}{n i:Int}{ps:List (Int×Int)}(h:Web n ps):W (call aq T (k+1) true 8 [.d (bJ n ps),.d (.int i)]) [] λv s=>v=.d (.tup ((aA i ps).map .int)):=by
 refine W.call T_8 rfl ?_;unfold b8 bJ;have hl:(ps.map h_).length<=100:=by rw[cj];have:=h.len;have:=h.h8;lia
 have hs:(100:Nat)<=sizeLine:=by decide
 refine Y ?_;refine n6 (l:=ps) (f:=h_) (λp=>(endOf i p).map .int) (by rw[cj] at hl;lia) ?_ (λp hp=>?_) ?_
 ·refine Y ?_;exact⟨rfl,rfl⟩
 ·obtain⟨a,b⟩:=p;refine Y ?_;refine⟨rfl,λhb=>?_,λhb=>?_⟩
  ·refine Y ?_;refine W.ite (λh1=>?_) (λh1=>?_)
   ·refine Y ?_;refine⟨rfl,_,rfl,?_⟩;have h1:a=i:=by simpa using h1
    simp[endOf,h1]
   ·refine Y ?_;refine⟨rfl,_,rfl,?_⟩;simp[pI] at h1 hb;rcases hb with hb|hb
    ·exact absurd hb h1
    ·simp[endOf,h1,hb]
  ·simp[pI] at hb;simp[endOf,hb]
 ·have he:ps.filterMap (λp=>(endOf i p).map D.int)=(aA i ps).map D.int:=by unfold aA;rw[OD]
  rw[he];refine Y ?_;refine MJ (zfT (zhF ?_ (zes h i))) ?_
  ·have:=wY (endOf i) ps;have:=h.len;have:=h.h8;unfold aA
   lia
  exact Y trivial
section
variable {al:Bool}{n k:Nat}{es:Nat->List Int}{A:Int->Int->Bool}{F:Fr}{p:Nat}{x y:Int}
theorem Wd{k':Nat}(B:Bo n k es A)(v:Fv n k F):W (call aq T (k'+2) true 15 [.d (jV al n k es A),.d (iu F)]) [] λv s=>(v=.d .non/\∀(i:Nat) L,F[i]?≠some (some L))\/∃(p:Nat) (L:List Int),v=.d (.int p)/\F[p]?=some (some L):=by
 refine W.call zoS rfl ?_;unfold Uw;have n_:(100:Nat)<=sizeLine:=by decide
 have hn:=B.hn;have hv:=v.len;refine Y ?_;refine Ud ?_;refine u9 (λi J s=>∃(rs:List (List Int)) (a3 a4:Option Xv),s=[.lst (rs.map λr=>D.tup (r.map .int))]/\J=[some (.d (jV al n k es A)),some (.d (iu F)),some (.l 0),a3,a4]/\rs.length<=i/\(∀r∈rs,∃(a b:Int) (p:Nat) (L:List Int),r=[a,b,(p:Int)]/\F[p]?=some (some L))/\(rs=[]->∀j,j<i->∀L,F[j]?≠some (some L))) ⟨[],_,_,rfl,rfl,bU _,by simp,λ_ j hj=>absurd hj gV⟩ (λi z J s e hI=>?_) (λJ s hI=>?_)
 ·obtain⟨rs,a3,a4,rfl,rfl,hl,h1,h2⟩:=hI;rw[Tv,fB] at e;cases ei:F[i]? with
  |none=>rw[ei] at e;cases e
  |some c=>
   rw[ei] at e;cases e;have hi:i<n:=by have:=(cI.mp ei).1;lia
   cases c with
   |none=>
    refine Y ?_;refine⟨_,rfl,rs,_,_,rfl,rfl,by lia,h1,λer j hj L=>?_⟩;by_cases z:j=i
    ·rw[z,ei];exact λq=>by cases q
    ·exact h2 er j gV L
   |some L=>
    refine Y ?_;refine W.cm rfl rfl (W.c0 (zh8 (p:=0+i) B v gV) ?_);refine Y ?_;refine⟨by rw[cj];lia,?_⟩;refine Y ?_;refine⟨_,rfl,rs++[[(((L.map D.int).length:Nat):Int),-(dG es F (0+i):Int),((0+i:Nat):Int)]],_,_,?_,rfl,by simp;lia,λr hr=>?_,λer=>by simp at er⟩
    ·rw[qy];rfl
    ·rcases kO.mp hr with hr|hr
     ·exact h1 r hr
     ·rw[rT.mp hr];exact⟨_,_,i,L,by rw[Fe],ei⟩
 ·obtain⟨rs,a3,a4,rfl,rfl,hl,h1,h2⟩:=hI;rw[Tw,cj] at h2;refine Y ?_;refine W.Dn ?_;refine Y ?_;refine⟨_,rfl,?_⟩;by_cases er:rs=[]
  ·subst er;refine Y ?_;refine .inl ⟨rfl,λi L e=>?_⟩;exact h2 rfl i (cI.mp e).1 L e
  ·have et:(!(rs.map λr=>D.tup (r.map .int)).isEmpty)=true:=by
    cases rs with
    |nil=>exact absurd rfl er
    |cons=>rfl
   rw[et];obtain⟨r,hr,em⟩:=zmD er;refine Y ?_;refine cH em ?_;obtain⟨a,b,p,L,rfl,ep⟩:=h1 r hr;refine Y ?_;exact .inr ⟨p,L,rfl,ep⟩
noncomputable def Wf(k:Nat):Option (List Int)->Bool
 |none=>true
 |some L=>decide (L=eN k)
theorem ze9{k':Nat}(B:Bo n k es A)(v:Fv n k F):W (call aq T (k'+1) true 16 [.d (jV al n k es A),.d (iu F)]) [] λv s=>v=.d (.bl (F.all (Wf k))):=by
 refine W.call zoO rfl ?_;unfold Ux;have n_:(100:Nat)<=sizeLine:=by decide
 have hn:=B.hn;have hv:=v.len;refine Y ?_;refine n6 (l:=F) (f:=aU) (λc=>some (.bl (Wf k c))) gV ?_ (λc hc=>?_) ?_
 ·refine Y ?_;show W (src (.d (.tup (F.map aU)))) _ _;refine Y ?_;exact⟨rfl,rfl⟩
 ·cases c with
  |none=>
   refine Y ?_;refine⟨rfl,λ_=>?_,λhb=>by cases hb⟩;refine Y ?_;exact⟨rfl,_,rfl,rfl⟩
  |some L=>
   refine Y ?_;refine⟨rfl,λ_=>?_,λhb=>by cases hb⟩;refine Y ?_;refine cH (znc (f:=id)) ?_;exact⟨rfl,_,rfl,rfl⟩
 ·rw[u_];refine Y ?_;refine cH T3 ?_;rfl
end
section
variable {n k d:Int}{ps:List (Int×Int)}
theorem zfz{k':Nat}(h:Web n ps):W (call aq T (k'+2) true 9 [.d (bJ n ps)]) [] λv s=>v=.d (.fl (yR n.toNat λi=>aA i ps)):=by
 refine W.call T_9 rfl ?_;unfold b9;have n_:(100:Nat)<=sizeLine:=by decide
 have h1:=h.h1;have h8:=h.h8;refine Y ?_;refine n6 (l:=List.range (n-0).toNat) (f:=λ(j:Nat)=>.int (0+j)) (λ(i:Nat)=>some (.tup ((aA i ps).map .int))) (by rw[qx];lia) ?_ (λj hj=>?_) ?_
 ·unfold bJ;refine Y ?_;refine⟨by rw[lC gV gV,lC gV gV];rfl,?_⟩;exact⟨rfl,rfl⟩
 ·refine Y ?_;refine⟨rfl,λ_=>?_,λhb=>by cases hb⟩;refine Y ?_;refine W.c0 (zho h) ?_;exact⟨rfl,_,rfl,by rw[show (0:Int)+j=j by lia]⟩
 ·rw[show (List.range (n-0).toNat).filterMap (λ(i:Nat)=>some (D.tup ((aA i ps).map .int)))=yR n.toNat λi=>aA i ps by rw[u_,show n-0=n by lia];rfl];exact Y trivial
theorem zkP{k':Nat}{al:Bool}{A:Int->Int->Bool}(h:Web n ps){m:Nat}(hm:m<=24):W (call aq T (k'+3) true 10 [.d .any,.d (bJ n ps),.d (.fl (uq m A)),.d (.bl al)]) [] λv s=>v=.d (.tup [.fl (yR n.toNat λi=>aA i ps),.tup ((eN m).map .int),.fl (uq m A),.bl al]):=by
 refine W.call zoX rfl ?_;unfold b10;refine Y ?_;refine W.c0 (zfz h) ?_;have em:(uq m A).length=m:=by unfold uq;simp
 refine Kak (Ka6 (ds:=[.int ((uq m A).length:Nat)]) rfl (cH (d:=.tup ((eN m).map .int)) (by rw[em];exact znK gV) ?_));exact Y trivial
theorem zf5{k':Nat}(h:Web n ps)(hd:1<=d)(rQ:d<=k)(hk:k<=24):W (call aq T (k'+4) true 17 [.d (bJ n ps),.d (bB k d)]) [] λv s=>v=.d (yS n.toNat k.toNat (λi=>aA i ps) (bf k d)):=by
 refine W.call zoY rfl ?_;unfold Uy bB;have n_:(100:Nat)<=sizeLine:=by decide
 have e0:(k-0).toNat=k.toNat:=by lia
 refine Y ?_;refine n6 (l:=List.range (k-0).toNat) (f:=λ(j:Nat)=>.int (0+j)) (λ(j:Nat)=>some (.bl ((λj:Int=>decide (d<=j/\d<=k-j)) j))) (by rw[qx];lia) ?_ (λj hj=>?_) ?_
 ·refine Y ?_;refine⟨by rw[lC gV gV,lC gV gV];rfl,?_⟩;exact⟨rfl,rfl⟩
 ·refine Y ?_;refine⟨rfl,λ_=>?_,λhb=>by cases hb⟩;refine Y ?_;refine⟨rfl,_,rfl,?_⟩
  congr 2
  rw[Cu]
  split<;>lia
 ·rw[u_,e0];refine Y ?_;refine W.mk (vs:=[.d (bJ n ps),.d (.fl (uq k.toNat (bf k d))),.d (.bl true)]) ?_ rfl (zkP h gV);refine Y ?_;refine n6 (l:=List.range (k-0).toNat) (f:=λ(j:Nat)=>.int (0+j)) (λ(a:Nat)=>some (.fl ((List.range k.toNat).map λ(b:Nat)=>.bl (bf k d a b)))) (by rw[qx];lia) ?_ (λa ha=>?_) ?_
  ·refine Y ?_;refine⟨by rw[lC gV gV,lC gV gV];rfl,?_⟩;exact⟨rfl,rfl⟩
  ·have ha:=uG.mp ha;refine Y ?_;refine⟨rfl,λ_=>?_,λhb=>by cases hb⟩;refine Y ?_;refine n6 (l:=List.range (k-0).toNat) (f:=λ(j:Nat)=>.int (0+j)) (λ(b:Nat)=>some (.bl (bf k d a b))) (by rw[qx];lia) ?_ (λb hb=>?_) ?_
   ·refine Y ?_;refine⟨by rw[lC gV gV,lC gV gV];rfl,?_⟩;exact⟨rfl,rfl⟩
   ·have hb:=uG.mp hb;refine Y ?_;refine⟨rfl,λ_=>?_,λhb=>by cases hb⟩;refine Y ?_;by_cases c:(0:Int)<=(0+a:Int)-(0+b)
    ·refine cH (uf c (Uh (f:=λj=>decide (d<=j/\d<=k-j)) c gV)) ?_;refine⟨rfl,_,rfl,?_⟩;unfold bf
     congr 2
     rw[Cu,DP hd]
     lia
    ·refine cH (zns (x:=.bl (decide (d<=a-b+k/\d<=k-(a-b+k)))) gV (by rw[cj,qx];lia) ?_) ?_
     ·rw[cj,qx];refine(Uh (f:=λj=>decide (d<=j/\d<=k-j)) gV gV).trans ?_
      congr 3
      simp
      lia
     ·refine⟨rfl,_,rfl,?_⟩;unfold bf
      congr 2
      rw[Cu,DP hd]
      lia
   ·rw[u_,e0];refine Y ?_;exact⟨rfl,_,rfl,rfl⟩
  ·rw[u_,e0];refine Y ?_;exact⟨rfl,rfl⟩
end
section
variable {al:Bool}{n k:Nat}{es:Nat->List Int}{A:Int->Int->Bool}
def Told(al:Bool)(n k:Nat)(es:Nat->List Int)(A:Int->Int->Bool)(f l m c:Nat):Prop:=∀F kvs,Fv n k F->unset F<=m->pD es A kvs->kvs.length+c<sizeLine->
 W (call aq T l true f [.d (jV al n k es A),.l 0,.d (iu F)]) [.dct kvs] λv s=>∃b kvs',v=.d (.bl b)/\(b=true↔Sat es A F)/\s=[.dct kvs']/\pD es A kvs'/\kvs'.length<=kvs.length+c
theorem NT{l m c:Nat}(B:Bo n k es A)(H:Told al n k es A 26 (l+2) m c){F:Fr}{p:Nat}{L:List Int}{kvs:gY}(v:Fv n k F)(hu:unset F<=m+1)(hL:F[p]?=some (some L))(ha:pD es A kvs)(hl:kvs.length+k*c<sizeLine) :
  W (call aq T (l+3) true 25 [.d (jV al n k es A),.l 0,.d (iu F),.d (.int p)]) [.dct kvs] λv s=>∃kvs',s=[.dct kvs']/\pD es A kvs'/\kvs'.length<=kvs.length+k*c /\
   ((v=.d .non/\∀x∈L,¬Sat es A (settle es A F p x))\/∃x∈L,v=.d (.int x)/\Sat es A (settle es A F p x)/\∀y∈L,y<x->¬Sat es A (settle es A F p y)):=by
 refine W.call zoN rfl ?_;unfold U8;have n_:(100:Nat)<=sizeLine:=by decide
 have hp:=mV v.len hL;have hLk:L.length<=k:=zhY (v.so p L hL) (v.lo p L hL);refine Y ?_;refine cH (rN gV (JM hL)) ?_;show W (src (.d (.tup (L.map .int)))) _ _;refine Y ?_;refine M5 (λi J s=>∃(kvs':gY) (a4:Option Xv),s=[.dct kvs']/\J=[some (.d (jV al n k es A)),some (.l 0),some (.d (iu F)),some (.d (.int p)),a4]/\pD es A kvs'/\kvs'.length<=kvs.length+i*c/\∀j y,j<i->L[j]?=some y->¬Sat es A (settle es A F p y)) ⟨kvs,_,rfl,rfl,ha,by lia,λj _ hj=>absurd hj gV⟩ (λi z J s e hI=>?_) (λJ s hI=>?_)
 ·obtain⟨kvs',a4,rfl,rfl,h1,h2,h3⟩:=hI;rw[fB] at e;cases ei:L[i]? with
  |none=>rw[ei] at e;cases e
  |some x=>
   rw[ei] at e;cases e;have hi:i<L.length:=(cI.mp ei).1;have hx:=dM ei;have hc:(i+1)*c<=k*c:=zp _ gV;have lW:(i+1)*c=i*c+c:=zG ..;refine Y ?_;refine W.cm rfl rfl (W.c0 (J5 B v hp (v.lo p L hL x hx)) ?_);refine Y ?_;have hu2:=JL (es:=es) (A:=A) (x:=x) hL;refine rM (s:=[]) rfl ((H _ kvs' (JF B v hp) gV h1 gV).imp λv1 s1=>?_);rintro⟨b,cY,rfl,hb,rfl,g1,g2⟩;refine⟨_,_,rfl,rfl,?_⟩;refine Y ?_;cases b with
   |true=>
    refine Y ?_;refine .inr ⟨_,rfl,?_⟩;refine⟨cY,rfl,g1,by lia,.inr ⟨x,hx,rfl,hb.mp rfl,λy hy dh=>?_⟩⟩;obtain⟨j,hj,ej⟩:=xq hy;refine h3 j y ?_ (by rw[cP hj,ej]);obtain⟨_,ex⟩:=cI.mp ei;exact Nat.lt_of_not_le λq=>by
     rcases Nat.lt_or_eq_of_le q with q|q
     ·have:=List.pairwise_iff_getElem.mp (v.so p L hL) i j hi hj q
      lia
     ·subst q;lia
   |false=>
    refine Y ?_;refine .inl ⟨_,rfl,cY,_,rfl,rfl,g1,by lia,λj y hj ej=>?_⟩;by_cases q:j=i
    ·subst q;rw[ei] at ej;cases ej;exact λz=>by cases hb.mpr z
    ·exact h3 j y gV ej
 ·obtain⟨kvs',a4,rfl,rfl,h1,h2,h3⟩:=hI;rw[cj] at h2 h3;have hc:L.length*c<=k*c:=zp _ hLk;refine Y ?_;refine⟨kvs',rfl,h1,by lia,.inl ⟨rfl,λx hx=>?_⟩⟩;obtain⟨j,hj,ej⟩:=xq hx;exact h3 j x hj (by rw[cP hj,ej])
theorem zhS{l:Nat}(B:Bo n k es A):Told al n k es A 27 (l+3) 0 0:=by
 intro F kvs v hu ha hl;refine W.call Vo rfl ?_;unfold Nh;refine Y ?_;refine W.cm rfl rfl (oJ rfl ((Wd B v).imp λx s=>?_));rintro(⟨rfl,hz⟩|⟨p,L,rfl,hL⟩)
 ·refine⟨_,rfl,?_⟩;refine Y ?_;exact⟨true,kvs,rfl,⟨λ_=>Uc hz,λ_=>rfl⟩,rfl,ha,by lia⟩
 ·exact absurd hL (zeN gV p L)
theorem zhv{l m c:Nat}(B:Bo n k es A)(rO:1<=k)(iw:al=true->∀t a b:Int,0<=a->a<k->0<=b->b<k->A ((a+t)%k) ((b+t)%k)=A a b)(H:∀j,Told al n k es A 26 (l+2+j) m c):Told al n k es A 27 (l+4) (m+1) (k*c):=by
 intro F kvs v hu ha hl;refine W.call Vo rfl ?_;unfold Nh;have hkc:1*c<=k*c:=zp _ rO;refine Y ?_;refine W.cm rfl rfl (oJ rfl ((Wd B v).imp λx s=>?_));rintro(⟨rfl,hz⟩|⟨p,L,rfl,hL⟩)
 ·refine⟨_,rfl,?_⟩;refine Y ?_;exact⟨true,kvs,rfl,⟨λ_=>Uc hz,λ_=>rfl⟩,rfl,ha,by lia⟩
 ·refine⟨_,rfl,?_⟩;have hp:=mV v.len hL;cases al with
  |false=>
   refine Y ?_;refine rM (s:=[]) rfl ((NT B (H 0) v hu hL ha gV).imp λv1 s1=>?_);rintro⟨cY,rfl,g1,g2,h⟩;rcases h with ⟨rfl,jQ⟩|⟨x,hx,rfl,hs,_⟩
   ·refine⟨_,_,rfl,rfl,?_⟩;refine Y ?_;refine⟨false,cY,rfl,⟨λz=>(by cases z),λz=>?_⟩,rfl,g1,g2⟩;obtain⟨x,hx,q⟩:=(BR B v hp hL).mp z;exact absurd q (jQ x hx)
   ·refine⟨_,_,rfl,rfl,?_⟩;refine Y ?_;exact⟨true,cY,rfl,⟨λ_=>(BR B v hp hL).mpr ⟨x,hx,hs⟩,λ_=>rfl⟩,rfl,g1,g2⟩
  |true=>
  have iw:=iw rfl;refine Y ?_;refine W.cm rfl rfl (W.c0 (ze9 B v) ?_);refine Y ?_;cases eb:F.all (Wf k) with
  |true=>
   have all:∀(i:Nat) L,F[i]?=some (some L)->L=eN k:=λi L h=>kJ (fC.mp eb _ (dM h));refine Y ?_;refine W.cm rfl rfl (W.c0 (J5 B v hp ⟨by lia,by lia⟩) ?_);refine Y ?_;have hu2:=JL (es:=es) (A:=A) (x:=0) hL;refine rM (s:=[]) rfl ((H 1 _ kvs (JF B v hp) gV ha gV).imp λv1 s1=>?_);rintro⟨b,cY,rfl,hb,rfl,g1,g2⟩;refine⟨_,_,rfl,rfl,?_⟩;refine Y ?_;exact⟨b,cY,rfl,hb.trans (zfo B v hp rO iw all (all p L hL▸hL)).symm,rfl,g1,by lia⟩
  |false=>
   refine Y ?_;refine rM (s:=[]) rfl ((NT B (H 0) v hu hL ha gV).imp λv1 s1=>?_);rintro⟨cY,rfl,g1,g2,h⟩;rcases h with ⟨rfl,jQ⟩|⟨x,hx,rfl,hs,_⟩
   ·refine⟨_,_,rfl,rfl,?_⟩;refine Y ?_;refine⟨false,cY,rfl,⟨λz=>(by cases z),λz=>?_⟩,rfl,g1,g2⟩;obtain⟨x,hx,q⟩:=(BR B v hp hL).mp z;exact absurd q (jQ x hx)
   ·refine⟨_,_,rfl,rfl,?_⟩;refine Y ?_;exact⟨true,cY,rfl,⟨λ_=>(BR B v hp hL).mpr ⟨x,hx,hs⟩,λ_=>rfl⟩,rfl,g1,g2⟩
theorem zod{l c:Nat}(B:Bo n k es A){F:Fr}{kvs:gY}(v:Fv n k F)(ha:pD es A kvs)(hl:kvs.length+(1+c)<sizeLine)(H:W (call aq T (l+3) true 27 [.d (jV al n k es A),.l 0,.d (iu (bnd es F))]) [.dct kvs] λv s=>∃b kvs',v=.d (.bl b)/\(b=true↔Sat es A (bnd es F))/\s=[.dct kvs']/\pD es A kvs'/\kvs'.length<=kvs.length+c) :
  W (call aq T (l+4) true 26 [.d (jV al n k es A),.l 0,.d (iu F)]) [.dct kvs] λv s=>∃b kvs',v=.d (.bl b)/\(b=true↔Sat es A F)/\s=[.dct kvs']/\pD es A kvs'/\kvs'.length<=kvs.length+(1+c):=by
 refine W.call zos rfl ?_;unfold U9;refine Y ?_;refine cH (zll (f:=id)) ?_;by_cases e0:some []∈F
 ·rw[fZ e0];refine Y ?_;obtain⟨i,hi,ei⟩:=xq e0;refine⟨false,kvs,rfl,⟨λz=>(by cases z),λz=>absurd z (zjU (i:=i) (by rw[cP hi,ei]))⟩,rfl,ha,by lia⟩
 ·rw[gQ e0];have ne:∀(i:Nat) L,F[i]?=some (some L)->L≠[]:=λi L h q=>by subst q;exact e0 (dM h)
  have sb:=zgf B v ne;refine Y ?_;refine W.cm rfl rfl (W.c0 (zgs B v) ?_);refine Y ?_;refine W.vR rfl rfl (yQ _) rfl ?_;cases eg:bO ((bnd es F).map cellK) kvs with
  |some d=>
   obtain⟨b,rfl,hb⟩:=ha _ _ eg;refine Y ?_;refine W.kh rfl rfl (yQ _) rfl eg ?_;refine Y ?_;exact⟨b,kvs,rfl,hb.trans sb,rfl,ha,by lia⟩
  |none=>
   refine Y ?_;refine WS.dput rfl rfl (yQ _) ?_;refine Y ?_;refine rM (s:=[]) rfl (H.imp λv1 s1=>?_);rintro⟨b,cY,rfl,hb,rfl,g1,g2⟩;refine⟨_,_,rfl,rfl,?_⟩;refine⟨_,cY,rfl,rfl,by lia,?_⟩;refine Y ?_;refine W.kh (v:=.bl b) rfl rfl (yQ _) rfl (by rw[Nb,if_pos rfl]) ?_;refine Y ?_;have:=zen (q:=(bnd es F).map cellK) (d:=.bl b) (kvs:=cY);exact⟨b,_,rfl,hb.trans sb,rfl,zkd g1 hb,by lia⟩
theorem zlK{l m c:Nat}(B:Bo n k es A)(H:Told al n k es A 27 (l+3) m c):Told al n k es A 26 (l+4) m (1+c):=by
 intro F kvs v hu ha hl;have hu2:=zc7 (es:=es) (F:=F);exact zod B v ha hl (H _ kvs (zif v) gV ha gV)
theorem NZ(B:Bo n k es A)(rO:1<=k)(iw:al=true->∀t a b:Int,0<=a->a<k->0<=b->b<k->A ((a+t)%k) ((b+t)%k)=A a b):∀m j,Told al n k es A 26 (3*m+4+j) m (cnt k m)
 |0,j=>by
  rw[show 3*0+4+j=j+4 by lia];exact zlK (c:=0) B (zhS B)
 |m+1,j=>by
  rw[show 3*(m+1)+4+j=(3*m+3+j)+4 by lia];refine zlK B ?_;rw[show 3*m+3+j+3=(3*m+2+j)+4 by lia];refine zhv B rO iw λi=>?_;rw[show 3*m+2+j+2+i=3*m+4+(j+i) by lia];exact NZ B rO iw m (j+i)
end
section
variable {al:Bool}{n k:Nat}{es:Nat->List Int}{A:Int->Int->Bool}
theorem zji{k':Nat}(B:Bo n k es A)(rO:1<=k)(iw:al=true->∀t a b:Int,0<=a->a<k->0<=b->b<k->A ((a+t)%k) ((b+t)%k)=A a b){F0:Fr}(v0:Fv n k F0)(all:∀i,i<n->∃L,F0[i]?=some (some L)){c0 c1:Nat}(hz:c0+c1+tot k (n-1)<sizeLine)
  (Hc:W (call aq T (3*n+4+k') true 26 [.d (jV al n k es A),.l 0,.d (iu F0)]) [.dct []] λv s=>∃b kvs',v=.d (.bl b)/\(b=true↔Sat es A F0)/\s=[.dct kvs']/\pD es A kvs'/\kvs'.length<=c0)
  (Hf:∀kvs L,F0[0]?=some (some L)->Sat es A F0->pD es A kvs->kvs.length<=c0->W (call aq T (3*n+1+k'+3) true 25 [.d (jV al n k es A),.l 0,.d (iu F0),.d (.int (0:Nat))]) [.dct kvs] λv s=>∃kvs',s=[.dct kvs']/\pD es A kvs'/\kvs'.length<=kvs.length+c1 /\
   ((v=.d .non/\∀x∈L,¬Sat es A (settle es A F0 0 x))\/∃x∈L,v=.d (.int x)/\Sat es A (settle es A F0 0 x)/\∀y∈L,y<x->¬Sat es A (settle es A F0 0 y))) :
  W (call aq T (3*n+5+k') true 24 [.d (jV al n k es A),.d (.fl (F0.map aU))]) [] λv s=>(v=.d .non/\¬Sat es A F0)\/∃hs:List Int,v=.d (.tup (hs.map .int))/\hs.length=n/\pC es A F0 (λj=>at' hs j)/\∀g,pC es A F0 g->∀j,j<n->(∀t,t<j->g t=at' hs t)->at' hs j<=g j:=by
 have hn:=B.hn;have hl:=v0.len;rw[show 3*n+5+k'=(3*n+4+k')+1 by lia];refine W.call zom rfl ?_;unfold U7;have n_:(100:Nat)<=sizeLine:=by decide
 have Mh:unset F0<=n:=by unfold unset;rw[<-hl];exact Oj
 refine Y ?_;refine W.nG ?_;refine Y ?_;refine rM (s:=[]) rfl (Hc.imp λv1 s1=>?_);rintro⟨b,kvs,rfl,hb,rfl,g1,g2⟩;refine⟨_,_,rfl,rfl,?_⟩;refine Y ?_;cases b with
 |false=>
  refine Y ?_;exact .inl ⟨rfl,λz=>by cases hb.mpr z⟩
 |true=>
  have Ca:=hb.mp rfl;refine Y ?_;have J6:((F0.map aU).length:Int)=n:=by rw[cj,hl]
  refine⟨by rw[J6,lC gV gV,lC gV gV];rfl,?_⟩;rw[J6];refine u9 (c:=(List.range ((n:Int)-0).toNat).map λ(j:Nat)=>.int (0+j)) (λi J s=>∃(kvs':gY) (Fi:Fr) (hs:List Int) (a5 a6:Option Xv),s=[.dct kvs',.lst (hs.map .int)]/\J=[some (.d (jV al n k es A)),some (.d (.fl (F0.map aU))),some (.d (iu Fi)),some (.l 0),some (.l 1),a5,a6]/\pD es A kvs'/\(i=0->Fi=F0/\kvs'.length<=c0)/\(1<=i->kvs'.length+tot k (n-i)<=c0+c1+tot k (n-1))/\hs.length=i/\Fv n k Fi/\unset Fi<=n-i/\(∀j,i<=j->j<n->∃L,Fi[j]?=some (some L))/\Sat es A Fi /\
   (∀g,pC es A Fi g->pC es A F0 λj=>if j<i then at' hs j else g j)/\(∀g,pC es A F0 g->(∀t,t<i->g t=at' hs t)->pC es A Fi g)/\(∀g,pC es A F0 g->∀j,j<i->(∀t,t<j->g t=at' hs t)->at' hs j<=g j)) ?_ (λi z J s e hI=>?_) (λJ s hI=>?_)
  ·exact⟨kvs,F0,[],_,_,rfl,rfl,g1,λ_=>⟨rfl,g2⟩,λz=>absurd z gV,rfl,v0,by lia,λj _ hj=>all j hj,Ca,λg s=>by simpa using s,λg s _=>s,λg _ j hj=>absurd hj gV⟩
  ·obtain⟨kvs',Fi,hs,a5,a6,rfl,rfl,i1,i0,i2,i3,i4,i5,i6,i7,i8,i9,N5⟩:=hI;rw[fB] at e;cases ei:(List.range ((n:Int)-0).toNat)[i]? with
   |none=>rw[ei] at e;cases e
   |some j=>
    rw[ei] at e;cases e;obtain⟨hil,ej⟩:=cI.mp ei;rw[List.getElem_range] at ej;rw[qx] at hil;subst ej;obtain⟨L,hL⟩:=i6 i (bU _) gV;have ez:((0:Int)+(i:Nat))=(i:Int):=by lia
    dsimp only;rw[ez];have hp:=mV i4.len hL;obtain⟨m,hm⟩ : ∃m,n-i=m+1:=⟨n-i-1,by lia⟩;rw[hm] at i2 i5;have et:tot k (m+1)=k*cnt k m+tot k m:=rfl;refine Y ?_;have lv:3*n+4+k'=(3*n+1+k')+3:=by lia
    refine Kau (s:=[]) rfl ?_;rw[lv];have H:Told al n k es A 26 (3*n+1+k'+2) m (cnt k m):=by
     rw[show 3*n+1+k'+2=3*m+4+(3*n-3*m+k'-1) by lia];exact NZ B rO iw m _
    obtain⟨c2,lW,hW⟩ : ∃c2,(kvs'.length+c2+tot k m<=c0+c1+tot k (n-1))/\W (call aq T (3*n+1+k'+3) true 25 [.d (jV al n k es A),.l 0,.d (iu Fi),.d (.int i)]) [.dct kvs'] λv s=>∃cY,s=[.dct cY]/\pD es A cY/\cY.length<=kvs'.length+c2 /\
      ((v=.d .non/\∀x∈L,¬Sat es A (settle es A Fi i x))\/∃x∈L,v=.d (.int x)/\Sat es A (settle es A Fi i x)/\∀y∈L,y<x->¬Sat es A (settle es A Fi i y)):=by
     by_cases c:i=0
     ·subst c;obtain⟨rfl,q⟩:=i0 rfl;have em:n-1=m:=by lia
      rw[em];exact⟨c1,by lia,Hf kvs' L hL Ca i1 q⟩
     ·have i2:=i2 gV;refine⟨k*cnt k m,by lia,NT B H i4 i5 hL i1 gV⟩
    clear i2;refine hW.imp λv1 s1=>?_;rintro⟨cY,rfl,q1,q2,h⟩;rcases h with ⟨rfl,jQ⟩|⟨x,hx,rfl,qG,dh⟩
    ·obtain⟨x,hx,q⟩:=(BR B i4 hp hL).mp i7;exact absurd q (jQ x hx)
    ·refine⟨_,_,rfl,rfl,?_⟩;refine Y ?_;refine W.cm rfl rfl (W.c0 (J5 (k':=3*n+2+k') B i4 hp (i4.lo i L hL x hx)) ?_);refine Y ?_;refine⟨by rw[cj];lia,?_⟩;refine Y ?_;have ag:∀j:Nat,j<i->at' (hs++[x]) j=at' hs j:=λj hj=>lD gV gV;have ai:at' (hs++[x]) (i:Int)=x:=by rw[<-i3];exact yO
     refine⟨_,rfl,cY,settle es A Fi i x,hs++[x],_,_,?_,rfl,q1,λz=>absurd z gV,λ_=>by rw[show n-(i+1)=m by lia];lia,by simp[i3],JF B i4 hp,?_,λj hj hjn=>?_,qG,λg s=>?_,λg s hg=>?_,λg s j hj hg=>?_⟩
     ·rw[qy];rfl
     ·have:=JL (es:=es) (A:=A) (x:=x) hL
      lia
     ·obtain⟨M,hM⟩:=i6 j gV hjn;exact⟨_,DR B i4.len hp gV hM⟩
     ·have s2:=i8 _ (zd5 B i4 hp hL hx s);refine⟨λj M hM=>?_,λj e M N h1 h2 he=>?_⟩
      ·have:=s2.mem j M hM
       try dsimp only at this ⊢
       by_cases c1:j<i
       ·rw[if_pos c1] at this;rw[if_pos gV,ag j c1];exact this
       ·rw[if_neg c1] at this;by_cases c2:j=i
        ·rw[if_pos c2] at this;rw[if_pos gV,c2,ai];exact this
        ·rw[if_neg c2] at this;rw[if_neg gV];exact this
      ·have ff:∀j:Nat,(if j<i then at' hs j else if j=i then x else g j)=if j<i+1 then at' (hs++[x]) j else g j:=λj=>by
        by_cases c1:j<i
        ·rw[if_pos c1,if_pos gV,ag j c1]
        ·rw[if_neg c1];by_cases c2:j=i
         ·rw[if_pos c2,if_pos gV,c2,ai]
         ·rw[if_neg c2,if_neg gV]
       have:=s2.fit j e M N h1 h2 he
       try dsimp only at this ⊢
       rw[<-ff,<-ff];exact this
     ·have s2:=i9 g s λt ht=>by rw[hg t gV,ag t ht]
      have s3:=M_ B i4 hp hL s2;rw[hg i gV,ai] at s3;exact s3
     ·by_cases c1:j<i
      ·rw[ag j c1];exact N5 g s j c1 λt ht=>by rw[hg t ht,ag t gV]
      ·have:j=i:=by lia
       subst this;rw[ai];have s2:=i9 g s λt ht=>by rw[hg t ht,ag t ht]
       have s3:=M_ B i4 hp hL s2;exact Int.not_lt.mp λq=>dh (g j) (s2.mem j L hL) q ⟨g,s3⟩
  ·obtain⟨kvs',Fi,hs,a5,a6,rfl,rfl,i1,i0,i2,i3,i4,i5,i6,i7,i8,i9,N5⟩:=hI;rw[cj,qx,show ((n:Int)-0).toNat=n by lia] at i3 i8 N5;refine Y ?_;refine .inr ⟨hs,rfl,i3,?_,N5⟩;obtain⟨g,sg⟩:=i7;have s2:=i8 g sg;refine⟨λj M hM=>?_,λj e M N h1 h2 he=>?_⟩
   ·have:=s2.mem j M hM;rw[if_pos (mV hl hM)] at this;exact this
   ·have:=s2.fit j e M N h1 h2 he;rw[if_pos (mV hl h1),if_pos (mV hl h2)] at this;exact this
end
theorem zjJ{k:Nat}{i:Int}:W (call aq T (k+1) true 0 [.d (.int i)]) [] λv s=>v=.d (.bl true):=W.eq (a:=.d (.bl true)) (s':=[]) rfl rfl
theorem Wg{k:Nat}{a b:D}:W (call aq T (k+1) true 2 [.d (.tup [a,b]),.d (.int 2)]) [] λv s=>v=.d (.bl true):=W.eq (a:=.d (.bl true)) (s':=[]) rfl rfl
theorem fU{k:Nat}{i a b:Int}:W (call aq T (k+2) true 1 [.d (.int i),.d (.int a),.d (.int b)]) [] λv s=>v=.d (.bl (decide (a<=i/\i<=b))):=by
 refine W.call T_1 rfl ?_;unfold b1;refine Y ?_;refine W.c0 zjJ ?_;refine Y ?_;refine W.ite (λh1=>?_) (λh1=>?_)
 ·refine Y ?_;have:=kJ h1;simp[this]
 ·refine Y ?_;simp at h1;have:¬(a<=i/\i<=b):=by lia
  simp[this]
theorem zmL{k:Nat}{i:Int}(h1:1<=i)(h2:i<=8):W (call aq T (k+3) true 4 [.d (.int i)]) [] λv s=>v=.d (.bl true):=by
 refine W.call T_4 rfl ?_;unfold b4;refine Y ?_;exact oJ rfl (fU.imp λv s e=>⟨_,e,by rw[fZ (And.intro h1 h2)]⟩)
theorem zfD{k:Nat}{n i:Int}:W (call aq T (k+3) true 5 [.d (.int n),.d (.int i)]) [] λv s=>v=.d (.bl (decide (0<=i/\i<n))):=by
 refine W.call T_5 rfl ?_;unfold b5;refine Y ?_;exact oJ rfl (fU.imp λv s e=>⟨_,e,by rw[Cu.mpr (show 0<=i/\i<=n-1↔0<=i/\i<n by lia)]⟩)
theorem znZ{k:Nat}{n:Int}{p:Int×Int}(h:0<=p.1/\p.1<p.2/\p.2<n):W (call aq T (k+4) true 6 [.d (.int n),.d (h_ p)]) [] λv s=>v=.d (.bl true):=by
 obtain⟨a,b⟩:=p;obtain⟨h1,h2,h3⟩:=h;unfold h_;dsimp only at h1 h2 h3 ⊢;refine W.call T_6 rfl ?_;unfold b6;refine Y ?_;refine W.c0 Wg ?_;refine Y ?_;refine W.c0 zfD ?_;rw[fZ (show 0<=a/\a<n by lia)];refine Y ?_;refine W.c0 zfD ?_;rw[fZ (show 0<=b/\b<n by lia)];refine Y ?_;rw[fZ h2]
theorem zjh{k:Nat}{n:Int}{ps:List (Int×Int)}(h:Web n ps):W (call aq T (k+5) true 3 [.d (bJ n ps)]) [] λv s=>v=.d (.bl true):=by
 refine W.call T_3 rfl ?_;unfold b3 bJ;have hl:(ps.map h_).length<=100:=by rw[cj];have:=h.len;have:=h.h8;lia
 have hs:(100:Nat)<=sizeLine:=by decide
 refine Y ?_;refine W.c0 Wg ?_;refine Y ?_;refine W.c0 (zmL h.h1 h.h8) ?_;refine Y ?_;refine Kax (c:=ps.map h_) (λ_=>.bl true) gV ?_ (λx hx=>?_) ?_
 ·refine Y ?_;exact⟨rfl,rfl⟩
 ·obtain⟨p,hp,rfl⟩:=rB.mp hx;refine Y ?_;exact oJ rfl ((znZ (h.tie p hp)).imp λv s e=>⟨_,e,rfl,rfl⟩)
 ·refine Y ?_;refine cH (zij ?_) ?_
  ·intro x hx;obtain⟨_,_,e⟩:=rB.mp hx;exact e.symm
  refine Y ?_;refine Kax (c:=List.zipWith (λ(p q:D)=>D.tup [p,q]) (ps.map h_) ((ps.map h_).drop 1)) (λ_=>.bl true) (by rw[List.length_zipWith];lia) ?_ (λx hx=>?_) ?_
  ·refine Y ?_;rw[Tt];exact⟨rfl,rfl⟩
  ·obtain⟨p,q,rfl,hpq⟩:=ziw h.inc x hx;refine Y ?_;rw[zn1 hpq];exact⟨rfl,rfl⟩
  ·refine Y ?_;refine cH (zij ?_) ?_
   ·intro x hx;obtain⟨_,_,e⟩:=rB.mp hx;exact e.symm
   rfl
theorem zhr{k:Nat}{n:Int}{ps:List (Int×Int)}(h:Web n ps):W (call aq T (k+6) true 7 [.d (bJ n ps)]) [] λv s=>∃d,v=.d d:=by
 refine W.call T_7 rfl ?_;unfold b7;refine Y ?_;refine W.c0 (zjh h) ?_;refine Y ?_;exact⟨_,rfl⟩
theorem zg6{k':Nat}{k d:Int}(hd:1<=d)(rQ:d<=k)(hk:k<=24):W (call aq T (k'+3) true 18 [.d (bB k d)]) [] λv s=>v=.d (.bl true):=by
 refine W.call zoI rfl ?_;unfold Uz bB;refine Y ?_;refine W.c0 Wg ?_;refine Y ?_;refine W.c0 fU ?_;rw[fZ (show 1<=k/\k<=24 by lia)];refine Y ?_;refine W.c0 fU ?_;rw[fZ (show 1<=d/\d<=k by lia)]
theorem zfy{k':Nat}{k d:Int}(hd:1<=d)(rQ:d<=k)(hk:k<=24):W (call aq T (k'+4) true 20 [.d (bB k d)]) [] λv s=>∃d,v=.d d:=by
 refine W.call zoL rfl ?_;unfold UJ;refine Y ?_;refine W.c0 (zg6 hd rQ hk) ?_;refine Y ?_;exact⟨_,rfl⟩
theorem zgD{k:Nat}{d:D}(h:q_ d=true):W (call aq T (k+1) true 35 [.d d]) [] λv s=>v=.d (.bl (whB d)):=by
 cases d with
 |exc _ _=>cases h
 |ob _ _=>cases h
 |any=>cases h
 |_=>exact W.eq (a:=_) (s':=[]) rfl rfl
theorem znz{k:Nat}{d:D}{n:Int}(h:q_ d=true):W (call aq T (k+1) true 2 [.d d,.d (.int n)]) [] λv s=>v=.d (.bl (BP n d)):=by
 cases d with
 |exc _ _=>cases h
 |ob _ _=>cases h
 |any=>cases h
 |tup xs=>
  refine W.call T_2 rfl ?_;unfold b2;refine Y ?_;show Xv.d (D.bl (id (((xs.length:Nat):Int)==n)))=_
  congr 2
 |_=>exact W.eq (a:=_) (s':=[]) rfl rfl
theorem zg2{k:Nat}{d:D}{a b:Int}(h:q_ d=true):W (call aq T (k+2) true 1 [.d d,.d (.int a),.d (.int b)]) [] λv s=>v=.d (.bl (Jz a b d)):=by
 cases d with
 |exc _ _=>cases h
 |ob _ _=>cases h
 |any=>cases h
 |int i=>exact fU
 |_=>exact W.eq (a:=_) (s':=[]) rfl rfl
section
variable {n k d:Int}{ps:List (Int×Int)}{x:D}{ks:List (Option Int)}
theorem zjD{k':Nat}{x:D}(h:q_ x=true):W (call aq T (k'+3) true 19 [.d (bB k d),.d x]) [] λv s=>v=.d (.bl (Jz 0 (k-1) x)):=by
 refine W.call zoQ rfl ?_;unfold UG bB;refine Y ?_;exact oJ rfl ((zg2 h).imp λv s e=>⟨_,e,rfl⟩)
theorem zeR{k':Nat}(h:M6 x=true)(hl:∀xs,x=.tup xs->xs.length<=200):W (call aq T (k'+4) true 22 [.d (bJ n ps),.d (bB k d),.d x]) [] λv s=>v=.d (.bl (JV n k x)):=by
 have hs:(200:Nat)<=sizeLine:=by decide
 refine W.call zou rfl ?_;unfold UW bJ;refine Y ?_;refine W.c0 (znz (zlz h)) ?_;cases x with
 |tup xs=>
  have hx:∀y∈xs,q_ y=true:=fC.mp h;have hxl:=hl xs rfl;rw[show JV n k (.tup xs)=(decide ((xs.length:Int)=n)&&xs.all (DX k)) from rfl];by_cases hn:(xs.length:Int)=n
  ·rw[show BP n (.tup xs)=true from fZ hn,fZ hn];refine Y ?_;refine n6 (l:=xs) (f:=λx=>x) (λt=>some (.bl (DX k t))) gV ?_ (λt ht=>?_) ?_
   ·refine Y ?_;rw[List.map_id'];exact⟨rfl,rfl⟩
   ·refine Y ?_;refine⟨rfl,λ_=>?_,λhb=>by cases hb⟩;refine Y ?_;refine W.ite (λc=>?_) (λc=>?_)
    ·refine Y ?_;exact⟨rfl,_,rfl,by unfold DX;rw[show t.jJ=true from c];rfl⟩
    ·refine Y ?_;refine oJ rfl ((zjD (hx t ht)).imp λv s e=>⟨_,e,rfl,_,rfl,?_⟩);unfold DX;rw[show t.jJ=false from by simpa using c];rfl
   rw[u_];refine Y ?_;refine cH T3 ?_;rfl
  ·rw[show BP n (.tup xs)=false from gQ hn,gQ hn,Bool.false_and];exact Y trivial
 |_=>exact Y rfl
theorem zeF{k':Nat}(h:Web n ps)(hr:1<=d/\d<=k/\k<=24)(hx:M6 x=true)(hl:∀xs,x=.tup xs->xs.length<=200)(hb:JV n k x=true):W (call aq T (k'+7) true 23 [.d (bJ n ps),.d (bB k d),.d x]) [] λv s=>∃d,v=.d d:=by
 refine W.call zoT rfl ?_;unfold U6;refine Y ?_;refine W.c1 (zhr h) λ_=>?_;refine Y ?_;refine W.c1 (zfy hr.1 hr.2.1 hr.2.2) λ_=>?_;refine Y ?_;refine W.c0 (zeR hx hl) ?_;rw[hb];refine Y ?_;exact⟨_,rfl⟩
theorem ziQ{k':Nat}(h:Web n ps)(hd:1<=d)(rQ:d<=k)(hk:k<=24)(q:Kn n k ks)(hz:cnt k.toNat n.toNat+k.toNat*cnt k.toNat (n.toNat-1)+tot k.toNat (n.toNat-1)<sizeLine):W (call aq T (k'+40) true 21 [.d (bJ n ps),.d (bB k d),.d (.tup (ks.map cD))]) [] λv s=>(v=.d .non/\∀hs,¬oK n k d ps ks hs)\/∃hs,v=.d (.tup (hs.map .int))/\oK n k d ps ks hs/\∀g,oK n k d ps ks g->Ge g hs:=by
 have n_:(200:Nat)<=sizeLine:=by decide
 have h1:=h.h1;have h8:=h.h8;have hql:=q.len;have hkb:JV n k (.tup (ks.map cD))=true:=by
  rw[show JV n k (.tup (ks.map cD))=(decide (((ks.map cD).length:Int)=n)&&(ks.map cD).all (DX k)) from rfl,cj,fZ hql,KJ,Fg,fC];intro c hc;cases c with
  |none=>rfl
  |some i=>have:=q.lo i hc;exact fZ (p:=(0<=i/\i<=k-1)) gV
 have hok:M6 (.tup (ks.map cD))=true:=fC.mpr λy hy=>by
  obtain⟨c,_,rfl⟩:=rB.mp hy;cases c<;>rfl
 refine W.call zoG rfl ?_;unfold UL;refine Y ?_;refine W.c1 (zeF h ⟨hd,rQ,hk⟩ hok (λxs e=>by cases e;rw[cj];lia) hkb) λ_=>?_;refine Y ?_;refine W.c0 (zf5 h hd rQ hk) ?_;refine Y ?_;refine n6 (l:=ks) (f:=cD) (λc=>some (aU (some (fQ k c)))) gV ?_ (λc hc=>?_) ?_
 ·refine Y ?_;exact⟨rfl,rfl⟩
 ·cases c with
  |none=>
   refine Y ?_;refine⟨rfl,λ_=>?_,λhb=>by cases hb⟩;refine Y ?_;exact⟨rfl,_,rfl,rfl⟩
  |some i=>
   refine Y ?_;refine⟨rfl,λ_=>?_,λhb=>by cases hb⟩;refine Y ?_;exact⟨rfl,_,rfl,rfl⟩
 ·have ef:ks.filterMap (λc=>some (aU (some (fQ k c))))=(rP k ks).map aU:=by
   rw[u_];unfold rP;rw[zF];rfl
  rw[ef];refine Y ?_;have lv:k'+39=3*n.toNat+5+(k'+34-3*n.toNat):=by lia
  refine oJ rfl ?_;show W (Mi.call aq T (k'+39) true _ _) _ _;rw[lv];have B:=wQ h hd hk;have rO:1<=k.toNat:=by lia
  have iw:∀t a b:Int,0<=a->a<(k.toNat:Nat)->0<=b->b<(k.toNat:Nat)->bf k d ((a+t)%(k.toNat:Nat)) ((b+t)%(k.toNat:Nat))=bf k d a b:=λt a b a0 ak b0 bk=>by rw[show ((k.toNat:Nat):Int)=k by lia] at *;exact zjW hd t a b a0 ak b0 bk
  have fv:=znd q hk gV;have Mh:unset (rP k ks)<=n.toNat:=by rw[<-fv.len];exact Oj
  obtain⟨m,hm⟩ : ∃m,n.toNat=m+1:=⟨n.toNat-1,by lia⟩;have em:n.toNat-1=m:=by lia
  rw[em] at hz;refine(zji (c0:=cnt k.toNat n.toNat) (c1:=k.toNat*cnt k.toNat m) B rO (λ_=>iw) fv (λi hi=>⟨_,JZ (cP (l:=ks) (i:=i) gV)⟩) (by rw[em];exact hz) ?_ (λkvs L hL Ca ha hl=>?_)).imp λv s=>?_
  ·have:=NZ (al:=true) B rO (λ_=>iw) n.toNat (k'+34-3*n.toNat) (rP k ks) [] fv Mh (λF d e=>by cases e) (by simp;lia);simpa using this
  ·refine NT (m:=m) B ?_ fv gV hL ha gV;rw[show 3*n.toNat+1+(k'+34-3*n.toNat)+2=3*m+4+(k'+33-3*m) by lia];exact NZ (al:=true) B rO (λ_=>iw) m _
  rintro(⟨rfl,jQ⟩|⟨hs,rfl,hl,Wh,hge⟩)
  ·refine⟨_,rfl,?_⟩;refine Y ?_;exact .inl ⟨rfl,λhs hh=>jQ ⟨_,zf3 h hd q hh⟩⟩
  ·refine⟨_,rfl,?_⟩;refine Y ?_;refine .inr ⟨hs,rfl,zfV h q hl Wh,λg hg j hj ha=>?_⟩;exact hge _ (zf3 h hd q hg) j gV ha
end
theorem zdS{k':Nat}{k a b:Int}:W (call aq T (k'+1) true 37 [.d (.int k),.d (.int a),.d (.int b)]) [] λv s=>v=.d (.int (cO k a b)):=W.eq (a:=.d (.int (cO k a b))) (s':=[]) rfl rfl
theorem zdz{k':Nat}{n k d:Int}{ps:List (Int×Int)}{ks:List (Option Int)}(h:Web n ps)(hk:1<=k)(q:Kn n k ks)(hB:(n.toNat+1)*(k.toNat+1)^n.toNat+n.toNat<1000000000) :
  W (call aq T (k'+2) true 39 [.d (bJ n ps),.d (bB k d),.d (.tup (ks.map cD))]) [] λv s=>(v=.d .non/\∀hs,¬oK n k d ps ks hs)\/∃hs,v=.d (.tup (hs.map .int))/\oK n k d ps ks hs/\∀g,oK n k d ps ks g->Ge g hs:=by
 refine W.call zon rfl ?_;unfold Vi bJ bB;have n_:(1000:Nat)<=sizeLine:=by decide
 have h1:=h.h1;have h8:=h.h8;have hlen:=h.len;have hql:=q.len;have hwk:nM=1000000000000:=rfl;refine Y ?_;have hB0:left' (k.toNat+1) n.toNat [0]<=(n.toNat+1)*(k.toNat+1)^n.toNat+n.toNat:=by
  unfold left';have:=Ot (n.toNat+1) (Nat.sub_le ((k.toNat+1)^n.toNat) (val (k.toNat+1) [0] n.toNat))
  lia
 refine WS.wh (λm J s=>(∃(a4 a5 a6:Option Xv),J=[some (.d (.tup [.int n,.tup (ps.map h_)])),some (.d (.tup [.int k,.int d])),some (.d (.tup (ks.map cD))),some (.l 0),a4,a5,a6])/\((s=[.lst []]/\(∀hs,¬oK n k d ps ks hs)/\m=0)\/∃(r:List Int) (x:Int),s=[.lst (r.map .int++[.int x])]/\ur n k d ps ks r x/\m=left' (k.toNat+1) n.toNat (r++[x]))) (m:=left' (k.toNat+1) n.toNat [0]) gV ⟨⟨_,_,_,rfl⟩,.inr ⟨[],0,rfl,Uk h hk,rfl⟩⟩ λm J s hI=>?_;obtain⟨⟨a4,a5,a6,rfl⟩,hI⟩:=hI;rcases hI with ⟨rfl,jQ,rfl⟩|⟨r,x,rfl,St,rfl⟩
 ·refine Y ?_;refine⟨?_,λ_=>?_⟩
  ·intro hb;cases hb
  refine Y ?_;exact .inl ⟨rfl,jQ⟩
 ·have g1:=St.len;have g2:=St.x0;have g3:=St.xk;have J7:∀z∈r,z<((k.toNat+1:Nat):Int):=λz hz=>by have:=St.lo z hz;lia
  have D_:(((r.map D.int++[D.int x]).length:Nat):Int)=(r.length:Int)+1:=by simp
  obtain⟨c,ec⟩ : ∃c,ks[r.length]?=some c:=⟨_,cP gV⟩;refine Y ?_;refine cH (TY (f:=not)) ?_;rw[gQ Rb];refine Y ?_;refine⟨λ_=>?_,λhb=>by cases hb⟩;refine Y ?_;rw[D_,show (r.length:Int)+1-1=(r.length:Int) by lia];refine cH Jo ?_;refine Y ?_;by_cases cA:x=k
  ·subst cA;refine WS.Jh Rb ?_;refine WS.cons (Kbk ?_);refine W.pop (n:=0) (xs:=r.map .int) (x:=.int x) ?_;refine Y ?_;refine⟨rfl,rfl,?_⟩;show WS _ [.lst (r.map D.int)] _;by_cases o7:r=[]
   ·subst o7;refine Y ?_;refine .inl ⟨_,0,rfl,?_,⟨_,_,_,rfl⟩,.inl ⟨rfl,λh g=>zid St g (λi hi=>absurd hi (Ky _)),rfl⟩⟩;unfold left';have hv:=M4 (B:=x.toNat+1) gV (r:=[x]) (n:=n.toNat) (λz hz=>by
     have e:z=x:=rT.mp hz
     lia) (by show 1<=_;lia)
    have h3:1<=(x.toNat+1)^(n.toNat - [x].length):=Nat.one_le_pow _ _ gV;have h2:(n.toNat+1)*1<=(n.toNat+1)*((x.toNat+1)^n.toNat-val (x.toNat+1) [x] n.toNat):=Ot _ gV;show 0<(n.toNat+1)*((x.toNat+1)^n.toNat-val (x.toNat+1) [x] n.toNat)+_
    lia
   ·obtain⟨r',y,rfl⟩ : ∃r' y,r=r'++[y]:=⟨r.dropLast,r.getLast o7,(List.dropLast_concat_getLast o7).symm⟩;have hy:=St.lo y Rb;have uR:(r'.length:Int)+1<n:=by rw[dH] at g1;simpa using g1
    rw[qy];show WS _ ([.lst (r'.map D.int++[D.int y])]) _;refine Y ?_;refine cH (TY (f:=not)) ?_;rw[gQ Rb];refine Y ?_;refine cH Jo ?_;refine Y ?_;refine qY.mk (a:=r'.length) ?_ ?_
    ·rw[dH,cj];exact TQ
    refine Y ?_;refine .inl ⟨_,left' (x.toNat+1) n.toNat (r'++[y+1]),rfl,?_,⟨_,_,_,rfl⟩,.inr ⟨r',y+1,?_,zjT h St,rfl⟩⟩
    ·exact zhc hy.1 gV g2 gV (λz hz=>J7 z (Kf _ hz)) gV
    ·have:(r'.map D.int++[D.int y]).set r'.length (.int (y+1))=r'.map .int++[.int (y+1)]:=by
      rw[List.set_append_right _ _ Rb];simp
     show [SO.lst ((r'.map D.int++[D.int y]).set r'.length (.int (y+1)))]=_;rw[this]
  ·refine WS.Ji (by simp;exact cA) ?_;refine Y ?_;refine n6 (l:=ps) (f:=h_) (λp=>if p.2=(r.length:Int) then some (.int (at' (r++[x]) p.1)) else none) gV ?_ (λp hp=>?_) ?_
   ·refine Y ?_;exact⟨rfl,rfl⟩
   ·have ht:=h.tie p hp;obtain⟨a,b⟩:=p;dsimp only at ht;refine Y ?_;refine⟨rfl,λhb=>?_,λhb=>?_⟩
    ·have hb:b=(r.length:Int):=by simpa using hb
     refine Y ?_;refine cH (zn2 gV gV) ?_;exact⟨rfl,_,rfl,by rw[if_pos hb]⟩
    ·rw[if_neg (by simpa using hb)]
   ·have ef:ps.filterMap (λp=>if p.2=(r.length:Int) then some (D.int (at' (r++[x]) p.1)) else none)=((ps.filter λp=>decide (p.2=(r.length:Int))).map λp=>at' (r++[x]) p.1).map .int:=by
     rw[zoc (f:=λ(p:Int×Int)=>D.int (at' (r++[x]) p.1)) (q:=λ(p:Int×Int)=>p.2=(r.length:Int)),zF];rfl
    rw[ef];have hfl:((ps.filter λp=>decide (p.2=(r.length:Int))).map λp=>at' (r++[x]) p.1).length<=ps.length:=by rw[cj];exact Oi _ _
    refine Y ?_;refine n6 (l:=(ps.filter λp=>decide (p.2=(r.length:Int))).map λp=>at' (r++[x]) p.1) (f:=D.int) (λz=>if cO k z x<d then some (.int z) else none) gV ?_ (λz hz=>?_) ?_
    ·refine Y ?_;exact⟨rfl,rfl⟩
    ·refine Y ?_;refine cH Jo ?_;refine Y ?_;refine W.c0 zdS ?_;refine Y ?_;refine⟨rfl,λhb=>?_,λhb=>?_⟩
     ·refine Y ?_;exact⟨rfl,_,rfl,by rw[if_pos (kJ hb)]⟩
     ·rw[if_neg (Kh hb)]
    ·refine Z9 ?_;refine WS.cons (Ti ?_);refine W.imp (P:=λv s1=>∃b,v=.d (.bl b)/\(b=true↔((∃p∈ps,p.2=(r.length:Int)/\cO k (at' (r++[x]) p.1) x<d)\/Nf x c=true))/\s1=[.lst (r.map .int++[.int x])]) ?_ λv s1 hv=>?_
     ·refine Y ?_;refine cH (TY (f:=not)) ?_;by_cases cN:∃p∈ps,p.2=(r.length:Int)/\cO k (at' (r++[x]) p.1) x<d
      ·rw[gQ (λz=>by
        obtain⟨p,hp,e1,e2⟩:=cN;have:=uo.mp z (at' (r++[x]) p.1) (rB.mpr ⟨p,oh.mpr ⟨hp,fZ e1⟩,rfl⟩);rw[if_pos e2] at this;cases this)]
       refine Y ?_;exact⟨true,rfl,⟨λ_=>.inl cN,λ_=>rfl⟩,rfl⟩
      ·rw[fZ (uo.mpr λz hz=>by
        obtain⟨p,hp,rfl⟩:=rB.mp hz;obtain⟨hp1,hp2⟩:=oh.mp hp;rw[if_neg λq=>cN ⟨p,hp1,kJ hp2,q⟩])]
       refine Y ?_;refine cH (rN gV (wR (by rw[jA];exact ec))) ?_;refine Y ?_;refine cH Jo ?_;refine Y ?_;refine cH znS ?_;exact⟨_,rfl,⟨λz=>.inr z,λz=>z.resolve_left cN⟩,rfl⟩
     ·obtain⟨b,rfl,hb,rfl⟩:=hv;cases b with
      |true=>
       have hn2:=(hb.mp rfl).imp id λz=>by obtain⟨i,e,q⟩:=yV.mp z;exact(⟨i,by rw[ec,e],q⟩ : ∃i,ks[r.length]?=some (some i)/\i≠x)
       have St2:=zjf h St cA hn2;clear hb hn2;refine Y ?_;refine cH Jo ?_;refine Y ?_;refine qY.mk (a:=r.length) ?_ ?_
       ·rw[dH,cj];exact TQ
       refine Y ?_;refine .inl ⟨_,left' (k.toNat+1) n.toNat (r++[x+1]),rfl,?_,⟨_,_,_,rfl⟩,.inr ⟨r,x+1,?_,St2,rfl⟩⟩
       ·exact zhT g2 gV J7 gV
       ·have:(r.map D.int++[D.int x]).set r.length (.int (x+1))=r.map .int++[.int (x+1)]:=by
         rw[List.set_append_right _ _ Rb];simp
        show [SO.lst ((r.map D.int++[D.int x]).set r.length (.int (x+1)))]=_;rw[this]
      |false=>
       have hN:∀p∈ps,p.2=(r.length:Int)->d<=cO k (at' (r++[x]) p.1) x:=λp hp e=>by
        by_cases z:cO k (at' (r++[x]) p.1) x<d
        ·exact absurd (hb.mpr (.inl ⟨p,hp,e,z⟩)) J0
        ·lia
       have hK:∀i,ks[r.length]?=some (some i)->i=x:=λi e=>by
        by_cases z:i=x
        ·exact z
        ·exact absurd (hb.mpr (.inr (yV.mpr ⟨i,by rw[ec] at e;exact cW e,z⟩))) J0
       refine Y ?_;rw[D_];by_cases cF:(r.length:Int)+1=n
       ·refine WS.Jh (by simp;exact cF) ?_;refine Y ?_;refine .inr ⟨_,rfl,.inr ⟨r++[x],by rw[qy];rfl,zhU h St cA cF hql hN hK,λg hg=>St.ge g hg⟩⟩
       ·refine WS.Ji (by simp;exact cF) ?_;refine Y ?_;refine⟨by rw[dH,cj];simp;lia,?_⟩;refine Y ?_;refine .inl ⟨_,left' (k.toNat+1) n.toNat (r++[x]++[0]),rfl,zgn (by rw[dH];simp;lia),⟨_,_,_,rfl⟩,.inr ⟨r++[x],0,?_,zhM h St hk cA cF hN hK,rfl⟩⟩;rw[qy];rfl
section
variable {n k d:Int}{ps:List (Int×Int)}{ks:List (Option Int)}{p:Int}
theorem znI{ks:List (Option Int)}(es:List Int):es.filterMap (λe=>((ks[e.toNat]?).join).map D.int)=(dR ks es).map .int:=by
 unfold dR;rw[OD]
theorem zjF{k':Nat}(h:Web n ps)(hd:1<=d)(hk:k<=24)(q:Kn n k ks)(hp:0<=p/\p<n):W (call aq T (k'+2) true 29 [.d (yS n.toNat k.toNat (λi=>aA i ps) (bf k d)),.d (.tup (ks.map cD)),.d (.int p)]) [] λv s=>v=.d (.bl (jz k d ps ks p)):=by
 have n_:(100:Nat)<=sizeLine:=by decide
 have h8:=h.h8;have hql:=q.len;have B:=wQ h hd hk;obtain⟨c,ec⟩:=J1 q hp.1 hp.2;have hel:=B.len p.toNat gV;have epp:((p.toNat:Nat):Int)=p:=by lia
 rw[epp] at hel;have est:jz k d ps ks p=(fQ k c).all λx=>!(iY k d (dR ks (aA p ps)) x):=by
  unfold jz;rw[ec];cases c with
  |none=>rfl
  |some i=>simp[fQ]
 have hL:∀x∈fQ k c,0<=x/\x<(k.toNat:Nat):=λx hx=>by
  cases c with
  |none=>have:=dw.mp hx;lia
  |some i=>have:=q.lo i (dM ec);have:x=i:=rT.mp hx;lia
 have hN:∀x∈dR ks (aA p ps),0<=x/\x<(k.toNat:Nat):=λx hx=>by
  obtain⟨e,he,e2⟩:=qw.mp hx;cases e3:ks[e.toNat]? with
  |none=>rw[e3] at e2;cases e2
  |some c=>rw[e3] at e2;cases (show c=some x from e2);have:=q.lo x (dM e3);lia
 have hNl:(dR ks (aA p ps)).length<=(aA p ps).length:=wY _ _;refine W.call zoV rfl ?_;unfold Va;have ebo:yS n.toNat k.toNat (λi=>aA i ps) (bf k d)=.ob 0 [.fl (yR n.toNat λi=>aA i ps),.tup ((eN k.toNat).map .int),.fl (uq k.toNat (bf k d)),.bl true]:=rfl;refine Y ?_;refine n6 (l:=aA p ps) (f:=D.int) (λe=>((ks[e.toNat]?).join).map D.int) gV ?_ (λe he=>?_) ?_
 ·refine Y ?_;refine cH (uf hp.1 (Ug gV)) ?_;rw[epp];refine Y ?_;exact⟨rfl,rfl⟩
 ·have hq:=Jm h he;obtain⟨c,e3⟩:=J1 q hq.1 hq.2;rw[e3];refine Y ?_;refine cH (rN hq.1 (wR e3)) ?_;refine Y ?_;rw[zh6];refine⟨rfl,λhb=>?_,λhb=>?_⟩
  ·refine Y ?_;refine cH (rN hq.1 (wR e3)) ?_;cases c with
   |none=>cases hb
   |some i=>exact⟨rfl,_,rfl,rfl⟩
  ·cases c with
   |none=>rfl
   |some i=>cases hb
 rw[znI];refine Y ?_;refine cH (rN hp.1 (wR ec)) ?_;refine Y ?_;refine W.imp (P:=λx s1=>x=.d (.tup ((fQ k c).map .int))/\s1=[]) ?_ ?_
 ·cases c with
  |none=>
   refine Y ?_;exact⟨rfl,rfl⟩
  |some i=>
   refine Y ?_;refine cH (rN hp.1 (wR ec)) ?_;refine Y ?_;exact⟨rfl,rfl⟩
 rintro x s1 ⟨rfl,rfl⟩;refine Y ?_;refine M5 (λi J s=>s=[]/\(∃a5,J=[some (.d (yS n.toNat k.toNat (λi=>aA i ps) (bf k d))),some (.d (.tup (ks.map cD))),some (.d (.int p)),some (.d (.fl ((dR ks (aA p ps)).map .int))),some (.d (.tup ((fQ k c).map .int))),a5])/\∀x∈(fQ k c).take i,iY k d (dR ks (aA p ps)) x=false) ⟨rfl,⟨_,rfl⟩,by simp⟩ (λi x J s e hI=>?_) (λJ s hI=>?_)
 ·obtain⟨rfl,⟨a5,rfl⟩,hI⟩:=hI;rw[fB] at e;obtain⟨y,ey,rfl⟩:=iZ.mp e;have hy:=hL y (dM ey);refine Y ?_;refine n6 (l:=dR ks (aA p ps)) (f:=D.int) (λo=>some (.bl (bf k d y o))) gV ?_ (λo ho=>?_) ?_
  ·refine Y ?_;exact⟨rfl,rfl⟩
  ·refine Y ?_;refine⟨rfl,λ_=>?_,λhb=>by cases hb⟩;refine Y ?_;refine W.cm rfl rfl (W.c0 (zlA (n:=n.toNat) (es:=λi=>aA i ps) hy (hN o ho)) ?_);exact⟨rfl,_,rfl,rfl⟩
  rw[u_];refine Y ?_;refine cH T3 ?_;have eo:((dR ks (aA p ps)).all λo=>bf k d y o)=iY k d (dR ks (aA p ps)) y:=rfl;rw[eo];cases ho:iY k d (dR ks (aA p ps)) y
  ·refine Y ?_;refine .inl ⟨_,rfl,rfl,⟨_,rfl⟩,λx hx=>?_⟩;rw[Cz,ey] at hx;rcases kO.mp hx with hx|hx
   ·exact hI x hx
   ·have:x=y:=by simpa using hx
    rw[this];exact ho
  ·refine Y ?_;refine .inr ⟨_,rfl,?_⟩;show Xv.d (.bl false)=_;rw[est]
   congr 2
   symm
   rw[Kl];intro jG;have:=fC.mp jG y (dM ey);rw[ho] at this;cases this
 ·obtain⟨rfl,⟨a5,rfl⟩,hI⟩:=hI;rw[cj,xH] at hI;refine Y ?_;show Xv.d (.bl true)=_;rw[est]
  congr 2
  symm
  rw[fC];intro x hx;rw[hI x hx];rfl
theorem zko{k':Nat}(h:Web n ps)(hd:1<=d)(qp:1<=k)(hk:k<=24)(q:Kn n k ks)(hp:0<=p/\p<n):W (call aq T (k'+2) true 40 [.d (bJ n ps),.d (bB k d),.d (.tup (ks.map cD)),.d (.int p)]) [] λv s=>v=.d (.bl (jz k d ps ks p)):=by
 have n_:(100:Nat)<=sizeLine:=by decide
 have h8:=h.h8;have hpl:=h.len;have hql:=q.len;obtain⟨c,ec⟩:=J1 q hp.1 hp.2;refine W.call zoK rfl ?_;unfold Vj;have ew:bJ n ps=.tup [.int n,.tup (ps.map h_)]:=rfl;have er:bB k d=.tup [.int k,.int d]:=rfl;refine Y ?_;refine u9 (λi J s=>s=[.lst ((lF ks p (ps.take i)).map cD)]/\∃a5 a6 a7,J=[some (.d (bJ n ps)),some (.d (bB k d)),some (.d (.tup (ks.map cD))),some (.d (.int p)),some (.l 0),a5,a6,a7]) ⟨rfl,_,_,_,rfl⟩ (λi x J s e hI=>?_) (λJ s hI=>?_)
 ·obtain⟨rfl,a5,a6,a7,rfl⟩:=hI;rw[fB] at e;obtain⟨⟨a,b⟩,ey,rfl⟩:=iZ.mp e;have ht:=h.tie _ (dM ey);dsimp only at ht;have etk:ps.take (i+1)=ps.take i++[(a,b)]:=by rw[Cz,ey];rfl
  have hnl:(lF ks p (ps.take i)).length<=ps.length:=kW (wY _ _) (by rw[uF];lia);unfold h_;refine Y ?_;refine WS.ite (λhb=>?_) (λhb=>?_)
  ·have hb:a=p\/b=p:=by simpa using hb
   have hb':p=a\/p=b:=by lia
   obtain⟨c2,ec2⟩:=J1 q (p:=a+b-p) gV gV;refine Y ?_;refine cH (rN gV (wR ec2)) ?_;refine Y ?_;refine⟨by rw[cj];lia,?_⟩;refine Y ?_;refine⟨_,rfl,?_,_,_,_,rfl⟩;rw[etk];show [SO.lst _]=_
   congr 2
   unfold lF;rw[Eh,qy]
   congr 1
   simp only[zu,List.filterMap_nil];rw[if_pos hb',ec2];rfl
  ·have hb:¬(p=a\/p=b):=λz=>hb (by simp;lia);refine Y ?_;refine⟨_,rfl,?_,_,_,_,rfl⟩;rw[etk]
   congr 3
   unfold lF;rw[Eh];simp[hb]
 obtain⟨rfl,a5,a6,a7,rfl⟩:=hI;rw[cj,xH];have hnl:(lF ks p ps).length<=ps.length:=wY _ _;have hkl:(wU (lF ks p ps)).length<=(lF ks p ps).length:=wY _ _;refine Y ?_;refine Kay (l:=lF ks p ps) (f:=cD) [.lst ((lF ks p ps).map cD)] (λc=>c.map D.int) gV ?_ (λc hc=>?_) ?_
 ·refine Y ?_;refine Kbd (c:=(lF ks p ps).map cD) rfl ?_;refine⟨rfl,rfl,λi=>?_⟩;rfl
 ·cases c with
  |none=>
   refine Y ?_;exact⟨rfl,λhb=>(by cases hb),λ_=>rfl⟩
  |some i=>
   refine Y ?_;refine⟨rfl,λ_=>?_,λhb=>(by cases hb)⟩;refine Y ?_;exact⟨rfl,_,rfl,rfl⟩
 have ek:(lF ks p ps).filterMap (λc=>c.map D.int)=(wU (lF ks p ps)).map .int:=by
  unfold wU;rw[OD];rfl
 rw[ek];refine Z_ ?_;refine Y ?_;have e0:(k-0).toNat=k.toNat:=by lia
 refine n6 (l:=List.range (k-0).toNat) (f:=λ(j:Nat)=>.int (0+j)) (λ(j:Nat)=>if iY k d (dR ks (aA p ps)) (j:Int)=true then some (.int j) else none) (by rw[qx];lia) ?_ (λj hj=>?_) ?_
 ·refine Y ?_;refine⟨by rw[lC gV gV,lC gV gV];rfl,?_⟩;exact⟨rfl,rfl⟩
 ·refine Y ?_;refine Kay (l:=wU (lF ks p ps)) (f:=D.int) ([SO.lst ((lF ks p ps).map cD)]++[.lst ((wU (lF ks p ps)).map .int)]) (λo=>if decide (d<=cO k o j)=true then none else some (.int o)) gV ?_ (λo ho=>?_) ?_
  ·refine Y ?_;refine Kbd (c:=(wU (lF ks p ps)).map .int) rfl ?_;refine⟨rfl,rfl,λi=>?_⟩;rfl
  ·refine Y ?_;refine W.c0 zdS ?_;refine Y ?_;rw[show (0:Int)+j=j by lia];refine⟨rfl,λhb=>?_,λhb=>?_⟩
   ·have hb:=kJ hb;refine Y ?_;exact⟨rfl,_,rfl,by rw[if_neg (by simp;lia)]⟩
   ·have hb:=Kh hb;rw[if_pos (by simp;lia)]
  refine Y ?_;have en:∀l:List Int,(prim .eq [.fl (l.filterMap λo=>if decide (d<=cO k o j)=true then none else some (D.int o)),.fl []])=some (.dat (.bl (l.all λo=>decide (d<=cO k o j)))):=λl=>by
   cases e:l.all λo=>decide (d<=cO k o j)
   ·obtain⟨o,ho,hc⟩ : ∃o∈l,¬d<=cO k o j:=by
     apply Classical.byContradiction;intro z;rw[fC.mpr λo ho=>fZ (Classical.byContradiction λy=>z ⟨o,ho,y⟩)] at e;cases e
    have hm:D.int o∈l.filterMap λo=>if decide (d<=cO k o j)=true then none else some (D.int o):=qw.mpr ⟨o,ho,by rw[if_neg (by simpa using hc)]⟩
    generalize l.filterMap _=L at hm;cases L with
    |nil=>cases hm
    |cons=>rfl
   ·have:(l.filterMap λo=>if decide (d<=cO k o j)=true then none else some (D.int o))=[]:=by
     rw[N_];intro o ho;rw[if_pos (fC.mp e o ho)]
    rw[this];rfl
  refine cH (en _) ?_;rw[zlg h hd];refine Y ?_;refine⟨rfl,λhb=>?_,λhb=>?_⟩
  ·refine Y ?_;exact⟨rfl,_,rfl,by rw[if_pos hb,show (0:Int)+j=j by lia]⟩
  ·rw[if_neg (by rw[hb];decide)]
 have es:(List.range (k-0).toNat).filterMap (λ(j:Nat)=>if iY k d (dR ks (aA p ps)) (j:Int)=true then some (D.int j) else none)=((eN k.toNat).filter (iY k d (dR ks (aA p ps)))).map .int:=by
  rw[e0,<-Ui (α:=Unit)];unfold eN;rw[List.filterMap_map];rfl
 rw[es];refine Y ?_;refine cH (rN hp.1 (wR ec)) ?_;cases c with
 |none=>
  have est:jz k d ps ks p=(eN k.toNat).all λx=>!(iY k d (dR ks (aA p ps)) x):=by
   unfold jz;rw[ec];rfl
  rw[est];refine Y ?_;have en:∀l:List Int,(prim .eq [.fl ((l.filter (iY k d (dR ks (aA p ps)))).map .int),.fl []])=some (.dat (.bl (l.all λx=>!(iY k d (dR ks (aA p ps)) x)))):=λl=>by
   induction l with
   |nil=>rfl
   |cons x l ih=>
    rw[List.filter_cons,xK];cases e:iY k d (dR ks (aA p ps)) x
    ·simpa using ih
    ·rfl
  refine cH (en _) ?_
  first|exact Y trivial|exact Y rfl
 |some i=>
  have hi:=q.lo i (dM ec);have est:jz k d ps ks p = !(iY k d (dR ks (aA p ps)) i):=by
   unfold jz;rw[ec];rfl
  rw[est];refine Y ?_;refine cH (rN hp.1 (wR ec)) ?_;refine Y ?_;have en:prim .nin [.int i,.fl (((eN k.toNat).filter (iY k d (dR ks (aA p ps)))).map .int)]=some (.dat (.bl (!(iY k d (dR ks (aA p ps)) i)))):=by
   show Option.map (λb=>Rz.dat (.bl (!b))) (memD _ _)=_;rw[zfa];show some (Rz.dat (.bl (!decide _)))=_
   congr 4
   rw[KC,Kg,oh];exact⟨λz=>z.2,λz=>⟨dw.mpr gV,z⟩⟩
  refine cH (show prim .nin [cD (some i),.fl _]=_ from en) ?_
  first|exact Y trivial|exact Y rfl
end
section
variable {n k d:Int}{ps:List (Int×Int)}{ks:List (Option Int)}{p:Int}
theorem zjj{P:List (Option Int)->D->Bool}{b c:D}(h:Jz 0 (n-1) b=false):kI P n k ks b c=false:=by
 cases b with
 |int p=>
  cases c with
  |tup xs=>
   have h:¬(0<=p/\p<=n-1):=Kh h;show (decide (0<=p/\p<n)&&_&&_&&_)=false;rw[gQ gV];rfl
  |_=>rfl
 |_=>rfl
theorem zjt{b:D}(h:Jz 0 (n-1) b=false):uw n k d ps ks b=false:=by
 cases b with
 |int p=>
  have h:¬(0<=p/\p<=n-1):=Kh h;show (decide (0<=p/\p<n)&&_)=false;rw[gQ gV];rfl
 |_=>rfl
end
section
variable {n k d:Int}{ps:List (Int×Int)}{ks:List (Option Int)}{p:Int}
theorem znH{k' i:Nat}(hi:i<ks.length)(hl:ks.length<=8){x:Int}:W (call aq T (k'+1) true 41 [.d (.tup (ks.map cD)),.d (.int i),.d (.int x)]) [] λv s=>v=.d (.tup ((ks.set i (some x)).map cD)):=by
 have n_:(100:Nat)<=sizeLine:=by decide
 refine W.call zoW rfl ?_;unfold Vk;refine Y ?_;rw[Jp (by rw[cj];lia)];refine cH (zh3 (by rw[uF,cj];show _+1<=_;lia)) ?_;refine Y ?_;rw[show (i:Int)+1=((i+1:Nat):Int) by lia,wN (by rw[cj];lia)];refine cH (zh3 (by rw[dH,uF,Et,cj];show _+1+_<=_;lia)) ?_;rw[zlx hi]
theorem zek(h:Web n ps)(hd:1<=d)(qp:1<=k)(hk:k<=24):∀(m k':Nat) (ks:List (Option Int)) (x:D),Kn n k ks->Sh m x->W (call aq T (m+k'+2) true 42 [.d (bJ n ps),.d (bB k d),.d (.tup (ks.map cD)),.d x]) [] λv s=>v=.d (.bl (pap n k d ps m ks x))
 |0,_,_,_,_,hx=>hx.elim
 |m+1,k',ks,x,q,hx=>by
  obtain⟨Wi,hxt⟩:=hx;have hql:=q.len;have h8:=h.h8;have n_:(100:Nat)<=sizeLine:=by decide
  rw[show m+1+k'+2=m+k'+2+1 by lia];refine W.call zoP rfl ?_;unfold Vl;have ew:bJ n ps=.tup [.int n,.tup (ps.map h_)]:=rfl;have er:bB k d=.tup [.int k,.int d]:=rfl;cases x with
  |tup xs=>
   obtain⟨h1,h2,h3⟩:=hxt xs rfl;rcases xs with _|⟨a,_|⟨b,_|⟨c,_|⟨e,r⟩⟩⟩⟩
   ·first|exact Y trivial|exact Y rfl
   ·first|exact Y trivial|exact Y rfl
   ·have ha:=h1 a _ rfl;have hb:=h2 b Rb;have ep:pap n k d ps (m+1) ks (.tup [a,b])=(n8 "end" a&&uw n k d ps ks b):=rfl;rw[ep];cases a with
    |str w=>
     refine Y ?_;refine W.c0 (zgD hb) ?_;cases b with
     |int p=>
      refine Y ?_;refine WS.ite (λhc=>?_) (λhc=>?_)
      ·have hc:¬(0<=p/\p<n):=λz=>by rw[fZ z] at hc;cases hc
       rw[zjt (n:=n) (b:=.int p) (gQ (p:=(0<=p/\p<=n-1)) gV),E_]
       first|exact Y trivial|exact Y rfl
      ·have hc:0<=p/\p<n:=by simpa using hc
       have ee:uw n k d ps ks (.int p)=jz k d ps ks p:=by
        show (decide (0<=p/\p<n)&&_)=_;rw[fZ hc];rfl
       rw[ee];refine Y ?_;have es:n8 "end" (.str w)=(w=="end"):=rfl;rw[es];refine W.ite (λhw=>?_) (λhw=>?_)
       ·rw[show (w=="end")=true from hw];refine Y ?_;refine W.c0 (zko h hd qp hk q hc) ?_
        first|exact Y trivial|exact Y rfl
       ·rw[show (w=="end")=false from by simpa using hw]
        first|exact Y trivial|exact Y rfl
     |exc _ _=>cases hb
     |ob _ _=>cases hb
     |any=>cases hb
     |_=>
      rw[show uw n k d ps ks _=false from rfl,E_]
      first|exact Y trivial|exact Y rfl
    |exc _ _=>cases ha
    |ob _ _=>cases ha
    |any=>cases ha
    |fd _ _=>cases ha
    |_=>first|exact Y trivial|exact Y rfl
   ·have ha:=h1 a _ rfl;have hb:=h2 b Rb;have hc:=h2 c Rb;have ep:pap n k d ps (m+1) ks (.tup [a,b,c])=(n8 "case" a&&kI (pap n k d ps m) n k ks b c):=rfl;rw[ep];cases a with
    |str w=>
     refine Y ?_;refine W.c0 (zgD hb) ?_;cases b with
     |int p=>
      refine Y ?_;refine WS.ite (λlW=>?_) (λhp=>?_)
      ·have lW:¬(0<=p/\p<n):=λz=>by rw[fZ z] at lW;cases lW
       rw[zjj (n:=n) (b:=.int p) (gQ (p:=(0<=p/\p<=n-1)) gV),E_]
       first|exact Y trivial|exact Y rfl
      ·have hp:0<=p/\p<n:=by simpa using hp
       obtain⟨i,rfl⟩:=wZ hp.1;obtain⟨cc,ec⟩:=J1 q hp.1 hp.2;have es:n8 "case" (.str w)=(w=="case"):=rfl;rw[es];refine Y ?_;refine W.ite (λhw=>?_) (λhw=>?_)
       ·rw[show (w=="case")=false from by simpa using hw]
        first|exact Y trivial|exact Y rfl
       rw[show (w=="case")=true from by simpa using hw];refine Y ?_;refine cH (rN hp.1 (wR ec)) ?_;refine Y ?_;rw[zh6];cases cc with
       |some z=>
        have:kI (pap n k d ps m) n k ks (.int i) c=false:=by
         cases c with
         |tup xs=>
          show (_&&((ks[(i:Int).toNat]?).join).isNone&&_&&_)=false;rw[ec];simp
         |_=>rfl
        rw[this]
        first|exact Y trivial|exact Y rfl
       |none=>
        cases c with
        |tup xs=>
         refine Y ?_;refine WS.ite (λhl=>?_) (λhl=>?_)
         ·have hl:¬((xs.length:Int)=k):=by simpa using hl
          have:kI (pap n k d ps m) n k ks (.int i) (.tup xs)=false:=by
           show (_&&_&&decide ((xs.length:Int)=k)&&_)=false;rw[gQ hl];simp
          rw[this]
          first|exact Y trivial|exact Y rfl
         have hl:(xs.length:Int)=k:=by simpa using hl
         have Wj:kI (pap n k d ps m) n k ks (.int i) (.tup xs)=(List.range k.toNat).all λj=>pap n k d ps m (ks.set i (some (j:Int))) (xs.getD j .non):=by
          show (decide (0<=(i:Int)/\(i:Int)<n)&&((ks[(i:Int).toNat]?).join).isNone&&decide ((xs.length:Int)=k)&&_)=_;rw[fZ hp,ec,fZ hl];rfl
         rw[Wj];refine Y ?_;refine⟨by rw[lC gV gV,lC gV gV];rfl,?_⟩;refine M5 (λi' J s=>s=[]/\(∃a4,J=[some (.d (bJ n ps)),some (.d (bB k d)),some (.d (.tup (ks.map cD))),some (.d (.tup [.str w,.int i,.tup xs])),a4])/\∀j,j<i'->pap n k d ps m (ks.set i (some (j:Int))) (xs.getD j .non)=true) ⟨rfl,⟨_,rfl⟩,λj hj=>absurd hj gV⟩ (λi' x J s e hI=>?_) (λJ s hI=>?_)
         ·obtain⟨rfl,⟨a4,rfl⟩,hI⟩:=hI;have D_:i'<(gZ 0 k).length:=(cI.mp e).1;unfold gZ at e D_;rw[cj,qx] at D_;rw[fB,zx D_] at e;cases e;have hi:i'<k.toNat:=by lia
          have hxi:i'<xs.length:=by lia
          refine Y ?_;refine W.c0 (znH gV gV) ?_;refine Y ?_;rw[show (0:Int)+(i':Nat)=(i':Int) by lia];refine cH (rN (x:=xs.getD i' .non) gV (by rw[jA,jW,cP hxi];rfl)) ?_;refine Y ?_;refine W.c0 (zek h hd qp hk m k' (ks.set i (some (i':Int))) (xs.getD i' .non) (ziH q gV) (h3 _ _ xs rfl _ (by rw[jW,cP hxi];exact Kv _))) ?_;cases hpp:pap n k d ps m (ks.set i (some (i':Int))) (xs.getD i' .non)
          ·refine Y ?_;refine .inr ⟨_,rfl,?_⟩;show Xv.d (.bl false)=_
           congr 2
           symm
           rw[KJ,Kl];intro jG;have:=fC.mp jG i' (uG.mpr hi);rw[hpp] at this;cases this
          ·refine Y ?_;refine .inl ⟨_,rfl,rfl,⟨_,rfl⟩,λj hj=>?_⟩;by_cases z:j=i'
           ·rw[z];exact hpp
           ·exact hI j gV
         ·obtain⟨rfl,⟨a4,rfl⟩,hI⟩:=hI;have e2:(gZ 0 k).length=k.toNat:=by unfold gZ;simp
          rw[e2] at hI;refine Y ?_;show Xv.d (.bl true)=_
          congr 2
          symm
          rw[KJ,fC];exact λj hj=>hI j (uG.mp hj)
        |exc _ _=>cases hc
        |ob _ _=>cases hc
        |any=>cases hc
        |_=>first|exact Y trivial|exact Y rfl
     |exc _ _=>cases hb
     |ob _ _=>cases hb
     |any=>cases hb
     |_=>
      rw[show kI (pap n k d ps m) n k ks _ c=false from rfl,E_]
      first|exact Y trivial|exact Y rfl
    |exc _ _=>cases ha
    |ob _ _=>cases ha
    |any=>cases ha
    |fd _ _=>cases ha
    |_=>first|exact Y trivial|exact Y rfl
   ·rw[show pap n k d ps (m+1) ks (.tup (a::b::c::e::r))=false from rfl];exact Y trivial
  |exc _ _=>cases Wi
  |ob _ _=>cases Wi
  |any=>cases Wi
  |_=>first|exact Y trivial|exact Y rfl
end
section
variable {n k d:Int}{ps:List (Int×Int)}
def N6(n k d:Int)(ps:List (Int×Int))(l m c:Nat):Prop:=∀F kvs,Fv n.toNat k.toNat F->unset F<=m->¬Sat (λi=>aA i ps) (bf k d) F->BZ n k d ps kvs->kvs.length+c<sizeLine->
 W (call aq T l true 30 [.d (yS n.toNat k.toNat (λi=>aA i ps) (bf k d)),.l 0,.d (iu F)]) [.dct kvs] λv s=>∃P kvs',v=.d P/\Pp n k d ps (unset F) F P/\s=[.dct kvs']/\BZ n k d ps kvs'/\kvs'.length<=kvs.length+c
theorem zha{l m c:Nat}(w:Web n ps)(hd:1<=d)(qp:0<=k)(hk:k<=24)(H:∀m',m=m'+1->N6 n k d ps (l+2) m' c){F:Fr}{kvs:gY}(v:Fv n.toNat k.toNat F)(hu:unset F<=m)(hs:¬Sat (λi=>aA i ps) (bf k d) F)(ha:BZ n k d ps kvs)(hl:kvs.length+k.toNat*c<sizeLine) :
  W (call aq T (l+3) true 31 [.d (yS n.toNat k.toNat (λi=>aA i ps) (bf k d)),.l 0,.d (iu F)]) [.dct kvs] λv s=>∃P kvs' r,v=.d P/\Pp n k d ps (unset F) F P/\s=.dct kvs'::r/\BZ n k d ps kvs'/\kvs'.length<=kvs.length+k.toNat*c:=by
 have B:=wQ w hd hk;have n_:(100:Nat)<=sizeLine:=by decide
 refine W.call zor rfl ?_;unfold Vc;refine Y ?_;refine W.cm rfl rfl (oJ rfl ((Wd (al:=true) B v).imp λx s=>?_));rintro(⟨rfl,hz⟩|⟨p,L,rfl,hL⟩)
 ·exact absurd (Uc hz) hs
 refine⟨_,rfl,?_⟩;have hp:=mV v.len hL;obtain⟨u,eu⟩ : ∃u,unset F=u+1:=by
  have:=JL (es:=λi=>aA i ps) (A:=bf k d) (x:=0) hL;exact⟨unset F-1,by lia⟩
 obtain⟨m',rfl⟩ : ∃m',m=m'+1:=⟨m-1,by lia⟩;have H:=H m' rfl;have QX:(eN k.toNat).length=k.toNat:=by unfold eN;simp
 refine Y ?_;refine u9 (λi J s=>∃(kvs':gY) (xs:List D) (a5:Option Xv),s=[.dct kvs',.lst xs]/\J=[some (.d (yS n.toNat k.toNat (λi=>aA i ps) (bf k d))),some (.l 0),some (.d (iu F)),some (.d (.int p)),some (.l 1),a5]/\BZ n k d ps kvs'/\kvs'.length<=kvs.length+i*c/\xs.length=i/\∀(j:Nat) P,xs[j]?=some P->Rw n k d ps u F p L j P) ⟨kvs,[],_,rfl,rfl,ha,by lia,rfl,λj P e=>by simp at e⟩ (λi z J s e hI=>?_) (λJ s hI=>?_)
 ·obtain⟨kvs',xs,a5,rfl,rfl,h1,h2,h3,h4⟩:=hI;rw[fB] at e;cases ei:(eN k.toNat)[i]? with
  |none=>rw[ei] at e;cases e
  |some x=>
   rw[ei] at e;cases e;have hi:i<k.toNat:=by have:=(cI.mp ei).1;lia
   have ex:x=i:=by
    unfold eN at ei;rw[fB,zx hi] at ei;exact(cW ei).symm
   subst ex;have hc:(i+1)*c<=k.toNat*c:=zp _ hi;have lW:(i+1)*c=i*c+c:=zG ..;have put:∀{P:D},Rw n k d ps u F p L i P->∀(j:Nat) Q,(xs++[P])[j]?=some Q->Rw n k d ps u F p L j Q:=λ{P} hP j Q e=>by
    rw[List.getElem?_append] at e;split at e
    ·exact h4 j Q e
    ·have hj:j=i:=by
      have:=(cI.mp e).1;simp at this
      lia
     subst hj;rw[h3,Nat.sub_self] at e;cases e;exact hP
   refine Y ?_;refine cH (rN gV (JM hL)) ?_;show W (evs aq true _ .nil _) _ _;refine Y ?_;refine cH (show prim .inn [.int (i:Int),aU (some L)]=_ from zml (f:=id)) ?_;by_cases hx:(i:Int)∈L
   ·rw[fZ hx];refine Y ?_;refine W.cm rfl rfl (W.c0 (J5 B v hp (v.lo p L hL _ hx)) ?_);refine Y ?_;have hu2:=JL (es:=λi=>aA i ps) (A:=bf k d) (x:=(i:Int)) hL;have Dj:¬Sat (λi=>aA i ps) (bf k d) (settle (λi=>aA i ps) (bf k d) F p i):=λz=>hs ((BR B v hp hL).mpr ⟨_,hx,z⟩);refine MK (n:=0) rfl rfl ((H _ kvs' (JF B v hp) gV Dj h1 gV).imp λv1 s1=>?_);rintro⟨P,cY,rfl,hP,rfl,g1,g2⟩;refine⟨_,_,rfl,rfl,?_⟩;refine Y ?_;refine⟨by lia,?_⟩;refine Y ?_;refine⟨_,rfl,cY,xs++[P],_,rfl,rfl,g1,by lia,by simp;lia,put ?_⟩;unfold Rw;rw[if_pos hx];exact hP.up gV
   ·rw[gQ hx];refine Y ?_;refine⟨by lia,?_⟩;refine Y ?_;refine⟨_,rfl,kvs',xs++[.tup [.str "end",.int p]],_,rfl,rfl,h1,by lia,by simp;lia,put ?_⟩;unfold Rw;rw[if_neg hx]
 ·obtain⟨kvs',xs,a5,rfl,rfl,h1,h2,h3,h4⟩:=hI;rw[cj,QX] at h2 h3;refine Y ?_;refine⟨_,kvs',_,rfl,?_,rfl,h1,h2⟩;rw[eu];exact zkn w hd qp hk v.len hL h3 h4
theorem zc2{l m c:Nat}(w:Web n ps)(hd:1<=d)(qp:0<=k)(hk:k<=24)(H:∀m',m=m'+1->N6 n k d ps (l+2) m' c):N6 n k d ps (l+4) m (1+k.toNat*c):=by
 intro F kvs v hu hs ha hl;have B:=wQ w hd hk;have hub:=zc7 (es:=λi=>aA i ps) (F:=F);refine W.call zoD rfl ?_;unfold Vb;refine Y ?_;refine cH (zll (f:=id)) ?_;by_cases e0:some []∈F
 ·rw[fZ e0];obtain⟨j,hj,ej⟩:=zno e0;refine Y ?_;refine KaV ?_;refine Y ?_;refine⟨rfl,?_⟩;refine Y ?_;refine cH ej ?_;refine Y ?_;exact⟨_,kvs,rfl,zmw (mV v.len hj) λks q f=>zky f hj,rfl,ha,by lia⟩
 ·rw[gQ e0];have ne:∀(i:Nat) L,F[i]?=some (some L)->L≠[]:=λi L h q=>by subst q;exact e0 (dM h)
  have sb:=zgf B v ne;have up:∀{P:D},Pp n k d ps (unset (bnd (λi=>aA i ps) F)) (bnd (λi=>aA i ps) F) P->Pp n k d ps (unset F) F P:=λ{P} h=>(show Pp n k d ps _ F P from ⟨h.1,λks q f=>h.2 ks q (zl3 f)⟩).up hub;refine Y ?_;refine W.cm rfl rfl (W.c0 (zgs B v) ?_);refine Y ?_;refine W.vR rfl rfl (yQ _) rfl ?_;cases eg:bO ((bnd (λi=>aA i ps) F).map cellK) kvs with
  |some P=>
   refine Y ?_;refine W.kh rfl rfl (yQ _) rfl eg ?_;refine Y ?_;exact⟨P,kvs,rfl,up (ha _ _ eg),rfl,ha,by lia⟩
  |none=>
   refine Y ?_;refine WS.dput rfl rfl (yQ _) ?_;refine Y ?_;refine Kat (s:=[]) rfl ((zha (m:=m) (c:=c) w hd qp hk H (zif v) gV (λz=>hs (sb.mp z)) ha gV).imp λv1 s1=>?_);rintro⟨P,cY,r,rfl,hP,rfl,g1,g2⟩;refine⟨_,_,_,rfl,rfl,?_⟩;refine⟨_,cY,rfl,rfl,by lia,?_⟩;refine Y ?_;refine W.kh (v:=P) rfl rfl (yQ _) rfl (by rw[Nb,if_pos rfl]) ?_;refine Y ?_;have:=zen (q:=(bnd (λi=>aA i ps) F).map cellK) (d:=P) (kvs:=cY);exact⟨P,_,rfl,up hP,rfl,zi1 g1 hP,by lia⟩
theorem zdj(w:Web n ps)(hd:1<=d)(qp:0<=k)(hk:k<=24):∀m j,N6 n k d ps (2*m+4+j) m (cnt k.toNat m)
 |0,j=>by
  rw[show 2*0+4+j=j+4 by lia];have:=zc2 (l:=j) (m:=0) (c:=0) w hd qp hk (λm' e=>by lia);exact this
 |m+1,j=>by
  rw[show 2*(m+1)+4+j=(2*m+2+j)+4 by lia];refine zc2 w hd qp hk λm' e=>?_;have em:m=m':=by lia
  subst em;rw[show 2*m+2+j+2=2*m+4+j by lia];exact zdj w hd qp hk m j
end
section
variable {n k d:Int}{ps:List (Int×Int)}{ks:List (Option Int)}
def Tld(n k d:Int)(ps:List (Int×Int))(ks:List (Option Int))(P:D):Prop:=Mk n k n.toNat P/\pap n k d ps (n.toNat+1) ks P=true
theorem zdq{k':Nat}(h:Web n ps)(hd:1<=d)(rQ:d<=k)(hk:k<=24)(q:Kn n k ks)(hz:cnt k.toNat n.toNat+k.toNat*cnt k.toNat (n.toNat-1)+tot k.toNat (n.toNat-1)<sizeLine) :
  W (call aq T (k'+41) true 28 [.d (bJ n ps),.d (bB k d),.d (.tup (ks.map cD))]) [] λv s=>(v=.d .non/\∃hs,oK n k d ps ks hs)\/∃P,v=.d P/\Tld n k d ps ks P/\∀hs,¬oK n k d ps ks hs:=by
 have n_:(100:Nat)<=sizeLine:=by decide
 have h1:=h.h1;have h8:=h.h8;have hql:=q.len;have B:=wQ h hd hk;refine W.call zoU rfl ?_;unfold U_;refine Y ?_;refine oJ rfl ((ziQ h hd rQ hk q hz).imp λv s=>?_);rintro(⟨rfl,jQ⟩|⟨hs,rfl,hh,_⟩)
 ·refine⟨_,rfl,?_⟩;refine Y ?_;refine W.c0 (zf5 h hd rQ hk) ?_;refine Y ?_;refine n6 (l:=ks) (f:=cD) (λ_=>some (.tup ((eN k.toNat).map .int))) gV ?_ (λc hc=>?_) ?_
  ·refine Y ?_;exact⟨rfl,rfl⟩
  ·refine Y ?_;refine⟨rfl,λ_=>?_,λhb=>by cases hb⟩;refine Y ?_;exact⟨rfl,_,rfl,rfl⟩
  have e0:D.tup (ks.filterMap λ_=>some (D.tup ((eN k.toNat).map .int)))=iu (ks.map λ_=>some (eN k.toNat)):=by
   rw[u_];unfold iu;rw[zF];rfl
  refine Y ?_;rw[e0];refine Ud ?_;refine M5 (λi J s=>s=[]/\∃(F:Fr) (a5 a6:Option Xv),J=[some (.d (bJ n ps)),some (.d (bB k d)),some (.d (.tup (ks.map cD))),some (.d (yS n.toNat k.toNat (λi=>aA i ps) (bf k d))),some (.d (iu F)),a5,a6]/\Sg n k d ps ks i F) ⟨rfl,_,_,_,rfl,zo2 hk gV⟩ (λi z J s e hI=>?_) (λJ s hI=>?_)
  ·obtain⟨rfl,F,a5,a6,rfl,hS⟩:=hI;rw[Tv,fB] at e;cases ei:ks[i]? with
   |none=>rw[ei] at e;cases e
   |some c=>
    rw[ei] at e;cases e;have hi:i<n.toNat:=by have:=(cI.mp ei).1;lia
    refine Y ?_;refine W.c0 (zjF (p:=((0+i:Nat):Int)) h hd hk q gV) ?_;rw[Fe];cases qG:jz k d ps ks i with
    |true=>
     refine Y ?_;refine .inr ⟨_,rfl,.inr ⟨_,rfl,⟨Ul ⟨by lia,by lia⟩,?_⟩,jQ⟩⟩;show (n8 "end" (.str "end")&&(decide ((0:Int)<=i/\(i:Int)<n)&&jz k d ps ks i))=true;rw[qG,fZ gV];simp[n8]
    |false=>
     refine Y ?_;cases c with
     |none=>
      refine Y ?_;exact .inl ⟨_,rfl,rfl,F,_,_,rfl,zmv hS ei qG⟩
     |some x=>
      have hx:=q.lo x (dM ei);refine Y ?_;refine W.cm rfl rfl (W.c0 (J5 B hS.fv hi gV) ?_);refine Y ?_;exact .inl ⟨_,rfl,rfl,_,_,_,rfl,ziX h hd hk hS ei qG⟩
  ·obtain⟨rfl,F,a5,a6,rfl,hS⟩:=hI;rw[Tw,cj] at hS;have hft:=hS.ft;have yX:=hS.full;rw[zkb] at hft yX;have Dj:¬Sat (λi=>aA i ps) (bf k d) F:=λz=>by
    obtain⟨hs,hh⟩:=zmf h hd hk hS.fv.len q hft yX (λi hi=>hS.st i gV) z;exact jQ hs hh
   have hu:unset F<=n.toNat:=by have:=zhH (F:=F);have:=hS.fv.len;lia
   have key:=zdj h hd (show 0<=k by lia) hk n.toNat (k'+40-(2*n.toNat+4)) F [] hS.fv hu Dj (λF P e=>by cases e) (by show 0+_<_;lia);rw[show 2*n.toNat+4+(k'+40-(2*n.toNat+4))=k'+40 by lia] at key;refine Y ?_;refine W.nG ?_;refine Y ?_;refine rM (s:=[]) rfl (key.imp λv1 s1=>?_);rintro⟨P,kvs,rfl,hP,rfl,_,_⟩;refine⟨_,_,rfl,rfl,?_⟩;refine Y ?_;have hP:=hP.up hu;exact .inr ⟨P,rfl,⟨hP.1,hP.2 ks q hft⟩,jQ⟩
 ·refine⟨_,rfl,?_⟩;refine Y ?_;exact .inl ⟨rfl,hs,hh⟩
theorem zmT{m:Nat}{P:D}(h:Mk n k m P):∃xs,P=.tup xs:=by
 cases m with
 |zero=>obtain⟨p,_,rfl⟩:=h;exact⟨_,rfl⟩
 |succ m=>
  rcases h with ⟨p,_,rfl⟩|⟨p,xs,_,_,_,rfl⟩
  ·exact⟨_,rfl⟩
  ·exact⟨_,rfl⟩
theorem Wm{k':Nat}(h:Web n ps)(hd:1<=d)(rQ:d<=k)(hk:k<=24)(q:Kn n k ks)(hz:cnt k.toNat n.toNat+k.toNat*cnt k.toNat (n.toNat-1)+tot k.toNat (n.toNat-1)<sizeLine)(hB:(n.toNat+1)*(k.toNat+1)^n.toNat+n.toNat<1000000000) :
  W (call aq T (k'+42) true 43 [.d (bJ n ps),.d (bB k d),.d (.tup (ks.map cD))]) [] λv s=>v=.d (.bl true):=by
 have h8:=h.h8;refine W.call zoM rfl ?_;unfold Vm;refine Y ?_;refine oJ rfl ((zdz (k':=k'+39) h gV q hB).imp λv s=>?_);rintro(⟨rfl,jQ⟩|⟨hs,rfl,hh,_⟩)
 ·refine⟨_,rfl,?_⟩;refine Y ?_;refine⟨rfl,?_⟩;refine u9 (λ_ J s=>s=[]/\∃a4 a5,J=[some (.d (bJ n ps)),some (.d (bB k d)),some (.d (.tup (ks.map cD))),some (.d .non),a4,a5]) ⟨rfl,_,_,rfl⟩ (λi y J s e hI=>?_) (λJ s hI=>?_)
  ·obtain⟨rfl,a4,a5,rfl⟩:=hI;refine Y ?_;refine oJ rfl ((zdq h hd rQ hk q hz).imp λv s=>?_);rintro(⟨rfl,hs,hh⟩|⟨P,rfl,hP,_⟩)
   ·exact absurd hh (jQ hs)
   refine⟨_,rfl,?_⟩;have key:=zek h hd gV hk (n.toNat+1) (k'+41-(n.toNat+3)) ks P q (zlw hP.1);rw[show n.toNat+1+(k'+41-(n.toNat+3))+2=k'+41 by lia,hP.2] at key;obtain⟨xs,rfl⟩:=zmT hP.1;refine Y ?_;refine W.c0 key ?_;refine Y ?_;exact⟨_,rfl,rfl,_,_,rfl⟩
  ·obtain⟨rfl,a4,a5,rfl⟩:=hI;exact Y trivial
 ·refine⟨_,rfl,?_⟩;refine Y ?_;refine⟨rfl,?_⟩;refine u9 (λ_ J s=>s=[]/\∃a4 a5,J=[some (.d (bJ n ps)),some (.d (bB k d)),some (.d (.tup (ks.map cD))),some (.d (.tup (hs.map .int))),a4,a5]) ⟨rfl,_,_,rfl⟩ (λi y J s e hI=>?_) (λJ s hI=>?_)
  ·obtain⟨rfl,a4,a5,rfl⟩:=hI;refine Y ?_;refine oJ rfl ((zdq h hd rQ hk q hz).imp λv s=>?_);rintro(⟨rfl,_⟩|⟨P,rfl,_,jQ⟩)
   ·refine⟨_,rfl,?_⟩;refine Y ?_;exact⟨_,rfl,rfl,_,_,rfl⟩
   ·exact absurd hh (jQ hs)
  ·obtain⟨rfl,a4,a5,rfl⟩:=hI;exact Y trivial
end
def rR(o:SO):Prop:=∃a b:Int,o=.lst [.int a,.int b]/\0<=a/\(b=0\/b=1)
theorem Wn{k:Nat}{o:SO}{m:Int}(ho:rR o)(hm:0<m)(hm2:m<1073741824):W (call aq T (k+1) true 34 [.l 0,.d (.int m)]) [o] λv s=>∃d o',v=.d d/\s=[o']/\(∃r:Int,d=.int r/\0<=r/\r<m)/\rR o':=by
 obtain⟨a,b,rfl,ha,hb⟩:=ho;refine W.call zoF rfl ?_;unfold Vf;rcases hb with rfl|rfl
 ·refine Y ?_;exact⟨_,_,rfl,rfl,⟨_,rfl,Cw _ gV,En _ hm⟩,⟨_,_,rfl,Cw _ J0,.inl rfl⟩⟩
 ·refine Y ?_;exact⟨_,_,rfl,rfl,⟨_,rfl,Cw _ gV,En _ hm⟩,⟨_,_,rfl,Int.ediv_nonneg ha gV,.inr rfl⟩⟩
theorem znD{k:Nat}{n:Int}:W (call aq T (k+1) true 33 [.d (.int n)]) [] λv s=>∃i o,v=.l i/\s[i]?=some o/\rR o:=by
 refine W.call zot rfl ?_;unfold Ve;refine Y ?_;refine⟨0,_,rfl,rfl,⟨_,_,rfl,?_,?_⟩⟩
 ·split<;>lia
 ·have:∀c:Bool,(if c=true then (1:Int) else 0)=0\/(if c=true then (1:Int) else 0)=1:=by intro c;cases c<;>simp
  exact this _
theorem J8{k:Nat}{o:SO}{m:Int}{P:Xv->S->Prop}(ho:rR o)(hm:0<m)(hm2:m<1073741824)(h:∀(r:Nat) o',(r:Int)<m->rR o'->P (.d (.int r)) [o']):W (bR (call aq T (k+1) true 34) [.l 0,.d (.int m)]) [o] P:=by
 refine MK (n:=0) (o:=o) rfl rfl ((Wn ho hm hm2).imp λv s=>?_);rintro⟨d,o',rfl,rfl,⟨r,rfl,h0,h1⟩,hp⟩;obtain⟨n,rfl⟩:=wZ h0;exact⟨_,_,rfl,rfl,h n o' h1 hp⟩
theorem zkL{k:Nat}{ns:List Int}:W (call aq T (k+1) true 32 [.d (.fl (ns.map D.int)),.d (.int 0)]) [] λv _=>∃n,v=.d (.int n):=by
 refine W.call zoH rfl ?_;unfold Vd;cases ns with
 |nil=>
  refine Y ?_;exact⟨_,rfl⟩
 |cons n r=>
  refine Y ?_;refine WS.ite (λ_=>?_) (λ_=>?_)
  ·refine Y ?_;refine cH (Jg (i:=0) (x:=.int n) rfl) ?_;refine Y ?_;exact⟨_,rfl⟩
  ·refine Y ?_;exact⟨_,rfl⟩
theorem zgW{k:Nat}{o:SO}{n:Int}(ho:rR o)(h1:1<=n)(h8:n<=8):W (call aq T (k+2) true 36 [.l 0,.d (.int n)]) [o] λv s=>∃ps o',v=.d (bJ n ps)/\s=[o']/\Web n ps/\rR o':=by
 refine W.call zoJ rfl ?_;unfold Vg;have hs:(100:Nat)<=sizeLine:=by decide
 refine Y ?_;refine J8 ho J0 J0 λr o' hr hp=>?_;refine Y ?_;have Dp:r<3:=by lia
 refine cH (Jg (x:=.int (([2,4,6]:List Int)[r]'Dp)) ?_) ?_
 ·revert Dp;revert r;intro r _ Dp;exact match r,Dp with
  |0,_=>rfl|1,_=>rfl|2,_=>rfl
  |n+3,h=>absurd h gV
 generalize ([2,4,6]:List Int)[r]=often;refine Y ?_;refine⟨by rw[lC gV gV,lC gV gV];rfl,?_⟩;refine u9 (λ(i:Nat) J s=>∃(ps:List (Int×Int)) (a:Option Xv) (o':SO),J=[some (.l 0),some (.d (.int n)),some (.d (.int often)),some (.d (.fl (ps.map h_))),a]/\s=[o']/\rR o'/\(∀p∈ps,0<=p.1/\p.1<(i:Int)/\p.1<p.2/\p.2<n)/\ps.Pairwise lx/\ps.length<=7*i)
  ⟨[],_,_,rfl,rfl,hp,by simp,by simp,by simp⟩ (λi x J s e hI=>?_) (λJ s hI=>?_)
 ·obtain⟨ps,a,o',rfl,rfl,hp,ht,Cd,hlen⟩:=hI;obtain⟨rfl,hi⟩:=zl2 e;have hi8:i<8:=by lia
  refine Y ?_;refine Kaw (c:=gZ (0+(i:Int)+1) n) (λ(j:Nat) acc s=>∃(es:List Int) (o':SO),acc=es.map (λe=>h_ (0+(i:Int),e))/\es.Pairwise (·<·)/\(∀e∈es,(i:Int)<e/\e<(i:Int)+1+j)/\s=[o']/\rR o') ?_ (λj x acc s e hJ=>?_) (λacc s hJ=>?_)
  ·refine Y ?_;refine⟨by rw[lC gV gV,lC gV gV];rfl,?_⟩;exact⟨rfl,[],_,rfl,by simp,by simp,rfl,hp⟩
  ·obtain⟨es,o',rfl,Ed,yZ,rfl,hp⟩:=hJ;obtain⟨rfl,hj⟩:=zl2 e;have hel:(es.length:Int)<=(i:Int)+1+j-((i:Int)+1):=Tz Ed (λe he=>by have:=yZ e he;lia) gV;refine Y ?_;refine J8 hp J0 J0 λr o' hr hp=>?_;refine Y ?_;refine⟨λhb=>?_,λhb=>?_⟩
   ·refine Y ?_;refine⟨_,rfl,by rw[cj];lia,es++[0+(i:Int)+1+j],o',?_,?_,?_,rfl,hp⟩
    ·rw[qy];rfl
    ·rw[List.pairwise_append];refine⟨Ed,by simp,λa ha b hb=>?_⟩;simp at hb;have:=yZ a ha
     lia
    ·intro e he;rcases kO.mp he with he|he
     ·have:=yZ e he;lia
     ·simp at he;lia
   ·exact⟨es,o',rfl,Ed,λe he=>by have:=yZ e he;lia,rfl,hp⟩
  ·obtain⟨es,o',rfl,Ed,yZ,rfl,hp⟩:=hJ;rw[zh1] at yZ;have hel:(es.length:Int)<=n-((i:Int)+1):=Tz Ed (λe he=>by have:=yZ e he;lia) gV;refine Y ?_;refine MJ (zhZ ?_) ?_
   ·rw[cj,cj];lia
   refine Y ?_;refine⟨_,rfl,ps++es.map (λe=>(0+(i:Int),e)),some (.d (.int (0+(i:Int)))),o',?_,rfl,hp,?_,?_,?_⟩
   ·rw[qy,zF];rfl
   ·intro p hp;rcases kO.mp hp with hp|hp
    ·have:=ht p hp;lia
    ·obtain⟨e,he,rfl⟩:=rB.mp hp;have:=yZ e he;dsimp only
     lia
   ·rw[List.pairwise_append,O4];refine⟨Cd,Ed.imp λh=>.inr ⟨rfl,h⟩,λp hp q hq=>?_⟩;obtain⟨e,he,rfl⟩:=rB.mp hq;have:=ht p hp;exact .inl (by dsimp only;lia)
   ·rw[dH,cj];lia
 ·obtain⟨ps,a,o',rfl,rfl,hp,ht,Cd,hlen⟩:=hI;rw[zh1] at ht hlen;refine Y ?_;refine⟨ps,o',rfl,rfl,⟨h1,h8,λp hp=>?_,Cd,by lia⟩,hp⟩;have:=ht p hp
  lia
theorem zkV{xs:List D}{r:Nat}(hr:r<xs.length):∃x,prim .ix [.fl xs,.int r]=some (.dat x)/\x∈xs:=⟨xs[r],Jg (cP hr),Kv _⟩
theorem zjL{xs:List D}{z:Int}(h0:0<=z)(hz:z<xs.length):∃x,prim .ix [.fl xs,.int z]=some (.dat x)/\x∈xs:=by
 obtain⟨r,rfl⟩:=wZ h0;exact zkV gV
theorem zmh{xs:List Int}{r:Nat}{q:Int->Prop}(hb:∀z∈xs,q z)(hr:r<xs.length):∃z:Int,prim .ix [.fl (xs.map .int),.int r]=some (.dat (.int z))/\q z:=
 ⟨xs[r],Jg (by rw[fB,cP hr];rfl),hb _ (Kv _)⟩
theorem zd7{k':Nat}{o:SO}{n k d:Int}{ps:List (Int×Int)}(ho:rR o)(h1:1<=n)(h8:n<=8)(hk:1<=k/\k<=24):W (call aq T (k'+2) true 38 [.l 0,.d (bJ n ps),.d (bB k d)]) [o] λv s=>∃(ks:List (Option Int)) (o':SO),v=.d (.tup (ks.map cD))/\s=[o']/\Kn n k ks/\rR o':=by
 refine W.call zoB rfl ?_;unfold Vh bJ bB;have n_:(100:Nat)<=sizeLine:=by decide
 refine Y ?_;refine J8 ho J0 J0 λr o' hr hp=>?_;refine Y ?_;obtain⟨z,ez,_⟩:=zmh (xs:=[1,2,4]) (r:=r) (q:=λz=>True) J0 (by show r<3;lia);refine cH ez ?_;refine Y ?_;refine Kaw (c:=(List.range (n-0).toNat).map λ(j:Nat)=>.int (0+j)) (λi acc s'=>∃(o:SO) (ks:List (Option Int)),s'=[o]/\rR o/\acc=ks.map cD/\ks.length=i/\∀x,some x∈ks->0<=x/\x<k) ?_ (λi x acc s' e hI=>?_) (λacc s' hI=>?_)
 ·refine Y ?_;refine⟨by rw[lC gV gV,lC gV gV];rfl,?_⟩;exact⟨rfl,o',[],rfl,hp,rfl,rfl,λx hx=>by cases hx⟩
 ·obtain⟨o,ks,rfl,hp,rfl,hl,G5⟩:=hI;have hi:=(cI.mp e).1;rw[cj,qx] at hi;refine Y ?_;refine⟨λ_=>?_,λhb=>by cases hb⟩;refine Y ?_;refine J8 hp J0 J0 λr2 o2 hr2 hp=>?_;refine Y ?_;refine W.ite (λc=>?_) (λc=>?_)
  ·refine Y ?_;refine J8 hp gV gV λr3 o3 hr3 hp=>?_;refine⟨_,rfl,by rw[cj];lia,o3,ks++[some (r3:Int)],rfl,hp,by rw[qy];rfl,by simp[hl],λx hx=>?_⟩;rcases kO.mp hx with hx|hx
   ·exact G5 x hx
   ·have:x=r3:=by simpa using hx
    lia
  ·refine Y ?_;refine⟨_,rfl,by rw[cj];lia,o2,ks++[none],rfl,hp,by rw[qy];rfl,by simp[hl],λx hx=>?_⟩;rcases kO.mp hx with hx|hx
   ·exact G5 x hx
   ·simp at hx
 ·obtain⟨o,ks,rfl,hp,rfl,hl,G5⟩:=hI;rw[cj,qx] at hl;refine Y ?_;exact⟨ks,o,rfl,rfl,⟨by lia,G5⟩,hp⟩
theorem small{n k:Int}(h5:n<=5)(hk:k<=7):cnt k.toNat n.toNat+k.toNat*cnt k.toNat (n.toNat-1)+tot k.toNat (n.toNat-1)<sizeLine:=by
 have h1:=Uj (k:=k.toNat) (k2:=7) (m:=n.toNat) (m2:=5) gV gV;have h2:=Uj (k:=k.toNat) (k2:=7) (m:=n.toNat-1) (m2:=4) gV gV;have h3:=zhP (k:=k.toNat) (k2:=7) (m:=n.toNat-1) (m2:=4) gV gV;have h4:k.toNat*cnt k.toNat (n.toNat-1)<=7*cnt 7 4:=CG gV h2;have e:cnt 7 5+7*cnt 7 4+tot 7 4<sizeLine:=by decide
 lia
noncomputable def zc:List (Int×Int):=[(2,1),(3,1),(5,2),(4,1),(4,2),(3,2),(5,3)]
theorem zjp{n:Int}(h:1<=n/\n<=1000):prim .mult [.tup [.non],.int n]=some (.dat (.tup ((List.replicate n.toNat none).map cD))):=by
 show (if _ then _ else _)=_;rw[if_pos ⟨h.1,h.2,by decide,by decide⟩];have:∀k:Nat,rep [D.non] k=(List.replicate k (none:Option Int)).map cD:=λk=>by
  unfold rep
  induction k with
  |zero=>rfl
  |succ k ih=>rw[Cm,O1,ih,Cm];rfl
 rw[this]
theorem zfs{n k:Int}(h:0<=n):Kn n k (List.replicate n.toNat none):=⟨by rw[Ef];lia,λi hi=>by cases List.eq_of_mem_replicate hi⟩
theorem uy(ns:List Int)(hn:ns.length<=63):∃s',call aq T 60 true 44 [.d (.fl (ns.map D.int))] []=some (.ok (.d (.bl true)),s'):=by
 suffices h:W (call aq T 60 true 44 [.d (.fl (ns.map D.int))]) [] λv _=>v=.d (.bl true) by
  obtain⟨v,s',e,rfl⟩:=h;exact⟨s',e⟩
 have hs:(20000:Nat)<=sizeLine:=by decide
 refine W.call (k:=59) zoR rfl ?_;unfold Vn;refine Y ?_;have hw1:Web 1 []:=⟨by decide,by decide,by decide,List.Pairwise.nil,by decide⟩;have xX:Kn 1 1 [none]:=⟨rfl,λi h=>by simp at h⟩;have e1:(D.tup [.int 1,.tup []])=bJ 1 []:=rfl;have e2:(D.tup [.int 1,.int 1])=bB 1 1:=rfl;have e3:(D.tup [.non])=.tup (([none]:List (Option Int)).map cD):=rfl;rw[e1,e2,e3];refine W.c0 (Wm (k':=17) (d:=1) hw1 J0 J0 J0 xX (small J0 J0) (BL J0 J0)) ?_;refine Y ?_;have hw2:Web 3 [(0,1),(0,2),(1,2)]:=⟨by decide,by decide,by decide,by simp[lx],by decide⟩;have e4:(D.tup [.int 3,.tup [.tup [.int 0,.int 1],.tup [.int 0,.int 2],.tup [.int 1,.int 2]]])=bJ 3 [(0,1),(0,2),(1,2)]:=rfl;have e5:(D.tup [.int 2,.int 1])=bB 2 1:=rfl;have e6:D.tup (rep [D.non] (Int.toNat 3))=.tup ((List.replicate (3:Int).toNat none).map cD):=rfl;rw[e4,e5,e6];refine W.c0 (Wm (k':=17) (d:=1) hw2 J0 J0 J0 (zfs J0) (small J0 J0) (BL J0 J0)) ?_;refine Y ?_;refine oJ rfl ((zkL (k:=58)).imp λv _=>?_);rintro⟨n0,rfl⟩;refine⟨_,rfl,?_⟩;refine Y ?_;refine MJ (zhZ ?_) ?_
 ·have:=zjI (ns:=ns) (lo:=some 1) (hi:=some 3);show 1+_<=_
  lia
 refine Y ?_;refine u9 (λ_ J s=>∃(a b c d e:Option Xv),J=[some (.d (.fl (ns.map D.int))),a,b,c,d,e]) ⟨_,_,_,_,_,rfl⟩ (λi x J s hx pF=>?_) (λJ s pF=>?_)
 ·obtain⟨m,rfl⟩ : ∃m,x=.int m:=by
   rcases kO.mp (dM hx) with z|z
   ·rcases iG.mp z with rfl|z
    ·exact⟨_,rfl⟩
    ·cases z
   ·exact zjk z
  obtain⟨a,b,c,d,e,rfl⟩:=pF;refine Y ?_;refine Kap rfl ((znD (k:=58)).imp λv s1=>?_);rintro⟨j,o,rfl,hj,hp⟩;refine⟨j,o,rfl,hj,?_⟩;refine Y ?_;refine rM rfl ((Wn (k:=58) hp (m:=5) gV gV).imp λv s1=>?_);rintro⟨_,o1,rfl,rfl,⟨r,rfl,hr0,hr1⟩,hp⟩;refine⟨_,_,rfl,rfl,?_⟩;refine Y ?_;have hz:1<=1+r/\1+r<=5:=by lia
  generalize 1+r=z at hz ⊢;refine rM rfl ((zgW (k:=57) hp (n:=z) gV gV).imp λv s1=>?_);rintro⟨ps,o3,rfl,rfl,hw,hp⟩;refine⟨_,_,rfl,rfl,?_⟩;refine Y ?_;refine rM rfl ((Wn (k:=58) hp (m:=7) gV gV).imp λv s1=>?_);rintro⟨_,o4,rfl,rfl,⟨r2,rfl,hr2,hr3⟩,hp⟩;refine⟨_,_,rfl,rfl,?_⟩;obtain⟨rg,er0,hrg⟩:=zjL (xs:=zc.map λp=>bB p.1 p.2) (z:=r2) hr2 (by show r2<7;exact hr3);refine Y ?_;refine cH er0 ?_;obtain⟨⟨kk,dd⟩,hkd,rfl⟩:=rB.mp hrg;have hr:1<=dd/\dd<=kk/\kk<=5:=(show ∀p∈zc,1<=p.2/\p.2<=p.1/\p.1<=5 by decide) _ hkd;clear er0 hrg hkd;dsimp only;have ew:bJ z ps=.tup [.int z,.tup (ps.map h_)]:=rfl;refine Y ?_;refine cH (zjp (n:=z) gV) ?_;have qp:Kn z kk (List.replicate z.toNat none):=zfs gV;refine Y ?_;refine rM rfl ((zd7 (k':=57) hp gV gV gV).imp λv s1=>?_);rintro⟨ks,o5,rfl,rfl,hks,hp⟩;refine⟨_,_,rfl,rfl,?_⟩;refine Y ?_;refine rM rfl ((zd7 (k':=57) hp gV gV gV).imp λv s1=>?_);rintro⟨ks2,o6,rfl,rfl,Wo,hp⟩;refine⟨_,_,rfl,rfl,?_⟩;refine Y ?_;refine u9 (λ_ J s'=>s'=s++[o6]/\∃(a:Option Xv),J=[some (.d (.fl (ns.map D.int))),some (.d (.int m)),some (.l s.length),some (.d (bJ z ps)),some (.d (bB kk dd)),a]) ⟨rfl,_,rfl⟩ (λi x J s' hx pF=>?_) (λJ s' pF=>?_)
  ·obtain⟨rfl,a,rfl⟩:=pF;obtain⟨Wq,rfl,Wr⟩ : ∃Wq,x=.tup (Wq.map cD)/\Kn z kk Wq:=by
    have q:=dM hx;simp only[iG,List.not_mem_nil,or_false] at q;rcases q with rfl|rfl|rfl
    ·exact⟨_,rfl,qp⟩
    ·exact⟨_,rfl,hks⟩
    ·exact⟨_,rfl,Wo⟩
   refine Y ?_;refine W.c0 (Wm (k':=17) (d:=dd) hw gV gV gV Wr (small gV gV) (BL gV gV)) ?_;refine Y ?_;exact⟨_,rfl,rfl,_,rfl⟩
  ·obtain⟨rfl,a,rfl⟩:=pF;refine Y ?_;exact⟨_,rfl,_,_,_,_,_,rfl⟩
 ·obtain⟨a,b,c,d,e,rfl⟩:=pF;exact Y trivial
end dW
end Lake
open Lake
open PySem PySem.W PyProof.Rows
set_option maxRecDepth 100000 in
set_option maxHeartbeats 0 in
theorem PySem.Challenge.cw_ringhues_k13_papers_told_holds : PySem.Challenge.rw_ringhues_k13_papers_told.Holds := by
 refine PySem.W.holds_law dW.ws λsaid=>?_;refine holds_open (q:=dW.qv) (loose:=dW.loose) (Xt:=λs=>xlAt dW.qv [] s&&recOk [] s) (XP:=XL dW.qv []) (Yf:=(Mi.lE dW.fs dW.ms dW.xs dW.lk dW.bd).obs) (Ya:=(Mi.lE dW.fs dW.ms dW.xs dW.lk dW.bd).val) (YP:=(Mi.lE dW.fs dW.ms dW.xs dW.lk dW.bd).says) (N:=20000) dW.left (Mi.lE dW.fs dW.ms dW.xs dW.lk dW.bd).of (Mi.lE dW.fs dW.ms dW.xs dW.lk dW.bd).keeps (λs e=>xl_of s (Ol.mp e).1) XL.keeps (by rfl) (by rfl) (by rfl) (λs e=>recFacts_of (Ol.mp e).2) (by rfl) said dW.wc ⟨rfl,rfl,rfl,rfl,rfl,dW.wt⟩ ?hw ?hc
 case hw=>w_witness2
 case hc=>exact Mi.Jy (l:=PySem.Challenge.rw_ringhues_k13_papers_told) (x:="_law_script") (k:=60) rfl rfl ⟨by decide,by decide,rfl⟩ (λw K mg fa h S X G Wc=>dW.all_mk dW.uy S X G Wc)
