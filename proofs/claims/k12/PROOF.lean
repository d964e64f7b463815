import PyProof.Rows.All
import Wide.All
import KE.KIsAll
import KE.KSortTup
import KE.KTryDeep
import KE.KFromBytes
import KE.KDictOf
import Wide.FinOn
import PySem.Challenge.RW_ringhues_k12_papers_by_anybody
set_option compiler.extract_closed false
set_option Elab.async false
set_option linter.all false
namespace Lake
theorem gV{p:Prop}(h:p:=by lia):p:=h
theorem Dc{p:Prop}(h:p:=by decide +kernel):p:=h
theorem J0{p:Prop}(h:p:=by decide):p:=h
theorem Nj{p:Prop}(h:p:=by simp):p:=h
abbrev aC:=@PySem.wpAny_bind
abbrev cO:=@PySem.Heap.get?_push_of_some
abbrev fB:=@List.getElem?_eq_some_iff
abbrev eO:=@List.getElem?_eq_getElem
abbrev dH:=@List.mem_of_getElem?
abbrev aZ:=@PySem.wpAny_pure
abbrev cJ:=@List.length_map
abbrev cT:=@Option.some.inj
abbrev cj:=@PySem.Heap.lt_size
abbrev bU:=@Nat.le_refl
abbrev dO:=@List.size_toArray
abbrev gw:=@PySem.Heap.get?_push_size
abbrev dR:=@List.length_cons
abbrev f9:=@Nat.lt_of_lt_of_le
abbrev iy:=@List.mem_cons_of_mem
abbrev eU:=@Bool.and_eq_true
abbrev jz:=@Option.map_eq_some_iff
abbrev gb:=@List.all_eq_true
abbrev iI:=@List.length_append
abbrev iz:=@List.getElem?_map
abbrev nF:=@List.getD_eq_getElem?_getD
abbrev nG:=@List.getElem?_append_left
abbrev g_:=@decide_eq_false
abbrev fC:=@List.mem_cons
abbrev oY:=@List.getElem?_append_right
abbrev gA:=@decide_eq_true
abbrev oZ:=@List.getElem?_eq_none_iff
abbrev fD:=@Nat.ne_of_lt
abbrev jO:=@List.length_range
abbrev jh:=@List.mem_append
abbrev tW:=@PyProof.Rows.slot_tuple_getitem
abbrev lA:=@of_decide_eq_true
abbrev nH:=@List.mem_cons_self
abbrev sH:=@List.length_filterMap_le
abbrev sI:=@Option.bind_eq_some_iff
abbrev mO:=@List.lookup_cons
abbrev o_:=@PySem.wpAny_newObj_type
abbrev sJ:=@List.mem_append_right
abbrev jP:=@Nat.le_trans
abbrev pq:=@List.length_take
abbrev xM:=@PyProof.Rows.callWith_type1
abbrev ji:=@PySem.wpAny_field
abbrev qw:=@List.mem_filterMap
abbrev nJ:=@List.mem_range
abbrev tX:=@List.getElem?_set_ne
abbrev jQ:=@Nat.zero_le
abbrev qd:=@List.length_set
abbrev sO:=@PySem.wpAny_truthy_bool
abbrev nM:=@List.map_cons
abbrev xO:=@PySem.wpAny_callSpecial?_slot
abbrev pA:=@Nat.lt_irrefl
abbrev sS:=@List.not_mem_nil
abbrev vJ:=@Array.length_toList
abbrev vK:=@PySem.Obj.data_mapFields
abbrev zZ:=@List.getElem?_set_self
abbrev z_:=@PySem.Heap.get?_update_other
abbrev xP:=@List.filterMap_cons
abbrev xQ:=@List.getElem?_range
abbrev qx:=@PySem.wpAny_holding
abbrev tY:=@List.append_nil
abbrev Aa:=@List.filterMap_append
abbrev xR:=@PySem.wpAny_Call_Name_kw
abbrev xT:=@List.mem_singleton
abbrev vL:=@PySem.wpAny_call_entry
abbrev nO:=@PySem.wpAny_mono
abbrev nP:=@beq_iff_eq
abbrev xU:=@decide_eq_true_eq
abbrev Ab:=@beq_eq_false_iff_ne
abbrev vM:=@List.nodup_cons
abbrev Ac:=@PySem.mem_of_lookup
abbrev Ad:=@List.replicate_succ
abbrev Ho:=@PySem.F.slot_tuple_iterator_next
abbrev xV:=@List.length_drop
abbrev xW:=@beq_self_eq_true
abbrev Ca:=@List.length_replicate
abbrev Cd:=@PySem.Heap.get?_update_self
abbrev sU:=@List.mem_map
abbrev Ae:=@PySem.wpAny_setField_rec
abbrev Af:=@List.pairwise_cons
abbrev qy:=@PySem.sizeLine_eq
abbrev vN:=@PySem.Heap.size_push
abbrev vO:=@PySem.wpAny_seqItems
abbrev lB:=@congrArg
abbrev Ce:=@PySem.Heap.get?_none_of_le
abbrev xX:=@List.map_append
abbrev xY:=@List.length_nil
abbrev Ag:=@Int.toNat_natCast
abbrev Hq:=@List.getElem?_replicate
abbrev vP:=@List.all_cons
abbrev Hr:=@Int.eq_ofNat_of_zero_le
abbrev Ah:=@List.take_length
abbrev Ai:=@List.getElem_mem
abbrev Cg:=@List.zip_cons_cons
abbrev vQ:=@Nat.le_of_lt
abbrev Hs:=@PySem.Obj.isFreed_of_fields
abbrev Cj:=@Bool.eq_false_iff
abbrev Cm:=@Nat.lt_succ_of_lt
abbrev Ke:=@Array.getElem?_eq_some_iff
abbrev Kf:=@List.mem_or_eq_of_mem_set
abbrev Kg:=@Classical.byContradiction
abbrev Cp:=@decide_eq_decide
abbrev Kh:=@Option.isSome_iff_exists
abbrev Kl:=@PySem.F.args_tuple_add_2
abbrev Cq:=@PySem.wpAny_passesOwn
abbrev Km:=@PySem.F.entry_tuple_add
abbrev Cr:=@List.forIn_cons
abbrev Ht:=@Bool.false_eq_true
abbrev Cu:=@PySem.wpAny_ite_false
abbrev Hu:=@of_decide_eq_false
abbrev Ko:=@PySem.W.cellsFrom_some
abbrev Kp:=@PySem.F.slot_tuple_add
abbrev Kq:=@List.range_succ_eq_map
abbrev Hv:=@PySem.Heap.get?_push_ne
abbrev Hw:=@List.append_assoc
abbrev Hx:=@List.reverse_cons
abbrev Hy:=@List.nodup_append
abbrev Cv:=@PySem.wpAny_setField
abbrev Cw:=@Bool.and_false
abbrev qz:=@or_false
abbrev Cy:=@List.nodup_nil
abbrev Cz:=@List.take_succ
abbrev Kr:=@PySem.wpAny_isTrue_Compare1
abbrev Aj:=@Nat.ne_of_gt
abbrev Ak:=@PySem.codeAny_mono
abbrev Hz:=@Nat.lt_succ_self
abbrev HB:=@Nat.le_of_not_lt
abbrev HD:=@PySem.F.slot_tuple_mul
abbrev Ks:=@Bool.and_eq_true_iff
abbrev Ku:=@PySem.wpAny_updateSeq_pair
abbrev Kv:=@Nat.mul_le_mul_right
abbrev Kw:=@PySem.W.plainGet_of
abbrev HF:=@PySem.F.slot_zip_next
abbrev Ky:=@List.getElem_of_mem
abbrev Kz:=@Bool.false_ne_true
abbrev KC:=@PySem.W.callWith_K
abbrev CG:=@PySem.wpAny_typeOf
abbrev CJ:=@List.all_map
abbrev KD:=@Nat.lt_of_le_of_lt
abbrev KH:=@List.map_filterMap
abbrev HJ:=@List.forIn_nil
abbrev KJ:=@List.getElem?_inj
abbrev KN:=@List.flatten_cons
abbrev KQ:=@List.map_inj_left
abbrev xZ:=@if_false
set_option Elab.async false
set_option linter.all false
set_option maxRecDepth 100000
set_option maxHeartbeats 4000000
namespace L2
open PySem PySem.Spec PyProof.Rows PySem.W
noncomputable def subIn(K:W.Frag)(C D:Addr):Bool:=PySem.W.ktsIn K C "BaseException"&&PySem.W.ktsIn K D "BaseException"&&match K.lookup C with
 |some ⟨_,_,.cls cd,_⟩=>cd.mro.contains (.ref D)
 |_=>false
noncomputable def CK:List Value:=[.type "ValueError",.type "Exception",.type "BaseException",.type "object"]
noncomputable def qC:List Value->Bool
 |.ref _::r=>qC r
 |l=>l==CK
noncomputable def qD(K:Frag)(C fI:Addr):Bool:=match K.lookup C with
 |some ⟨.type "type",_,.cls cd,sl⟩=>(match cd.mro,sl.toList with
  |.ref C'::bm,[_,_,_,_,some (.builtin n),_]=>C'==C&&n=="ValueError.__new__" && !cd.hasDel&&tailIn K CK bm&&nsOkIn K cd.ns&&nsIn K cd.ns "__init__"==some (some (.ref fI))
  |_,_=>false)
 |_=>false
noncomputable def aN(s:Stmt):Arguments:=match s with
 |.FunctionDef _ a _ _ _ _ _ _ _ _=>a
 |_=>{posonlyargs:=[],args:=[],vararg:=none,kwonlyargs:=[],kw_defaults:=[],kwarg:=none,defaults:=[]}
noncomputable def aK(s:Stmt):List Stmt:=match s with
 |.FunctionDef _ _ b _ _ _ _ _ _ _=>b
 |_=>[]
noncomputable def au(s:Stmt):Scope:=match s with
 |.FunctionDef _ _ _ _ _ _ sc _ _ _=>sc
 |_=>{kind:=.function,names:=[],isGenerator:=false,isCoroutine:=false}
end L2
namespace Mi
open PySem PySem.Spec PyProof.Rows L2 PySem.W
noncomputable def HN(n c:Nat):Nat:=if c<n then c else 0
noncomputable def CP(n c e:Nat):Bool:=HN n e==0||HN n c==HN n e
noncomputable def gB(L:List Addr)(c:Nat):Addr:=L.getD (HN L.length c) 0
noncomputable def Zx(K:W.Frag)(C:Addr):Bool:=
 PySem.W.findIn K (.ref C) "__getattribute__"==some (some (.builtin "BaseException.__getattribute__"))&&PySem.W.findIn K (.ref C) "__getattr__"==some none&&PySem.W.findIn K (.ref C) "__class__"==some (some (.builtin "object.__class__")) &&
 PySem.W.mroIn K C (.type "BaseException")==some true&&PySem.W.mroIn K C (.type "object")==some true&&(PySem.W.clsIn K C).isSome &&
 PySem.W.specialIn K (.builtin "object.__class__") "__get__"==some (some (.builtin "getset_descriptor.__get__"))&&PySem.W.takesIn K (.builtin "object.__class__")==some true
noncomputable def vR(K:W.Frag)(L:List Addr):Bool:=(List.range L.length).all λc=>Zx K (L.getD c 0)&&PySem.W.kitOne K (.ref (L.getD c 0)) (.type "ValueError")==some true &&
 (List.range L.length).all λe=>PySem.W.kitOne K (.ref (L.getD c 0)) (.ref (L.getD e 0))==some (CP L.length c e)
noncomputable def subB(K:W.Frag)(L:List Addr)(d:Nat):Bool:=(List.range L.length).all λc=>!(CP L.length c d)||L2.subIn K (L.getD c 0) (gB L d)
noncomputable def lC(fd:FuncData):FuncData:={fd with kwdefaults:=.none,doc:=.none,pyModule:=.none,annotations:=none,code:=.none,closureTuple:=.none}
noncomputable def sV(x:Str)(st:Stmt):FuncData:=fnOf x x (aN st) (aK st) (au st) .none .none .none .none none .none .none
noncomputable def yc(K:Frag)(x:Str):Option (Addr×FuncData):=match nsIn K mainGlobals x with
 |some (some (.ref f))=>(match K.lookup f with
  |some ⟨_,_,.func fd,_⟩=>(match codeIn K fd.code x&&keepIn K (.ref f) with
   |true=>some (f,fd)
   |false=>none)
  |_=>none)
 |_=>none
noncomputable def cW(K:Frag)(x:Str):Addr:=match nsIn K mainGlobals x with
 |some (some (.ref C))=>C
 |_=>0
noncomputable def qF(K:Frag)(x:Str):Bool:=match nsIn K mainGlobals x with
 |some (some (.ref _))=>true
 |_=>false
noncomputable def jR(K:Frag)(p:Str×Int):Bool:=match nsIn K mainGlobals p.1 with
 |some (some (.int i _))=>decide (i=p.2)
 |_=>false
noncomputable def jT(K:Frag)(p:Str×Str):Bool:=match nsIn K mainGlobals p.1 with
 |some (some (.str x _))=>decide (x=p.2)
 |_=>false
noncomputable def nQ(K:Frag)(x:Str):Bool:=match nsIn K mainGlobals x with
 |some none=>true
 |_=>false
noncomputable def CQ(K:Frag)(C:Addr):Bool:=excIn K C [.type "ValueError",.type "Exception",.type "BaseException",.type "object"] "ValueError.__new__"
structure Lk where
 CT:List Str
 vU:List (Str×Int)
 Sd:List Str
 Sg:List Nat
 Sq:List Nat
 Ss:List (Str×Str)
noncomputable def Lk.L(l:Lk)(K:Frag):List Addr:=l.CT.map (cW K)
noncomputable def Lk.good(l:Lk)(K:Frag):Bool:=
 l.CT.all (qF K)&&(l.CT.isEmpty||vR K (l.L K))&&l.Sg.all (λk=>CQ K (gB (l.L K) k))&&l.Sq.all (λk=>subB K (l.L K) k)&&l.vU.all (jR K)&&l.Sd.all (nQ K)&&l.Ss.all (jT K)
noncomputable def nR(h:Heap):List Addr->Frag
 |[]=>[]
 |a::r=>match h.get? a with
  |some o=>(a,o)::nR h r
  |none=>nR h r
noncomputable def nU(s:Stmt):List Stmt:=match s with
 |.ClassDef _ _ _ b _ _ _ _ _ _ _=>b
 |_=>[]
noncomputable def yd(q:Str)(st:Stmt):FuncData:=fnOf "__init__" q (aN st) (aK st) (au st) .none .none .none .none none .none .none
noncomputable def CV(K:Frag)(C:Addr):Option FuncData:=match clsIn K C with
 |some cd=>(match nsIn K cd.ns "__init__" with
  |some (some (.ref f))=>(match K.lookup f with
   |some ⟨.type "function",_,.func fd,_⟩=>(match codeIn K fd.code fd.qualname&&qD K C f&&qC cd.mro&&cd.hasDict with
    |true=>some fd
    |false=>none)
   |_=>none)
  |_=>none)
 |none=>none
noncomputable def setB(K:Frag)(C:Addr)(fs:List Str):Bool:=findIn K (.ref C) "__setattr__"==some (some (.builtin "object.__setattr__"))&&fs.all (λf=>findIn K (.ref C) f==some none)
noncomputable def HS(K:Frag)(C:Addr)(f:Str):Bool:=findIn K (.ref C) "__getattribute__"==some (some (.builtin "BaseException.__getattribute__"))&&findIn K (.ref C) "__getattr__"==some none&&mroIn K C (.type "BaseException")==some true&&findIn K (.ref C) f==some none&&hasDictIn K C
structure qG where
 c:Nat
 q:Str
 st:Stmt
 fs:List Str
noncomputable def CW:Nat->List Obj->Frag
 |_,[]=>[]
 |i,o::r=>match o.isFreed with
  |true=>CW (i+1) r
  |false=>(i,o)::CW (i+1) r
noncomputable def bH(h:Heap):Frag:=nR h [mainGlobals]++(CW 0 h.objs.toList).reverse
noncomputable def jU(fs:List (Str×Stmt))(ms:List qG)(xs:List (Nat×Str))(l:Lk)(s:Shared):List (Option FuncData)×List (Option FuncData)×Bool:=
 (fs.map (λp=>(yc (bH s.heap) p.1).map (λq=>lC q.2)),ms.map (λm=>(CV (bH s.heap) (gB (l.L (bH s.heap)) m.c)).map lC),
  l.good (bH s.heap)&&ms.all (λm=>setB (bH s.heap) (gB (l.L (bH s.heap)) m.c) m.fs)&&xs.all (λx=>HS (bH s.heap) (gB (l.L (bH s.heap)) x.1) x.2))
noncomputable def lD(fs:List (Str×Stmt))(ms:List qG)(w:World):List (Option FuncData)×List (Option FuncData)×Bool:=(fs.map (λp=>some (sV p.1 p.2)),ms.map (λm=>some (yd m.q m.st)),true)
noncomputable def HW(fs:List (Str×Stmt))(s:Shared):List (Option FuncData):=fs.map (λp=>(yc (bH s.heap) p.1).map (λq=>lC q.2))
noncomputable def Sv(ms:List qG)(xs:List (Nat×Str))(l:Lk)(s:Shared):List (Option FuncData)×Bool:=(ms.map (λm=>(CV (bH s.heap) (gB (l.L (bH s.heap)) m.c)).map lC),
  l.good (bH s.heap)&&ms.all (λm=>setB (bH s.heap) (gB (l.L (bH s.heap)) m.c) m.fs)&&xs.all (λx=>HS (bH s.heap) (gB (l.L (bH s.heap)) x.1) x.2))
theorem Zy{p q:Program}{loose:List Str}{Xt:Shared->Bool}{N:Nat}{fs1 pB:List (Str×Stmt)}{ms:List qG}{xs:List (Nat×Str)}{l:Lk}
  (a:∀w,(openEnds treeTable p w N).map (λs=>openSeen q loose (importedModules p.main.body) Xt true s)=some (openGood q loose))
  (b1:∀w,(openEnds treeTable p w N).map (HW fs1)=some (fs1.map λp=>some (sV p.1 p.2)))
  (b2:∀w,(openEnds treeTable p w N).map (HW pB)=some (pB.map λp=>some (sV p.1 p.2)))
  (c:∀w,(openEnds treeTable p w N).map (Sv ms xs l)=some (ms.map (λm=>some (yd m.q m.st)),true)):LeftO p q loose Xt (jU (fs1++pB) ms xs l) (lD (fs1++pB) ms) N:=by
 intro w;have a:=a w;have b1:=b1 w;have b2:=b2 w;have c:=c w;cases e:openEnds treeTable p w N with
 |none=>rw[e] at a;cases a
 |some s=>
  rw[e] at a b1 b2 c;have a:openSeen q loose (importedModules p.main.body) Xt true s=openGood q loose:=cT a;have b1:=cT b1;have b2:=cT b2;have c:=cT c;have c1:=lB Prod.fst c;have c2:=lB Prod.snd c;show some (_,jU (fs1++pB) ms xs l s)=_;rw[a];have:jU (fs1++pB) ms xs l s=lD (fs1++pB) ms w:=by
   unfold jU lD;rw[xX,xX];have b1:List.map _ fs1=List.map _ fs1:=b1;have b2:List.map _ pB=List.map _ pB:=b2;rw[b1,b2];exact Prod.ext rfl (Prod.ext c1 c2)
  rw[this]
inductive Tr where
 |em
 |lv (o:Obj)
 |nd (l r:Tr)
noncomputable def Tr.lf(t:Tr):Tr:=Tr.rec (motive:=λ_=>Tr) .em (λ_=>.em) (λl _ _ _=>l) t
noncomputable def Tr.rt(t:Tr):Tr:=Tr.rec (motive:=λ_=>Tr) .em (λ_=>.em) (λ_ r _ _=>r) t
noncomputable def Tr.get(d:Nat):Tr->Nat->Option Obj:=Nat.rec (motive:=λ_=>Tr->Nat->Option Obj) (λt _=>Tr.rec (motive:=λ_=>Option Obj) none (λo=>some o) (λ_ _ _ _=>none) t)
 (λ_ f t a=>cond (Nat.beq (Nat.mod a 2) 0) (f t.lf (Nat.div a 2)) (f t.rt (Nat.div a 2))) d
noncomputable def Tr.put(d:Nat):Tr->Nat->Obj->Tr:=Nat.rec (motive:=λ_=>Tr->Nat->Obj->Tr) (λ_ _ o=>.lv o)
 (λ_ f t a o=>cond (Nat.beq (Nat.mod a 2) 0) (.nd (f t.lf (Nat.div a 2) o) t.rt) (.nd t.lf (f t.rt (Nat.div a 2) o))) d
theorem KR(a:Nat):(Nat.beq (a%2) 0=true/\a%2=0)\/(Nat.beq (a%2) 0=false/\a%2=1):=by
 rcases(show a%2=0\/a%2=1 by lia) with e|e<;>rw[e]
 ·exact .inl ⟨rfl,rfl⟩
 ·exact .inr ⟨rfl,rfl⟩
theorem KY(o:Obj):∀(d:Nat) (t:Tr) (a:Nat),Tr.get d (Tr.put d t a o) a=some o
 |0,_,_=>rfl
 |d+1,t,a=>by
  have ih:=KY o d;show cond (Nat.beq (a%2) 0) (Tr.get d (Tr.lf (cond (Nat.beq (a%2) 0) _ _)) (a/2)) (Tr.get d (Tr.rt (cond (Nat.beq (a%2) 0) _ _)) (a/2))=_;rcases KR a with ⟨e,_⟩|⟨e,_⟩<;>rw[e]
  ·exact ih t.lf (a/2)
  ·exact ih t.rt (a/2)
theorem KZ(o:Obj):∀(d:Nat) (t:Tr) (a b:Nat),a<2^d->b<2^d->a≠b->Tr.get d (Tr.put d t a o) b=Tr.get d t b
 |0,_,a,b,h1,h2,h=>by lia
 |d+1,t,a,b,h1,h2,h=>by
  have ih:=KZ o d;show cond (Nat.beq (b%2) 0) (Tr.get d (Tr.lf (cond (Nat.beq (a%2) 0) _ _)) (b/2)) (Tr.get d (Tr.rt (cond (Nat.beq (a%2) 0) _ _)) (b/2))=cond (Nat.beq (b%2) 0) _ _;rw[Nat.pow_succ] at h1 h2;rcases KR a with ⟨e,x⟩|⟨e,x⟩<;>rw[e]<;>rcases KR b with ⟨f,y⟩|⟨f,y⟩<;>rw[f]
  ·exact ih t.lf (a/2) (b/2) gV gV gV
  ·rfl
  ·rfl
  ·exact ih t.rt (a/2) (b/2) gV gV gV
noncomputable def Zz(o:Option Obj):Option Obj:=match o with
 |some ⟨_,_,.freed,_⟩=>none
 |o=>o
noncomputable def mQ(t:Tr)(z a:Nat):Option Obj:=cond (Nat.ble (Nat.succ a) z) (Zz (t.get 12 a)) none
structure Rl(t:Tr)(z:Nat)(h:Heap):Prop where
 sz:h.objs.size=z
 le:z<=4096
 at_:∀a,a<z->t.get 12 a=h.objs[a]?
theorem Rl.get{t:Tr}{z:Nat}{h:Heap}(r:Rl t z h)(a:Nat):mQ t z a=h.get? a:=by
 unfold mQ Heap.get?;by_cases e:a<z
 ·rw[show Nat.ble (Nat.succ a) z=true from Nat.ble_eq.mpr e,r.at_ a e];rfl
 ·rw[show Nat.ble (Nat.succ a) z=false from Cj.mpr λx=>e (Nat.ble_eq.mp x)];have:h.objs[a]?=none:=by simp only[Array.getElem?_eq_none_iff,r.sz];lia
  rw[this];rfl
theorem Rl.push{t:Tr}{z:Nat}{h:Heap}(r:Rl t z h)(o:Obj)(hz:z<4096):Rl (t.put 12 z o) (z+1) (h.push o):=by
 obtain⟨objs,l⟩:=h;obtain⟨sz,le,at_⟩:=r;dsimp only at sz at_;refine⟨by show (objs.push o).size=_;rw[Array.size_push,sz],hz,λa ha=>?_⟩;show _=(objs.push o)[a]?;by_cases e:a=z
 ·subst e;rw[KY,Array.getElem?_push,if_pos sz.symm]
 ·rw[KZ o 12 t z a hz (by show a<4096;lia) (Ne.symm e),at_ a gV,Array.getElem?_push,if_neg gV]
theorem Rl.upd{t:Tr}{z:Nat}{h:Heap}(r:Rl t z h){a:Nat}{o:Obj}{f:Obj->Obj}(ho:h.get? a=some o):Rl (t.put 12 a (f o)) z (h.update a f):=by
 have ha:h.objs[a]?=some o:=(Heap.get?_some_iff.mp ho).1;obtain⟨objs,l⟩:=h;obtain⟨sz,le,at_⟩:=r;dsimp only at sz at_ ha;have hl:a<objs.size:=(Ke.mp ha).1;refine⟨by show (objs.modify a f).size=_;rw[Array.size_modify,sz],le,λb hb=>?_⟩;show _=(objs.modify a f)[b]?;rw[Array.getElem?_modify];by_cases e:a=b
 ·subst e;rw[KY,if_pos rfl,ha];rfl
 ·rw[KZ _ 12 t a b (by show a<4096;lia) (by show b<4096;lia) e,at_ b hb,if_neg e]
inductive ZC where
 |ld (a:Addr) (k:Obj->Sem Fin)
 |la (a:Addr) (k:Option Obj->Sem Fin)
 |up (a:Addr) (f:Obj->Obj) (k:Unit->Sem Fin)
 |al (o:Obj) (k:Addr->Sem Fin)
 |st
 |no
noncomputable def yg:Sem Fin->ZC
 |.load a _ k=>.ld a k
 |.loadIfAlive a k=>.la a k
 |.update a _ f k=>.up a f k
 |.alloc o k=>.al o k
 |.pure _=>.st
 |.at ..=>.st
 |.rule ..=>.st
 |.ask _=>.st
 |.fresh _=>.st
 |.point ..=>.st
 |.stack _=>.st
 |.call ..=>.st
 |_=>.no
theorem ZD{den:Code->Sem Fin}{p:Program}{w:World}{h:Heap}{s s':Shared}{t t':Thread}(hn:yg t.cur=.st)(e:step den p w s t=.go s' t'):step den p w {s with heap:=h} t=.go {s' with heap:=h} t':=by
 obtain⟨cur,code,pos,stack⟩:=t;cases cur with
 |pure a=>
  cases a with
  |again c=>cases e;rfl
  |done f=>
   cases stack with
   |nil=>
    have e:(if leftWithCleanup s.gens=true then Step.halt _ _ else Step.halt _ _)=.go s' t':=e;split at e<;>cases e
   |cons r l=>cases r<;>cases e<;>rfl
 |«at»=>cases e;rfl
 |rule=>cases e;rfl
 |ask=>cases e;rfl
 |fresh=>cases e;rfl
 |point=>cases e;rfl
 |stack=>cases e;rfl
 |call=>cases e;rfl
 |_=>cases hn
theorem ZF{c:Sem Fin}{a:Addr}{k:Obj->Sem Fin}(h:yg c=.ld a k):∃q,c=.load a q k:=by
 cases c<;>cases h;exact⟨_,rfl⟩
theorem ZG{c:Sem Fin}{a:Addr}{k:Option Obj->Sem Fin}(h:yg c=.la a k):c=.loadIfAlive a k:=by
 cases c<;>cases h;rfl
theorem ZJ{c:Sem Fin}{a:Addr}{f:Obj->Obj}{k:Unit->Sem Fin}(h:yg c=.up a f k):∃q,c=.update a q f k:=by
 cases c<;>cases h;exact⟨_,rfl⟩
theorem ZK{c:Sem Fin}{o:Obj}{k:Addr->Sem Fin}(h:yg c=.al o k):c=.alloc o k:=by
 cases c<;>cases h;rfl
noncomputable def lE(tb:String->Option Builtin)(p:Program)(w:World)(n₀:Nat)(ann:Option Value):Nat->Tr->Nat->Shared->Thread->Option (Tr×Nat×Shared)
 |0,_,_,_,_=>none
 |m+1,t,z,s,th=>match through th with
  |true=>some (t,z,s)
  |false=>match stepOk n₀ ann th with
   |false=>none
   |true=>match yg th.cur with
    |.ld a k=>(match mQ t z a with
     |some o=>lE tb p w n₀ ann m t z s ⟨k o,th.code,th.pos,th.stack⟩
     |none=>none)
    |.la a k=>lE tb p w n₀ ann m t z s ⟨k (mQ t z a),th.code,th.pos,th.stack⟩
    |.up a f k=>(match mQ t z a with
     |some o=>lE tb p w n₀ ann m (t.put 12 a (f o)) z s ⟨k (),th.code,th.pos,th.stack⟩
     |none=>none)
    |.al o k=>(match Nat.succ z with
     |0=>none
     |n+1=>match Nat.ble n 4095 with
      |true=>lE tb p w n₀ ann m (t.put 12 n o) (n+1) s ⟨k n,th.code,th.pos,th.stack⟩
      |false=>none)
    |.st=>(match step (denote tb) p w s th with
     |.go s' t'=>lE tb p w n₀ ann m t z s' t'
     |.halt _ _=>none)
    |.no=>none
theorem ZL{tb:String->Option Builtin}{p:Program}{w:World}{n₀:Nat}{ann:Option Value}:∀(m:Nat) {t t':Tr} {z z':Nat} {s s':Shared} {th:Thread} {h:Heap},Rl t z h->lE tb p w n₀ ann m t z s th=some (t',z',s')->
  ∃h',Rl t' z' h'/\h'.life=h.life/\topRun tb p w n₀ ann m {s with heap:=h} th=some {s' with heap:=h'}:=by
 intro m
 induction m with
 |zero=>intro t t' z z' s s' th h r e;cases e
 |succ m ih=>
  intro t t' z z' s s' th h r e;unfold lE at e;unfold topRun;cases ht:through th with
  |true=>
   rw[ht] at e;cases e;exact⟨h,r,rfl,rfl⟩
  |false=>
   rw[ht] at e;cases hk:stepOk n₀ ann th with
   |false=>rw[hk] at e;cases e
   |true=>
    rw[hk] at e;dsimp only at e ⊢;cases ho:yg th.cur with
    |no=>rw[ho] at e;cases e
    |st=>
     rw[ho] at e;cases hs:step (denote tb) p w s th with
     |halt _ _=>rw[hs] at e;cases e
     |go s1 t1=>
      rw[hs] at e;rw[ZD (h:=h) ho hs];exact ih r e
    |ld a k=>
     rw[ho] at e;dsimp only at e;cases hg:mQ t z a with
     |none=>rw[hg] at e;cases e
     |some o=>
      rw[hg] at e;rw[r.get] at hg;obtain⟨cur,code,pos,stack⟩:=th;obtain⟨q,rfl⟩:=ZF ho;simp only[step,hg];exact ih r e
    |la a k=>
     rw[ho] at e;obtain⟨cur,code,pos,stack⟩:=th;obtain rfl:=ZG ho;obtain⟨h',a1,b,c⟩:=ih r e;rw[r.get] at c;exact⟨h',a1,b,c⟩
    |up a f k=>
     rw[ho] at e;dsimp only at e;cases hg:mQ t z a with
     |none=>rw[hg] at e;cases e
     |some o=>
      rw[hg] at e;rw[r.get] at hg;obtain⟨cur,code,pos,stack⟩:=th;obtain⟨q,rfl⟩:=ZJ ho;obtain⟨h',a1,b,c⟩:=ih (r.upd hg) e;refine⟨h',a1,b.trans (by cases h;rfl),?_⟩;simp only[step,hg];exact c
    |al o k=>
     rw[ho] at e;cases hb:Nat.ble z 4095 with
     |false=>dsimp only at e;rw[hb] at e;cases e
     |true=>
      dsimp only at e;rw[hb] at e;obtain⟨cur,code,pos,stack⟩:=th;obtain rfl:=ZK ho;obtain⟨h',a1,b,c⟩:=ih (r.push o (by have:=Nat.ble_eq.mp hb;lia)) e;refine⟨h',a1,b.trans (by cases h;rfl),?_⟩;simp only[step,r.sz];exact c
noncomputable def lst(g:Nat->Option Obj):Nat->Nat->List Obj
 |0,_=>[]
 |n+1,i=>match g i with
  |some o=>o::lst g n (i+1)
  |none=>[]
theorem Sw{g:Nat->Option Obj}:∀{l:List Obj} {i:Nat},(∀j,j<l.length->g (i+j)=l[j]?)->lst g l.length i=l
 |[],_,_=>rfl
 |o::l,i,h=>by
  have h0:=h 0 (Nat.zero_lt_succ _);show (match g i with|some o=>o::lst g l.length (i+1)|none=>[])=_;rw[show g i=some o from h0,Sw (l:=l) λj hj=>by rw[show i+1+j=i+(j+1) by lia];exact h (j+1) (Nat.succ_lt_succ hj)]
noncomputable def vV(t:Tr)(z:Nat)(l:Life):Heap:=⟨⟨lst (t.get 12) z 0⟩,l⟩
theorem Rl.vV{t:Tr}{z:Nat}{h:Heap}(r:Rl t z h):vV t z h.life=h:=by
 obtain⟨⟨objs⟩,l⟩:=h;have sz:objs.length=z:=r.sz;subst sz;unfold Mi.vV;rw[Sw λj hj=>by rw[Nat.zero_add];exact(r.at_ j hj).trans Nj]
noncomputable def HX:List Obj->Nat->Tr->Tr
 |[],_,t=>t
 |o::r,i,t=>HX r (i+1) (t.put 12 i o)
theorem Sx{l:Life}:∀{r a:List Obj} {t:Tr},(a++r).length<=4096->Rl t a.length ⟨⟨a⟩,l⟩->Rl (HX r a.length t) (a++r).length ⟨⟨a++r⟩,l⟩
 |[],a,t,_,h=>by rw[tY];exact h
 |o::r,a,t,hl,h=>by
  have h2:=h.push o (by rw[iI,dR] at hl;lia);have e:a++o::r=(a++[o])++r:=by simp
  rw[e] at hl ⊢;have h3:=Sx (l:=l) (r:=r) (a:=a++[o]) (t:=t.put 12 a.length o) hl (by
   rw[iI];have e2:(⟨⟨a++[o]⟩,l⟩ : Heap)=Heap.push ⟨⟨a⟩,l⟩ o:=by unfold Heap.push;simp
   rw[e2];exact h2)
  rw[iI] at h3;exact h3
noncomputable def qH(p:Program)(w:World)(N:Nat):Option Shared:=(fencedOpening treeTable p w N).bind λs₀=>match s₀.heap.isNs mainGlobals&&s₀.gens.size==0&&Nat.ble s₀.heap.objs.size 4096 with
 |true=>(lE treeTable p w s₀.heap.objs.size (s₀.heap.nsMap mainGlobals "__annotations__") N (HX s₀.heap.objs.toList 0 .em) s₀.heap.objs.size s₀ (topStub p)).bind λr=>
  match staticsOk (importedModules p.main.body) s₀.heap (vV r.1 r.2.1 s₀.heap.life)&&namesBound p (vV r.1 r.2.1 s₀.heap.life)&&gensDone r.2.2&&laidKept s₀.heap (vV r.1 r.2.1 s₀.heap.life) with
   |true=>some {r.2.2 with heap:=vV r.1 r.2.1 s₀.heap.life}
   |false=>none
 |false=>none
theorem ZM{p:Program}{w:World}{N:Nat}{s:Shared}(e:qH p w N=some s):openEnds treeTable p w N=some s:=by
 unfold qH at e;unfold openEnds;obtain⟨s₀,h0,e⟩:=sI.mp e;rw[h0];show topFrom treeTable p w N s₀=some s;unfold topFrom;cases hb:(s₀.heap.isNs mainGlobals&&s₀.gens.size==0&&Nat.ble s₀.heap.objs.size 4096) with
 |false=>rw[hb] at e;cases e
 |true=>
  rw[hb] at e;obtain⟨h1,h2⟩:=Ks.mp hb;rw[h1];obtain⟨⟨t,z,s₁⟩,h3,e⟩:=sI.mp e;have r0:Rl (HX s₀.heap.objs.toList 0 .em) s₀.heap.objs.size s₀.heap:=Sx (l:=s₀.heap.life) (r:=s₀.heap.objs.toList) (a:=[]) (t:=.em) (Nat.ble_eq.mp h2) ⟨rfl,jQ _,λa ha=>absurd ha (Nat.not_lt_zero a)⟩;obtain⟨h',r,l,c⟩:=ZL N r0 h3;dsimp only at e ⊢;rw[show ({s₀ with heap:=s₀.heap}:Shared)=s₀ from rfl] at c;rw[c];rw[<-l,r.vV] at e;exact e
theorem fe{p:Program}{w:World}{N:Nat}{α:Type}{f:Shared->α}{v:α}(e:(qH p w N).map f=some v):(openEnds treeTable p w N).map f=some v:=by
 obtain⟨s,h,e⟩:=jz.mp e;rw[ZM h,<-e];rfl
structure Bd where
 n:Str
 fs:List Str
 ms:List (Str×Str×Stmt)
noncomputable def jA(K:Frag)(C:Addr)(m:Str):Option (Addr×FuncData):=match findIn K (.ref C) m with
 |some (some (.ref f))=>(match K.lookup f with
  |some ⟨_,_,.func fd,_⟩=>(match codeIn K fd.code fd.qualname&&keepIn K (.ref f)&&isFn K (.ref f) with
   |true=>some (f,fd)
   |false=>none)
  |_=>none)
 |_=>none
noncomputable def Al(m q:Str)(st:Stmt):FuncData:=fnOf m q (aN st) (aK st) (au st) .none .none .none .none none .none .none
noncomputable def vW(K:Frag)(b:Bd):Bool:=qF K b.n&&plainGet K (cW K b.n) Str.empty&&hasDictIn K (cW K b.n)&&plainOver K (cW K b.n)&&findIn K (.ref (cW K b.n)) "__setattr__"==some (some (.builtin "object.__setattr__"))&&makesIn K (cW K b.n)&&keepIn K (.ref (cW K b.n))&&b.fs.all (λf=>findIn K (.ref (cW K b.n)) f==some none)
noncomputable def yh(b:Bd)(s:Shared):List (Option FuncData)×Bool:=(b.ms.map λp=>(jA (bH s.heap) (cW (bH s.heap) b.n) p.1).map λq=>lC q.2,vW (bH s.heap) b)
noncomputable def yj(b:Bd):List (Option FuncData)×Bool:=(b.ms.map λp=>some (Al p.1 p.2.1 p.2.2),true)
theorem ZP{p q:Program}{loose:List Str}{Xt:Shared->Bool}{N:Nat}{fs:List (Str×Stmt)}{ms:List qG}{xs:List (Nat×Str)}{l:Lk}{b:Bd}(h:LeftO p q loose Xt (jU fs ms xs l) (lD fs ms) N)(e:∀w,(openEnds treeTable p w N).map (yh b)=some (yj b)) :
  LeftO p q loose Xt (λs=>(jU fs ms xs l s,yh b s)) (λw=>(lD fs ms w,yj b)) N:=by
 intro w;have h:=h w;have e:=e w;cases z:openEnds treeTable p w N with
 |none=>rw[z] at e;cases e
 |some s=>
  rw[z] at h e;have e:yh b s=yj b:=cT e;have h:=cT h;have h1:=lB Prod.fst h;have h2:=lB Prod.snd h;show some (_,_,_)=some (_,_,_);rw[e];exact lB some (Prod.ext h1 (Prod.ext h2 rfl))
end Mi
namespace cY
open PySem PySem.Spec PyProof.Rows PySem.W L2 Mi
noncomputable def top(i:Nat):Stmt:=PySem.Challenge.pw_ringhues_k12_papers_by_anybody.main.body.getD i (.Pass ⟨0,0,0,0⟩)
noncomputable def Am:Stmt:=(nU (top 20)).getD 0 (.Pass ⟨0,0,0,0⟩)
noncomputable def CZ:Stmt:=(nU (top 20)).getD 1 (.Pass ⟨0,0,0,0⟩)
noncomputable def bd:Bd:=⟨"Board",["ends","spots","apart","alike"],[("__init__","Board.__init__",Am),("far_apart","Board.far_apart",CZ)]⟩
noncomputable def fs1:List (Str×Stmt):=("is_whole",top 7)::("is_within",top 8)::("is_row",top 9)::("is_web",top 12)::("is_many",top 13)::("is_place",top 14)::("is_tie",top 15)::("check_web",top 16)::("tied_to",top 17)::("all_ends",top 18)::("ring_board",top 21)::("is_ring",top 24)::("is_spot",top 25)::("check_ring",top 26)::("are_known",top 28)::("check_known",top 29)::("none_holds",top 33)::[]
noncomputable def pB:List (Str×Stmt):=("paper_holds",top 34)::("case_holds",top 35)::("is_stuck",top 36)::("_law_cell",top 38)::("_law_pen",top 39)::("_law_draw",top 40)::("_law_whole",top 41)::("_law_odd",top 42)::("_law_web",top 43)::("_law_apart",top 44)::("_law_known",top 45)::("_law_ends",top 46)::("_law_put",top 47)::("_law_paper",top 48)::("_law_made",top 49)::("_law_bent",top 50)::("_law_right",top 51)::("law",top 52)::[]
noncomputable abbrev fs:List (Str×Stmt):=fs1++pB
noncomputable def lk:Lk:=⟨[],[("MOST_PLACES",8),("MOST_SPOTS",24)],["abs","all","bool","divmod","int","isinstance","len","list","max","min","range","repr","sorted","str","tuple","zip"],[],[],[("END","end"),("CASE","case")]⟩
noncomputable def ms:List qG:=[]
noncomputable def xs:List (Nat×Str):=[]
noncomputable abbrev pv:Program:=PySem.Challenge.pw_ringhues_k12_papers_by_anybody
noncomputable def qv:Program:={pv with main:={pv.main with body:=[pv.main.body.getD 52 (.Pass ⟨0,0,0,0⟩)]}}
noncomputable def loose:List Str:=(["_wall","HueError","NoRing","NoHues","NoWeb","is_whole","is_within","is_row","MOST_PLACES","is_web","is_many","is_place","is_tie","check_web","tied_to","all_ends","Board","ring_board","MOST_SPOTS","is_ring","is_spot","check_ring","are_known","check_known","END","CASE","none_holds","paper_holds","case_holds","is_stuck","_law_cell","_law_pen","_law_draw","_law_whole","_law_odd","_law_web","_law_apart","_law_known","_law_ends","_law_put","_law_paper","_law_made","_law_bent","_law_right"]:List String).map Str.ofString
theorem ZQ(w:World):(openEnds treeTable pv w 20000).map (λs=>openSeen qv loose (importedModules pv.main.body) (λs=>xlAt qv [] s&&recOk [] s) true s)=some (openGood qv loose):=by
 refine fe ?_
 kernel_rfl
theorem ZR(w:World):(openEnds treeTable pv w 20000).map (HW fs1)=some (fs1.map λp=>some (sV p.1 p.2)):=by
 refine fe ?_
 kernel_rfl
theorem ZS(w:World):(openEnds treeTable pv w 20000).map (HW pB)=some (pB.map λp=>some (sV p.1 p.2)):=by
 refine fe ?_
 kernel_rfl
theorem ZV(w:World):(openEnds treeTable pv w 20000).map (Sv ms xs lk)=some (ms.map (λm=>some (yd m.q m.st)),true):=by
 refine fe ?_
 kernel_rfl
theorem ws:PySem.Challenge.rw_ringhues_k12_papers_by_anybody.wellSaid=true:=by
 kernel_rfl
theorem ZW(w:World):(openEnds treeTable pv w 20000).map (yh bd)=some (yj bd):=by
 refine fe ?_
 kernel_rfl
theorem left:LeftO pv qv loose (λs=>xlAt qv [] s&&recOk [] s) (λs=>(jU fs ms xs lk s,yh bd s)) (λw=>(lD fs ms w,yj bd)) 20000:=ZP (Zy ZQ ZR ZS ZV) ZW
end cY
namespace L2
open PySem PySem.Spec PyProof.Rows
theorem dw{α:Sort u}{β:Sort v}{A B C:α->β->Prop}{P:Prop}(h:∃x y,A x y/\B x y/\C x y)(k:∀x y,A x y->B x y->C x y->P):P:=by
 obtain⟨x,y,a,b,c⟩:=h;exact k x y a b c
theorem HY{α:Sort u}{β:Sort v}{γ:Sort w}{A B:α->β->Prop}{C D:α->β->γ->Prop}{P:Prop}(h:∃x y,A x y/\B x y/\∃z,C x y z/\D x y z)(k:∀x y,A x y->B x y->∀z,C x y z->D x y z->P):P:=by
 obtain⟨x,y,a,b,z,c,d⟩:=h;exact k x y a b z c d
theorem tZ{α:Sort u}{A B:α->Prop}{P:Prop}(h:∃x,A x/\B x)(k:∀x,A x->B x->P):P:=by
 obtain⟨x,a,b⟩:=h;exact k x a b
noncomputable abbrev Key:=Sum Int Str
noncomputable def gO:Key->Value->Bool
 |.inl k,v=>Value.isInt k v
 |.inr x,v=>Value.isStrOf x v
noncomputable def K1(w:World):Key->Int
 |.inl k=>hashInt k
 |.inr x=>hashStr w x
theorem sW:∀{k:Key} {v:Value},gO k v=true->(∃i t,k=Sum.inl i/\v=Value.int i t)\/(∃x t,k=Sum.inr x/\v=Value.str x t)
 |.inl i,v,h=>by
  obtain⟨t,e⟩:=Value.isInt_shape (k:=i) (v:=v) h;exact .inl ⟨i,t,rfl,e⟩
 |.inr x,v,h=>by
  obtain⟨t,e⟩:=Value.isStrOf_shape (x:=x) (v:=v) h;exact .inr ⟨x,t,rfl,e⟩
theorem ZX(i:Int)(t:Tok):gO (.inl i) (.int i t)=true:=by simp[gO,Value.isInt]
theorem Z0(x:Str)(t:Tok):gO (.inr x) (.str x t)=true:=by simp[gO,Value.isStrOf]
theorem Z9(a b:Int):decide ((Sum.inl a:Key)=Sum.inl b)=(a==b):=by
 by_cases e:a=b
 ·subst e;simp
 ·have h:¬(Sum.inl a:Key)=Sum.inl b:=λq=>e (Sum.inl.inj q);rw[g_ h];exact(Ab.mpr e).symm
theorem Z_(a b:Str):decide ((Sum.inr a:Key)=Sum.inr b)=decide (a=b):=by
 by_cases e:a=b
 ·subst e;simp
 ·have h:¬(Sum.inr a:Key)=Sum.inr b:=λq=>e (Sum.inr.inj q);rw[g_ h,g_ e]
theorem zi1(a:Int)(b:Str):decide ((Sum.inl a:Key)=Sum.inr b)=false:=g_ (λq=>nomatch q)
theorem zjL(a:Str)(b:Int):decide ((Sum.inr a:Key)=Sum.inl b)=false:=g_ (λq=>nomatch q)
noncomputable def b_(prog:Program)(w:World):PySem.KeyKind prog w Key where
 is:=gO
 hash:=K1 w
 inj:=λv a b ha hb=>by
  rcases sW ha with ⟨i,t,rfl,rfl⟩|⟨x,t,rfl,rfl⟩
  ·rcases sW hb with ⟨j,u,rfl,e⟩|⟨y,u,rfl,e⟩
   ·injection e with e1 _;rw[e1]
   ·exact nomatch e
  ·rcases sW hb with ⟨j,u,rfl,e⟩|⟨y,u,rfl,e⟩
   ·exact nomatch e
   ·injection e with e1 _;rw[e1]
 byValue:=λk v h=>by
  rcases sW h with ⟨i,t,rfl,rfl⟩|⟨x,t,rfl,rfl⟩<;>rfl
 pyHash:=λhv h=>by
  rcases sW hv with ⟨i,t,rfl,rfl⟩|⟨x,t,rfl,rfl⟩
  ·exact wpAny_pyHash_int h
  ·exact wpAny_pyHash_str h
 eqBool:=λhu hv h=>by
  rcases sW hu with ⟨i,t,rfl,rfl⟩|⟨x,t,rfl,rfl⟩
  ·rcases sW hv with ⟨j,u,rfl,rfl⟩|⟨y,u,rfl,rfl⟩
   ·rw[Z9] at h;exact wpAny_eqBool_int h
   ·rw[zi1] at h;exact SeqAt.EqAt.int_str i t y u _ _ _ _ h
  ·rcases sW hv with ⟨j,u,rfl,rfl⟩|⟨y,u,rfl,rfl⟩
   ·rw[zjL] at h;exact SeqAt.EqAt.str_int x t j u _ _ _ _ h
   ·rw[Z_] at h;exact wpAny_eqBool_str h
 «strs»:=λk x t v h=>by
  rcases sW h with ⟨i,u,rfl,e⟩|⟨y,u,rfl,e⟩
  ·exact nomatch e
  ·injection e with e1 _;subst e1;cases v<;>rfl
theorem zc3(prog:Program)(w:World)(i:Int)(t:Tok):(b_ prog w).is (.inl i) (.int i t)=true:=ZX i t
theorem zcT(prog:Program)(w:World)(x:Str)(t:Tok):(b_ prog w).is (.inr x) (.str x t)=true:=Z0 x t
inductive V where
 |non|bl (b:Bool)|int (i:Int)|str (x:Str)|C_ (b:Array UInt8)|flt (b:UInt64)|ref (a:Addr)|ty (n:String)
 deriving DecidableEq
noncomputable def RelV:V->Value->Prop
 |.non,u=>u=Value.none
 |.bl b,u=>u=Value.bool b
 |.int i,u=>∃t,u=Value.int i t
 |.str x,u=>∃t,u=Value.str x t
 |.C_ b,u=>∃t,u=Value.bytes b t
 |.flt b,u=>∃t,u=Value.float b t
 |.ref a,u=>u=Value.ref a
 |.ty n,u=>u=Value.type n
noncomputable abbrev Vals:List V->List Value->Prop:=Paired RelV
theorem Vals.length{xs:List V}{us:List Value}(r:Vals xs us):xs.length=us.length:=Paired.length r
theorem Vals.get:∀{xs:List V} {us:List Value} {i:Nat} {x:V},Vals xs us->xs[i]?=some x->∃u,us[i]?=some u/\RelV x u
 |_,_,_,_,.nil,e=>by simp at e
 |_,_,0,_,.cons r _,e=>by simp at e;subst e;exact⟨_,rfl,r⟩
 |_,_,i+1,x,.cons _ t,e=>by
  obtain⟨u,h1,h2⟩:=Vals.get (i:=i) (x:=x) t (by simpa using e);exact⟨u,by simpa using h1,h2⟩
theorem Vals.set{x:V}{u:Value}(r:RelV x u):∀{xs:List V} {us:List Value} (i:Nat),Vals xs us->Vals (xs.set i x) (us.set i u)
 |_,_,_,.nil=>.nil
 |_,_,0,.cons _ t=>.cons r t
 |_,_,i+1,.cons q t=>.cons q (Vals.set r i t)
theorem Vals.append{xs ys:List V}{us ws:List Value}(h:Vals xs us)(s:Vals ys ws):Vals (xs++ys) (us++ws):=by
 induction h with
 |nil=>exact s
 |cons r _ ih=>exact .cons r ih
theorem Vals.take:∀{xs:List V} {us:List Value} (n:Nat),Vals xs us->Vals (xs.take n) (us.take n)
 |_,_,0,_=>.nil
 |_,_,_+1,.nil=>.nil
 |_,_,n+1,.cons r t=>.cons r (Vals.take n t)
theorem Vals.drop:∀{xs:List V} {us:List Value} (n:Nat),Vals xs us->Vals (xs.drop n) (us.drop n)
 |_,_,0,r=>r
 |_,_,_+1,.nil=>.nil
 |_,_,n+1,.cons _ t=>Vals.drop n t
noncomputable def pC:Option V->Option Value->Prop
 |some v,some u=>RelV v u
 |none,none=>True
 |_,_=>False
noncomputable def KV{κ:Type}:List (κ×V)->List (κ×Value)->Prop:=Paired λ(p:κ×V) (q:κ×Value)=>p.1=q.1/\RelV p.2 q.2
noncomputable def kV:Key->V
 |.inl i=>.int i
 |.inr x=>.str x
inductive HO where
 |lst (xs:List V)
 |tup (xs:List V)
 |dK (kvs:List (Key×V))|dT (kvs:List (List Key×V))
 |set (S:Int->Bool) (n:Nat)
 |ins (C dx:Addr) (fs:List (Str×V))
 |own (x:Addr)
 |xd (fs:List (Str×V))
 |met (f x:Addr)
 |rng (lo hi:Int)
 |sX (o:Obj) (u:HO)
 |yp (ps:Array Value)
 |ext (U:Heap->Prop)
noncomputable abbrev Hp:=Addr->Option HO
noncomputable def upd(H:Hp)(a:Addr)(o:HO):Hp:=λb=>if b=a then some o else H b
theorem jB{H:Hp}{a:Addr}{o:HO}:upd H a o a=some o:=by unfold upd;rw[if_pos rfl]
theorem dz{H:Hp}{a b:Addr}{o:HO}(h:b≠a):upd H a o b=H b:=by unfold upd;rw[if_neg h]
theorem Sy{H:Hp}{a:Addr}{o u:HO}:upd (upd H a o) a u=upd H a u:=by
 funext b;unfold upd;split<;>rfl
theorem Ao{H:Hp}{a b:Addr}{o:HO}(h:H a=some o)(h':H b=none):a≠b:=by
 intro e;subst e;rw[h] at h';cases h'
section
variable (P:Program)(w:World)
noncomputable def aR(H:Hp)(h:Heap)(a:Addr):HO->Prop
 |.lst xs=>xs.length<=sizeLine/\∃(its:List Value) (n:Nat),Vals xs its/\h.get? a=some {cls:=.type "list",data:=.seq its.toArray n}
 |.tup xs=>xs.length<=sizeLine/\∃its:List Value,Vals xs its/\IsTup h a its.toArray
 |.dK kvs=>kvs.length<=sizeLine/\(a==sysModules)=false/\∃vs,KV kvs vs/\h.DictOf (b_ P w) a vs
 |.dT kvs=>kvs.length<=sizeLine/\(a==sysModules)=false/\∃xs:List (List Key×Addr×Value),
   Paired (λ(p:List Key×V) (q:List Key×Addr×Value)=>p.1=q.1/\H q.2.1=some (.tup (p.1.map kV))/\RelV p.2 q.2.2) kvs xs /\
   ∃o es ep,h.get? a=some o/\o.ExactDict/\o.data=.dict es ep/\es.toList=xs.map (entryOfKey (tupleKind (b_ P w)))/\(xs.map (·.1)).Nodup
 |.set S n=>h.SetOf (intKind P w) a S n
 |.ins C dx fs=>H dx=some (.own a)/\fs.length<=1000/\dx≠a/\h.get? a=some (PySem.W.instObj C dx) /\
   ∃mA,h.Ns1 dx mA/\(∀f,pC (fs.lookup f) (mA f))/\PySem.Within mA (fs.map (·.1))
 |.own _=>∃o,h.get? a=some o
 |.xd fs=>∃mA,h.Ns1 a mA/\∀f,pC (fs.lookup f) (mA f)
 |.rng lo hi=>∃t u v,h.get? a=some {cls:=.type "range",data:=.fields #[.int lo t,.int hi u,.int 1 v]}
 |.sX o u=>h.get? a=some o/\aR H h a u
 |.yp ps=>h.get? a=some {cls:=.none,data:=.fields ps}
 |.met f x=>h.get? a=some (PySem.W.methodObj (.ref f) (.ref x))
 |.ext U=>U h/\(∃o,h.get? a=some o)/\∀h1 h2:Heap,U h1->(∀o,h1.get? a=some o->h2.get? a=some o)->U h2
def eY(H:Hp)(h:Heap):Prop:=∀a o,H a=some o->aR P w H h a o
end
section
variable {P:Program}{w:World}{H H':Hp}{h h':Heap}{a:Addr}{o:HO}
theorem aR.lt(x:aR P w H h a o):a<h.objs.size:=by
 cases o with
 |lst xs=>obtain⟨_,_,_,_,e⟩:=x;exact cj e
 |tup xs=>obtain⟨_,_,_,p⟩:=x;exact p.lt
 |dK kvs=>obtain⟨_,_,_,_,o,_,_,e,_⟩:=x;exact cj e
 |dT kvs=>obtain⟨_,_,_,_,o,_,_,e,_⟩:=x;exact cj e
 |set S n=>obtain⟨o,_,_,_,e,_⟩:=x;exact cj e
 |ins C dx fs=>obtain⟨_,_,_,e,_⟩:=x;exact cj e
 |own y=>obtain⟨_,e⟩:=x;exact cj e
 |xd fs=>obtain⟨_,⟨_,_,_,e,_⟩,_⟩:=x;exact cj e
 |rng lo hi=>obtain⟨_,_,_,e⟩:=x;exact cj e
 |sX ob u=>obtain⟨e,_⟩:=x;exact cj e
 |yp ps=>exact cj (show h.get? a=some _ from x)
 |met f y=>exact cj (show h.get? a=some _ from x)
 |ext U=>obtain⟨_,⟨_,e⟩,_⟩:=x;exact cj e
theorem SJ{α β:Type}{F G:α->β->Prop}:∀{l₁:List α} {l₂:List β},Paired F l₁ l₂->(∀a b,F a b->G a b)->Paired G l₁ l₂
 |_,_,.nil,_=>.nil
 |_,_,.cons r t,f=>.cons (f _ _ r) (SJ t f)
theorem aR.stay(x:aR P w H h a o)(k:∀b u,(b=a\/H b=some (.own a))->h.get? b=some u->h'.get? b=some u)
  (ho:∀b,H b=some (.own a)->H' b=some (.own a)) (ht:∀b xs,H b=some (.tup xs)->H' b=some (.tup xs)):aR P w H' h' a o:=by
 induction o with
 |lst xs=>obtain⟨z,its,n,r,e⟩:=x;exact⟨z,its,n,r,k _ _ (.inl rfl) e⟩
 |tup xs=>obtain⟨z,its,r,ob,e,c⟩:=x;exact⟨z,its,r,ob,k _ _ (.inl rfl) e,c⟩
 |dK kvs=>obtain⟨z,y,vs,r,ob,es,ep,e,c⟩:=x;exact⟨z,y,vs,r,ob,es,ep,k _ _ (.inl rfl) e,c⟩
 |dT kvs=>
  obtain⟨z,y,xs,r,ob,es,ep,e,c⟩:=x;exact⟨z,y,xs,SJ r λp q z=>⟨z.1,ht _ _ z.2.1,z.2.2⟩,ob,es,ep,k _ _ (.inl rfl) e,c⟩
 |set S n=>obtain⟨ob,es,ep,t,e,c⟩:=x;exact⟨ob,es,ep,t,k _ _ (.inl rfl) e,c⟩
 |ins C dx fs=>
  obtain⟨d,z,ne,e,mA,⟨od,es,ep,e2,c⟩,r⟩:=x;exact⟨ho _ d,z,ne,k _ _ (.inl rfl) e,mA,⟨od,es,ep,k _ _ (.inr d) e2,c⟩,r⟩
 |own y=>obtain⟨ob,e⟩:=x;exact⟨ob,k _ _ (.inl rfl) e⟩
 |xd fs=>obtain⟨mA,⟨od,es,ep,e,c⟩,r⟩:=x;exact⟨mA,⟨od,es,ep,k _ _ (.inl rfl) e,c⟩,r⟩
 |rng lo hi=>obtain⟨t,u,v,e⟩:=x;exact⟨t,u,v,k _ _ (.inl rfl) e⟩
 |sX ob u ih=>obtain⟨e,q⟩:=x;exact⟨k _ _ (.inl rfl) e,ih q⟩
 |yp ps=>
  have e:h.get? a=some {cls:=.none,data:=.fields ps}:=x;show h'.get? a=some {cls:=.none,data:=.fields ps};exact k a _ (.inl rfl) e
 |met f y=>
  have e:h.get? a=some (PySem.W.methodObj (.ref f) (.ref y)):=x;show h'.get? a=some (PySem.W.methodObj (.ref f) (.ref y));exact k a _ (.inl rfl) e
 |ext U=>obtain⟨p,⟨o,e⟩,st⟩:=x;exact⟨st _ _ p λo q=>k _ _ (.inl rfl) q,⟨o,k _ _ (.inl rfl) e⟩,st⟩
theorem eY.lt(x:eY P w H h)(e:H a=some o):a<h.objs.size:=(x a o e).lt
theorem eY.fresh(x:eY P w H h)(e:h.objs.size<=a):H a=none:=by
 cases q:H a with
 |none=>rfl
 |some u=>exact absurd (f9 (x.lt q) e) (pA _)
theorem eY.kept(x:eY P w H h)(k:∀b u,h.get? b=some u->h'.get? b=some u):eY P w H h':=λa o e=>
 (x a o e).stay (λb u _ q=>k b u q) (λ_ q=>q) λ_ _ q=>q
theorem eY.laid(x:eY P w H h)(k:∀b u,h.get? b=some u->h'.get? b=some u)(hp:h.objs.size<=a)(new:aR P w (upd H a o) h' a o):eY P w (upd H a o) h':=λb u e=>by
 have hn:=x.fresh hp;by_cases hb:b=a
 ·subst hb;rw[jB] at e;cases e;exact new
 ·rw[dz hb] at e;exact(x b u e).stay (λc v _ q=>k c v q) (λc q=>by rw[dz (Ao q hn)];exact q) λc xs q=>by rw[dz (Ao q hn)];exact q
end
def Rd(H:Hp)(a:Addr)(u:HO):Prop:=H a=some u\/∃o,H a=some (.sX o u)
theorem Rd.ok{P:Program}{w:World}{H:Hp}{h:Heap}{a:Addr}{u:HO}(r:Rd H a u)(x:eY P w H h):aR P w H h a u:=by
 rcases r with r|⟨o,r⟩
 ·exact x a u r
 ·obtain⟨_,q⟩:=x a _ r;exact q
noncomputable def Dg:Option HO->Prop
 |some (.lst _)=>True
 |some (.dK _)=>True
 |some (.dT _)=>True
 |some (.set _ _)=>True
 |some (.ins _ _ _)=>True
 |some (.ext _)=>True
 |_=>False
section
variable {P:Program}{w:World}{H:Hp}{h h':Heap}{x e:Addr}{o':HO}
theorem eY.write(ok:eY P w H h)(mu:Dg (H x))(he:e=x\/H e=some (.own x))(k:∀b u,b≠e->h.get? b=some u->h'.get? b=some u)(Aq:∃u,h'.get? e=some u)
  (new:aR P w (upd H x o') h' x o'):eY P w (upd H x o') h':=λb u q=>by
 have Dh:∀c y,H c=some (.own y)->c≠x:=λc y r z=>by subst z;rw[r] at mu;exact mu
 have K3:∀c xs,H c=some (.tup xs)->c≠x:=λc xs r z=>by subst z;rw[r] at mu;exact mu
 by_cases hb:b=x
 ·subst hb;rw[jB] at q;cases q;exact new
 ·rw[dz hb] at q;by_cases yq:b=e
  ·have q':H b=some (.own x):=by
    rcases he with z|z
    ·exact absurd (yq.trans z) hb
    ·rw[yq];exact z
   rw[q] at q';cases q';obtain⟨v,hv⟩:=Aq;exact⟨v,by rw[yq];exact hv⟩
  ·refine(ok b u q).stay (λc v hc r=>k c v ?_ r) (λc r=>by rw[dz (Dh c b r)];exact r) λc xs r=>by rw[dz (K3 c xs r)];exact r
   rcases hc with rfl|hc
   ·exact yq
   ·rintro rfl;rcases he with z|z
    ·exact Dh c b hc z
    ·rw[hc] at z;cases z;exact hb rfl
end
structure Un(fs ex:List Addr)(H H':Hp)(h h':Heap):Prop where
 keep:∀b o,h.get? b=some o->H b=none->b∉fs->b∉ex->h'.get? b=some o
 slot:∀b o,h.get? b=some o->H b=none->b∈fs->b∉ex->∃sl,h'.get? b=some {o with slots:=sl}
 free:∀b o,h.get? b=some o->H b=none->b∉ex->H' b=none
 there:∀b o,h.get? b=some o->b∉ex->∃o',h'.get? b=some o'
 tups:∀b xs,H b=some (.tup xs)->H' b=some (.tup xs)
 jk:∀b o u,H b=some (.sX o u)->H' b=some (.sX o u)
 jV:∀b ps,H b=some (.yp ps)->∃more,H' b=some (.yp (ps++more))
section
variable {fs fs' ex ex':List Addr}{H H1 H2:Hp}{h h1 h2 h':Heap}{a x e:Addr}{o:HO}
theorem Un.any(u:Un fs ex H H1 h h1){b:Addr}{ob:Obj}(q:h.get? b=some ob)(n:H b=none)(hx:b∉ex):∃sl,h1.get? b=some {ob with slots:=sl}:=by
 by_cases hb:b∈fs
 ·exact u.slot b ob q n hb hx
 ·exact⟨ob.slots,u.keep b ob q n hb hx⟩
theorem Un.kept(k:∀b u,h.get? b=some u->h'.get? b=some u):Un fs ex H H h h':=
 ⟨λb ob q _ _ _=>k b ob q,λb ob q _ _ _=>⟨ob.slots,k b ob q⟩,λ_ _ _ n _=>n,λb ob q _=>⟨ob,k b ob q⟩,λ_ _ q=>q,λ_ _ _ q=>q,λ_ ps q=>⟨#[],by rw[q];simp⟩⟩
theorem Un.refl:Un fs ex H H h h:=Un.kept λ_ _ q=>q
theorem Un.laid(k:∀b u,h.get? b=some u->h'.get? b=some u)(hp:h.objs.size<=a)(hn:H a=none):Un fs ex H (upd H a o) h h' where
 keep:=λb u q _ _ _=>k b u q
 slot:=λb u q _ _ _=>⟨u.slots,k b u q⟩
 free:=λb u q n _=>by rw[dz (fD (f9 (cj q) hp))];exact n
 there:=λb u q _=>⟨u,k b u q⟩
 tups:=λb xs q=>by rw[dz (Ao q hn)];exact q
 jk:=λb u xs q=>by rw[dz (Ao q hn)];exact q
 jV:=λb ps q=>⟨#[],by rw[dz (Ao q hn),q];simp⟩
theorem Un.write(mu:Dg (H x))(he:e=x\/H e=some (.own x))(k:∀b u,b≠e->h.get? b=some u->h'.get? b=some u)(Aq:∃u,h'.get? e=some u):Un fs ex H (upd H x o) h h':=by
 have hx:∀b,H b=none->b≠x:=λb n z=>by subst z;rw[n] at mu;exact mu
 have hb:∀b,H b=none->b≠e:=λb n z=>by
  subst z;rcases he with r|r
  ·exact hx b n r
  ·rw[n] at r;cases r
 have hm:∀b u,H b=some u->¬Dg (some u)->b≠x:=λb u q nm z=>by subst z;rw[q] at mu;exact nm mu
 refine⟨λb u q n _ _=>k b u (hb b n) q,λb u q n _ _=>⟨u.slots,k b u (hb b n) q⟩,λb u q n _=>by rw[dz (hx b n)];exact n,λb u q _=>?_,
  λb xs q=>by rw[dz (hm b _ q λz=>z)];exact q,λb u xs q=>by rw[dz (hm b _ q λz=>z)];exact q,λb ps q=>⟨#[],by rw[dz (hm b _ q λz=>z),q];simp⟩⟩
 by_cases yq:b=e
 ·subst yq;exact Aq
 ·exact⟨u,k b u yq q⟩
end
noncomputable def H_(h:Heap)(H:Hp):List Addr:=(List.range h.objs.size).filter λa=>(H a).isSome
noncomputable def jW(h:Heap)(H:Hp):Heap:=PySem.W.hideAll h (H_ h H)
theorem ze0(h:Heap)(H:Hp):(jW h H).objs.size=h.objs.size:=PySem.W.hideAll_size _ _
theorem zgn{h:Heap}{H:Hp}{b:Addr}{o:Obj}(e:h.get? b=some o)(n:H b=none):(jW h H).get? b=some o:=
 PySem.W.hideAll_get _ e λhm=>by
  have q:(H b).isSome=true:=(List.mem_filter.mp hm).2;rw[n] at q;simp at q
theorem zhA{h:Heap}{H:Hp}{b:Addr}{o:Obj}(e:(jW h H).get? b=some o):h.get? b=some o/\H b=none:=by
 have e':h.get? b=some o:=PySem.W.of_hideAll (H_ h H) e;refine⟨e',?_⟩;cases q:H b with
 |none=>rfl
 |some x=>
  have hm:b∈H_ h H:=List.mem_filter.mpr ⟨nJ.mpr (cj e'),by simp[q]⟩;have z:(jW h H).get? b=none:=PySem.W.hideAll_none (H_ h H) hm;rw[z] at e;cases e
structure Mod(K:W.Frag)(mg:Str->Option Value)(base:Heap):Prop where
 vU:K.In base
 glob:base.Ns mainGlobals mg
 blt:∃mb,base.Ns builtinsNs mb/\∀x:Str,x≠"__name__"->mb x=bootBuiltins x
 nolimit:base.NoLimit
structure Cx where
 prog:Program
 w:World
 K:W.Frag
 mg:Str->Option Value
 base:Heap
 A:Around
 N:List Str
 s₀:Shared
 H₀:Hp
 env:Env
 outer:List Env
 stack:List Env
 ex:List Addr
 fn:Str->Bool
 aj:Bool
 pn:List (Addr×Obj)
 xe:Value->Shared->Prop
noncomputable def frs(l:List Env):List Addr:=l.filterMap (·.frame)
noncomputable abbrev Cx.fs(X:Cx):List Addr:=frs X.outer
def K4(sc:Scope)(x:Str):Prop:=sc.names.lookup x=some .local\/sc.names.lookup x=some .cell\/sc.names.lookup x=some .free
def Loc(sc:Scope)(x:Str):Prop:=sc.names.lookup x=some .local\/sc.names.lookup x=some .cell
def Look(env:Env)(h:Heap)(m:Str->Option Value)(x:Str)(u:Value):Prop:=
 (env.kindOf x=some .local/\m x=some u)\/((env.kindOf x=some .cell\/env.kindOf x=some .free)/\∃c,env.cells.lookup x=some c/\h.IsCell c (some u))
structure Cx.Ok(X:Cx):Prop where
 mod:Mod X.K X.mg X.base
 kind:X.env.scope.kind=.function
 glob:X.env.globals=mainGlobals
 blt:X.env.builtins=builtinsNs
 above:X.s₀.heap.objs.size<=X.env.locals
 inj:∀x y c,X.env.cells.lookup x=some c->X.env.cells.lookup y=some c->x=y
 has:∀x,(X.env.kindOf x=some .cell\/X.env.kindOf x=some .free)->∃c,X.env.cells.lookup x=some c
 cab:∀x c,X.fn x=true->X.env.cells.lookup x=some c->X.s₀.heap.objs.size<=c
 hd:X.aj=true->X.A.handled=none
 frames:X.A.frames=some X.stack
 stk:X.stack=X.outer\/(X.stack=X.env::X.outer/\X.env.frame=some X.env.locals)
 exf:∀b∈X.ex,b≠X.env.locals/\∀x c,X.env.cells.lookup x=some c->c≠b
 bs:∀b o,X.base.get? b=some o->X.s₀.heap.get? b=some o/\X.H₀ b=none
 yr:X.base.objs.size<=X.s₀.heap.objs.size
 yt:∀b o,X.base.get? b=some o->b∉X.ex
 Di:∀b∈X.ex,b∉X.fs
 jm:X.s₀.heap.FunFrames X.base X.outer
 Dj:∀b∈X.fs,X.H₀ b=none
structure Inv(X:Cx)(ak:List (Addr×Obj))(Z:List (Option V))(H:Hp)(s:Shared):Prop where
 ok:X.Ok
 os:s.os=X.s₀.os
 bare:AllBare s.gens
 base:Un X.fs X.ex X.H₀ H X.s₀.heap s.heap
 loc:∃m,s.heap.Ns X.env.locals m/\∀(i:Nat) (x:Str) (v:V),X.N[i]?=some x->Z[i]?=some (some v)->K4 X.env.scope x->∃u,RelV v u/\Look X.env s.heap m x u
 cell:∀x c,X.env.cells.lookup x=some c->∃v,s.heap.IsCell c v
 free:H X.env.locals=none
 gP:∀x c,X.env.cells.lookup x=some c->H c=none
 pin:∀p∈X.pn++ak,s.heap.get? p.1=some p.2/\H p.1=none/\p.1≠X.env.locals/\p.1∉X.fs/\∀v,p.2.data≠.cell v
 hok:eY X.prog X.w H s.heap
 len:Z.length=X.N.length
section
variable {X:Cx}{ak:List (Addr×Obj)}{Z:List (Option V)}{H H':Hp}{s:Shared}{h':Heap}
theorem Cx.Ok.K5(ok:X.Ok){b:Addr}{o:Obj}(e:X.base.get? b=some o):b∉X.fs:=λhb=>by
 have:=(ok.jm.mem hb).1;rw[e] at this;cases this
theorem Inv.bs(I:Inv X ak Z H s):∀b o,X.base.get? b=some o->s.heap.get? b=some o/\H b=none:=λb o e=>
 ⟨I.base.keep b o (I.ok.bs b o e).1 (I.ok.bs b o e).2 (I.ok.K5 e) (I.ok.yt b o e),I.base.free b o (I.ok.bs b o e).1 (I.ok.bs b o e).2 (I.ok.yt b o e)⟩
theorem Inv.bk(I:Inv X ak Z H s):∀b o,X.base.get? b=some o->s.heap.get? b=some o:=λb o e=>(I.bs b o e).1
theorem Inv.mod(I:Inv X ak Z H s):Mod X.K X.mg X.base:=I.ok.mod
theorem Inv.lF(I:Inv X ak Z H s):X.K.In s.heap:=I.ok.mod.vU.keeps I.bk
theorem Inv.lt(I:Inv X ak Z H s):X.env.locals<s.heap.objs.size:=let ⟨_,hn,_⟩:=I.loc;hn.lt
theorem Inv.sz(I:Inv X ak Z H s):X.s₀.heap.objs.size<=s.heap.objs.size:=jP I.ok.above (vQ I.lt)
theorem Inv.K6(I:Inv X ak Z H s){a:Addr}(h:s.heap.objs.size<=a):a∉X.fs:=λhb=>by
 obtain⟨_,o,ho,_⟩:=I.ok.jm.mem hb;exact absurd (f9 (cj ho) (jP I.sz h)) (pA _)
theorem Inv.yu(I:Inv X ak Z H s):∀x c,X.env.cells.lookup x=some c->c≠X.env.locals:=λx c e z=>by
 obtain⟨v,o,ho,hd⟩:=I.cell x c e;obtain⟨m,⟨o',es,ep,qI,Dk,_⟩,_⟩:=I.loc;rw[z,qI] at ho;cases ho;rw[Dk] at hd;cases hd
theorem Inv.jm(I:Inv X ak Z H s):s.heap.FunFrames X.base X.outer:=by
 have all:∀(l:List Env),(∀b∈frs l,b∈X.fs)->X.s₀.heap.FunFrames X.base l->s.heap.FunFrames X.base l:=by
  intro l
  induction l with
  |nil=>intro _ _;trivial
  |cons env r ih=>
   intro hs hl;obtain⟨hk,⟨L,o,hf,hn,ho,hd⟩,hr⟩:=hl;have hL:L∈X.fs:=hs L (by unfold frs;rw[xP,hf];exact nH);obtain⟨sl,e⟩:=I.base.slot L o ho (I.ok.Dj L hL) hL λz=>I.ok.Di L z hL;exact⟨hk,⟨L,_,hf,hn,e,hd⟩,ih (λb hb=>hs b (by unfold frs;rw[xP,hf];exact iy _ hb)) hr⟩
 exact all X.outer (λ_ hb=>hb) I.ok.jm
theorem Inv.stack(I:Inv X ak Z H s):s.heap.FunFrames X.base X.stack:=by
 rcases I.ok.stk with e|⟨e,hf⟩
 ·rw[e];exact I.jm
 ·rw[e];obtain⟨m,hn,_⟩:=I.loc;refine .cons (by rw[I.ok.kind];decide) hf hn ?_ I.jm;exact Ce (jP I.ok.yr I.ok.above)
theorem Inv.jX(I:Inv X ak Z H s):∀b∈frs X.stack,b∈X.env.locals::X.fs:=λb hb=>by
 rcases I.ok.stk with e|⟨e,hf⟩
 ·rw[e] at hb;exact iy _ hb
 ·rw[e] at hb;unfold frs at hb;rw[xP,hf] at hb;exact hb
theorem Inv.jY(I:Inv X ak Z H s):∀b∈frs X.stack,H b=none:=λb hb=>by
 rcases fC.mp (I.jX b hb) with e|hb
 ·rw[e];exact I.free
 ·obtain⟨_,o,ho,_⟩:=I.ok.jm.mem hb;exact I.base.free b o ho (I.ok.Dj b hb) λz=>I.ok.Di b z hb
theorem Inv.step{g':Array GenState}{t':Nat}{d':Drawn}{ch:List Addr}(I:Inv X ak Z H s)
  (sY:∀b∈ch,(b∈X.ex\/X.s₀.heap.get? b=none)/\b≠X.env.locals/\(∀x c,X.env.cells.lookup x=some c->c≠b)/\∀p∈X.pn++ak,p.1≠b)
  (keep:∀b o,b≠X.env.locals->b∉X.fs->b∉ch->s.heap.get? b=some o->H b=none->h'.get? b=some o)
  (slot:∀b o,b≠X.env.locals->b∈X.fs->b∉ch->s.heap.get? b=some o->H b=none->∃sl,h'.get? b=some {o with slots:=sl}) (free:∀b o,b∉ch->s.heap.get? b=some o->H b=none->H' b=none)
  (there:∀b o,b∉ch->s.heap.get? b=some o->∃o',h'.get? b=some o')
  (tups:∀b xs,H b=some (.tup xs)->H' b=some (.tup xs)) (jk:∀b o u,H b=some (.sX o u)->H' b=some (.sX o u)) (jV:∀b ps,H b=some (.yp ps)->∃more,H' b=some (.yp (ps++more)))
  (ns:∀m,s.heap.Ns X.env.locals m->h'.Ns X.env.locals m) (hok:eY X.prog X.w H' h') (hg:AllBare g') :
  Inv X ak Z H' {s with heap:=h',gens:=g',drawn:=d',toks:=t'}:=by
 have SM:∀b o,X.s₀.heap.get? b=some o->b≠X.env.locals:=λb o e=>fD (f9 (cj e) I.ok.above);have Ia:∀b o,X.s₀.heap.get? b=some o->b∉X.ex->b∉ch:=λb o e hx hb=>by
  rcases(sY b hb).1 with z|z
  ·exact hx z
  ·rw[e] at z;cases z
 have cellK:∀x c,X.env.cells.lookup x=some c->∀v,s.heap.IsCell c v->h'.IsCell c v:=λx c e v hx=>tZ hx λo ho hd=>by
  have Dl:c∉ch:=λz=>(sY c z).2.2.1 x c e rfl;by_cases hc:c∈X.fs
  ·obtain⟨sl,q⟩:=slot c o (I.yu x c e) hc Dl ho (I.gP x c e);exact⟨_,q,hd⟩
  ·exact⟨o,keep c o (I.yu x c e) hc Dl ho (I.gP x c e),hd⟩
 refine⟨I.ok,I.os,hg,⟨λb o e n hb hx=>?_,λb o e n hb hx=>?_,λb o e n hx=>?_,λb o e hx=>?_,λb xs e=>tups b xs (I.base.tups b xs e),λb o xs e=>jk b o xs (I.base.jk b o xs e),λb ps e=>?_⟩,?_,λx c e=>?_,?_,λx c e=>?_,λp hp=>?_,hok,I.len⟩
 ·exact keep b o (SM b o e) hb (Ia b o e hx) (I.base.keep b o e n hb hx) (I.base.free b o e n hx)
 ·obtain⟨sl,e1⟩:=I.base.slot b o e n hb hx;obtain⟨sl',e2⟩:=slot b _ (SM b o e) hb (Ia b o e hx) e1 (I.base.free b o e n hx);exact⟨sl',e2⟩
 ·obtain⟨o',e1⟩:=I.base.there b o e hx;exact free b o' (Ia b o e hx) e1 (I.base.free b o e n hx)
 ·obtain⟨o',e1⟩:=I.base.there b o e hx;exact there b o' (Ia b o e hx) e1
 ·obtain⟨m1,e1⟩:=I.base.jV b ps e;obtain⟨m2,e2⟩:=jV b _ e1;exact⟨m1++m2,by rw[e2,Array.append_assoc]⟩
 ·obtain⟨m,hn,hl⟩:=I.loc;refine⟨m,ns m hn,λi x v e1 e2 e3=>?_⟩;obtain⟨u,r,l⟩:=hl i x v e1 e2 e3;refine⟨u,r,?_⟩;rcases l with l|⟨k,c,e,z⟩
  ·exact .inl l
  ·exact .inr ⟨k,c,e,cellK x c e _ z⟩
 ·obtain⟨v,z⟩:=I.cell x c e;exact⟨v,cellK x c e v z⟩
 ·obtain⟨m,⟨o,_,_,ho,_⟩,_⟩:=I.loc;exact free _ o (λz=>(sY _ z).2.1 rfl) ho I.free
 ·obtain⟨v,o,ho,hd⟩:=I.cell x c e;exact free c o (λz=>(sY c z).2.2.1 x c e rfl) ho (I.gP x c e)
 ·obtain⟨e,n,ne,nf,d⟩:=I.pin p hp;have Dl:p.1∉ch:=λz=>(sY p.1 z).2.2.2 p hp rfl;exact⟨keep p.1 p.2 ne nf Dl e n,free p.1 p.2 Dl e n,ne,nf,d⟩
theorem Inv.un{t':Nat}(I:Inv X ak Z H s)(u:Un X.fs [] H H' s.heap h')(hok:eY X.prog X.w H' h'):Inv X ak Z H' {s with heap:=h',toks:=t'}:=by
 obtain⟨m,⟨o,es,ep,ho,r⟩,_⟩:=id I.loc;obtain⟨sl,hL⟩:=u.any ho I.free Nj;exact I.step (g':=s.gens) (d':=s.drawn) (ch:=[]) (λ_ z=>nomatch z) (λb o _ hb _ e n=>u.keep b o e n hb Nj) (λb o _ hb _ e n=>u.slot b o e n hb Nj) (λb o _ e n=>u.free b o e n Nj) (λb o _ e=>u.there b o e Nj) u.tups u.jk u.jV (λm' hm=>by
  obtain⟨o',es',ep',qI,r'⟩:=hm;rw[ho] at qI;cases qI;exact⟨_,es',ep',hL,r'⟩) hok I.bare
theorem Inv.call{g':Array GenState}{t':Nat}{d':Drawn}{ch:List Addr}(I:Inv X ak Z H s)(u:Un (frs X.stack) ch H H' s.heap h')(hok:eY X.prog X.w H' h')(hg:AllBare g')
  (sY:∀b∈ch,(b∈X.ex\/X.s₀.heap.get? b=none)/\b≠X.env.locals/\(∀x c,X.env.cells.lookup x=some c->c≠b)/\∀p∈X.pn++ak,p.1≠b) :
  Inv X ak Z H' {s with heap:=h',gens:=g',drawn:=d',toks:=t'}:=by
 obtain⟨m,⟨o,es,ep,ho,r⟩,_⟩:=id I.loc;obtain⟨sl,hL⟩:=u.any ho I.free λz=>(sY _ z).2.1 rfl;exact I.step (ch:=ch) sY (λb o hL hb hc e n=>u.keep b o e n (λz=>(fC.mp (I.jX b z)).elim hL hb) hc) (λb o _ _ hc e n=>u.any e n hc) (λb o hc e n=>u.free b o e n hc) (λb o hc e=>u.there b o e hc) u.tups u.jk u.jV (λm' hm=>by
  obtain⟨o',es',ep',qI,r'⟩:=hm;rw[ho] at qI;cases qI;exact⟨_,es',ep',hL,r'⟩) hok hg
theorem Inv.turned{t':Nat}{it:Addr}(I:Inv X ak Z H s)(k:∀b o,b≠it->s.heap.get? b=some o->h'.get? b=some o)(hn:H it=none)(hL:it≠X.env.locals)
  (h1:it∈X.ex\/X.s₀.heap.objs.size<=it) (h2:∀x c,X.env.cells.lookup x=some c->c≠it) (h3:∀p∈X.pn++ak,p.1≠it):Inv X ak Z H {s with heap:=h',toks:=t'}:=by
 have vX:∀b u,H b=some u->b≠it:=λb u e z=>by rw[z,hn] at e;cases e
 refine I.step (g':=s.gens) (d':=s.drawn) (ch:=[it]) (λb hb=>?_) (λb o _ _ hc e _=>k b o (λz=>hc (by simp[z])) e) (λb o _ _ hc e _=>⟨o.slots,k b o (λz=>hc (by simp[z])) e⟩) (λ_ _ _ _ n=>n)
  (λb o hc e=>⟨o,k b o (λz=>hc (by simp[z])) e⟩) (λ_ _ e=>e) (λ_ _ _ e=>e) (λb ps e=>⟨#[],by rw[e];simp⟩) (λm hm=>?_) (λb u e=>?_) I.bare
 ·have e:b=it:=by simpa using hb
  subst e;exact⟨h1.imp id λz=>Ce z,hL,h2,h3⟩
 ·obtain⟨o,es,ep,ho,r⟩:=hm;exact⟨o,es,ep,k _ o (Ne.symm hL) ho,r⟩
 ·refine(I.hok b u e).stay (λc v hc q=>k c v ?_ q) (λ_ q=>q) λ_ _ q=>q;rcases hc with z|z
  ·rw[z];exact vX b u e
  ·exact vX c _ z
theorem Inv.tok(I:Inv X ak Z H s)(t:Nat):Inv X ak Z H {s with toks:=t}:=I.un (h':=s.heap) (t':=t) Un.refl I.hok
theorem Inv.kept{t':Nat}(I:Inv X ak Z H s)(k:∀b u,s.heap.get? b=some u->h'.get? b=some u):Inv X ak Z H {s with heap:=h',toks:=t'}:=I.un (Un.kept k) (I.hok.kept k)
theorem Inv.laid{a:Addr}{o:HO}{t':Nat}(I:Inv X ak Z H s)(k:∀b u,s.heap.get? b=some u->h'.get? b=some u)(hp:s.heap.objs.size<=a)(new:aR X.prog X.w (upd H a o) h' a o) :
  Inv X ak Z (upd H a o) {s with heap:=h',toks:=t'}:=I.un (Un.laid k hp (I.hok.fresh hp)) (I.hok.laid k hp new)
theorem Inv.write{x e:Addr}{o:HO}{t':Nat}(I:Inv X ak Z H s)(mu:Dg (H x))(he:e=x\/H e=some (.own x))(k:∀b u,b≠e->s.heap.get? b=some u->h'.get? b=some u)(Aq:∃u,h'.get? e=some u)
  (new:aR X.prog X.w (upd H x o) h' x o):Inv X ak Z (upd H x o) {s with heap:=h',toks:=t'}:=I.un (Un.write mu he k Aq) (I.hok.write mu he k Aq new)
theorem Inv.jZ{gQ:List (Addr×Obj)}(I:Inv X ak Z H s)(h:∀p∈gQ,s.heap.get? p.1=some p.2/\H p.1=none/\p.1≠X.env.locals/\p.1∉X.fs/\∀v,p.2.data≠.cell v):Inv X gQ Z H s:=
 ⟨I.ok,I.os,I.bare,I.base,I.loc,I.cell,I.free,I.gP,λp hp=>(jh.mp hp).elim (λz=>I.pin p (List.mem_append_left _ z)) (h p),I.hok,I.len⟩
theorem SN{N:List Str}(hN:N.Nodup){i j:Nat}{x:Str}(a:N[i]?=some x)(b:N[j]?=some x):i=j:=by
 obtain⟨h1,e1⟩:=fB.mp a;obtain⟨h2,e2⟩:=fB.mp b;exact(List.getElem_inj hN).mp (e1.trans e2.symm)
theorem SQ{M:Model}{A:Around}{E:Value->Shared->Prop}{i:Nat}{x:Str}{v:V}{u:Value}{Q:Unit->Shared->Prop}(I:Inv X ak Z H s)(hN:X.N.Nodup)(hi:X.N[i]?=some x)(hx:Loc X.env.scope x)(r:RelV v u)
  (h:∀s',Inv X ak (Z.set i (some v)) H s'->(∃a,Heap.SameBut a s.heap s'.heap/\(a=X.env.locals\/X.env.cells.lookup x=some a))->Q () s') (hf:X.fn x=true\/X.env.scope.names.lookup x=some .local:=by first|exact .inl rfl|exact .inr rfl|assumption):wpAny M A (storeName X.env x u) Q E s:=by
 obtain⟨m,hn,hl⟩:=id I.loc;have K7:(X.env.scope.kind==.class||(X.env.scope.kind==.module&&X.env.locals != X.env.globals))=false:=by rw[I.ok.kind];rfl
 have SX:i<Z.length:=by rw[I.len];exact(fB.mp hi).1
 have yu:=I.yu;have tracked:∀{a:Addr} {h':Heap},(∃o,s.heap.get? a=some o/\H a=none)->Heap.SameBut a s.heap h'->eY X.prog X.w H h':=λ{a h'} ha hs b ob e=>by
  obtain⟨_,_,nW⟩:=ha;refine(I.hok b ob e).stay (λc w' hc q=>(hs.2 c ?_).trans q) (λ_ q=>q) λ_ _ q=>q;rintro rfl;rcases hc with rfl|hc
  ·rw[nW] at e;cases e
  ·rw[nW] at hc;cases hc
 rcases hx with hk|hk
 ·refine wpAny_storeName_local hk hn (λh' hn' hs=>?_) K7;obtain⟨oL,_,_,Ib,_⟩:=id hn;refine h _ ⟨I.ok,I.os,I.bare,⟨λb o e n hb hx=>?_,λb o e n hb hx=>?_,I.base.free,λb o e hx=>?_,I.base.tups,I.base.jk,I.base.jV⟩,⟨_,hn',λj y v' e1 e2 e3=>?_⟩,λy c e=>?_,I.free,I.gP,λp hp=>?_,tracked ⟨oL,Ib,I.free⟩ hs,by simpa using I.len⟩ ⟨_,hs,.inl rfl⟩
  ·exact(hs.2 b (fD (f9 (cj e) I.ok.above))).trans (I.base.keep b o e n hb hx)
  ·obtain⟨sl,e1⟩:=I.base.slot b o e n hb hx;exact⟨sl,(hs.2 b (fD (f9 (cj e) I.ok.above))).trans e1⟩
  ·obtain⟨o',e1⟩:=I.base.there b o e hx;exact⟨o',(hs.2 b (fD (f9 (cj e) I.ok.above))).trans e1⟩
  ·by_cases hj:j=i
   ·subst hj;rw[hi] at e1;cases e1;rw[zZ SX] at e2;cases e2;exact⟨u,r,.inl ⟨hk,by simp⟩⟩
   ·rw[tX (Ne.symm hj)] at e2;obtain⟨u',r',q⟩:=hl j y v' e1 e2 e3;refine⟨u',r',?_⟩;rcases q with ⟨k,e⟩|⟨k,c,e,z⟩
    ·refine .inl ⟨k,?_⟩;have:y≠x:=λe=>hj (SN hN e1 (e▸hi));simp[this,e]
    ·exact .inr ⟨k,c,e,z.sameBut hs (yu y c e)⟩
  ·obtain⟨w',z⟩:=I.cell y c e;exact⟨w',z.sameBut hs (yu y c e)⟩
  ·obtain⟨e,n,ne,nf,d⟩:=I.pin p hp;exact⟨(hs.2 p.1 ne).trans e,n,ne,nf,d⟩
 ·have K8:X.fn x=true:=by
   rcases hf with z|z
   ·exact z
   ·rw[z] at hk;cases hk
  obtain⟨c,hc⟩:=I.ok.has x (.inl hk);obtain⟨w',z⟩:=I.cell x c hc;refine wpAny_storeName_cell I.ok.kind hk hc z (λh' jo hs=>?_);obtain⟨oc,S5,K9⟩:=id z;refine h {s with heap:=h'} ⟨I.ok,I.os,I.bare,⟨λb o e n hb hx=>?_,λb o e n hb hx=>?_,I.base.free,λb o e hx=>?_,I.base.tups,I.base.jk,I.base.jV⟩,⟨m,hn.sameBut hs (Ne.symm (yu x c hc)),λj y v' e1 e2 e3=>?_⟩,λy c' e=>?_,I.free,I.gP,λp hp=>?_,tracked ⟨oc,S5,I.gP x c hc⟩ hs,by simpa using I.len⟩ ⟨c,hs,.inr hc⟩
  ·exact(hs.2 b (fD (f9 (cj e) (I.ok.cab x c K8 hc)))).trans (I.base.keep b o e n hb hx)
  ·obtain⟨sl,e1⟩:=I.base.slot b o e n hb hx;exact⟨sl,(hs.2 b (fD (f9 (cj e) (I.ok.cab x c K8 hc)))).trans e1⟩
  ·obtain⟨o',e1⟩:=I.base.there b o e hx;exact⟨o',(hs.2 b (fD (f9 (cj e) (I.ok.cab x c K8 hc)))).trans e1⟩
  ·by_cases hj:j=i
   ·subst hj;rw[hi] at e1;cases e1;rw[zZ SX] at e2;cases e2;exact⟨u,r,.inr ⟨.inl hk,c,hc,jo⟩⟩
   ·rw[tX (Ne.symm hj)] at e2;obtain⟨u',r',q⟩:=hl j y v' e1 e2 e3;refine⟨u',r',?_⟩;rcases q with q|⟨k,c',e,z'⟩
    ·exact .inl q
    ·refine .inr ⟨k,c',e,z'.sameBut hs ?_⟩;rintro rfl;exact hj (SN hN e1 (I.ok.inj _ _ _ e hc▸hi))
  ·by_cases S6:c'=c
   ·subst S6;exact⟨_,jo⟩
   ·obtain⟨w2,z2⟩:=I.cell y c' e;exact⟨w2,z2.sameBut hs S6⟩
  ·obtain⟨e,n,ne,nf,d⟩:=I.pin p hp;refine⟨(hs.2 p.1 ?_).trans e,n,ne,nf,d⟩;intro q;rw[q,S5] at e;have q':oc=p.2:=cT e;exact d w' (by rw[<-q'];exact K9)
theorem S7{M:Model}{A:Around}{E:Value->Shared->Prop}{i:Nat}{x:Str}{v:V}{u:Value}{Q:Unit->Shared->Prop}(I:Inv X ak Z H s)(hN:X.N.Nodup)(hi:X.N[i]?=some x)(hx:Loc X.env.scope x)(r:RelV v u)
  (h:∀s',Inv X ak (Z.set i (some v)) H s'->Q () s') (hf:X.fn x=true\/X.env.scope.names.lookup x=some .local:=by first|exact .inl rfl|exact .inr rfl|assumption):wpAny M A (storeName X.env x u) Q E s:=
 SQ I hN hi hx r (λs' I' _=>h s' I') hf
theorem Inv.call'{s':Shared}{ch:List Addr}(I:Inv X ak Z H s)(ho:s'.os=s.os)(u:Un (frs X.stack) ch H H' s.heap s'.heap)(hok:eY X.prog X.w H' s'.heap)(hg:AllBare s'.gens)
  (sY:∀b∈ch,(b∈X.ex\/X.s₀.heap.get? b=none)/\b≠X.env.locals/\(∀x c,X.env.cells.lookup x=some c->c≠b)/\∀p∈X.pn++ak,p.1≠b):Inv X ak Z H' s':=by
 obtain⟨h',g',d',t',o'⟩:=s';have e:o'=s.os:=ho;subst e;exact I.call (g':=g') (t':=t') (d':=d') u hok hg sY
end
noncomputable abbrev XK:=Value->Option Addr->Hp->Prop
noncomputable abbrev St:=List (Option V)
noncomputable abbrev VK:=V->Hp->Prop
noncomputable abbrev TE:=St->Hp->VK->Prop
noncomputable abbrev TT:=St->Hp->(Bool->Hp->Prop)->Prop
noncomputable abbrev TA:=St->Hp->(List V->Hp->Prop)->Prop
structure Ends where
 nx:St->Hp->Prop
 rt:VK
 bk:St->Hp->Prop:=λ_ _=>False
 ct:St->Hp->Prop:=λ_ _=>False
noncomputable abbrev TS:=Ends->St->Hp->Prop
def EP(X:Cx)(ak:List (Addr×Obj))(Z:St)(Q:VK)(u:Value)(s':Shared):Prop:=∃v H',Inv X ak Z H' s'/\RelV v u/\Q v H'
def TP(X:Cx)(ak:List (Addr×Obj))(Z:St)(Q:Bool->Hp->Prop)(b:Bool)(s':Shared):Prop:=∃H',Inv X ak Z H' s'/\Q b H'
def AP(X:Cx)(ak:List (Addr×Obj))(Z:St)(Q:List V->Hp->Prop)(us:List Value)(s':Shared):Prop:=∃vs H',Inv X ak Z H' s'/\Vals vs us/\Q vs H'
def SP(X:Cx)(ak:List (Addr×Obj))(D:Ends)(f:Flow)(s':Shared):Prop:=
 match f with
 |.next=>∃Z' H',Inv X ak Z' H' s'/\D.nx Z' H'
 |.brk=>∃Z' H',Inv X ak Z' H' s'/\D.bk Z' H'
 |.cont=>∃Z' H',Inv X ak Z' H' s'/\D.ct Z' H'
 |.ret u=>∃v Z' H',Inv X ak Z' H' s'/\RelV v u/\D.rt v H'
def PE(X:Cx)(e:Expr)(t:TE):Prop:=
 ∀(ak:List (Addr×Obj)) (s:Shared) (Z:St) (H:Hp) (Q:VK),Inv X ak Z H s->t Z H Q->wpAny (model X.prog X.w) X.A (eval e X.env) (EP X ak Z Q) X.xe s
def PT(X:Cx)(e:Expr)(t:TT):Prop:=
 ∀(ak:List (Addr×Obj)) (s:Shared) (Z:St) (H:Hp) (Q:Bool->Hp->Prop),Inv X ak Z H s->t Z H Q->wpAny (model X.prog X.w) X.A (isTrue e X.env (eval e X.env)) (TP X ak Z Q) X.xe s
def PW(X:Cx)(e:Expr)(t:TT):Prop:=
 ∀(whole:Sem Value) (ak:List (Addr×Obj)) (s:Shared) (Z:St) (H:Hp) (Q:Bool->Hp->Prop),Inv X ak Z H s->t Z H Q->wpAny (model X.prog X.w) X.A (isTrue e X.env whole) (TP X ak Z Q) X.xe s
theorem Kac{X:Cx}{e:Expr}{t:TT}(h:PW X e t):PT X e t:=h _
def PA(X:Cx)(es:List Expr)(t:TA):Prop:=
 ∀(pos:Pos) (ak:List (Addr×Obj)) (s:Shared) (Z:St) (H:Hp) (Q:List V->Hp->Prop),Inv X ak Z H s->t Z H Q->wpAny (model X.prog X.w) X.A (spliced (backTo pos (starEach es X.env))) (AP X ak Z Q) X.xe s
def PS(X:Cx)(st:Stmt)(t:TS):Prop:=
 ∀(ak:List (Addr×Obj)) (s:Shared) (Z:St) (H:Hp) (D:Ends),Inv X ak Z H s->t D Z H->wpAny (model X.prog X.w) X.A (exec st X.env) (SP X ak D) X.xe s
def nY(X:Cx)(st:List Stmt)(t:TS):Prop:=
 ∀(ak:List (Addr×Obj)) (s:Shared) (Z:St) (H:Hp) (D:Ends),Inv X ak Z H s->t D Z H->wpAny (model X.prog X.w) X.A (execs st X.env) (SP X ak D) X.xe s
theorem aW{α:Type}{t:Sem α}{Q Q':α->Shared->Prop}{M:Model}{A:Around}{E:Value->Shared->Prop}{s:Shared}(h:wpAny M A t Q E s)(hQ:∀a s,Q a s->Q' a s):wpAny M A t Q' E s:=nO h hQ λ_ _ x=>x
section
variable {X:Cx}
noncomputable def K_(i:Nat):TE:=λZ H Q=>∃v,Z[i]?=some (some v)/\Q v H
noncomputable def tC(v:V):TE:=λ_ H Q=>Q v H
theorem S8{i:Nat}{x:Str}{pos:Pos}(hN:X.N[i]?=some x)(hv:K4 X.env.scope x)(hd:(x==("__debug__" : Str))=false:=by decide)(jd:(x==("__classdict__" : Str))=false:=by decide):PE X (.Name x pos) (K_ i):=by
 intro ak s Z H Q I h;obtain⟨v,e,h⟩:=h;obtain⟨m,hn,hl⟩:=I.loc;obtain⟨u,r,l⟩:=hl i x v hN e hv;have fin:EP X ak Z Q u s:=⟨v,H,I,r,h⟩;rcases l with ⟨hk,hm⟩|⟨hk,c,hc,vY⟩
 ·exact wpAny_Name (wpAny_loadName_local I.ok.kind hk hn hm fin) hd
 ·rcases hk with hk|hk
  ·exact wpAny_Name (wpAny_loadName_cell I.ok.kind hk hc vY fin) hd
  ·exact wpAny_Name (wpAny_loadName_free I.ok.kind hk hc vY fin jd) hd
theorem La{i j pos}:PE X (.Constant (.int i) j pos) (tC (.int i)):=λ_ _ _ H _ I h=>wpAny_Constant_int ⟨.int i,H,I.tok _,⟨_,rfl⟩,h⟩
theorem zlE{b j pos}:PE X (.Constant (.bool b) j pos) (tC (.bl b)):=λ_ _ _ H _ I h=>Constant_bool ⟨.bl b,H,I,rfl,h⟩
theorem zjl{j pos}:PE X (.Constant .none j pos) (tC .non):=λ_ _ _ H _ I h=>Constant_none ⟨.non,H,I,rfl,h⟩
theorem S9{x j pos}:PE X (.Constant (.str x) j pos) (tC (.str x)):=λ_ _ _ H _ I h=>Calls.Constant_str ⟨.str x,H,I.tok _,⟨_,rfl⟩,h⟩
def Gl(X:Cx)(x:Str):Prop:=X.env.kindOf x=some .globalImplicit
theorem Lb{E:Value->Shared->Prop}{ak:List (Addr×Obj)}{s:Shared}{Z:St}{H:Hp}{x:Str}{u:Value}{pos:Pos}{Q:Value->Shared->Prop}(I:Inv X ak Z H s)(hg:Gl X x)(hm:X.mg x=some u)(h:Q u s)
  (hd:(x==("__debug__" : Str))=false:=by decide):wpAny (model X.prog X.w) X.A (eval (.Name x pos) X.env) Q E s:=
 Calls.Name_function_global I.ok.kind hg (Calls.loadGlobal_global (by rw[I.ok.glob];exact I.mod.glob.keeps I.bk) hm h) hd
theorem t_{E:Value->Shared->Prop}{ak:List (Addr×Obj)}{s:Shared}{Z:St}{H:Hp}{x:Str}{u:Value}{pos:Pos}{Q:Value->Shared->Prop}(I:Inv X ak Z H s)(hg:Gl X x)(hm:X.mg x=none)(hv:bootBuiltins x=some u)(h:Q u s)
  (hn:x≠"__name__":=by decide) (hd:(x==("__debug__" : Str))=false:=by decide):wpAny (model X.prog X.w) X.A (eval (.Name x pos) X.env) Q E s:=by
 obtain⟨mb,h1,h2⟩:=I.mod.blt;exact Calls.Name_function_global I.ok.kind hg (Calls.loadGlobal_builtin (by rw[I.ok.glob];exact I.mod.glob.keeps I.bk) hm (by rw[I.ok.blt];exact h1.keeps I.bk) ((h2 x hn).trans hv) h) hd
theorem S_{x:Str}{v:V}{u:Value}{pos:Pos}(hg:Gl X x)(hm:X.mg x=some u)(r:RelV v u)(hd:(x==("__debug__" : Str))=false:=by decide):PE X (.Name x pos) (tC v):=
 λ_ _ _ H _ I h=>Lb I hg hm ⟨v,H,I,r,h⟩ hd
variable {a b:Expr}{ta tb:TE}{pos:Pos}
def PC(X:Cx)(op:CmpOp)(a b:Expr)(t:TE):Prop:=
 ∀(ak:List (Addr×Obj)) (s:Shared) (Z:St) (H:Hp) (Q:VK),Inv X ak Z H s->t Z H Q->
  wpAny (model X.prog X.w) X.A (eval a X.env) (λv s₁=>wpAny (model X.prog X.w) X.A (eval b X.env) (λu s₂=>wpAny (model X.prog X.w) X.A (compareOp op v u) (EP X ak Z Q) X.xe s₂) X.xe s₁) X.xe s
theorem lG(b:Expr){op:CmpOp}(h:op≠.In)(h2:op≠.NotIn):behindInMarks op b=false:=by
 have e1:(op==CmpOp.In)=false:=by cases op<;>first|rfl|exact absurd rfl h
 have e2:(op==CmpOp.NotIn)=false:=by cases op<;>first|rfl|exact absurd rfl h2
 cases b<;>simp[behindInMarks,e1,e2]
noncomputable def Ld(ta:TE):TE:=λZ H Q=>ta Z H λx H1=>Q (.bl (decide (x=.non))) H1
noncomputable def Dm(ta:TE):TE:=λZ H Q=>ta Z H λx H1=>Q (.bl (!decide (x=.non))) H1
theorem RelV.lH{x:V}{v:Value}(r:RelV x v):(v==Value.none)=decide (x=.non):=by
 cases x with
 |non=>cases r;rfl
 |bl _=>cases r;rfl
 |int _=>obtain⟨t,rfl⟩:=r;rfl
 |str _=>obtain⟨t,rfl⟩:=r;rfl
 |C_ _=>obtain⟨t,rfl⟩:=r;rfl
 |flt _=>obtain⟨t,rfl⟩:=r;rfl
 |ref _=>cases r;rfl
 |ty _=>cases r;rfl
theorem Tc{j pos'}(ha:PE X a ta):PC X .Is a (.Constant .none j pos') (Ld ta):=by
 intro ak s Z H Q I h;refine aW (ha ak s Z H _ I h) λv s1 hx=>dw hx λx H1 I1 r1 q1=>?_;exact Constant_none (is_none_gen ⟨.bl _,H1,I1,by rw[r1.lH];rfl,q1⟩)
theorem ziO{j pos'}(ha:PE X a ta):PC X .IsNot a (.Constant .none j pos') (Dm ta):=by
 intro ak s Z H Q I h;refine aW (ha ak s Z H _ I h) λv s1 hx=>dw hx λx H1 I1 r1 q1=>?_;exact Constant_none (isnot_none_gen ⟨.bl _,H1,I1,by rw[r1.lH];rfl,q1⟩)
noncomputable def tB(t:TE):TT:=λZ H Q=>t Z H λx H1=>∃c,x=.bl c/\Q c H1
theorem zjP{op:CmpOp}{t:TE}(h:PC X op a b t)(h1:behindInMarks op b=false:=by first|exact lG _ J0 J0|rfl):PE X (.Compare a [op] [b] pos) t:=λak s Z H Q I hw=>wpAny_Compare1 (h ak s Z H Q I hw) h1
theorem Td{op:CmpOp}{t:TE}(h:PC X op a b t)(h1:behindInMarks op b=false:=by first|exact lG _ J0 J0|rfl):PT X (.Compare a [op] [b] pos) (tB t):=by
 intro ak s Z H Q I hw;refine Kr (aW (h ak s Z H _ I hw) λv s1 h1=>aW h1 λu s2 h2=>aW h2 λc s3 hx=>dw hx λx H1 I1 r1 q1=>?_) h1;obtain⟨d,rfl,q⟩:=q1;cases r1;exact sO ⟨H1,I1,q⟩
theorem zkG{e:Expr}{t:TE}(h:PE X e t)(he:∀whole,isTrue e X.env whole=(do let v <-whole;standAt e.pos;holding [v] (truthy v)):=by intro _;rfl):PT X e (tB t):=by
 intro ak s Z H Q I hw;refine isTrue_plain (aW (h ak s Z H _ I hw) λv s1 hx=>dw hx λx H1 I1 r1 q1=>?_) (he _);obtain⟨d,rfl,q⟩:=q1;cases r1;exact sO ⟨H1,I1,q⟩
variable {tA Ie:TT}{rest:List Expr}
noncomputable def Le(t u:TT):TT:=λZ H Q=>t Z H λc H1=>if c=true then u Z H1 Q else Q false H1
noncomputable def tOr(t u:TT):TT:=λZ H Q=>t Z H λc H1=>if c=true then Q true H1 else u Z H1 Q
noncomputable def Lf(t:TT):TT:=λZ H Q=>t Z H λc H1=>Q (!c) H1
theorem zif(ha:PT X a tA):PW X (.BoolOp .And [a] pos) tA:=by
 intro wh ak s Z H Q I h;refine isTrue_and (aW (ha ak s Z H Q I h) λc s1 e=>?_);cases c with
 |true=>exact isTrue_and_nil e
 |false=>exact e
theorem zkD(ha:PT X a tA):PW X (.BoolOp .Or [a] pos) tA:=by
 intro wh ak s Z H Q I h;refine isTrue_or (aW (ha ak s Z H Q I h) λc s1 e=>?_);cases c with
 |false=>exact isTrue_or_nil e
 |true=>exact e
theorem zkg(ha:PT X a tA)(hb:PW X (.BoolOp .And (b::rest) pos) Ie):PW X (.BoolOp .And (a::b::rest) pos) (Le tA Ie):=by
 intro wh ak s Z H Q I h;refine isTrue_and (aW (ha ak s Z H _ I h) λc s1 hx=>tZ hx λH1 I1 q1=>?_);cases c with
 |true=>exact hb wh ak s1 Z H1 Q I1 q1
 |false=>exact⟨H1,I1,q1⟩
theorem zlO(ha:PT X a tA)(hb:PW X (.BoolOp .Or (b::rest) pos) Ie):PW X (.BoolOp .Or (a::b::rest) pos) (tOr tA Ie):=by
 intro wh ak s Z H Q I h;refine isTrue_or (aW (ha ak s Z H _ I h) λc s1 hx=>tZ hx λH1 I1 q1=>?_);cases c with
 |true=>exact⟨H1,I1,q1⟩
 |false=>exact hb wh ak s1 Z H1 Q I1 q1
theorem zk6(ha:PT X a tA):PT X (.UnaryOp .Not a pos) (Lf tA):=by
 intro ak s Z H Q I h;exact isTrue_not (ha ak s Z H (λc H1=>Q (!c) H1) I h)
noncomputable def Dn(ta tb:TE):TE:=λZ H Q=>ta Z H λx H1=>∃c,x=.bl c/\if c=true then tb Z H1 Q else Q (.bl false) H1
noncomputable def Lg(ta tb:TE):TE:=λZ H Q=>ta Z H λx H1=>∃c,x=.bl c/\if c=true then Q (.bl true) H1 else tb Z H1 Q
noncomputable def Dp(ta:TE):TE:=λZ H Q=>ta Z H λx H1=>∃c,x=.bl c/\Q (.bl (!c)) H1
theorem zkI{op}{t:TE}(h:PE X a t):PE X (.BoolOp op [a] pos) t:=λak s Z H Q I hw=>BoolOp_one (h ak s Z H Q I hw)
theorem zka(ha:PE X a ta)(hb:PE X (.BoolOp .And (b::rest) pos) tb):PE X (.BoolOp .And (a::b::rest) pos) (Dn ta tb):=by
 intro ak s Z H Q I h;refine BoolOp_and (aW (ha ak s Z H _ I h) λv s1 hx=>dw hx λx H1 I1 r1 q1=>?_);obtain⟨c,rfl,q1⟩:=q1;cases r1;refine sO ?_;cases c with
 |true=>exact hb ak s1 Z H1 Q I1 q1
 |false=>exact⟨.bl false,H1,I1,rfl,q1⟩
theorem zlp(ha:PE X a ta)(hb:PE X (.BoolOp .Or (b::rest) pos) tb):PE X (.BoolOp .Or (a::b::rest) pos) (Lg ta tb):=by
 intro ak s Z H Q I h;refine BoolOp_or (aW (ha ak s Z H _ I h) λv s1 hx=>dw hx λx H1 I1 r1 q1=>?_);obtain⟨c,rfl,q1⟩:=q1;cases r1;refine sO ?_;cases c with
 |false=>exact hb ak s1 Z H1 Q I1 q1
 |true=>exact⟨.bl true,H1,I1,rfl,q1⟩
theorem ziU(ha:PE X a ta):PE X (.UnaryOp .Not a pos) (Dp ta):=by
 intro ak s Z H Q I h;refine UnaryOp_ (aW (ha ak s Z H _ I h) λv s1 hx=>dw hx λx H1 I1 r1 q1=>?_);obtain⟨c,rfl,q1⟩:=q1;cases r1;exact not_of (sO ⟨.bl (!c),H1,I1,rfl,q1⟩)
noncomputable def tIf(t:TT)(ta tb:TE):TE:=λZ H Q=>t Z H λc H1=>if c=true then ta Z H1 Q else tb Z H1 Q
theorem zf0{c:Expr}(hc:PT X c tA)(ha:PE X a ta)(hb:PE X b tb):PE X (.IfExp c a b pos) (tIf tA ta tb):=by
 intro ak s Z H Q I h;refine wpAny_IfExp (aW (hc ak s Z H _ I h) λd s1 hx=>tZ hx λH1 I1 q1=>?_);cases d with
 |true=>exact ha ak s1 Z H1 Q I1 q1
 |false=>exact hb ak s1 Z H1 Q I1 q1
end
def cZ(K:W.Frag)(H:Hp)(a:Addr)(xs:List V):Prop:=
 Rd H a (.lst xs) \/
  ∃(o:Obj) (its:Array Value) (n:Nat),K.lookup a=some o/\o.cls=.type "list"/\o.dict=none/\o.data=.seq its n/\its.size<=sizeLine/\Vals xs its.toList
def eZ(K:W.Frag)(H:Hp)(a:Addr)(xs:List V):Prop:=
 Rd H a (.tup xs) \/
  ∃(o:Obj) (its:Array Value) (n:Nat),K.lookup a=some o/\o.cls=.type "tuple"/\o.data=.seq its n/\its.size<=sizeLine/\Vals xs its.toList
noncomputable def Lh:Value->Option V
 |.none=>some .non
 |.bool b=>some (.bl b)
 |.int i _=>some (.int i)
 |.str x _=>some (.str x)
 |.bytes b _=>some (.C_ b)
 |.float b _=>some (.flt b)
 |.ref a=>some (.ref a)
 |.type n=>some (.ty n)
 |_=>none
theorem RelV.abs{x:V}{u:Value}(r:RelV x u):Lh u=some x:=by
 cases x with
 |non=>cases r;rfl
 |bl _=>cases r;rfl
 |int _=>obtain⟨t,rfl⟩:=r;rfl
 |str _=>obtain⟨t,rfl⟩:=r;rfl
 |C_ _=>obtain⟨t,rfl⟩:=r;rfl
 |flt _=>obtain⟨t,rfl⟩:=r;rfl
 |ref _=>cases r;rfl
 |ty _=>cases r;rfl
theorem RelV.inj{x y:V}{u:Value}(r:RelV x u)(q:RelV y u):x=y:=cT (r.abs.symm.trans q.abs)
theorem Vals.inj{xs ys:List V}{us:List Value}(h:Vals xs us)(h':Vals ys us):xs=ys:=by
 induction h generalizing ys with
 |nil=>cases h';rfl
 |cons r _ ih=>
  cases h' with
  |cons r' t'=>rw[r.inj r',ih t']
section
variable {X:Cx}{ak:List (Addr×Obj)}{Z:St}{H:Hp}{s:Shared}{a:Addr}{xs ys:List V}
theorem cZ.of{K:W.Frag}(h:H a=some (.lst xs)):cZ K H a xs:=.inl (.inl h)
theorem Inv.list(I:Inv X ak Z H s)(h:cZ X.K H a xs):∃its:List Value,Vals xs its/\PlainL s.heap a its.toArray/\xs.length<=sizeLine:=by
 rcases h with h|⟨o,its,n,hk,hc,hd,hs,hz,r⟩
 ·obtain⟨z,its,n,r,e⟩:=h.ok I.hok;exact⟨its,r,⟨_,n,e,rfl,rfl,rfl⟩,z⟩
 ·refine⟨its.toList,r,⟨o,n,I.lF a o hk,hc,hd,by simpa using hs⟩,?_⟩;have e:=r.length;simp only[vJ] at e
  lia
theorem Inv.tuple(I:Inv X ak Z H s)(h:eZ X.K H a xs):∃its:List Value,Vals xs its/\IsTup s.heap a its.toArray/\xs.length<=sizeLine:=by
 rcases h with h|⟨o,its,n,hk,hc,hs,hz,r⟩
 ·obtain⟨z,its,r,p⟩:=h.ok I.hok;exact⟨its,r,p,z⟩
 ·refine⟨its.toList,r,⟨o,I.lF a o hk,hc,n,by simpa using hs⟩,?_⟩;have e:=r.length;simp only[vJ] at e
  lia
theorem Inv.lJ(I:Inv X ak Z H s)(h:cZ X.K H a xs)(h':cZ X.K H a ys):xs=ys:=by
 obtain⟨its,r,⟨o,n,e,_,_,d⟩,_⟩:=I.list h;obtain⟨its',r',⟨o',n',e',_,_,d'⟩,_⟩:=I.list h';rw[e] at e';cases e';rw[d] at d';injection d' with d1 _;have:its=its':=by simpa using lB Array.toList d1
 subst this;exact r.inj r'
theorem Inv.jC(I:Inv X ak Z H s)(h:eZ X.K H a xs)(h':eZ X.K H a ys):xs=ys:=by
 obtain⟨its,r,⟨o,e,_,n,d⟩,_⟩:=I.tuple h;obtain⟨its',r',⟨o',e',_,n',d'⟩,_⟩:=I.tuple h';rw[e] at e';cases e';rw[d] at d';injection d' with d1 _;have:its=its':=by simpa using lB Array.toList d1
 subst this;exact r.inj r'
end
section
variable {X:Cx}{st:Stmt}{rest:List Stmt}{t u:TS}{e:Expr}{te:TE}{pos:Pos}
noncomputable def Dq:TS:=λD Z H=>D.nx Z H
noncomputable def Li(t u:TS):TS:=λD Z H=>t {D with nx:=u D} Z H
theorem Te:nY X [] Dq:=λ_ _ Z H _ I h=>wpAny_execs_nil ⟨Z,H,I,h⟩
theorem Tf(h1:PS X st t)(h2:nY X rest u):nY X (st::rest) (Li t u):=by
 intro ak s Z H D I h;refine wpAny_execs_cons (aW (h1 ak s Z H {D with nx:=u D} I h) λf s1 q=>?_);cases f with
 |next=>
  obtain⟨Z',H',I',q⟩:=q;exact h2 ak s1 Z' H' D I' q
 |ret v=>exact q
 |brk=>exact q
 |cont=>exact q
theorem Inv.quiet{ak:List (Addr×Obj)}{Z:St}{H:Hp}{s:Shared}(I:Inv X ak Z H s):interactive X.env=false:=by simp[interactive,I.ok.kind]
noncomputable def Dr(te:TE):TS:=λD Z H=>te Z H λ_ H1=>D.nx Z H1
theorem zh2(he:PE X e te)(hs:swapsWith e none pos.line X.env=pure false:=by rfl):PS X (.Expr e pos) (Dr te):=by
 intro ak s Z H D I h;exact wpAny_Expr_any (aW (he ak s Z H _ I h) λv s1 hx=>dw hx λx H1 I1 r1 q1=>⟨Z,H1,I1,q1⟩) I.quiet hs
noncomputable def Lj(te:TE):TS:=λD Z H=>te Z H D.rt
theorem zji(he:PE X e te):PS X (.Return (some e) pos) (Lj te):=by
 intro ak s Z H D I h;exact wpAny_Return_some (aW (he ak s Z H _ I h) λv s1 hx=>dw hx λx H1 I1 r1 q1=>⟨x,Z,H1,I1,r1,q1⟩)
noncomputable def Ln(c:TT)(t u:TS):TS:=λD Z H=>c Z H λb H1=>if b=true then t D Z H1 else u D Z H1
theorem zlJ{c:Expr}{a b:List Stmt}{tc:TT}(hc:PT X c tc)(ha:nY X a t)(hb:nY X b u):PS X (.If c a b pos) (Ln tc t u):=by
 intro ak s Z H D I h;refine wpAny_If (aW (hc ak s Z H _ I h) λd s1 hx=>tZ hx λH1 I1 q1=>?_);cases d with
 |true=>exact ha ak s1 Z H1 D I1 q1
 |false=>exact hb ak s1 Z H1 D I1 q1
end
noncomputable abbrev TG:=V->St->Hp->(St->Hp->Prop)->Prop
noncomputable abbrev yw:=List V->St->Hp->(St->Hp->Prop)->Prop
def PG(X:Cx)(target:Expr)(t:TG):Prop:=
 ∀(ak:List (Addr×Obj)) (s:Shared) (Z:St) (H:Hp) (v:V) (u:Value) (Q:St->Hp->Prop),Inv X ak Z H s->RelV v u->t v Z H Q->
  wpAny (model X.prog X.w) X.A (assign target X.env u) (λ_ s'=>∃Z' H',Inv X ak Z' H' s'/\Q Z' H') X.xe s
def Ig(X:Cx)(ts:List Expr)(t:yw):Prop:=
 ∀(ak:List (Addr×Obj)) (s:Shared) (Z:St) (H:Hp) (vs:List V) (us:List Value) (Q:St->Hp->Prop),Inv X ak Z H s->Vals vs us->t vs Z H Q->
  wpAny (model X.prog X.w) X.A (assignInOrder ((assignEach ts X.env).map (·.2)) us) (λ_ s'=>∃Z' H',Inv X ak Z' H' s'/\Q Z' H') X.xe s
noncomputable abbrev yx:=V->V->V->Hp->(Hp->Prop)->Prop
def Ds(X:Cx)(t:yx):Prop:=
 ∀(ak:List (Addr×Obj)) (s:Shared) (Z:St) (H:Hp) (o i v:V) (ov iv u:Value) (Q:Hp->Prop),Inv X ak Z H s->RelV o ov->RelV i iv->RelV v u->t o i v H Q->
  wpAny (model X.prog X.w) X.A (setItem ov iv u) (λ_ s'=>∃H',Inv X ak Z H' s'/\Q H') X.xe s
section
variable {X:Cx}{pos:Pos}
noncomputable def cX(i:Nat):TG:=λv Z H Q=>Q (Z.set i (some v)) H
theorem Ih{i:Nat}{x:Str}(hN:X.N.Nodup)(hi:X.N[i]?=some x)(hx:Loc X.env.scope x)(hf:X.fn x=true\/X.env.scope.names.lookup x=some .local:=by first|exact .inl rfl|exact .inr rfl|assumption):PG X (.Name x pos) (cX i):=by
 intro ak s Z H v u Q I r h;exact wpAny_assign_Name (S7 I hN hi hx r (λs' I'=>⟨_,H,I',h⟩) hf)
noncomputable def qJ:yw:=λvs Z H Q=>vs=[]/\Q Z H
noncomputable def fK(t:TG)(u:yw):yw:=λvs Z H Q=>∃v r,vs=v::r/\t v Z H λZ' H'=>u r Z' H' Q
theorem zhy:Ig X [] qJ:=by
 intro ak s Z H vs us Q I r h;obtain⟨e,h⟩:=h;subst e;cases r;exact assignInOrder_nil ⟨Z,H,I,h⟩
theorem Ti{e:Expr}{es:List Expr}{t:TG}{u:yw}(h1:PG X e t)(h2:Ig X es u)
  (hs:(assignEach (e::es) X.env).map (·.2)=assign e X.env::(assignEach es X.env).map (·.2):=by rfl):Ig X (e::es) (fK t u):=by
 intro ak s Z H vs us Q I r h;obtain⟨v,vr,e1,h⟩:=h;subst e1;cases r with
 |cons r rr=>
  rw[hs];refine assignInOrder_cons (aW (h1 ak s Z H _ _ _ I r h) λ_ s1 hz=>?_);obtain⟨Z1,H1,I1,q1⟩:=hz;exact h2 ak s1 Z1 H1 _ _ Q I1 rr q1
noncomputable def qK(K:W.Frag)(n:Nat)(t:yw):TG:=λv Z H Q=>∃a xs,v=.ref a/\eZ K H a xs/\xs.length=n/\t xs Z H Q
theorem zi8{es:List Expr}{k:Nat}{t:yw}{n:Nat}(hc:X.aj=true)(h:Ig X es t)
  (hn:(assignEach es X.env).length=n:=by rfl) (Lp:(assignEach es X.env).findIdx? (·.1)=none:=by rfl):PG X (.Tuple es k pos) (qK X.K n t):=by
 intro ak s Z H v u Q I r hw;obtain⟨a,xs,e1,hq,hl,hw⟩:=hw;subst e1;cases r;obtain⟨its,rv,ht,hz⟩:=I.tuple hq;refine assign_Tuple_tuple (I.ok.hd hc) ht (by simp[hn,<-hl,rv.length]) Lp λh' hx=>?_;have I1:Inv X ak Z H {s with heap:=h'}:=I.kept (t':=s.toks) λb o e=>hx b o (fD (cj e)) e;exact h ak _ Z H xs _ Q I1 (by simpa using rv) hw
noncomputable def Lq(to ti:TE)(t:yx):TG:=λv Z H Q=>to Z H λo H1=>ti Z H1 λi H2=>t o i v H2 λH3=>Q Z H3
theorem zjQ{o i:Expr}{to ti:TE}{t:yx}(ho:PE X o to)(hi:PE X i ti)(hs:Ds X t)
  (ha:∀v,assign (.Subscript o i pos) X.env v=(do
   let ov <-holding [v] (eval o X.env)
   let iv <-holding [v,ov] (eval i X.env)
   standAt pos
   holding [v,ov,iv] (setItem ov iv v)
   release [v,ov,iv] []):=by intro _;rfl):PG X (.Subscript o i pos) (Lq to ti t):=by
 intro ak s Z H v u Q I r h;rw[ha];refine aC (qx (aW (ho ak s Z H _ I h) λov s1 hx=>dw hx λx H1 I1 r1 q1=>?_));refine aC (qx (aW (hi ak s1 Z H1 _ I1 q1) λiv s2 hx=>dw hx λy H2 I2 r2 q2=>?_));refine aC (wpAny_standAt (aC (qx (aW (hs ak s2 Z H2 x y v ov iv u _ I2 r1 r2 r q2) λ_ s3 hx=>tZ hx λH3 I3 q3=>?_))));exact wpAny_release ⟨Z,H3,I3,q3⟩
noncomputable def yC(te:TE)(g:TG):TS:=λD Z H=>te Z H λx H1=>g x Z H1 D.nx
theorem Tj{tg e:Expr}{te:TE}{g:TG}(he:PE X e te)(hg:PG X tg g)(hs:swapsWithSole [tg] e pos.line X.env=pure false:=by rfl)(hw:swappedStores [tg] e X.env=pure none:=by rfl)
  (h1:(assignEach [tg] X.env).map (·.2)=[assign tg X.env]:=by rfl):PS X (.Assign [tg] e pos) (yC te g):=by
 intro ak s Z H D I h;refine wpAny_Assign_stores (aW (he ak s Z H _ I h) λv s1 hx=>dw hx λx H1 I1 r1 q1=>?_) hs hw;rw[h1];exact aW (hg ak s1 Z H1 x v _ I1 r1 q1) λ_ s2 q=>q
theorem zkc{i:Nat}{x:Str}{e:Expr}{te:TE}{pos':Pos}(hN:X.N.Nodup)(hi:X.N[i]?=some x)(hx:Loc X.env.scope x)(he:PE X e te)(hs:swapsWith e (some (.Name x pos')) pos.line X.env=pure false:=by rfl)(hf:X.fn x=true\/X.env.scope.names.lookup x=some .local:=by first|exact .inl rfl|exact .inr rfl|assumption) :
  PS X (.Assign [.Name x pos'] e pos) (yC te (cX i)):=by
 intro ak s Z H D I h;refine wpAny_Assign_Name (aW (he ak s Z H _ I h) λv s1 hz=>?_) hs;obtain⟨y,H1,I1,r1,q1⟩:=hz;exact S7 I1 hN hi hx r1 (λs2 I2=>⟨_,H1,I2,q1⟩) hf
end
structure It where
 go:Nat->Hp->Prop
 yD:Nat->Hp->V->Hp->Prop
 stop:Nat->Hp->Prop
def gC(X:Cx)(ak:List (Addr×Obj))(H:Hp)(b:Addr):Prop:=
 H b=none/\b≠X.env.locals/\b∉X.fs/\(b∈X.ex\/X.s₀.heap.objs.size<=b)/\(∀x c,X.env.cells.lookup x=some c->c≠b)/\∀p∈X.pn++ak,p.1≠b
theorem Inv.uc{X:Cx}{ak:List (Addr×Obj)}{Z:St}{H H':Hp}{s:Shared}{b:Addr}(I:Inv X ak Z H s)(hb:s.heap.objs.size<=b)(hn:H' b=none):gC X ak H' b:=by
 refine⟨hn,Aj (f9 I.lt hb),I.K6 hb,.inr (jP I.sz hb),λx c e z=>?_,λp hp z=>?_⟩
 ·obtain⟨v,q⟩:=I.cell x c e;exact absurd (f9 q.lt (by rw[z];exact hb)) (pA _)
 ·exact absurd (f9 (cj (I.pin p hp).1) (by rw[z];exact hb)) (pA _)
structure Turn(P:Program)(w:World)(K:W.Frag)(tg:Expr)(bZ:It)(fp:List Addr)(it:Addr)(tn:Nat->Heap->Prop):Prop where
 mem:it∈fp
 obj:∀i h,tn i h->∀b∈fp,∃o,h.get? b=some o/\∀v,o.data≠.cell v
 keep:∀i h h',tn i h->(∀b∈fp,∀o,h.get? b=some o->h'.get? b=some o)->tn i h'
 item:∀(X:Cx),X.prog=P->X.w=w->X.K=K->X.aj=true->∀(i:Nat) (ak:List (Addr×Obj)) (s:Shared) (Z:St) (H:Hp) (E:Value->Shared->Prop),Inv X ak Z H s->(∀b∈fp,gC X ak H b)->tn i s.heap->bZ.go i H->
  wpAny (model P w) X.A (pyNext (.ref it)) (λr s1=>∃u,r=some u /\
   wpAny (model P w) X.A (letOwnedTupleGo tg (.ref it) u) (λ_ s2=>∃x H',Inv X ak Z H' s2/\RelV x u/\bZ.yD i H x H'/\tn (i+1) s2.heap/\∀b∈fp,H' b=none) E s1) E s
 done:∀(X:Cx),X.prog=P->X.w=w->X.K=K->X.aj=true->∀(i:Nat) (ak:List (Addr×Obj)) (s:Shared) (Z:St) (H:Hp) (E:Value->Shared->Prop),Inv X ak Z H s->(∀b∈fp,gC X ak H b)->tn i s.heap->bZ.stop i H->
  wpAny (model P w) X.A (pyNext (.ref it)) (λr s1=>r=none/\Inv X ak Z H s1) E s
 self:∀(A:Around) (i:Nat) (s:Shared) (Q:Value->Shared->Prop) (E:Value->Shared->Prop),tn i s.heap->Q (.ref it) s->wpAny (model P w) A (pyIter (.ref it)) Q E s
noncomputable abbrev TI:=St->Hp->(It->Hp->Prop)->Prop
def PIE(X:Cx)(ak:List (Addr×Obj))(Z:St)(tg:Expr)(R:It->Hp->Prop)(itv:Value)(s2:Shared):Prop:=
 ∃(it:Addr) (fp:List Addr) (tn:Nat->Heap->Prop) (bZ:It) (H':Hp),itv=.ref it/\Inv X ak Z H' s2/\Turn X.prog X.w X.K tg bZ fp it tn/\tn 0 s2.heap/\(∀b∈fp,gC X ak H' b)/\R bZ H'
def PI(X:Cx)(tg iter:Expr)(wi:TI):Prop:=
 ∀(ak:List (Addr×Obj)) (s:Shared) (Z:St) (H:Hp) (R:It->Hp->Prop),Inv X ak Z H s->wi Z H R->
  wpAny (model X.prog X.w) X.A (eval iter X.env) (λv s1=>wpAny (model X.prog X.w) X.A (pyIter v) (PIE X ak Z tg R) X.xe s1) X.xe s
theorem Lr{M:Model}{A:Around}{E:Value->Shared->Prop}{s:Shared}{tg:Expr}{it:Addr}{u:Value}{o:Obj}{n:String}{vs:Array Value}{Q:Unit->Shared->Prop}(ho:s.heap.get? it=some o)(hc:o.cls=.type n)(hd:o.data=.fields vs)
  (hn:["enumerate","zip","dict_itemiterator","dict_reverseitemiterator","odict_iterator","itertools.zip_longest","itertools.pairwise"].contains n=false) (hQ:Q () s):wpAny M A (letOwnedTupleGo tg (.ref it) u) Q E s:=by
 unfold letOwnedTupleGo;cases tg<;>first
  |exact aZ hQ
  | (cases u<;>first
    |exact aZ hQ
    | (refine aC (wpAny_load ho ?_)
       rw[hc,hd];show wpAny M A (if (["enumerate","zip","dict_itemiterator","dict_reverseitemiterator","odict_iterator","itertools.zip_longest","itertools.pairwise"].contains n&&vs[0]?==some (rawInt _))=true then _ else _) Q E s;rw[if_neg (by intro h;rw[hn,Bool.false_and] at h;cases h)];exact aZ hQ))
noncomputable def Ii(K:W.Frag)(a:Addr):It:=
 ⟨λi H=>∃xs x,cZ K H a xs/\xs[i]?=some x,λi H x H'=>H'=H/\∀xs,cZ K H a xs->xs[i]?=some x,λi H=>∃xs,cZ K H a xs/\xs.length<=i⟩
noncomputable def Ls(K:W.Frag)(a:Addr):It:=
 ⟨λi H=>∃xs x,eZ K H a xs/\xs[i]?=some x,λi H x H'=>H'=H/\∀xs,eZ K H a xs->xs[i]?=some x,λi H=>∃xs,eZ K H a xs/\xs.length<=i⟩
noncomputable def Dt(lo:Int)(n:Nat):It:=⟨λi _=>i<n,λi H x H'=>H'=H/\x=.int (lo+i),λi _=>n<=i⟩
theorem zeU{P:Program}{w:World}{K:W.Frag}{tg:Expr}(a it:Addr):Turn P w K tg (Ii K a) [it] it (λi h=>h.IsListIter it a i) where
 mem:=by simp
 obj:=λi h st b hb=>by
  have e:b=it:=by simpa using hb
  subst e;obtain⟨o,e,c,d⟩:=st;exact⟨o,e,λv z=>by rw[d] at z;cases z⟩
 keep:=λi h h' st k=>st.at λo e=>k it Nj o e
 item:=by
  intro X hP hw hK hc i ak s Z H E I hf st hg;subst hP hw hK;obtain⟨xs,x,hq,hx⟩:=hg;obtain⟨its,rv,p,hz⟩:=I.list hq;obtain⟨u,hu,ru⟩:=rv.get hx;obtain⟨f0,f1,f2,f3,f4,f5⟩:=hf it Nj;refine wpAny_pyNext_list_item st p.isList (x:=u) (by simpa using hu) λh' st' sb=>?_;have I1:Inv X ak Z H {s with heap:=h'}:=I.turned (t':=s.toks) (λb o hb e=>(sb.2 b hb).trans e) f0 f1 f3 f4 f5;obtain⟨o,e,c,d⟩:=id st';exact⟨u,rfl,Lr (s:={s with heap:=h'}) e c d J0 ⟨x,H,I1,ru,⟨rfl,λys hy=>by rw[I.lJ hy hq];exact hx⟩,st',λb hb=>(hf b hb).1⟩⟩
 done:=by
  intro X hP hw hK hc i ak s Z H E I hf st hg;subst hP hw hK;obtain⟨xs,hq,hx⟩:=hg;obtain⟨its,rv,p,hz⟩:=I.list hq;obtain⟨f0,f1,f2,f3,f4,f5⟩:=hf it Nj;have hl:=rv.length;exact wpAny_pyNext_list_end (I.ok.hd hc) st p.isList (by simp;lia) λh' eb=>⟨rfl,I.turned (t':=s.toks) (λb o hb e=>eb b o hb e) f0 f1 f3 f4 f5⟩
 self:=λ_ _ _ _ _ st h=>wpAny_pyIter_listiter st h
theorem zd9{P:Program}{w:World}{K:W.Frag}{tg:Expr}(a it:Addr):Turn P w K tg (Ls K a) [it] it (λi h=>h.IsTupleIter it a i) where
 mem:=by simp
 obj:=λi h st b hb=>by
  have e:b=it:=by simpa using hb
  subst e;obtain⟨o,e,c,d⟩:=st;exact⟨o,e,λv z=>by rw[d] at z;cases z⟩
 keep:=λi h h' st k=>st.at λo e=>k it Nj o e
 item:=by
  intro X hP hw hK hc i ak s Z H E I hf st hg;subst hP hw hK;obtain⟨xs,x,hq,hx⟩:=hg;obtain⟨its,rv,p,hz⟩:=I.tuple hq;obtain⟨u,hu,ru⟩:=rv.get hx;obtain⟨f0,f1,f2,f3,f4,f5⟩:=hf it Nj;refine wpAny_pyNext_tuple_item st (show s.heap.IsTuple a its.toArray from p) (x:=u) (by simpa using hu) λh' st' sb=>?_;have I1:Inv X ak Z H {s with heap:=h'}:=I.turned (t':=s.toks) (λb o hb e=>(sb.2 b hb).trans e) f0 f1 f3 f4 f5;obtain⟨o,e,c,d⟩:=id st';exact⟨u,rfl,Lr (s:={s with heap:=h'}) e c d J0 ⟨x,H,I1,ru,⟨rfl,λys hy=>by rw[I.jC hy hq];exact hx⟩,st',λb hb=>(hf b hb).1⟩⟩
 done:=by
  intro X hP hw hK hc i ak s Z H E I hf st hg;subst hP hw hK;obtain⟨xs,hq,hx⟩:=hg;obtain⟨its,rv,p,hz⟩:=I.tuple hq;obtain⟨f0,f1,f2,f3,f4,f5⟩:=hf it Nj;have hl:=rv.length;exact wpAny_pyNext_tuple_end (I.ok.hd hc) st (show s.heap.IsTuple a its.toArray from p) (by simp;lia) λh' eb=>⟨rfl,I.turned (t':=s.toks) (λb o hb e=>eb b o hb e) f0 f1 f3 f4 f5⟩
 self:=λ_ _ _ _ _ st h=>wpAny_pyIter_tupleiter st h
theorem zef{P:Program}{w:World}{K:W.Frag}{tg:Expr}(it:Addr)(lo:Int)(n:Nat):Turn P w K tg (Dt lo n) [it] it (λi h=>IsRangeIter h it (lo+(i:Nat)*1) ((n:Int)-(i:Nat)) 1) where
 mem:=by simp
 obj:=λi h st b hb=>by
  have e:b=it:=by simpa using hb
  subst e;exact⟨_,st,λv z=>by
   have z':Data.fields _=Data.cell v:=z;cases z'⟩
 keep:=λi h h' st k=>k it Nj _ st
 item:=by
  intro X hP hw hK hc i ak s Z H E I hf st hg;subst hP hw hK;obtain⟨f0,f1,f2,f3,f4,f5⟩:=hf it Nj;have W:=Walks.range (prog:=X.prog) (w:=X.w) (I.ok.hd hc) it lo 1 n;refine W.item i s _ _ hg st λv h' tk hv st' kk=>?_;obtain⟨t,rfl⟩:=hv;have I1:Inv X ak Z H {s with heap:=h',toks:=tk}:=I.turned (λb o hb e=>kk b o (by simpa using hb) e) f0 f1 f3 f4 f5;refine⟨_,rfl,Lr (s:={s with heap:=h',toks:=tk}) (n:="range_iterator") st' rfl rfl J0 ⟨.int (lo+i),H,I1,⟨t,?_⟩,⟨rfl,rfl⟩,st',λb hb=>(hf b hb).1⟩⟩;rw[Int.mul_one]
 done:=by
  intro X hP hw hK hc i ak s Z H E I hf st hg;subst hP hw hK;obtain⟨f0,f1,f2,f3,f4,f5⟩:=hf it Nj;exact wpAny_pyNext_range_end (I.ok.hd hc) st (by have:n<=i:=hg;lia) λh' eb=>⟨rfl,I.turned (t':=s.toks) (λb o hb e=>eb b o hb e) f0 f1 f3 f4 f5⟩
 self:=λ_ _ _ _ _ st h=>wpAny_pyIter_rangeiter st h
section
variable {X:Cx}{tg:Expr}
theorem Tn{ak:List (Addr×Obj)}{Z:St}{H:Hp}{s:Shared}{R:It->Hp->Prop}{E:Value->Shared->Prop}{lo hi:Int}{t u v:Tok}{tk:Nat}(I:Inv X ak Z H s)(h1 : -(2^62)<=lo)(h2:lo<2^62)(h3 : -(2^62)<=hi)(h4:hi<2^62)
  (q:R (Dt lo (hi-lo).toNat) H):wpAny (model X.prog X.w) X.A (pyIter (.ref s.heap.objs.size)) (PIE X ak Z tg R) E {s with heap:=s.heap.push {cls:=.type "range",data:=.fields #[.int lo t,.int hi u,.int 1 v]},toks:=tk}:=by
 refine wpAny_pyIter_range (IsRange.new ..) (small_one h1 h2 h3 h4) ?_;have I1:Inv X ak Z H {s with heap:=s.heap.push {cls:=.type "range",data:=.fields #[.int lo t,.int hi u,.int 1 v]},toks:=tk}:=I.kept λb o e=>cO _ e;refine⟨(s.heap.push {cls:=.type "range",data:=.fields #[.int lo t,.int hi u,.int 1 v]}).objs.size,[(s.heap.push {cls:=.type "range",data:=.fields #[.int lo t,.int hi u,.int 1 v]}).objs.size],_,_,H,rfl,
  I1.kept (t':=tk) λb o e=>cO _ e,zef _ lo (hi-lo).toNat,?_,λb hb=>?_,q⟩
 ·have e1:lo+((0:Nat):Int)*1=lo:=by simp
  have e2:(((hi-lo).toNat:Nat):Int)-((0:Nat):Int)=Builtin.Range.rangeSize lo hi 1:=by rw[rangeSize_one];split<;>lia
  show IsRangeIter _ _ (lo+((0:Nat):Int)*1) ((((hi-lo).toNat:Nat):Int)-((0:Nat):Int)) 1;rw[e1,e2];exact gw _ rfl
 ·have e:b=(s.heap.push {cls:=.type "range",data:=.fields #[.int lo t,.int hi u,.int 1 v]}).objs.size:=by simpa using hb
  subst e;exact I1.uc (bU _) (I1.hok.fresh (bU _))
noncomputable def Du(ta:TA):TI:=λZ H R=>ta Z H λvs H1=>∃j:Int,vs=[.int j]/\-(2^62)<=j/\j<2^62/\R (Dt 0 j.toNat) H1
noncomputable def Dv(ta:TA):TI:=λZ H R=>ta Z H λvs H1=>∃i j:Int,vs=[.int i,.int j]/\(-(2^62)<=i/\i<2^62/\-(2^62)<=j/\j<2^62)/\R (Dt i (j-i).toNat) H1
theorem ze8{a:Expr}{ta:TA}{p pos:Pos}(hg:Gl X "range")(hm:X.mg "range"=none)(ha:PA X [a] ta)(hs:starEach [a] X.env=[(false,eval a X.env)]:=by rfl):PI X tg (.Call (.Name "range" p) [a] [] pos) (Du ta):=by
 intro ak s Z H R I h;refine Call_ (t_ I hg hm boot_range (xM (aW (ha pos ak s Z H _ I h) λus s1 hx=>dw hx λvs H1 I1 r1 q1=>?_) hs rfl));obtain⟨j,e,q1,q2,q⟩:=q1;subst e;cases r1 with
 |cons r rr=>
  cases rr;obtain⟨t,rfl⟩:=r;exact call_range_1 (Tn I1 gV gV q1 q2 (by simpa using q))
theorem zeO{a b:Expr}{ta:TA}{p pos:Pos}(hg:Gl X "range")(hm:X.mg "range"=none)(ha:PA X [a,b] ta)(hs:starEach [a,b] X.env=[(false,eval a X.env),(false,eval b X.env)]:=by rfl)(ud:starEach [b] X.env=[(false,eval b X.env)]:=by rfl) :
  PI X tg (.Call (.Name "range" p) [a,b] [] pos) (Dv ta):=by
 intro ak s Z H R I h;refine Call_ (t_ I hg hm boot_range (xM (aW (ha pos ak s Z H _ I h) λus s1 hx=>dw hx λvs H1 I1 r1 q1=>?_) (by rw[hs,ud]) (by rw[ud];rfl)));obtain⟨i,j,e,⟨q1,q2,q3,q4⟩,q⟩:=q1;subst e;cases r1 with
 |cons r rr=>
  cases rr with
  |cons r' rr=>
   cases rr;obtain⟨t,rfl⟩:=r;obtain⟨t',rfl⟩:=r';exact call_range_2 (Tn I1 q1 q2 q3 q4 q)
noncomputable def Lw(wi:TI)(g:TG)(tb:TS):TS:=λD Z H=>wi Z H λbZ H1=>∃W:Nat->Nat->St->Hp->Prop,(∃m,W 0 m Z H1)/\∀i m Z H,W i m Z H->
 (bZ.stop i H/\D.nx Z H)\/(bZ.go i H/\∃N:St->Hp->Prop,(∀Z' H',N Z' H'->∃m',m'<m/\W (i+1) m' Z' H')/\∀x H',bZ.yD i H x H'->g x Z H' λZ2 H2=>tb {D with nx:=N,ct:=N,bk:=D.nx} Z2 H2)
noncomputable def iJ(fp:List Addr)(h:Heap):List (Addr×Obj):=fp.filterMap λb=>(h.get? b).map λo=>(b,o)
theorem Ij{fp:List Addr}{h:Heap}{b:Addr}{o:Obj}(hb:b∈fp)(e:h.get? b=some o):(b,o)∈iJ fp h:=qw.mpr ⟨b,hb,by rw[e];rfl⟩
theorem zeW{fp:List Addr}{h:Heap}{p:Addr×Obj}(hp:p∈iJ fp h):p.1∈fp/\h.get? p.1=some p.2:=by
 obtain⟨b,hb,e⟩:=qw.mp hp;cases q:h.get? b with
 |none=>rw[q] at e;cases e
 |some o=>
  rw[q] at e;have e':(b,o)=p:=cT e;subst e';exact⟨hb,q⟩
theorem Inv.pinned{ak:List (Addr×Obj)}{Z:St}{H:Hp}{s:Shared}{fp:List Addr}(I:Inv X ak Z H s)(hf:∀b∈fp,gC X ak H b)(ho:∀b∈fp,∃o,s.heap.get? b=some o/\∀v,o.data≠.cell v):Inv X (ak++iJ fp s.heap) Z H s:=
 I.jZ λp hp=>(jh.mp hp).elim (λz=>I.pin p (sJ _ z)) λz=>by
  obtain⟨hb,e⟩:=zeW z;obtain⟨f0,f1,f2,_⟩:=hf p.1 hb;obtain⟨o,e',d⟩:=ho p.1 hb;rw[e] at e';cases e';exact⟨e,f0,f1,f2,d⟩
theorem Inv.fL{ak pl:List (Addr×Obj)}{Z:St}{H:Hp}{s:Shared}(I:Inv X (ak++pl) Z H s):Inv X ak Z H s:=I.jZ λp hp=>I.pin p (sJ _ (List.mem_append_left _ hp))
theorem zkW{iter:Expr}{body:List Stmt}{wi:TI}{g:TG}{tb:TS}{pos:Pos}(hp:PassesOwn (model X.prog X.w) X.A X.env X.xe)(hc:X.aj=true)(hi:PI X tg iter wi)(hg:PG X tg g)(hb:nY X body tb)
  (hs:∀x,foldedSetIterable iter X.env x=pure x:=by intro _;rfl):PS X (.For tg iter body [] pos) (Lw wi g tb):=by
 intro ak s Z H D I h;refine wpAny_For (aW (hi ak s Z H _ I h) λv s1 h1=>aW h1 λitv s2 h2=>?_) hs;obtain⟨it,fp,tn,bZ,H2,e,I2,T,st2,f2,W,⟨m0,w0⟩,turn⟩:=h2;subst e;have stat:∀{H':Hp},(∀b∈fp,H' b=none)->∀b∈fp,gC X ak H' b:=λhn b hb=>⟨hn b hb,(f2 b hb).2⟩;refine codeAny_forLoop_any (λn s'=>∃i Z' H',Inv X ak Z' H' s'/\tn i s'.heap/\(∀b∈fp,H' b=none)/\W i n Z' H') ?_ m0 ⟨0,Z,H2,I2,st2,λb hb=>(f2 b hb).1,w0⟩;rintro n s3 ⟨i,Z3,H3,I3,st3,Tq,w3⟩;rcases turn i n Z3 H3 w3 with ⟨stop,qn⟩|⟨go,N,hN,step⟩
 ·refine Cq hp (aW (T.done X rfl rfl rfl hc i ak s3 Z3 H3 X.xe I3 (stat Tq) st3 stop) λr s4 ⟨hr,I4⟩=>?_);subst hr;exact wpAny_execs_nil ⟨Z3,H3,I4,qn⟩
 ·refine Cq hp (aW (T.item X rfl rfl rfl hc i ak s3 Z3 H3 X.xe I3 (stat Tq) st3 go) λr s4 hx=>tZ hx λu hr h4=>?_);subst hr;refine Cq hp (aW h4 λ_ s5 hz=>?_);obtain⟨x,H5,I5,r5,y5,Ar,Ik⟩:=hz;have I5':=I5.pinned (stat Ik) (T.obj _ _ Ar);refine Cq hp (aW (hg _ s5 Z3 H5 x u _ I5' r5 (step x H5 y5)) λ_ s6 hz=>?_);obtain⟨Z6,H6,I6,q6⟩:=hz;refine Cq hp (aW (hb _ s6 Z6 H6 _ I6 q6) λf s7 q7=>?_);have again:∀{Z7:St} {H7:Hp},Inv X (ak++iJ fp s5.heap) Z7 H7 s7->N Z7 H7->∃m,m<n/\∃i Z' H',Inv X ak Z' H' s7/\tn i s7.heap/\(∀b∈fp,H' b=none)/\W i m Z' H':=λ{Z7 H7} I7 n7=>by
   obtain⟨m',hm,w7⟩:=hN Z7 H7 n7;refine⟨m',hm,i+1,Z7,H7,I7.fL,T.keep _ _ _ Ar λb hb o e=>(I7.pin (b,o) (sJ _ (sJ _ (Ij hb e)))).1,λb hb=>?_,w7⟩;obtain⟨o,e,d⟩:=T.obj _ _ Ar b hb;exact(I7.pin (b,o) (sJ _ (sJ _ (Ij hb e)))).2.1
  cases f with
  |next=>obtain⟨Z7,H7,I7,n7⟩:=q7;exact again I7 n7
  |cont=>obtain⟨Z7,H7,I7,n7⟩:=q7;exact again I7 n7
  |brk=>obtain⟨Z7,H7,I7,q7⟩:=q7;exact⟨Z7,H7,I7.fL,q7⟩
  |ret v=>obtain⟨x7,Z7,H7,I7,r7,q7⟩:=q7;exact⟨x7,Z7,H7,I7.fL,r7,q7⟩
end
noncomputable abbrev R2:=V->V->Hp->VK->Prop
def dh(X:Cx)(f:Value->Value->Sem Value)(r:R2):Prop:=
 ∀(ak:List (Addr×Obj)) (s:Shared) (Z:St) (H:Hp) (x y:V) (v u:Value) (Q:VK),Inv X ak Z H s->RelV x v->RelV y u->r x y H Q->
  wpAny (model X.prog X.w) X.A (f v u) (EP X ak Z Q) X.xe s
def Il(X:Cx)(f:Value->Sem Value)(r:V->Hp->VK->Prop):Prop:=
 ∀(ak:List (Addr×Obj)) (s:Shared) (Z:St) (H:Hp) (x:V) (v:Value) (Q:VK),Inv X ak Z H s->RelV x v->r x H Q->
  wpAny (model X.prog X.w) X.A (f v) (EP X ak Z Q) X.xe s
def cC(X:Cx)(f:Value)(r:List V->Hp->VK->Prop):Prop:=
 ∀(ak:List (Addr×Obj)) (s:Shared) (Z:St) (H:Hp) (xs:List V) (us:List Value) (Q:VK),Inv X ak Z H s->Vals xs us->r xs H Q->
  wpAny (model X.prog X.w) X.A (call f us) (EP X ak Z Q) X.xe s
noncomputable def Av(r:R2)(ta tb:TE):TE:=λZ H Q=>ta Z H λx H1=>tb Z H1 λy H2=>r x y H2 Q
noncomputable def tUn(r:V->Hp->VK->Prop)(ta:TE):TE:=λZ H Q=>ta Z H λx H1=>r x H1 Q
noncomputable def rI(C:Int->Int->Prop)(g:Int->Int->V):R2:=λx y H Q=>∃i j,x=.int i/\y=.int j/\C i j/\Q (g i j) H
noncomputable def lK(g:Int->Int->V):R2:=λx y H Q=>∃i j,x=.int i/\y=.int j/\Q (g i j) H
noncomputable def rU(g:Int->V):V->Hp->VK->Prop:=λx H Q=>∃i,x=.int i/\Q (g i) H
section
variable {X:Cx}{a b c:Expr}{ta tb tc:TE}{pos:Pos}
theorem yE(ha:PE X a ta)(hb:PE X b tb){ak:List (Addr×Obj)}{s:Shared}{Z:St}{H:Hp}{R:V->V->Hp->Prop}(I:Inv X ak Z H s)
  (h:ta Z H λx H1=>tb Z H1 λy H2=>R x y H2) {Q:Value->Shared->Prop} {f:Value->Value->Sem Value}
  (hf:∀v u s2 x y H2,Inv X ak Z H2 s2->RelV x v->RelV y u->R x y H2->wpAny (model X.prog X.w) X.A (f v u) Q X.xe s2) :
  wpAny (model X.prog X.w) X.A (eval a X.env) (λv s₁=>wpAny (model X.prog X.w) X.A (eval b X.env) (λu s₂=>wpAny (model X.prog X.w) X.A (f v u) Q X.xe s₂) X.xe s₁) X.xe s:=by
 refine aW (ha ak s Z H _ I h) λv s1 hx=>dw hx λx H1 I1 r1 q1=>?_;refine aW (hb ak s1 Z H1 _ I1 q1) λu s2 hx=>dw hx λy H2 I2 r2 q2=>?_;exact hf v u s2 x y H2 I2 r1 r2 q2
theorem zlN{op:Operator}{r:R2}(ho:dh X (binaryOp op) r)(ha:PE X a ta)(hb:PE X b tb):PE X (.BinOp a op b pos) (Av r ta tb):=by
 intro ak s Z H Q I h;exact wpAny_BinOp (yE ha hb I h λv u s2 x y H2 I2 rx ry q=>ho ak s2 Z H2 x y v u Q I2 rx ry q)
theorem Tt{op:UnaryOp}{r:V->Hp->VK->Prop}(ho:Il X (unaryOp op) r)(ha:PE X a ta):PE X (.UnaryOp op a pos) (tUn r ta):=by
 intro ak s Z H Q I h;exact UnaryOp_ (aW (ha ak s Z H _ I h) λv s1 hx=>dw hx λx H1 I1 r1 q1=>ho ak s1 Z H1 x v Q I1 r1 q1)
theorem Im{f:Value->Value->Sem Value}{C:Int->Int->Prop}{g:Int->Int->Int}
  (rule:∀(i j:Int) (t u:Tok) (s:Shared) (Q:Value->Shared->Prop) (E:Value->Shared->Prop),C i j->Q (.int (g i j) s.toks) {s with toks:=s.toks+1}->wpAny (model X.prog X.w) X.A (f (.int i t) (.int j u)) Q E s) :
  dh X f (rI C λi j=>.int (g i j)):=by
 intro ak s Z H x y v u Q I rx ry h;obtain⟨i,j,rfl,rfl,hc,q⟩:=h;obtain⟨t,rfl⟩:=rx;obtain⟨t',rfl⟩:=ry;exact rule i j t t' s _ _ hc ⟨.int (g i j),H,I.tok _,⟨_,rfl⟩,q⟩
theorem Dw{f:Value->Value->Sem Value}{g:Int->Int->Int}
  (rule:∀(i j:Int) (t u:Tok) (s:Shared) (Q:Value->Shared->Prop) (E:Value->Shared->Prop),Q (.int (g i j) s.toks) {s with toks:=s.toks+1}->wpAny (model X.prog X.w) X.A (f (.int i t) (.int j u)) Q E s) :
  dh X f (lK λi j=>.int (g i j)):=by
 intro ak s Z H x y v u Q I rx ry h;obtain⟨i,j,rfl,rfl,q⟩:=h;obtain⟨t,rfl⟩:=rx;obtain⟨t',rfl⟩:=ry;exact rule i j t t' s _ _ ⟨.int (g i j),H,I.tok _,⟨_,rfl⟩,q⟩
theorem uf{f:Value->Value->Sem Value}{g:Int->Int->Bool}
  (rule:∀(i j:Int) (t u:Tok) (s:Shared) (Q:Value->Shared->Prop) (E:Value->Shared->Prop),Q (.bool (g i j)) s->wpAny (model X.prog X.w) X.A (f (.int i t) (.int j u)) Q E s) :
  dh X f (lK λi j=>.bl (g i j)):=by
 intro ak s Z H x y v u Q I rx ry h;obtain⟨i,j,rfl,rfl,q⟩:=h;obtain⟨t,rfl⟩:=rx;obtain⟨t',rfl⟩:=ry;exact rule i j t t' s _ _ ⟨.bl (g i j),H,I,rfl,q⟩
def ug(i j:Int):Prop:=0<j/\j<1073741824
def Dy(i j:Int):Prop:=0<=j/\j<=1000000/\i.natAbs<2^64
def uh(i j:Int):Prop:=(-(2^64)<i/\i<2^64)\/(-(2^64)<j/\j<2^64)
theorem uh.ok{i j:Int}(h:uh i j):IntMulOk i j:=by
 rcases h with ⟨h1,h2⟩|⟨h1,h2⟩
 ·exact .of_left (intBits_le_64 h1 h2)
 ·exact .of_right (intBits_le_64 h1 h2)
theorem yF:dh X (binaryOp .Add) (lK λi j=>.int (i+j)):=Dw λ_ _ _ _ _ _ _ q=>add_int q
theorem ziY:dh X (binaryOp .Sub) (lK λi j=>.int (i-j)):=Dw λ_ _ _ _ _ _ _ q=>sub_int q
theorem zkL:dh X (binaryOp .Mult) (rI uh λi j=>.int (i*j)):=Im λ_ _ _ _ _ _ _ hc q=>mul_int q hc.ok
theorem zhJ:dh X (binaryOp .FloorDiv) (rI ug λi j=>.int (i/j)):=Im λi j _ _ _ _ _ hc q=>by
 have h1:(0:Int)<j:=hc.1;have h2:j<1073741824:=hc.2;exact floordiv_int gV (by rw[Int.fdiv_eq_ediv_of_nonneg i gV];exact q) (.inl (PyProof.noPylong_small gV))
theorem zjk:dh X (binaryOp .Mod) (rI (λ_ j=>0<j) λi j=>.int (i%j)):=Im λi j _ _ _ _ _ hc q=>by
 have h1:(0:Int)<j:=hc;exact mod_int' gV (by rw[Int.fmod_eq_emod_of_nonneg i gV];exact q)
theorem zi3:dh X (binaryOp .Pow) (rI Dy λi j=>.int (i^j.toNat)):=Im λ_ _ _ _ _ _ _ hc q=>pow_int_small hc.1 hc.2.1 hc.2.2 q
theorem unI{f:Value->Sem Value}{g:Int->Int}
  (rule:∀(i:Int) (t:Tok) (s:Shared) (Q:Value->Shared->Prop) (E:Value->Shared->Prop),Q (.int (g i) s.toks) {s with toks:=s.toks+1}->wpAny (model X.prog X.w) X.A (f (.int i t)) Q E s) :
  Il X f (rU λi=>.int (g i)):=by
 intro ak s Z H x v Q I rx h;obtain⟨i,rfl,q⟩:=h;obtain⟨t,rfl⟩:=rx;exact rule i t s _ _ ⟨.int (g i),H,I.tok _,⟨_,rfl⟩,q⟩
theorem Tv:Il X (unaryOp .USub) (rU λi=>.int (-i)):=unI λ_ _ _ _ _ q=>neg_int q
end
section
variable {X:Cx}{a b c:Expr}{ta tb tc:TE}{pos:Pos}
theorem Dz:dh X (compareOp .Lt) (lK λi j=>.bl (decide (i<j))):=uf λ_ _ _ _ _ _ _ q=>lt_int q
theorem zlS:dh X (compareOp .LtE) (lK λi j=>.bl (decide (i<=j))):=uf λ_ _ _ _ _ _ _ q=>le_int q
theorem zlA:dh X (compareOp .Gt) (lK λi j=>.bl (decide (j<i))):=uf λ_ _ _ _ _ _ _ q=>gt_int q
theorem zlP:dh X (compareOp .GtE) (lK λi j=>.bl (decide (j<=i))):=uf λ_ _ _ _ _ _ _ q=>ge_int q
theorem dh.or{f:Value->Value->Sem Value}{r r':R2}(h:dh X f r)(h':dh X f r'):dh X f (λx y H Q=>r x y H Q\/r' x y H Q):=by
 intro ak s Z H x y v u Q I rx ry q;rcases q with q|q
 ·exact h ak s Z H x y v u Q I rx ry q
 ·exact h' ak s Z H x y v u Q I rx ry q
theorem zhN{op:CmpOp}{r:R2}(ho:dh X (compareOp op) r)(ha:PE X a ta)(hb:PE X b tb)(hm:behindInMarks op b=false):PE X (.Compare a [op] [b] pos) (Av r ta tb):=by
 intro ak s Z H Q I h;exact wpAny_Compare1 (yE ha hb I h λv u s2 x y H2 I2 rx ry q=>ho ak s2 Z H2 x y v u Q I2 rx ry q) hm
noncomputable def vZ(t:TE):TT:=λZ H Q=>t Z H λx H'=>∃k,x=.bl k/\Q k H'
theorem zhl{op:CmpOp}{r:R2}(ho:dh X (compareOp op) r)(ha:PE X a ta)(hb:PE X b tb)(hm:behindInMarks op b=false):PT X (.Compare a [op] [b] pos) (vZ (Av r ta tb)):=by
 intro ak s Z H Q I h;refine Kr (aW (ha ak s Z H _ I h) λv s1 hx=>dw hx λx H1 I1 r1 q1=>aW (hb ak s1 Z H1 _ I1 q1) λu s2 hx=>dw hx λy H2 I2 r2 q2=>
  aW (ho ak s2 Z H2 x y v u _ I2 r1 r2 q2) λc s3 hx=>HY hx λz H3 I3 r3 k e q3=>?_) hm
 subst e;cases r3;exact sO ⟨H3,I3,q3⟩
noncomputable def yG(r r':R2)(ta tb tc:TE):TE:=λZ H Q=>ta Z H λx H1=>tb Z H1 λy H2=>r x y H2 λz H3=>∃k,z=.bl k /\
 (if k=true then tc Z H3 λw' H4=>r' y w' H4 Q else Q (.bl false) H3)
theorem zgj{op op':CmpOp}{r r':R2}(ho:dh X (compareOp op) r)(qI:dh X (compareOp op') r')(ha:PE X a ta)(hb:PE X b tb)(hc:PE X c tc)
  (hm:lastMarks [op,op'] [b,c]=false:=by with_unfolding_all rfl):PE X (.Compare a [op,op'] [b,c] pos) (yG r r' ta tb tc):=by
 intro ak s Z H Q I h;refine Compare_chain (aW (ha ak s Z H _ I h) λv s1 hx=>dw hx λx H1 I1 r1 q1=>chain_link (aW (hb ak s1 Z H1 _ I1 q1) λu s2 hx=>dw hx λy H2 I2 r2 q2=>
  aW (ho ak s2 Z H2 x y v u _ I2 r1 r2 q2) λd s3 hx=>HY hx λz H3 I3 r3 k e q3=>?_)) hm
 subst e;cases r3;refine sO ?_;cases k with
 |false=>exact ite_ff ⟨.bl false,H3,I3,rfl,q3⟩
 |true=>exact ite_tt (chain_last (aW (hc ak s3 Z H3 _ I3 q3) λw' s4 hx=>dw hx λz' H4 I4 r4 q4=>qI ak s4 Z H4 y z' u w' Q I4 r2 r4 q4))
theorem iK:(sizeLine:Nat)<2^63:=by rw[qy];decide
theorem zel:dh X (binaryOp .Add) (λx y H Q=>∃i j,x=.str i/\y=.str j/\i.length+j.length<=sizeLine/\Q (.str (i++j)) H):=by
 intro ak s Z H x y v u Q I rx ry h;obtain⟨i,j,rfl,rfl,hz,q⟩:=h;obtain⟨t,rfl⟩:=rx;obtain⟨t',rfl⟩:=ry;exact add_str (λt' tk=>⟨.str (i++j),H,I.tok _,⟨_,rfl⟩,q⟩) hz
theorem vals1{x:V}{us:List Value}(r:Vals [x] us):∃u,us=[u]/\RelV x u:=by
 cases r with
 |cons r1 r2=>cases r2;exact⟨_,rfl,r1⟩
theorem vals2{x y:V}{us:List Value}(r:Vals [x,y] us):∃u w',us=[u,w']/\RelV x u/\RelV y w':=by
 cases r with
 |cons r1 r2=>
  cases r2 with
  |cons r3 r4=>cases r4;exact⟨_,_,rfl,r1,r3⟩
theorem zf3:cC X (.builtin "abs") (λxs H Q=>∃i,xs=[.int i]/\Q (.int (if i<0 then -i else i)) H):=by
 intro ak s Z H xs us Q I r h;obtain⟨i,rfl,q⟩:=h;obtain⟨u,rfl,t,rfl⟩:=vals1 r;exact call_abs_int λu tk=>⟨.int (if i<0 then -i else i),H,I.tok _,⟨_,rfl⟩,q⟩
theorem zes(hc:X.aj=true):cC X (.builtin "max") (λxs H Q=>∃i j,xs=[.int i,.int j]/\Q (.int (if j>i then j else i)) H):=by
 intro ak s Z H xs us Q I r h;obtain⟨i,j,rfl,q⟩:=h;obtain⟨u,w',rfl,⟨t,rfl⟩,⟨t',rfl⟩⟩:=vals2 r;refine max_two_ints (I.ok.hd hc) λh' tk k=>⟨_,H,I.kept k,?_,q⟩;by_cases hj:j>i
 ·rw[if_pos hj,if_pos hj];exact⟨_,rfl⟩
 ·rw[if_neg hj,if_neg hj];exact⟨_,rfl⟩
theorem zfn(hc:X.aj=true):cC X (.builtin "min") (λxs H Q=>∃i j,xs=[.int i,.int j]/\Q (.int (if j<i then j else i)) H):=by
 intro ak s Z H xs us Q I r h;obtain⟨i,j,rfl,q⟩:=h;obtain⟨u,w',rfl,⟨t,rfl⟩,⟨t',rfl⟩⟩:=vals2 r;refine min_two_ints (I.ok.hd hc) λh' tk k=>⟨_,H,I.kept k,?_,q⟩;by_cases hj:j<i
 ·rw[if_pos hj,if_pos hj];exact⟨_,rfl⟩
 ·rw[if_neg hj,if_neg hj];exact⟨_,rfl⟩
theorem zeV:cC X (.type "int") (λxs H Q=>(∃i,xs=[.int i]/\Q (.int i) H)\/∃k,xs=[.bl k]/\Q (.int (if k then 1 else 0)) H):=by
 intro ak s Z H xs us Q I r h;rcases h with ⟨i,rfl,q⟩|⟨k,rfl,q⟩
 ·obtain⟨u,rfl,t,rfl⟩:=vals1 r;exact call_int_int ⟨.int i,H,I,⟨_,rfl⟩,q⟩
 ·obtain⟨u,rfl,r1⟩:=vals1 r;cases r1;exact call_int_bool ⟨.int (if k then 1 else 0),H,I.tok _,⟨_,rfl⟩,q⟩
theorem zcS:cC X (.builtin "divmod") (λxs H Q=>∃i j,xs=[.int i,.int j]/\ug i j/\∀p,H p=none->Q (.ref p) (upd H p (.tup [.int (i/j),.int (i%j)]))):=by
 intro ak s Z H xs us Q I r h;obtain⟨i,j,rfl,⟨h1,h2⟩,q⟩:=h;obtain⟨u,w',rfl,⟨t,rfl⟩,⟨t',rfl⟩⟩:=vals2 r;refine divmod_int gV ?_ (.inl (PyProof.noPylong_small gV));rw[Int.fdiv_eq_ediv_of_nonneg i gV,Int.fmod_eq_emod_of_nonneg i gV];have hn:H s.heap.objs.size=none:=I.hok.fresh (bU _);refine⟨.ref s.heap.objs.size,_,?_,rfl,q _ hn⟩;refine I.laid (λb o e=>cO _ e) (bU _) ⟨by simp only[dR,xY];rw[qy];decide,[.int (i/j) s.toks,.int (i%j) (s.toks+1)],.cons ⟨_,rfl⟩ (.cons ⟨_,rfl⟩ .nil),?_⟩;exact⟨_,gw s.heap rfl,rfl,0,rfl⟩
end
structure mR(h:Heap)(x dx C:Addr)(mA:Str->Option Value):Prop where
 obj:h.get? x=some (PySem.W.instObj C dx)
 ns:h.Ns1 dx mA
 ne:dx≠x
theorem zeu{h:Heap}{dx:Addr}{mA:Str->Option Value}(n:h.Ns1 dx mA):∃od,h.get? dx=some od/\∀name,PySem.W.lookIn name od=some (mA name):=by
 obtain⟨o,es,ep,ho,hd,hk,_,hm⟩:=n;refine⟨o,ho,λname=>?_⟩;have e:=hm name;unfold nsFind findBy at e;rw[<-Array.find?_toList] at e;unfold PySem.W.lookIn;rw[hd];dsimp only
 split
 ·rename_i y q;rw[q] at e;exact lB some e
 ·rename_i q;rw[q] at e;have a:es.toList.any (·.refKey)=false:=by
   rw[List.any_eq_false];intro y hy;obtain⟨z,t,Lx⟩:=hk y (Array.mem_toList_iff.mp hy);simp[DictEntry.refKey,Lx]
  have a':¬es.toList.any (·.refKey)=true:=by rw[a];exact Kz
  rw[if_neg a'];exact lB some e
theorem mR.look{h:Heap}{x dx C:Addr}{mA:Str->Option Value}(I:mR h x dx C mA):∃od,PySem.W.InstAt h x (PySem.W.instObj C dx) C (some od)/\∀name,PySem.W.lookIn name od=some (mA name):=
 let ⟨od,ho,hl⟩:=zeu I.ns
 ⟨od,⟨I.obj,rfl,rfl,ho⟩,hl⟩
section
variable {prog:Program}{w:World}{A:Around}{E:Value->Shared->Prop}{s:Shared}{K:W.Frag}{x dx C f:Addr}{mA:Str->Option Value}{name:Str}{v:Value}
theorem zhZ{expr:Bool}{Q:Value->Shared->Prop}(X:K.In s.heap)(I:mR s.heap x dx C mA)(hg:PySem.W.plainGet K C name=true)(hh:PySem.W.hasDictIn K C=true)
  (ha:PySem.W.findIn K (.ref C) name=some none) (hv:mA name=some v) (hv':PySem.W.handedIn v=true) (h:Q v {s with toks:=s.toks+1}) :
  wpAny (model prog w) A (getAttr (.ref x) name expr) Q E s:=by
 obtain⟨od,bZ,hl⟩:=I.look;exact PySem.W.get_value X bZ (Kw hg).1 (PySem.W.findObj_own hh ha rfl (by rw[hl,hv])) hv' h
theorem zgL{pl:Sem Bool}{Q:Value×List Value->Shared->Prop}(X:K.In s.heap)(I:mR s.heap x dx C mA)(hg:PySem.W.plainGet K C name=true)
  (hf:PySem.W.findIn K (.ref C) name=some (some (.ref f))) (ht:PySem.W.isFn K (.ref f)=true) (hv:mA name=none) (h:Q (.ref f,[.ref x]) s) :
  wpAny (model prog w) A (getMethod (.ref x) name pl) Q E s:=by
 obtain⟨od,bZ,hl⟩:=I.look;exact PySem.W.method_fn X bZ (Kw hg).1 (Kw hg).2 hf (nP.mp ht) (by show (PySem.W.lookIn name od).map (·.isSome)=some false;rw[hl,hv];rfl) h
theorem zik{ns:List Str}{Q:Unit->Shared->Prop}(X:K.In s.heap)(I:mR s.heap x dx C mA)
  (hs:PySem.W.findIn K (.ref C) "__setattr__"=some (some (.builtin "object.__setattr__"))) (hp:PySem.W.plainOver K C=true) (ht:PySem.W.takerIn K C name=some none) (hh:PySem.W.hasDictIn K C=true)
  (hw:PySem.Within mA ns) (lq:ns.length<=sizeLine)
  (h:∀h',mR h' x dx C (λy=>if y=name then some v else mA y)->Heap.SameBut dx s.heap h'->Q () {s with heap:=h',toks:=s.toks+2}) :
  wpAny (model prog w) A (setAttr (.ref x) name v) Q E s:=by
 obtain⟨od,bZ,hl⟩:=I.look;refine PySem.W.set_plain X bZ hs (PySem.W.osa_open (s:={s with toks:=s.toks+1}) (r:=none) X bZ hp ht λb=>?_);obtain⟨cd,hc,Dk⟩:=PySem.W.any_some hh;have hx:s.heap.get? x=some ⟨.ref C,some dx,.plain,#[]⟩:=I.obj;refine aC (aZ (aC (aC (wpAny_loadPart hx (aC (PySem.W.Looks.here (s:={s with toks:=s.toks+1}) (PySem.W.looks_clsIn X hc) ?_))))));rw[Dk];refine aZ (a:=some dx) (aC (aZ (aC ?_)));refine wpAny_nsSet1 (s:={s with toks:=s.toks+1}) I.ns λh' Tw ud=>?_;obtain⟨oD,esD,epD,hoD,hdD,hcD⟩:=Tw.count (PySem.Within.cons name v hw);refine aC (wpAny_lookBehind hoD (by rw[hdD];exact pastItsLine_dict (jP hcD (by rw[dR];lia))) ?_);exact aZ (h _ ⟨(ud.2 _ (Ne.symm I.ne)).trans I.obj,Tw,I.ne⟩ ud)
theorem zgm{R:Result->Shared->Prop}{vs:List Value}{kw:List (Str×Value)}(X:K.In s.heap)(hm:PySem.W.makesIn K C=true)
  (hi:PySem.W.findIn K (.ref C) "__init__"=some (some (.ref f))) (hf:PySem.W.typeIn K (.ref f)=some (.type "function"))
  (h:codeAny (model prog w) (A.under (.builtin "type.__call__" ⟨.ref C::vs,kw⟩)) (.call (.ref f) ⟨.ref (s.heap.objs.size+1)::vs,kw⟩) (PySem.W.InitBack (s.heap.objs.size+1) R)
   {s with heap:=(s.heap.push PySem.W.emptyDict).push (PySem.W.instObj C s.heap.objs.size)}) :
  codeAny (model prog w) A (.call (.ref C) ⟨vs,kw⟩) R s:=by
 obtain⟨hh,g,d,t,os⟩:=s;exact PySem.W.make_core (PySem.W.makes_of X hm) (PySem.W.looks_findIn X hi) (λself=>PySem.W.bind_fn X self hf) (.inl rfl) h
end
noncomputable def dF(f:Str)(v:V):List (Str×V)->List (Str×V)
 |[]=>[(f,v)]
 |(g,x)::r=>if g=f then (g,v)::r else (g,x)::dF f v r
theorem Tz(f g:Str)(v:V):∀fs:List (Str×V),(dF f v fs).lookup g=if g=f then some v else fs.lookup g
 |[]=>by
  show List.lookup g [(f,v)]=_;by_cases h:g=f
  ·have hb:(g==f)=true:=nP.mpr h;simp only[List.lookup,hb,if_pos h]
  ·have hb:(g==f)=false:=Ab.mpr h;simp only[List.lookup,hb,if_neg h]
 |(k,x)::r=>by
  have ih:=Tz f g v r;rw[show dF f v ((k,x)::r)=(if k=f then (k,v)::r else (k,x)::dF f v r) from rfl];by_cases hk:k=f
  ·rw[if_pos hk];by_cases h:g=k
   ·have hb:(g==k)=true:=nP.mpr h;simp only[List.lookup,hb,if_pos (h.trans hk)]
   ·have hb:(g==k)=false:=Ab.mpr h;simp only[List.lookup,hb,if_neg (λe:g=f=>h (e.trans hk.symm))]
  ·rw[if_neg hk];by_cases h:g=k
   ·have hb:(g==k)=true:=nP.mpr h;simp only[List.lookup,hb,if_neg (λe:g=f=>hk (h.symm.trans e))]
   ·have hb:(g==k)=false:=Ab.mpr h;simp only[List.lookup,hb];exact ih
theorem Ly(f:Str)(v:V):∀fs:List (Str×V),f∈(dF f v fs).map (·.1)/\∀g,g∈fs.map (·.1)->g∈(dF f v fs).map (·.1)
 |[]=>⟨by simp[dF],λg h=>by simp at h⟩
 |(k,x)::r=>by
  obtain⟨i1,i2⟩:=Ly f v r;rw[show dF f v ((k,x)::r)=(if k=f then (k,v)::r else (k,x)::dF f v r) from rfl];by_cases hk:k=f
  ·rw[if_pos hk];subst hk;exact⟨by simp,λg h=>by simpa using h⟩
  ·rw[if_neg hk];refine⟨?_,λg h=>?_⟩
   ·rw[nM];exact iy _ i1
   ·rw[nM] at h ⊢;rcases fC.mp h with e|e
    ·exact fC.mpr (.inl e)
    ·exact iy _ (i2 g e)
theorem TF(f:Str)(v:V):∀fs:List (Str×V),(dF f v fs).length<=fs.length+1
 |[]=>by simp[dF]
 |(k,x)::r=>by
  have ih:=TF f v r;rw[show dF f v ((k,x)::r)=(if k=f then (k,v)::r else (k,x)::dF f v r) from rfl];by_cases hk:k=f
  ·rw[if_pos hk,dR,dR];lia
  ·rw[if_neg hk,dR,dR];lia
theorem Kaf{v:V}{o:Option Value}(r:pC (some v) o):∃u,o=some u/\RelV v u:=by
 cases o with
 |none=>exact(show False from r).elim
 |some u=>exact⟨u,rfl,r⟩
theorem Kae{o:Option Value}(r:pC none o):o=none:=by
 cases o with
 |none=>rfl
 |some u=>exact(show False from r).elim
theorem zet{v:V}{u:Value}(r:RelV v u):PySem.W.handedIn u=true:=by
 cases v with
 |non=>cases (show u=Value.none from r);rfl
 |bl b=>cases (show u=Value.bool b from r);rfl
 |int i=>obtain⟨t,e⟩:=(show ∃t,u=Value.int i t from r);cases e;rfl
 |str x=>obtain⟨t,e⟩:=(show ∃t,u=Value.str x t from r);cases e;rfl
 |C_ b=>obtain⟨t,e⟩:=(show ∃t,u=Value.bytes b t from r);cases e;rfl
 |flt b=>obtain⟨t,e⟩:=(show ∃t,u=Value.float b t from r);cases e;rfl
 |ref a=>cases (show u=Value.ref a from r);rfl
 |ty n=>cases (show u=Value.type n from r);rfl
section
variable {P:Program}{w:World}{H H':Hp}{h h':Heap}{a C dx:Addr}{fs fs':List (Str×V)}
theorem Lz(hok:eY P w H h)(e:H a=some (.ins C dx fs)):∃mA,mR h a dx C mA/\(∀f,pC (fs.lookup f) (mA f))/\PySem.Within mA (fs.map (·.1))/\fs.length<=1000/\H dx=some (.own a):=by
 obtain⟨d,z,ne,ob,mA,n,r,q⟩:=(show aR P w H h a (.ins C dx fs) from hok a _ e);exact⟨mA,⟨ob,n,ne⟩,r,q,z,d⟩
end
structure Cls(K:W.Frag)(C:Addr):Prop where
 pg:PySem.W.plainGet K C Str.empty=true
 hd:PySem.W.hasDictIn K C=true
 po:PySem.W.plainOver K C=true
 sa:PySem.W.findIn K (.ref C) "__setattr__"=some (some (.builtin "object.__setattr__"))
theorem Cls.get{K:W.Frag}{C:Addr}(c:Cls K C)(f:Str):PySem.W.plainGet K C f=true:=c.pg
def fj(K:W.Frag)(C:Addr)(f:Str):Prop:=PySem.W.findIn K (.ref C) f=some none
theorem fj.taker{K:W.Frag}{C:Addr}{f:Str}(n:fj K C f):PySem.W.takerIn K C f=some none:=by
 unfold PySem.W.takerIn;rw[show PySem.W.findIn K (.ref C) f=some none from n];rfl
structure Meth(K:W.Frag)(C:Addr)(m:Str)(f:Addr):Prop where
 at_:PySem.W.findIn K (.ref C) m=some (some (.ref f))
 fn:PySem.W.isFn K (.ref f)=true
 kp:PySem.W.keepIn K (.ref f)=true
section
variable {X:Cx}{ak:List (Addr×Obj)}{Z:St}{H:Hp}{s:Shared}{a C dx:Addr}{fs:List (Str×V)}{f:Str}{v:V}{A:Around}{E:Value->Shared->Prop}
theorem zem{b:Bool}{Q:Value->Shared->Prop}(I:Inv X ak Z H s)(e:H a=some (.ins C dx fs))(c:Cls X.K C)(n:fj X.K C f)(l:fs.lookup f=some v)
  (h:∀u s',Inv X ak Z H s'->RelV v u->Q u s'):wpAny (model X.prog X.w) A (getAttr (.ref a) f b) Q E s:=by
 obtain⟨mA,O,r,_,_,_⟩:=Lz I.hok e;obtain⟨u,hu,ru⟩:=Kaf (v:=v) (o:=mA f) (by rw[<-l];exact r f);exact zhZ I.lF O (c.get f) c.hd n hu (zet ru) (h u _ (I.tok _) ru)
theorem zee{m:Str}{g:Addr}{pl:Sem Bool}{Q:Value×List Value->Shared->Prop}(I:Inv X ak Z H s)(e:H a=some (.ins C dx fs))(c:Cls X.K C)(k:Meth X.K C m g)(l:fs.lookup m=none)
  (h:Q (.ref g,[.ref a]) s):wpAny (model X.prog X.w) A (getMethod (.ref a) m pl) Q E s:=by
 obtain⟨mA,O,r,_,_,_⟩:=Lz I.hok e;have hn:mA m=none:=Kae (by rw[<-l];exact r m);exact zgL I.lF O (c.get m) k.at_ k.fn hn h
theorem zed{y:V}{u:Value}{Q:Unit->Shared->Prop}(I:Inv X ak Z H s)(e:H a=some (.ins C dx fs))(c:Cls X.K C)(n:fj X.K C f)(hl:fs.length<1000)(ry:RelV y u)
  (h:∀s',Inv X ak Z (upd H a (.ins C dx (dF f y fs))) s'->Q () s'):wpAny (model X.prog X.w) A (setAttr (.ref a) f u) Q E s:=by
 obtain⟨mA,O,r,wi,_,ho⟩:=Lz I.hok e;have hz:(fs.map (·.1)).length<=sizeLine:=by rw[cJ,qy];lia
 refine zik I.lF O c.sa c.po n.taker c.hd wi hz λh' O' sb=>h _ ?_;have hd:∃o,h'.get? dx=some o:=let ⟨o,_,_,e',_⟩:=O'.ns;⟨o,e'⟩;refine I.write (x:=a) (e:=dx) (by rw[e];exact True.intro) (.inr ho) (λb q hb z=>(sb.2 b hb).trans z) hd ?_;refine⟨by rw[dz O.ne];exact ho,?_,O.ne,O'.obj,_,O'.ns,λg=>?_,λg hg=>?_⟩
 ·have:=TF f y fs;lia
 ·show pC ((dF f y fs).lookup g) (if g=f then some u else mA g);rw[Tz];by_cases q:g=f
  ·rw[if_pos q,if_pos q];exact ry
  ·rw[if_neg q,if_neg q];exact r g
 ·by_cases q:g=f
  ·rw[q];exact(Ly f y fs).1
  ·refine(Ly f y fs).2 g (wi g λz=>hg ?_);show (if g=f then some u else mA g)=none;rw[if_neg q];exact z
theorem Inv.made(I:Inv X ak Z H s):Inv X ak Z (upd (upd H s.heap.objs.size (.own (s.heap.objs.size+1))) (s.heap.objs.size+1) (.ins C s.heap.objs.size []))
  {s with heap:=(s.heap.push PySem.W.emptyDict).push (PySem.W.instObj C s.heap.objs.size)}:=by
 have e1:(s.heap.push PySem.W.emptyDict).get? s.heap.objs.size=some PySem.W.emptyDict:=gw s.heap rfl;have e2:((s.heap.push PySem.W.emptyDict).push (PySem.W.instObj C s.heap.objs.size)).get? (s.heap.objs.size+1)=some (PySem.W.instObj C s.heap.objs.size):=by
  have:=gw (s.heap.push PySem.W.emptyDict) (o:=PySem.W.instObj C s.heap.objs.size) rfl
  rwa [vN] at this
 have e3:(s.heap.push PySem.W.emptyDict).Ns s.heap.objs.size (λ_=>none):=⟨PySem.W.emptyDict,#[],_,e1,rfl,(λe he=>absurd he Nj),λ_=>rfl⟩;have I1:=I.laid (a:=s.heap.objs.size) (o:=.own (s.heap.objs.size+1)) (h':=s.heap.push PySem.W.emptyDict) (t':=s.toks) (λb u q=>cO _ q) (bU _) ⟨_,e1⟩;refine I1.laid (a:=s.heap.objs.size+1) (o:=.ins C s.heap.objs.size []) (t':=s.toks) (λb u q=>cO _ q) (Nat.le_of_eq (vN _ _)) ?_;have ne:s.heap.objs.size≠s.heap.objs.size+1:=fD (Hz _);refine⟨by rw[dz ne,jB],jQ _,ne,e2,λ_=>none,(Heap.Ns1.of_empty e3).at λo q=>cO _ q,λ_=>True.intro,λy hy=>absurd rfl hy⟩
theorem zic{prog:Program}{w:World}{env:Env}{e:Expr}{f:Str}{pos:Pos}{s:Shared}{Q:Value->Shared->Prop}(hb:attributeBase e f env (eval e env)=eval e env)
  (h:wpAny (model prog w) A (eval e env) (λo s₁=>wpAny (model prog w) A (getAttr o f true) Q E s₁) E s):wpAny (model prog w) A (eval (.Attribute e f pos) env) Q E s:=
 Attribute_any_ h (by rw[arm_eval_Attribute,hb])
end
noncomputable def LC(K:W.Frag)(ta:TE)(f:Str):TE:=λZ H Q=>ta Z H λx H1=>∃a C dx fs v,x=.ref a/\H1 a=some (.ins C dx fs)/\Cls K C/\fj K C f/\fs.lookup f=some v/\Q v H1
noncomputable def LQ(K:W.Frag)(ta tv:TE)(f:Str):TS:=λD Z H=>tv Z H λy H1=>ta Z H1 λx H2=>∃a C dx fs,x=.ref a/\H2 a=some (.ins C dx fs)/\Cls K C/\fj K C f/\fs.length<1000 /\
 D.nx Z (upd H2 a (.ins C dx (dF f y fs)))
section
variable {X:Cx}{o e value:Expr}{f:Str}{pos pos' tpos:Pos}{ta tv:TE}
theorem zjC(he:PE X e ta)(hb:attributeBase e f X.env (eval e X.env)=eval e X.env):PE X (.Attribute e f pos) (LC X.K ta f):=by
 intro ak s Z H Q I h;refine zic hb (aW (he ak s Z H _ I h) λu s1 hz=>?_);obtain⟨x,H1,I1,rx,a,C,dx,fs,v,ex,ea,c,n,l,q⟩:=hz;subst ex;obtain rfl:u=Value.ref a:=rx;exact zem I1 ea c n l λu' s2 I2 ru=>⟨v,H1,I2,ru,q⟩
theorem zkE(ha:PE X o ta)(hv:PE X value tv)(hs:swapsWith value (some (.Attribute o f pos')) pos.line X.env=pure false):PS X (.Assign [.Attribute o f pos'] value pos) (LQ X.K ta tv f):=by
 intro ak s Z H D I h;refine plainObj_wpAny_Assign_Attribute (aW (hv ak s Z H _ I h) λu s1 hx=>dw hx λy H1 I1 ry q=>aW (ha ak s1 Z H1 _ I1 q) λov s2 hz=>?_) hs;obtain⟨x,H2,I2,rx,a,C,dx,fs,ex,ea,c,n,l,q2⟩:=hz;subst ex;obtain rfl:ov=Value.ref a:=rx;exact zed I2 ea c n l ry λs3 I3=>⟨Z,_,I3,q2⟩
end
structure bC(k:Nat)(A:Around):Prop where
 dp:A.depth+3*k+5<recursionLimit
 un:A.units+16*k+200<cLine
 gd:A.guards=some []
theorem bC.deeper{k:Nat}{A:Around}(r:bC (k+1) A)(env:Env):bC k (A.deeper env):=
 ⟨by have:=r.dp;show A.depth+1+3*k+5<_;lia,by have:=r.un;show A.units+3+16*k+200<_;lia,r.gd⟩
theorem zdX{A:Around}{C:Addr}{us:List Value}{kw:List (Str×Value)}:(A.under (.builtin "type.__call__" ⟨.ref C::us,kw⟩)).depth=A.depth+1:=by
 first|rfl|simp[Around.under,Code.weight,Code.isCreation,Code.isGuard,Code.isCaller,Code.frames,Code.isFrame,guardIds]
theorem zeb{A:Around}{C:Addr}{us:List Value}{kw:List (Str×Value)}:(A.under (.builtin "type.__call__" ⟨.ref C::us,kw⟩)).units=A.units+1:=by
 first|rfl|simp[Around.under,Code.cUnits,Code.frames,Code.isFrame]
theorem bC.depth{k:Nat}{A:Around}(r:bC k A):A.depth<recursionLimit:=by have:=r.dp;lia
noncomputable def LR:TA:=λ_ H Q=>Q [] H
noncomputable def DG(ta:TE)(tr:TA):TA:=λZ H Q=>ta Z H λx H1=>tr Z H1 λxs H2=>Q (x::xs) H2
section
variable {X:Cx}{e:Expr}{es:List Expr}{te:TE}{t:TA}{pos:Pos}
theorem Aw:PA X [] LR:=λ_ _ _ _ H Q I h=>Calls.spliced_nil ⟨[],H,I,.nil,h⟩
theorem uo(ha:PE X e te)(hr:PA X es t)(hs:starEach (e::es) X.env=(false,eval e X.env)::starEach es X.env:=by rfl):PA X (e::es) (DG te t):=by
 intro pos ak s Z H Q I h;rw[hs];show wpAny _ _ (spliced ((false,eval e X.env)::backTo pos (starEach es X.env))) _ _ s;refine Calls.spliced_cons (aW (ha ak s Z H _ I h) λu s1 hx=>dw hx λx H1 I1 r1 q1=>?_);exact aW (hr pos ak s1 Z H1 _ I1 q1) λus s2 hx=>dw hx λxs H2 I2 r2 q2=>⟨x::xs,H2,I2,.cons r1 r2,q2⟩
noncomputable def L_(t:TA):TE:=λZ H Q=>t Z H λxs H1=>xs.length<=sizeLine/\∀p,H1 p=none->Q (.ref p) (upd H1 p (.tup xs))
noncomputable def Ma(t:TA):TE:=λZ H Q=>t Z H λxs H1=>xs.length<=sizeLine/\∀p,H1 p=none->Q (.ref p) (upd H1 p (.lst xs))
theorem zk0{x1}(h:PA X es t):PE X (.Tuple es x1 pos) (L_ t):=by
 intro ak s Z H Q I hq;refine wpAny_Tuple_spliced (aW (h pos ak s Z H _ I hq) λus s1 ⟨xs,H1,I1,r,z,q⟩=>⟨by rw[<-r.length];exact z,?_⟩);have hf:H1 s1.heap.objs.size=none:=I1.hok.fresh (bU _);refine⟨.ref s1.heap.objs.size,upd H1 s1.heap.objs.size (.tup xs),I1.laid (t':=s1.toks) (λb u e=>cO _ e) (bU _) ?_,rfl,q _ hf⟩;exact⟨z,us,r,⟨_,gw _ rfl,rfl,_,rfl⟩⟩
theorem zjc(h:PA X es t):PE X (.List es pos) (Ma t):=by
 intro ak s Z H Q I hq;refine wpAny_List_spliced (aW (h pos ak s Z H _ I hq) λus s1 ⟨xs,H1,I1,r,z,q⟩=>⟨by rw[<-r.length];exact z,?_⟩);have hf:H1 s1.heap.objs.size=none:=I1.hok.fresh (bU _);refine⟨.ref s1.heap.objs.size,upd H1 s1.heap.objs.size (.lst xs),I1.laid (t':=s1.toks) (λb u e=>cO _ e) (bU _) ?_,rfl,q _ hf⟩;exact⟨z,us,0,r,gw _ rfl⟩
end
noncomputable abbrev Sp:=List V->Hp->VK->XK->Prop
noncomputable abbrev pD:=List Env->Hp->Shared->XK->Value->Shared->Prop
structure mU(P:Program)(w:World)(K:W.Frag)(mg:Str->Option Value)(base:Heap)(A:Around)(outer:List Env)(s:Shared)(H:Hp):Prop where
 frames:A.frames=some outer
 mod:Mod K mg base
 bs:∀b o,base.get? b=some o->s.heap.get? b=some o/\H b=none
 yr:base.objs.size<=s.heap.objs.size
 jm:s.heap.FunFrames base outer
 Dj:∀b∈frs outer,H b=none
 hok:eY P w H s.heap
 bare:AllBare s.gens
def CE(outer:List Env)(P:Program)(w:World)(H:Hp)(s:Shared)(Q:VK)(u:Value)(s':Shared):Prop:=
 ∃v H',s'.os=s.os/\AllBare s'.gens/\Un (frs outer) [] H H' s.heap s'.heap/\eY P w H' s'.heap/\RelV v u/\Q v H'
def CR(CX:pD)(outer:List Env)(P:Program)(w:World)(H:Hp)(s:Shared)(Q:VK)(E:XK)(r:Result)(s':Shared):Prop:=
 match r with
 |.ok (.ret u)=>CE outer P w H s Q u s'
 |.ok _=>False
 |.error e=>CX outer H s E e s'
structure bQ(P:Program)(w:World)(K:W.Frag)(mg:Str->Option Value)(base:Heap)(CX:pD)(cm:Bool)(k:Nat)(f:Addr)(fd:FuncData)(ps:List Str)(sp:Sp):Prop where
 len:∀vs H Q E,sp vs H Q E->vs.length=ps.length
 run:∀(A:Around) (outer:List Env) (s:Shared) (H:Hp) (args:Args) (us:List Value) (vs:List V) (Q:VK) (E:XK),(cm=true->A.handled=none)->bC k A->mU P w K mg base A outer s H->BindsTo s fd args (ps.zip us)->Vals vs us->sp vs H Q E->
  codeAny (model P w) A (.call (.ref f) args) (CR CX outer P w H s Q E) s
theorem bQ.imp{P:Program}{w:World}{K:W.Frag}{mg:Str->Option Value}{base:Heap}{CX:pD}{cm:Bool}{k:Nat}{f:Addr}{fd:FuncData}{ps:List Str}{sp TJ:Sp}(F:bQ P w K mg base CX cm k f fd ps sp)
  (h:∀vs H Q E,TJ vs H Q E->sp vs H Q E):bQ P w K mg base CX cm k f fd ps TJ:=
 ⟨λvs H Q E q=>F.len vs H Q E (h _ _ _ _ q),λA outer s H args us vs Q E h_ hr he hb hv hs=>F.run A outer s H args us vs Q E h_ hr he hb hv (h _ _ _ _ hs)⟩
theorem mU.make{P:Program}{w:World}{K:W.Frag}{mg:Str->Option Value}{base:Heap}{A:Around}{outer:List Env}{s:Shared}{H:Hp}(e:mU P w K mg base A outer s H)(C:Addr)(us:List Value)(kw:List (Str×Value)) :
  mU P w K mg base (A.under (.builtin "type.__call__" ⟨.ref C::us,kw⟩)) outer s H:=⟨by first|exact e.frames|(simpa [Around.under,Code.envs,Code.isFrame,pushEnvs] using e.frames),e.mod,e.bs,e.yr,e.jm,e.Dj,e.hok,e.bare⟩
section
variable {X:Cx}{ak:List (Addr×Obj)}{Z:St}{H:Hp}{s s':Shared}
theorem Inv.env0(I:Inv X ak Z H s):mU X.prog X.w X.K X.mg X.base X.A X.stack s H:=
 ⟨I.ok.frames,I.ok.mod,I.bs,jP I.ok.yr I.sz,I.stack,I.jY,I.hok,I.bare⟩
theorem Inv.after{Q:VK}{u:Value}(I:Inv X ak Z H s)(h:CE X.stack X.prog X.w H s Q u s'):EP X ak Z Q u s':=by
 obtain⟨v,H',os,bare,un,hok,r,q⟩:=h;obtain⟨hh,g,d,t,os'⟩:=s';obtain rfl:os'=s.os:=os;exact⟨v,H',I.call (h':=hh) (g':=g) (d':=d) (t':=t) (ch:=[]) un hok bare (λb z=>absurd z Nj),r,q⟩
end
noncomputable def DK(C:Addr)(m:Str)(sp:Sp)(lM:List V)(E:XK)(ta:TE)(t:TA):TE:=λZ H Q=>ta Z H λx H1=>∃a dx fs,x=.ref a/\H1 a=some (.ins C dx fs)/\fs.lookup m=none /\
 t Z H1 λvs H2=>sp (x::(vs++lM)) H2 Q E
noncomputable def DN(C:Addr)(sp:Sp)(lM:List V)(E:XK)(t:TA):TE:=λZ H Q=>t Z H λvs H1=>∀x dx,H1 x=none->H1 dx=none->dx≠x->
 sp (.ref x::(vs++lM)) (upd (upd H1 dx (.own x)) x (.ins C dx [])) (λv H2=>v=.non/\Q (.ref x) H2) E
def Binds(K:W.Frag)(fd:FuncData)(ps:List Str)(ds:List Value):Prop:=
 ∀(s:Shared) (us:List Value),K.In s.heap->(us++ds).length=ps.length->BindsTo s fd ⟨us,[]⟩ (ps.zip (us++ds))
theorem Binds.all{K:W.Frag}{fd:FuncData}{ps:List Str}(h:∀us:List Value,us.length=ps.length->bindArgs fd ⟨us,[]⟩=pure (ps.zip us)):Binds K fd ps []:=λs us _ hl=>by
 rw[tY] at hl ⊢;exact .of_eq (h us hl)
def Passes(CX:pD)(X:Cx)(E:XK):Prop:=∀(ak:List (Addr×Obj)) (Z:St) (H:Hp) (s:Shared) (e:Value) (s':Shared),Inv X ak Z H s->CX X.stack H s E e s'->X.xe e s'
section
variable {X:Cx}{CX:pD}{cm:Bool}{k:Nat}{f C:Addr}{fd:FuncData}{ps:List Str}{sp:Sp}{lM:List V}{ds:List Value}{E:XK}{x m:Str}{p pos apos:Pos}{e o:Expr}{es:List Expr}{ta:TE}{t:TA}
theorem zjh{ak:List (Addr×Obj)}{Z:St}{H:Hp}{s:Shared}{Q:VK}{us:List Value}{vs:List V}(F:bQ X.prog X.w X.K X.mg X.base CX cm k f fd ps sp)(h_:cm=true->X.aj=true)(hr:bC k X.A)(hb:Binds X.K fd ps ds)(hd:Vals lM ds)(hx:Passes CX X E)
  (I:Inv X ak Z H s) (r:Vals vs us) (h:sp (vs++lM) H Q E):wpAny (model X.prog X.w) X.A (call (.ref f) us) (EP X ak Z Q) X.xe s:=by
 have r2:Vals (vs++lM) (us++ds):=r.append hd;have hl:(us++ds).length=ps.length:=by rw[<-r2.length];exact F.len _ _ _ _ h
 refine wpAny_call (Ak (F.run X.A X.stack s H ⟨us,[]⟩ (us++ds) (vs++lM) Q E (λz=>I.ok.hd (h_ z)) hr I.env0 (hb s us I.lF hl) r2 h) λr s' hq=>?_);cases r with
 |error e=>exact hx ak Z H s e s' I hq
 |ok fl=>
  cases fl with
  |ret u=>exact I.after hq
  |next=>exact False.elim hq
  |brk=>exact False.elim hq
  |cont=>exact False.elim hq
theorem zhq{pl:Sem Bool}(he:PE X o ta)(c:Cls X.K C)(hm:Meth X.K C m f)(F:bQ X.prog X.w X.K X.mg X.base CX cm k f fd ps sp)(h_:cm=true->X.aj=true)(hr:bC k X.A)(hb:Binds X.K fd ps ds)(hd:Vals lM ds)(hx:Passes CX X E)(ha:PA X (e::es) t)
  (Lp:starEach (e::es) X.env=(false,eval e X.env)::starEach es X.env:=by rfl) (hpl:(backTo pos (starEach es X.env)).any (·.1)=false:=by rfl)
  (ht:eval (.Call (.Attribute o m apos) (e::es) [] pos) X.env=(do
   let ov <-eval o X.env
   standAt apos.atName
   let (f,first) <-holding [ov] (getMethod ov m pl)
   callWith pos f first (backTo pos (starEach (e::es) X.env)) (backToKw pos (keywordEach [] X.env))):=by rfl) :
  PE X (.Call (.Attribute o m apos) (e::es) [] pos) (DK C m sp lM E ta t):=by
 intro ak s Z H Q I h;refine PySem.W.methodCall_KW (pl:=pl) (aW (he ak s Z H _ I h) λu s1 hz=>?_) ht;obtain⟨x,H1,I1,rx,a,dx,fs,ex,ea,l,q⟩:=hz;subst ex;obtain rfl:u=Value.ref a:=rx;refine zee I1 ea c hm l ?_;refine KC (first:=[.ref a]) (h₀:=X.base) I.ok.mod.vU hm.kp (aW (ha pos ak s1 Z H1 _ I1 q) λus s2 ⟨vs,H2,I2,r,q2⟩=>⟨I2.lF,?_⟩) Lp hpl;exact zjh (us:=.ref a::us) (vs:=.ref a::vs) F h_ hr hb hd hx I2 (.cons rfl r) q2
structure Mk(K:W.Frag)(C f:Addr):Prop where
 makes:PySem.W.makesIn K C=true
 init:PySem.W.findIn K (.ref C) "__init__"=some (some (.ref f))
 fn:PySem.W.isFn K (.ref f)=true
 kp:PySem.W.keepIn K (.ref C)=true
theorem zgA{ak:List (Addr×Obj)}{Z:St}{H:Hp}{s:Shared}{Q:VK}{us:List Value}{vs:List V}(M:Mk X.K C f)(F:bQ X.prog X.w X.K X.mg X.base CX cm k f fd ps sp)(h_:cm=true->X.aj=true)(hr:∀us,bC k (X.A.under (.builtin "type.__call__" ⟨.ref C::us,[]⟩)))(hb:Binds X.K fd ps ds)(hd:Vals lM ds)
  (hx:Passes CX X E) (I:Inv X ak Z H s) (r:Vals vs us)
  (h:∀x dx,H x=none->H dx=none->dx≠x->sp (.ref x::(vs++lM)) (upd (upd H dx (.own x)) x (.ins C dx [])) (λv H2=>v=.non/\Q (.ref x) H2) E) :
  wpAny (model X.prog X.w) X.A (call (.ref C) us) (EP X ak Z Q) X.xe s:=by
 have hq:=h (s.heap.objs.size+1) s.heap.objs.size (I.hok.fresh (Nat.le_succ _)) (I.hok.fresh (bU _)) (fD (Hz _));have I2:=Inv.made (C:=C) I;have r2:Vals (V.ref (s.heap.objs.size+1)::(vs++lM)) (Value.ref (s.heap.objs.size+1)::(us++ds)):=.cons rfl (r.append hd);have hl:(Value.ref (s.heap.objs.size+1)::us++ds).length=ps.length:=by
  have e:=r2.length;rw[F.len _ _ _ _ hq] at e;exact e.symm
 refine wpAny_call (zgm (f:=f) I.lF M.makes M.init (nP.mp M.fn) (Ak (F.run _ X.stack _ _ ⟨Value.ref (s.heap.objs.size+1)::us,[]⟩ (Value.ref (s.heap.objs.size+1)::(us++ds)) _ _ E (λz=>I.ok.hd (h_ z)) (hr us)
  (I2.env0.make C us []) (hb _ (Value.ref (s.heap.objs.size+1)::us) I2.lF hl) r2 hq) λr s' DP=>?_))
 cases r with
 |error e=>exact hx ak Z _ _ e s' I2 DP
 |ok fl=>
  cases fl with
  |ret u=>
   obtain⟨v,H',I3,rv,ev,q3⟩:=I2.after DP;subst ev;exact⟨rv,⟨V.ref (s.heap.objs.size+1),H',I3,rfl,q3⟩⟩
  |next=>exact False.elim DP
  |brk=>exact False.elim DP
  |cont=>exact False.elim DP
theorem zih(M:Mk X.K C f)(F:bQ X.prog X.w X.K X.mg X.base CX cm k f fd ps sp)(h_:cm=true->X.aj=true)(hr:∀us,bC k (X.A.under (.builtin "type.__call__" ⟨.ref C::us,[]⟩)))(hg:Gl X x)(hm:X.mg x=some (.ref C))(hb:Binds X.K fd ps ds)(hd:Vals lM ds)(hx:Passes CX X E)
  (ha:PA X (e::es) t) (pF:(x==("__debug__" : Str))=false:=by decide) (he:starEach (e::es) X.env=(false,eval e X.env)::starEach es X.env:=by rfl) (hpl:(backTo pos (starEach es X.env)).any (·.1)=false:=by rfl) :
  PE X (.Call (.Name x p) (e::es) [] pos) (DN C sp lM E t):=by
 intro ak s Z H Q I h;refine xR (Lb I hg hm ?_ pF);refine KC (h₀:=X.base) I.ok.mod.vU M.kp (aW (ha pos ak s Z H _ I h) λus s1 ⟨vs,H1,I1,r,q⟩=>⟨I1.lF,?_⟩) he hpl;exact zgA M F h_ hr hb hd hx I1 r q
end
structure cH(N P:List Str)(sc:Scope):Prop where
 kind:sc.kind=.function
 co:sc.isCoroutine=false
 gen:sc.isGenerator=false
 nd:N.Nodup
 pre:N.take P.length=P
 par:∀x∈P,sc.names.lookup x=some .local\/sc.names.lookup x=some .cell
 yH:∀y∈sc.names,y.2≠.free
theorem TQ{kindOf:Str->Option NameKind}{x:Str}:∀{binds:List (Str×Value)} {m:Str->Option Value},(∀v,(x,v)∉binds)->bindL kindOf binds m x=m x
 |[],_,_=>rfl
 |(n,v)::r,m,h=>by
  unfold bindL;rw[TQ λw hw=>h w (iy _ hw)]
  split
  ·have:x≠n:=by rintro rfl;exact h v nH
   simp[this]
  ·rfl
theorem TV{kindOf:Str->Option NameKind}{x:Str}:∀{binds:List (Str×Value)} {m:Str->Option Value},(∀v,(x,v)∉binds)->bindC kindOf binds m x=m x
 |[],_,_=>rfl
 |(n,v)::r,m,h=>by
  unfold bindC;rw[TV λw hw=>h w (iy _ hw)]
  split
  ·rfl
  ·have:x≠n:=by rintro rfl;exact h v nH
   simp[this]
theorem TX{kindOf:Str->Option NameKind}{x:Str}{v:Value}:∀{P:List Str} {vs:List Value} {i:Nat} {m:Str->Option Value},P.Nodup->P[i]?=some x->vs[i]?=some v->kindOf x=some .local->
  bindL kindOf (P.zip vs) m x=some v
 |[],_,_,_,_,h,_,_=>by simp at h
 |_::_,[],_,_,_,_,h,_=>by simp at h
 |p::P,w::vs,0,m,nd,h1,h2,hk=>by
  simp at h1 h2;subst h1;subst h2;show bindL kindOf ((p,w)::P.zip vs) m p=_;unfold bindL;rw[TQ λv hv=>(vM.mp nd).1 (List.of_mem_zip hv).1,if_pos hk];simp
 |p::P,w::vs,i+1,m,nd,h1,h2,hk=>by
  show bindL kindOf ((p,w)::P.zip vs) m x=_;unfold bindL;exact TX (i:=i) (vM.mp nd).2 (by simpa using h1) (by simpa using h2) hk
theorem TY{kindOf:Str->Option NameKind}{x:Str}{v:Value}:∀{P:List Str} {vs:List Value} {i:Nat} {m:Str->Option Value},P.Nodup->P[i]?=some x->vs[i]?=some v->kindOf x≠some .local->
  bindC kindOf (P.zip vs) m x=some v
 |[],_,_,_,_,h,_,_=>by simp at h
 |_::_,[],_,_,_,_,h,_=>by simp at h
 |p::P,w::vs,0,m,nd,h1,h2,hk=>by
  simp at h1 h2;subst h1;subst h2;show bindC kindOf ((p,w)::P.zip vs) m p=_;unfold bindC;rw[TV λv hv=>(vM.mp nd).1 (List.of_mem_zip hv).1,if_neg hk];simp
 |p::P,w::vs,i+1,m,nd,h1,h2,hk=>by
  show bindC kindOf ((p,w)::P.zip vs) m x=_;unfold bindC;exact TY (i:=i) (vM.mp nd).2 (by simpa using h1) (by simpa using h2) hk
noncomputable def start(N:List Str)(vs:List V):St:=vs.map some++List.replicate (N.length-vs.length) none
noncomputable def dU(CX:pD)(P:Program)(w:World)(K:W.Frag)(mg:Str->Option Value)(base:Heap)(N:List Str)(qual:Str)(scope:Scope)(f:Addr)(cd:Value)(A:Around)(outer:List Env)(s:Shared)(H:Hp)(E:XK)(cm:Bool):Cx where
 prog:=P
 w:=w
 K:=K
 mg:=mg
 base:=base
 A:=A.deeper (envOfC qual scope s.heap.objs.size f cd)
 N:=N
 s₀:=s
 H₀:=H
 env:=envOfC qual scope s.heap.objs.size f cd
 outer:=outer
 stack:=envOfC qual scope s.heap.objs.size f cd::outer
 ex:=[]
 aj:=cm
 fn:=λ_=>true
 pn:=[]
 xe:=λe s'=>wpAny (model P w) (A.deeper (envOfC qual scope s.heap.objs.size f cd)) (leaving (envOfC qual scope s.heap.objs.size f cd) e) (λ_ s''=>CX outer H s E e s'') (λe' s''=>CX outer H s E e' s'') s'
theorem T3{sc:Scope}{n:Nat}{x:Str}(h:sc.names.lookup x=some .cell):∃c,(cellsFrom n sc.names []).lookup x=some c:=by
 have q:=Ko sc.names n [] (.inl h);exact Kh.mp q
theorem zfk{CX:pD}{P:Program}{w:World}{K:W.Frag}{mg:Str->Option Value}{base:Heap}{N ps:List Str}{qual:Str}{scope:Scope}{f:Addr}{cd:Value}{A:Around}{outer:List Env}{s s1:Shared}{H:Hp}{E:XK}{us:List Value}{vs:List V}
  {cm:Bool} (S:cH N ps scope) (hd:cm=true->A.handled=none) (e0:mU P w K mg base A outer s H) (hl:vs.length=ps.length) (r:Vals vs us)
  (x:InCallC s s.heap.objs.size (bindL (envOfC qual scope s.heap.objs.size f cd).kindOf (ps.zip us) λ_=>none) (cellsFrom (s.heap.objs.size+1) scope.names []) (bindC (envOfC qual scope s.heap.objs.size f cd).kindOf (ps.zip us) λ_=>none) s1) :
  Inv (dU CX P w K mg base N qual scope f cd A outer s H E cm) [] (start N vs) H s1:=by
 have hpl:ps.length<=N.length:=by have:=lB List.length S.pre;rw[pq] at this;lia
 obtain⟨h1,tk,rfl,hk⟩:=x.done;have DQ:∀b:Addr,b∉(dU CX P w K mg base N qual scope f cd A outer s H E cm).ex:=λb z=>absurd (show b∈([]:List Addr) from z) Nj;refine⟨⟨e0.mod,S.kind,rfl,rfl,bU _,λy z c h1 h2=>?_,λy hy=>?_,λy c _ h=>?_,hd,Around.frames_deeper e0.frames,.inr ⟨rfl,rfl⟩,λb z=>absurd z (DQ b),e0.bs,e0.yr,λb _ _=>DQ b,λb z=>absurd z (DQ b),e0.jm,e0.Dj⟩,
  rfl,e0.bare,Un.kept hk,⟨_,x.toInCall.ns,λi y v h1 h2 h3=>?_⟩,λy c h=>⟨_,x.cell y c h⟩,e0.hok.fresh (bU _),λy c h=>?_,λp hp=>absurd (show p∈([]:List (Addr×Obj)) from hp) Nj,e0.hok.kept hk,?_⟩
 ·exact name_of_addr x.apart (Ac h1) (Ac h2)
 ·have hy:scope.names.lookup y=some .cell\/scope.names.lookup y=some .free:=hy;rcases hy with hy|hy
  ·exact T3 hy
  ·exact absurd rfl (S.yH _ (Ac hy))
 ·exact vQ (x.above y c (Ac h))
 ·have hi:i<vs.length:=by
   unfold start at h2;by_cases hi:i<vs.length
   ·exact hi
   ·rw[oY (by simpa using hi)] at h2;rw[Hq] at h2;split at h2<;>cases h2
  have ha:vs[i]?=some v:=by
   unfold start at h2;rw[nG (by simpa using hi),iz] at h2;cases e:vs[i]? with
   |none=>rw[e] at h2;cases h2
   |some a=>rw[e] at h2;cases h2;rfl
  obtain⟨u,hu,rv⟩:=r.get ha;have hp:ps[i]?=some y:=by
   rw[<-S.pre,List.getElem?_take_of_lt gV];exact h1
  have T4:ps.Nodup:=by rw[<-S.pre];exact S.nd.sublist (List.take_sublist _ _)
  refine⟨u,rv,?_⟩;rcases S.par y (dH hp) with k|k
  ·exact .inl ⟨k,TX T4 hp hu k⟩
  ·obtain⟨c,e⟩:=T3 (n:=s.heap.objs.size+1) k;refine .inr ⟨.inl k,c,e,?_⟩;have q:=x.cell y c e;rw[TY T4 hp hu (by show scope.names.lookup y≠_;rw[k];decide)] at q;exact q
 ·exact e0.hok.fresh (vQ (x.above y c (Ac h)))
 ·unfold start;show _=N.length;rw[iI,cJ,Ca]
  lia
theorem T5{CX:pD}{cm:Bool}{P:Program}{w:World}{K:W.Frag}{mg:Str->Option Value}{base:Heap}{k:Nat}{f:Addr}{name qual:Str}{params:Arguments}{body:List Stmt}{scope:Scope}{dV kV doc pm cdv ct oc:Value}{an od:Option Addr}
  {osl:Array (Option Value)} {N ps:List Str} {sp:Sp} (lk:K.lookup f=some ⟨oc,od,.func (PySem.W.fnOf name qual params body scope dV kV doc pm an cdv ct),osl⟩) (jd:PySem.W.codeIn K cdv qual=true) (S:cH N ps scope)
  (len:∀vs H Q E,sp vs H Q E->vs.length=ps.length)
  (DR:∀(A:Around) (outer:List Env) (s:Shared) (H:Hp) (vs:List V) (Q:VK) (E:XK),bC (k+1) A->sp vs H Q E->
   ∃t,nY (dU CX P w K mg base N qual scope f cdv A outer s H E cm) body t/\t {nx:=λ_ H'=>Q .non H',rt:=Q} (start N vs) H) :
  bQ P w K mg base CX cm (k+1) f (PySem.W.fnOf name qual params body scope dV kV doc pm an cdv ct) ps sp:=by
 refine⟨len,λA outer s H args us vs Q E h_ hr e0 hb r Io=>?_⟩;have hl:=len _ _ _ _ Io;have KX:K.In s.heap:=e0.mod.vU.keeps λb o e=>(e0.bs b o e).1;have lim:s.heap.NoLimit:=e0.mod.nolimit.keeps λb o e=>(e0.bs b o e).1;have DW:∀y∈ps.zip us,scope.names.lookup y.1=some .local\/(scope.names.lookup y.1=some .cell/\((cellsFrom (s.heap.objs.size+1) scope.names []).lookup y.1).isSome=true):=λ⟨n,v⟩ hy=>by
  rcases S.par n (List.of_mem_zip hy).1 with q|q
  ·exact .inl q
  ·exact .inr ⟨q,Ko _ _ _ (.inl q)⟩
 refine codeAny_call_function hr.depth (KX _ _ lk) rfl S.co S.gen rfl (PySem.W.codeRec_of KX jd) (hb _ _ _ _ ?_);refine wpAny_newFunctionEnv_cells S.kind DW λenv he s1 x=>?_;subst he;refine⟨lim.keeps x.toInCall.keep,codeAny_func ?_⟩;obtain⟨t,ht,hq⟩:=DR A outer s H vs Q E hr Io;have I:Inv (dU CX P w K mg base N qual scope f cdv A outer s H E cm) [] (start N vs) H s1:=zfk S h_ e0 hl r x;refine nO (ht [] s1 (start N vs) H _ I hq) (λfl s' hs=>?_) λe s' hs=>hs;have fin:∀{Z':St} {H':Hp} {v:V} {u:Value},Inv (dU CX P w K mg base N qual scope f cdv A outer s H E cm) [] Z' H' s'->RelV v u->Q v H'->CE outer P w H s Q u s':=
  λ{Z' H' v u} bZ rv q=>⟨v,H',bZ.os,bZ.bare,bZ.base,bZ.hok,rv,q⟩
 cases fl with
 |ret u=>
  obtain⟨v,Z',H',bZ,rv,q⟩:=hs;exact fin bZ rv q
 |next=>
  obtain⟨Z',H',bZ,q⟩:=hs;exact fin (v:=V.non) (u:=Value.none) bZ rfl q
 |brk=>
  obtain⟨_,_,_,q⟩:=hs;exact False.elim q
 |cont=>
  obtain⟨_,_,_,q⟩:=hs;exact False.elim q
section
variable {X:Cx}{x:Str}{p pos:Pos}{e:Expr}{es:List Expr}{t:TA}{id T:String}{r:List V->Hp->VK->Prop}
noncomputable def Mf(r:List V->Hp->VK->Prop)(t:TA):TE:=λZ H Q=>t Z H λvs H1=>r vs H1 Q
theorem T6(hc:cC X (.builtin id) r)(hg:Gl X x)(hm:X.mg x=none)(hv:bootBuiltins x=some (.builtin id))(ha:PA X (e::es) t)(hn:x≠"__name__":=by decide)(pF:(x==("__debug__" : Str))=false:=by decide)
  (he:starEach (e::es) X.env=(false,eval e X.env)::starEach es X.env:=by rfl) (hpl:(backTo pos (starEach es X.env)).any (·.1)=false:=by rfl):PE X (.Call (.Name x p) (e::es) [] pos) (Mf r t):=by
 intro ak s Z H Q I h;refine xR (t_ I hg hm hv ?_ hn pF);exact PyProof.Rows.callWith_builtin1 (aW (ha pos ak s Z H _ I h) λus s1 hx=>dw hx λvs H1 I1 r1 q1=>hc ak s1 Z H1 vs us Q I1 r1 q1) he hpl
theorem zfh(hc:cC X (.type T) r)(hg:Gl X x)(hm:X.mg x=none)(hv:bootBuiltins x=some (.type T))(ha:PA X (e::es) t)(hn:x≠"__name__":=by decide)(pF:(x==("__debug__" : Str))=false:=by decide)
  (he:starEach (e::es) X.env=(false,eval e X.env)::starEach es X.env:=by rfl) (hpl:(backTo pos (starEach es X.env)).any (·.1)=false:=by rfl):PE X (.Call (.Name x p) (e::es) [] pos) (Mf r t):=by
 intro ak s Z H Q I h;refine xR (t_ I hg hm hv ?_ hn pF);exact xM (aW (ha pos ak s Z H _ I h) λus s1 hx=>dw hx λvs H1 I1 r1 q1=>hc ak s1 Z H1 vs us Q I1 r1 q1) he hpl
end
end L2
namespace HT
open PySem PyProof.Rows
noncomputable def lexLt:List Int->List Int->Bool
 |[],[]=>false
 |[],_::_=>true
 |_::_,[]=>false
 |x::xs,y::ys=>if x=y then lexLt xs ys else decide (x<y)
theorem iM(x y:Int)(xs ys:List Int):lexLt (x::xs) (y::ys)=if x=y then lexLt xs ys else decide (x<y):=rfl
theorem zcm:lexLt [] []=false:=rfl
theorem zbQ(y:Int)(ys:List Int):lexLt [] (y::ys)=true:=rfl
theorem zbN(x:Int)(xs:List Int):lexLt (x::xs) []=false:=rfl
theorem zgG(A:Around)(s:Shared)(a:Int)(t:Tok)(c:Int)(u:Tok):∃e,SeqAt.EqAt A s (.int a t) (.int c u) e/\(e=true↔a=c):=
 ⟨(a==c),SeqAt.EqAt.int_int a t c u,by simp⟩
theorem zgr(A:Around)(s:Shared)(a:Int)(t:Tok)(c:Int)(u:Tok)(prog:Program)(w:World)(E:Value->Shared->Prop)(Q:Value->Shared->Prop)(h:Q (.bool (decide (a<c))) s) :
  wpAny (model prog w) A (richCompare .Lt (.int a t) (.int c u)) Q E s:=
 (PyProof.Rows.lt_int h:wpAny (model prog w) A (compareOp .Lt (.int a t) (.int c u)) Q E s)
section
open PySem.SeqAt
open PySem.AutoSeq1 (wpAny_loadPart')
open PySem.MeetsSeq PySem.MeetsSeq2 PySem.MeetsSeq3
theorem zca(l b:Addr)(items items2:Array Value)(n n2:Nat)(dd dd2:Option Addr)(sl sl2:Array (Option Value))(ns ms:List Int)(hi:IntsAre items.toList ns)(hj:IntsAre items2.toList ms) :
  Meets (Builtin.«tuple.__lt__» ⟨[.ref l,.ref b],[]⟩)
   (λ_ R s=>s.heap.get? l=some {cls:=.type "tuple",dict:=dd,data:=.seq items n,slots:=sl}/\s.heap.get? b=some {cls:=.type "tuple",dict:=dd2,data:=.seq items2 n2,slots:=sl2} /\
    R (.ok (.ret (.bool (lexLt ns ms)))) s):=
 .of_wp λprog w A R s h=>by
  obtain⟨hp,g,d,tk,os⟩:=s;obtain⟨hl,hb,h⟩:=h;have f2:=AutoSeq1.sub_tuple_tuple;have z1:items.size=ns.length:=by rw[<-hi.length];simp
  have z2:items2.size=ms.length:=by rw[<-hj.length];simp
  wp_walk using wpAny_loadPart' hl,wpAny_loadPart' hb,wpAny_forIn_list _ (λrest b s'=>b.1=none/\s'=⟨hp,g,d,tk,os⟩/\∃(vs ws:List Value) (ns' Ax:List Int),rest=vs.zip ws /\
   IntsAre vs ns'/\IntsAre ws Ax/\ns'.length+items2.size=Ax.length+items.size/\R (.ok (.ret (.bool (lexLt ns' Ax)))) ⟨hp,g,d,tk,os⟩) _
  case turn=>
   rintro⟨y,x⟩ rest b s' ⟨hb',rfl,vs,ws,ns',Ax,hz,Mg,Ip,hlen,hR⟩;cases Mg with
   |nil=>rw[List.zip_nil_left] at hz;cases hz
   |cons a t Mh=>
    cases Ip with
    |nil=>rw[List.zip_nil_right] at hz;cases hz
    |cons c u Mj=>
     rw[Cg] at hz;injection hz with hyx DX;injection hyx with hy hx;subst hy hx;rw[iM] at hR;simp only[dR] at hlen;obtain⟨e,he,DY⟩:=zgG A.in1 ⟨hp,g,d,tk,os⟩ a t c u;refine aC (he prog w _ _ ?_);cases e with
     |true=>
      rw[if_pos (DY.mp rfl)] at hR
      wp_walk
      exact⟨rfl,rfl,_,_,_,_,DX,Mh,Mj,by lia,hR⟩
     |false=>
      rw[if_neg (λq=>absurd (DY.mpr q) Kz)] at hR;have hri:=zgr A.in1 ⟨hp,g,d,tk,os⟩ a t c u prog w
      wp_walk using hri
      exact⟨_,rfl,by simpa using hR⟩
  case fin=>
   rintro⟨b1,b2⟩ s' ⟨hb',rfl,vs,ws,ns',Ax,hz,Mg,Ip,hlen,hR⟩;simp only at hb';subst hb';have hv:lexLt ns' Ax=decide (items.size<items2.size):=by
    cases Mg with
    |nil=>
     cases Ip with
     |nil=>
      simp only[xY] at hlen;rw[zcm];exact(g_ gV).symm
     |cons c u hw=>
      simp only[xY,dR] at hlen;rw[zbQ];exact(gA gV).symm
    |cons a t hv=>
     cases Ip with
     |nil=>
      simp only[xY,dR] at hlen;rw[zbN];exact(g_ gV).symm
     |cons c u hw=>
      rw[Cg] at hz;cases hz
   rw[hv] at hR
   wp_walk
   exact⟨_,rfl,by simpa [Builtin.Tuple.tupleCompareSizes] using hR⟩
  case h=>
   exact⟨rfl,rfl,items.toList,items2.toList,ns,ms,rfl,hi,hj,by lia,h⟩
end
section
variable {prog:Program}{w:World}{A:Around}{E:Value->Shared->Prop}{s:Shared}
theorem mV{l b:Addr}{items items2:Array Value}{ns ms:List Int}{Q:Value->Shared->Prop}(hl:IsTup s.heap l items)(hb:IsTup s.heap b items2)(hi:IntsAre items.toList ns)(hj:IntsAre items2.toList ms)
  (hu:A.units<cLine) (h:Q (.bool (lexLt ns ms)) s):wpAny (model prog w) A (compareOp .Lt (.ref l) (.ref b)) Q E s:=by
 obtain⟨⟨cls,dd,data,sl⟩,ho,hc,n,hd⟩:=id hl;obtain⟨⟨cls2,dd2,data2,sl2⟩,mW,mF,n2,hd2⟩:=id hb;simp only at hc hd mF hd2;subst hc hd mF hd2;exact richCompare_meets_room (op:=.Lt) ⟨_,ho,rfl⟩ ⟨_,mW,rfl⟩ PySem.F.slot_tuple_lt PySem.F.entry_tuple_lt (PySem.F.args_tuple_lt_2 _ _) (zca l b items items2 n n2 dd dd2 sl sl2 ns ms hi hj)
  ⟨ho,mW,show Value.bool (lexLt ns ms)≠Value.notImplemented/\Q (.bool (lexLt ns ms)) s from ⟨(λx=>nomatch x),h⟩⟩ hu
theorem uq{t b:Addr}{vs ws:List Value}{Q:Value->Shared->Prop}(ht:IsTup s.heap t vs.toArray)(hb:IsTup s.heap b ws.toArray)(hv:vs≠[])
  (h1:ws=[]->Q (.ref t) s) (h2:ws≠[]->Q (.ref s.heap.objs.size) {s with heap:=s.heap.push {cls:=.type "tuple",data:=.seq (vs++ws).toArray}})
  (lq:vs.length+ws.length<=sizeLine):wpAny (model prog w) A (binaryOp .Add (.ref t) (.ref b)) Q E s:=by
 obtain⟨⟨cls,dd,data,sl⟩,ho,hc,n,hd⟩:=id ht;obtain⟨⟨cls2,dd2,data2,sl2⟩,mW,mF,n2,hd2⟩:=id hb;simp only at hc hd mF hd2;subst hc hd mF hd2;have e:vs.toArray++ws.toArray=(vs++ws).toArray:=by simp
 by_cases hw:ws=[]
 ·exact concat_meets ⟨_,ho,rfl⟩ ⟨_,mW,rfl⟩ noFill_tuple_add seq_tuple_add Kp Km (Kl _ _)
   (tuple_addW1 t b vs.toArray ws.toArray n n2 dd dd2 sl sl2 (by simpa using hv) (by simp[hw])) ⟨ho,mW,h1 hw⟩
 ·refine concat_meets ⟨_,ho,rfl⟩ ⟨_,mW,rfl⟩ noFill_tuple_add seq_tuple_add Kp Km (Kl _ _)
   (tuple_addW2 t b vs.toArray ws.toArray n n2 dd dd2 sl sl2 (by simpa using hv) (by simpa using hw) (by rw[dO,dO];exact lq)) ⟨ho,mW,?_⟩
  rw[e];exact h2 hw
noncomputable def bI(n d:Nat):Option Int->Nat
 |none=>d
 |some v=>if v<0 then (v+(n:Int)).toNat else min v.toNat n
theorem iQ(n d:Nat):bI n d none=d:=rfl
theorem j8(n d k:Nat):bI n d (some (k:Int))=min k n:=by
 show (if (k:Int)<0 then ((k:Int)+(n:Int)).toNat else min (k:Int).toNat n)=min k n;rw[if_neg gV,Ag]
theorem zi5(n d:Nat)(hd:d<=n)(o:Option Int):bI n d o<=n:=by
 cases o with
 |none=>exact hd
 |some v=>
  show (if v<0 then (v+(n:Int)).toNat else min v.toNat n)<=n;by_cases hv:v<0
  ·rw[if_pos hv];lia
  ·rw[if_neg hv];exact Nat.min_le_right _ _
theorem T7(v:Int)(n d:Nat):(if v<0 then max (v+(n:Int)) 0 else min v (n:Int))=((bI n d (some v):Nat):Int):=by
 show (if v<0 then max (v+(n:Int)) 0 else min v (n:Int))=(((if v<0 then (v+(n:Int)).toNat else min v.toNat n):Nat):Int);by_cases hv:v<0
 ·simp only[if_pos hv];lia
 ·simp only[if_neg hv];lia
theorem zd3(lo hi:Option Int)(n:Nat):Builtin.Slice.sliceAdjust lo hi 1 (n:Int)=(((bI n 0 lo:Nat):Int),((bI n n hi:Nat):Int)):=by
 have h1:¬((1:Int)<0):=by lia
 unfold Builtin.Slice.sliceAdjust;simp only[h1,xZ];refine Prod.ext ?_ ?_
 ·cases lo with
  |none=>rfl
  |some v=>exact T7 v n 0
 ·cases hi with
  |none=>rfl
  |some v=>exact T7 v n n
theorem zei(i j:Nat):Builtin.Slice.slicePlaces (i:Int) (j:Int) 1=j-i:=by
 unfold Builtin.Slice.slicePlaces;have h1:(1:Int)>0:=by lia
 simp only[h1,if_true,Int.ediv_one]
 split<;>lia
theorem Ml{v:Value}{o:Option Int}{Q:Option Int->Shared->Prop}(p:IsPart v o)(h:Q o s):wpAny (model prog w) A (Builtin.Slice.slicePartIndex v) Q E s:=by
 cases p with
 |none=>exact slicePart_none h
 |int i t=>exact slicePart_int h
theorem T8{sl:Addr}{vl vu:Value}{lo hi:Option Int}{n:Nat}{Q:Int×Int×Nat->Shared->Prop}(hs:s.heap.IsSliceOf sl vl vu .none)(pl:IsPart vl lo)(pu:IsPart vu hi)
  (h:Q (((bI n 0 lo:Nat):Int),1,bI n n hi-bI n 0 lo) s):wpAny (model prog w) A (Builtin.Slice.sliceApplied (.ref sl) (pure (n:Int))) Q E s:=by
 obtain⟨os,pG,yI,sZ⟩:=id hs;unfold Builtin.Slice.sliceApplied Builtin.Slice.sliceFields;refine aC (aC (ji pG sZ (x:=vl) rfl (aC (ji pG sZ (x:=vu) rfl (aC (ji pG sZ (x:=.none) rfl (aZ ?_)))))));refine aC (slicePart_none ?_);show wpAny _ _ (if ((1:Int)==0)=true then _ else _) _ _ s;rw[if_neg J0];refine aC (Ml pl (aC (Ml pu (aC (aZ ?_)))));show wpAny _ _ (match Builtin.Slice.sliceAdjust lo hi 1 (n:Int) with|(lo,hi)=>pure (lo,(1:Int),Builtin.Slice.slicePlaces lo hi 1)) _ _ s;rw[zd3 lo hi n];show wpAny _ _ (pure (((bI n 0 lo:Nat):Int),(1:Int),Builtin.Slice.slicePlaces ((bI n 0 lo:Nat):Int) ((bI n n hi:Nat):Int) 1)) _ _ s;rw[zei];exact aZ h
theorem zgE(xs:Array Value)(i k:Nat):((List.range k).filterMap λ(m:Nat)=>xs[((i:Int)+(m:Int)*1).toNat]?).toArray=((xs.toList.drop i).take k).toArray:=by
 have e:(λ(m:Nat)=>xs[((i:Int)+(m:Int)*1).toNat]?)=λm=>xs[i+m]?:=by
  funext m
  have:((i:Int)+(m:Int)*1).toNat=i+m:=by lia
  rw[this]
 rw[e];have:=pick_run xs i k;rw[List.filterMap_map] at this;have e2:((λx=>xs[x]?)∘λx=>i+x)=λm=>xs[i+m]?:=rfl;rw[e2] at this;rw[this]
theorem fO{t sl:Addr}{items:Array Value}{vl vu:Value}{lo hi:Option Int}{Q:Value->Shared->Prop}(ht:IsTup s.heap t items)(hs:s.heap.IsSliceOf sl vl vu .none)(pl:IsPart vl lo)(pu:IsPart vu hi)
  (hw:¬(bI items.size 0 lo=0/\bI items.size items.size hi=items.size))
  (h:Q (.ref s.heap.objs.size) {s with heap:=s.heap.push {cls:=.type "tuple",data:=.seq ((items.toList.drop (bI items.size 0 lo)).take (bI items.size items.size hi-bI items.size 0 lo)).toArray}})
  (lq:items.size<=sizeLine):wpAny (model prog w) A (getItem (.ref t) (.ref sl)) Q E s:=by
 have fP:sizeOk (.seq ((items.toList.drop (bI items.size 0 lo)).take (bI items.size items.size hi-bI items.size 0 lo)).toArray):=by
  show ((items.toList.drop (bI items.size 0 lo)).take (bI items.size items.size hi-bI items.size 0 lo)).toArray.size<=sizeLine;rw[dO,pq,xV,vJ]
  lia
 have hj:bI items.size items.size hi<=items.size:=zi5 _ _ (bU _) hi;obtain⟨os,pG,yI,sZ⟩:=id hs;have D_:s.TypeIs (.ref sl) "slice":=⟨os,pG,yI⟩;unfold getItem
 try with_reducible refine qx ?_
 first|refine aC (aZ ?_)|skip
 refine aC (wpAny_sequenceKey ht.typeIs J0 ?_);refine aC (xO (name:=Str.ofString "__getitem__") ht.typeIs tW
  (vL tW ht.typeIs entry_tuple_getitem ?_ (args_tuple_getitem _ _)))
 show wpAny _ _ (Builtin.Tuple.tupleItemsOf (.ref t) >>= _) _ _ s;refine aC (tupleItemsOf_ ht ?_);refine aC (CG D_ ?_);rw[if_pos J0];refine aC (T8 hs pl pu ?_);have hno:¬((((bI items.size 0 lo:Nat):Int)==0&&(1:Int)==1&&(bI items.size items.size hi-bI items.size 0 lo)==items.size)=true):=by
  intro q;rw[eU,eU] at q;have q1:((bI items.size 0 lo:Nat):Int)=0:=eq_of_beq q.1.1;have q2:bI items.size items.size hi-bI items.size 0 lo=items.size:=eq_of_beq q.2;exact hw ⟨by lia,by lia⟩
 show wpAny _ _ (if (((bI items.size 0 lo:Nat):Int)==0&&(1:Int)==1&&(bI items.size items.size hi-bI items.size 0 lo)==items.size)=true then _ else _) _ _ s;rw[if_neg hno,zgE]
 first
  |exact aC (m:=Builtin.Tuple.tupleExact _) (o_ (aZ ⟨_,rfl,aZ h⟩) fP)
  |exact aC (m:=Builtin.Tuple.tupleExact _) (o_ (aC (aZ (aZ ⟨_,rfl,aZ h⟩))) fP)
  |exact aC (aC (m:=Builtin.Tuple.tupleExact _) (o_ (aZ (aZ ⟨_,rfl,aZ h⟩)) fP))
  |exact aC (aC (m:=Builtin.Tuple.tupleExact _) (o_ (aZ ⟨_,rfl,aZ h⟩) fP))
end
end HT
namespace L2
open PySem PySem.Spec PyProof.Rows
noncomputable abbrev TO:=St->Hp->(Option Int->Hp->Prop)->Prop
def PO(X:Cx)(e:Option Expr)(t:TO):Prop:=
 ∀(ak:List (Addr×Obj)) (s:Shared) (Z:St) (H:Hp) (Q:Option Int->Hp->Prop),Inv X ak Z H s->t Z H Q->
  wpAny (model X.prog X.w) X.A (evalPart e X.env) (λu s'=>∃o H',Inv X ak Z H' s'/\IsPart u o/\Q o H') X.xe s
noncomputable def ur:TO:=λ_ H Q=>Q none H
noncomputable def Ed(t:TE):TO:=λZ H Q=>t Z H λx H1=>∃i,x=.int i/\Q (some i) H1
theorem T9{ns:List Int}:∀{us:List Value},Vals (ns.map V.int) us->IntsAre us ns:=by
 induction ns with
 |nil=>intro us r;rw[List.map_nil] at r;cases r;exact .nil
 |cons n ns ih=>
  intro us r;rw[nM] at r;cases r with
  |cons r1 r2=>
   obtain⟨t,e⟩:=r1;subst e;exact .cons n t (ih r2)
section
variable {X:Cx}{e:Expr}{te:TE}{lo hi:Option Expr}{tl th:TO}{pos p2:Pos}
theorem ziI:PO X none ur:=by
 intro ak s Z H Q I h;rw[evalPart_none];exact aZ ⟨none,H,I,.none,h⟩
theorem zhI(h:PE X e te):PO X (some e) (Ed te):=by
 intro ak s Z H Q I hw;rw[evalPart_some];refine aW (h ak s Z H _ I hw) λu s1 hx=>dw hx λx H1 I1 r1 q1=>?_;obtain⟨i,rfl,q⟩:=q1;obtain⟨t,rfl⟩:=r1;exact⟨some i,H1,I1,.int i t,q⟩
def uw(X:Cx)(r:V->Option Int->Option Int->Hp->VK->Prop):Prop:=
 ∀(ak:List (Addr×Obj)) (s:Shared) (Z:St) (H:Hp) (x:V) (v vl vu:Value) (lo hi:Option Int) (sl:Addr) (Q:VK),Inv X ak Z H s->RelV x v->s.heap.IsSliceOf sl vl vu .none->IsPart vl lo->IsPart vu hi->r x lo hi H Q->
  ∃T id,typeLookup (.type T) "__getitem__"=pure (some (.builtin id))/\s.TypeIs v T/\wpAny (model X.prog X.w) X.A (getItem v (.ref sl)) (EP X ak Z Q) X.xe s
theorem uw.or{r r':V->Option Int->Option Int->Hp->VK->Prop}(h:uw X r)(h':uw X r'):uw X (λx lo hi H Q=>r x lo hi H Q\/r' x lo hi H Q):=by
 intro ak s Z H x v vl vu lo hi sl Q I rx hs pl pu q;rcases q with q|q
 ·exact h ak s Z H x v vl vu lo hi sl Q I rx hs pl pu q
 ·exact h' ak s Z H x v vl vu lo hi sl Q I rx hs pl pu q
noncomputable def tSl(r:V->Option Int->Option Int->Hp->VK->Prop)(te:TE)(tl th:TO):TE:=λZ H Q=>te Z H λx H1=>tl Z H1 λl H2=>th Z H2 λu H3=>r x l u H3 Q
theorem zgk{r:V->Option Int->Option Int->Hp->VK->Prop}(hr:uw X r)(he:PE X e te)(hl:PO X lo tl)(hu:PO X hi th):PE X (.Subscript e (.Slice lo hi none p2) pos) (tSl r te tl th):=by
 intro ak s Z H Q I h;refine Subscript_ (aW (he ak s Z H _ I h) λv s1 hx=>dw hx λx H1 I1 r1 q1=>?_);refine wpAny_Slice (aW (hl ak s1 Z H1 _ I1 q1) λvl s2 hx=>dw hx λl H2 I2 pl q2=>aW (hu ak s2 Z H2 _ I2 q2) λvu s3 hx=>dw hx λu H3 I3 pu q3=>?_);rw[evalPart_none];refine aZ ?_;have I4:Inv X ak Z H3 {s3 with heap:=s3.heap.push {cls:=.type "slice",data:=.fields #[vl,vu,.none]}}:=I3.kept (t':=s3.toks) λb ob q=>cO _ q;obtain⟨T,id,hT,ht,hg⟩:=hr ak {s3 with heap:=s3.heap.push {cls:=.type "slice",data:=.fields #[vl,vu,.none]}} Z H3 x v vl vu l u s3.heap.objs.size Q I4 r1 (Heap.IsSliceOf.new ..) pl pu q3;show wpAny (model X.prog X.w) X.A (subscriptTail e (.Slice lo hi none p2) v (.ref s3.heap.objs.size)) (EP X ak Z Q) X.xe {s3 with heap:=s3.heap.push {cls:=.type "slice",data:=.fields #[vl,vu,.none]}};exact tail_any (ops:=[.ref s3.heap.objs.size,v]) ht hT hg (by with_unfolding_all rfl)
noncomputable def j9(xs:List V)(lo hi:Option Int):List V:=(xs.drop (HT.bI xs.length 0 lo)).take (HT.bI xs.length xs.length hi-HT.bI xs.length 0 lo)
theorem T_(xs:List V)(lo hi:Option Int):(j9 xs lo hi).length<=xs.length:=by
 unfold j9;rw[pq,xV]
 lia
noncomputable def Mp(K:W.Frag):V->Option Int->Option Int->Hp->VK->Prop:=λx lo hi H Q=>∃a xs,x=.ref a/\eZ K H a xs /\
 ¬(HT.bI xs.length 0 lo=0/\HT.bI xs.length xs.length hi=xs.length)/\∀p,H p=none->Q (.ref p) (upd H p (.tup (j9 xs lo hi)))
theorem zjj:uw X (Mp X.K):=by
 intro ak s Z H x v vl vu lo hi sl Q I rx hs pl pu h;obtain⟨a,xs,rfl,hx,hw,q⟩:=h;cases rx;obtain⟨its,r,ht,hz⟩:=I.tuple hx;have hlen:its.toArray.size=xs.length:=by rw[dO];exact r.length.symm
 refine⟨"tuple",_,tW.lookup,ht.typeIs,?_⟩;refine HT.fO ht hs pl pu (by rw[hlen];exact hw) ?_ (by rw[hlen];exact hz);rw[hlen];refine⟨.ref s.heap.objs.size,_,I.laid (t':=s.toks) (o:=.tup (j9 xs lo hi)) (λb ob q=>cO _ q) (bU _) ?_,rfl,q _ (I.hok.fresh (bU _))⟩;exact⟨jP (T_ xs lo hi) hz,_,(r.drop (HT.bI xs.length 0 lo)).take (HT.bI xs.length xs.length hi-HT.bI xs.length 0 lo),IsTup.new _ _⟩
noncomputable def Ef(K:W.Frag):R2:=λx y H Q=>∃a b ns ms,x=.ref a/\y=.ref b/\eZ K H a (ns.map V.int)/\eZ K H b (ms.map V.int)/\Q (.bl (HT.lexLt ns ms)) H
theorem zkd(hu:X.A.units<cLine):dh X (compareOp .Lt) (Ef X.K):=by
 intro ak s Z H x y v u Q I rx ry h;obtain⟨a,b,ns,ms,rfl,rfl,ha,hb,q⟩:=h;cases rx;cases ry;obtain⟨its,r1,p1,_⟩:=I.tuple ha;obtain⟨its2,r2,p2,_⟩:=I.tuple hb;have i1:IntsAre its.toArray.toList ns:=T9 r1;have i2:IntsAre its2.toArray.toList ms:=T9 r2;exact HT.mV p1 p2 i1 i2 hu ⟨.bl (HT.lexLt ns ms),H,I,rfl,q⟩
theorem Vals.j_{xs:List V}{us:List Value}(r:Vals xs us):us=[]↔xs=[]:=by
 cases r with
 |nil=>simp
 |cons _ _=>simp
end
noncomputable def pH(n:Nat)(i:Int):Option Nat:=if 0<=i then (if i<n then some i.toNat else none) else if -(n:Int)<=i then some (i+n).toNat else none
noncomputable def nZ{α:Type}(xs:List α)(i:Int):Option α:=(pH xs.length i).bind λj=>xs[j]?
theorem Ua{n:Nat}{i:Int}{j:Nat}(h:pH n i=some j):seqIndex? i n=some j/\j<n/\-(n:Int)<=i/\i<n:=by
 unfold pH at h;by_cases h0:0<=i
 ·rw[if_pos h0] at h;by_cases h1:i<n
  ·rw[if_pos h1] at h;have e:i.toNat=j:=cT h;exact⟨by rw[seqIndex_of h0 h1,e],by lia,by lia,h1⟩
  ·rw[if_neg h1] at h;cases h
 ·rw[if_neg h0] at h;by_cases h1 : -(n:Int)<=i
  ·rw[if_pos h1] at h;have e:(i+n).toNat=j:=cT h;exact⟨by rw[seqIndex_neg gV h1,e],by lia,h1,by lia⟩
  ·rw[if_neg h1] at h;cases h
theorem Mq{α:Type}{xs:List α}{i:Int}{v:α}(h:nZ xs i=some v):∃j,seqIndex? i xs.length=some j/\xs[j]?=some v/\j<xs.length/\-(xs.length:Int)<=i/\i<xs.length:=by
 unfold nZ at h;cases e:pH xs.length i with
 |none=>rw[e] at h;cases h
 |some j=>
  rw[e] at h;obtain⟨h1,h2,h3,h4⟩:=Ua e;exact⟨j,h1,h,h2,h3,h4⟩
def n6(b:Expr):Prop:=∀o i,subscripted b false o i=operate [o,i] (getItem o i)
def ux(X:Cx)(r:R2):Prop:=
 ∀(value slice:Expr) (ak:List (Addr×Obj)) (s:Shared) (Z:St) (H:Hp) (x y:V) (v u:Value) (Q:VK),Inv X ak Z H s->RelV x v->RelV y u->r x y H Q->
  subscripted slice false v u=operate [v,u] (getItem v u)->wpAny (model X.prog X.w) X.A (subscriptTail value slice v u) (EP X ak Z Q) X.xe s
def MtR(X:Cx)(id:String)(r:V->List V->Hp->VK->Prop):Prop:=
 ∀(ak:List (Addr×Obj)) (s:Shared) (Z:St) (H:Hp) (x:V) (xs:List V) (v:Value) (us:List Value) (Q:VK),Inv X ak Z H s->RelV x v->Vals xs us->r x xs H Q->
  wpAny (model X.prog X.w) X.A (call (.builtin id) (v::us)) (EP X ak Z Q) X.xe s
section
variable {X:Cx}{a b:Expr}{ta tb:TE}{pos:Pos}
theorem ux.or{r r':R2}(h:ux X r)(h':ux X r'):ux X (λx y H Q=>r x y H Q\/r' x y H Q):=by
 intro value slice ak s Z H x y v u Q I rx ry q hs;rcases q with q|q
 ·exact h value slice ak s Z H x y v u Q I rx ry q hs
 ·exact h' value slice ak s Z H x y v u Q I rx ry q hs
theorem zk9{r:R2}(hr:ux X r)(ha:PE X a ta)(hb:PE X b tb)(hs:n6 b):PE X (.Subscript a b pos) (Av r ta tb):=by
 intro ak s Z H Q I h;exact Subscript_ (yE ha hb I h λv u s2 x y H2 I2 rx ry q=>hr a b ak s2 Z H2 x y v u Q I2 rx ry q (hs _ _))
noncomputable def Eh(K:W.Frag):R2:=λx y H Q=>∃p xs i v,x=.ref p/\y=.int i/\cZ K H p xs/\nZ xs i=some v/\Q v H
noncomputable def Ej(K:W.Frag):R2:=λx y H Q=>∃p xs i v,x=.ref p/\y=.int i/\eZ K H p xs/\nZ xs i=some v/\Q v H
noncomputable def Ek:R2:=λx y H Q=>∃z i c,x=.str z/\y=.int i/\z.length<=sizeLine/\nZ z.cps.toList i=some c/\Q (.str ⟨#[c]⟩) H
theorem uy:ux X (Eh X.K):=by
 intro value slice ak s Z H x y v u Q I rx ry h hs;obtain⟨p,xs,i,z,rfl,rfl,hq,he,q⟩:=h;cases rx;obtain⟨t,rfl⟩:=ry;obtain⟨its,r,pl,hz⟩:=I.list hq;obtain⟨j,h1,h2,h3,h4,h5⟩:=Mq he;obtain⟨w,ew,pI⟩:=r.get h2;have hl:=r.length;have hn:=iK;have fin:EP X ak Z Q w s:=⟨z,H,I,pI,q⟩;by_cases h0:0<=i
 ·have hj:i.toNat=j:=by
   rw[seqIndex_of h0 h5] at h1;exact cT h1
  exact item_listR pl.isList h0 gV (by rw[hj];simpa using ew) fin hs
 ·have hj:(i+(its.toArray.size:Int)).toNat=j:=by
   rw[seqIndex_neg gV h4] at h1;rw[dO,<-hl];exact cT h1
  exact subscriptTail_builtinR (x:=w) pl.isList.typeIs slot_list_getitem.lookup
   (wpAny_getItem_list_neg (Q:=λr s'=>r=w/\EP X ak Z Q r s') pl.isList gV (by rw[dO]<;>lia) gV (by rw[hj];simpa using ew) ⟨rfl,fin⟩) hs
theorem yJ:ux X (Ej X.K):=by
 intro value slice ak s Z H x y v u Q I rx ry h hs;obtain⟨p,xs,i,z,rfl,rfl,hq,he,q⟩:=h;cases rx;obtain⟨t,rfl⟩:=ry;obtain⟨its,r,pl,hz⟩:=I.tuple hq;obtain⟨j,h1,h2,h3,h4,h5⟩:=Mq he;obtain⟨w,ew,pI⟩:=r.get h2;have hl:=r.length;have hn:=iK;have fin:EP X ak Z Q w s:=⟨z,H,I,pI,q⟩;exact subscriptTail_builtinR (x:=w) pl.typeIs slot_tuple_getitem.lookup
  (getItem_tuple (j:=j) (Q:=λr s'=>r=w/\EP X ak Z Q r s') pl gV gV (by rw[dO,<-hl];exact h1) (by simpa using ew) ⟨rfl,fin⟩) hs
theorem zjm:ux X Ek:=by
 intro value slice ak s Z H x y v u Q I rx ry h hs;obtain⟨z,i,c,rfl,rfl,hz,he,q⟩:=h;obtain⟨t,rfl⟩:=rx;obtain⟨t',rfl⟩:=ry;obtain⟨j,h1,h2,h3,h4,h5⟩:=Mq he;have hl:z.cps.toList.length=z.length:=by simp[Str.length]
 rw[hl] at h1 h4 h5;have hn:=iK;exact tail_any (typeIs_str s z t) slot_str_getitem.lookup (getItem_str (c:=c) (by
  have e1:decide (i < -(2^63:Int))=false:=g_ gV;have e2:decide (i>=2^63)=false:=g_ gV;rw[e1,e2,Bool.or_false]) (by rw[h1];simpa using h2) ⟨.str ⟨#[c]⟩,H,I.tok _,⟨_,rfl⟩,q⟩) hs
noncomputable def Mr(K:W.Frag):R2:=λx y H Q=>Eh K x y H Q\/Ej K x y H Q\/Ek x y H Q
theorem zj4:ux X (Mr X.K):=uy.or (yJ.or zjm)
theorem zej(its:List Value)(n j:Nat)(u:Value):Obj.mapSeq (·.setIfInBounds j u) {cls:=.type "list",data:=.seq its.toArray n}={cls:=.type "list",data:=.seq (its.set j u).toArray n}:=by
 simp[Obj.mapSeq]
theorem Inv.lst{ak:List (Addr×Obj)}{Z:St}{H:Hp}{s:Shared}{p:Addr}{xs:List V}(I:Inv X ak Z H s)(h:H p=some (.lst xs)) :
  ∃(its:List Value) (n:Nat),Vals xs its/\s.heap.get? p=some {cls:=.type "list",data:=.seq its.toArray n}/\xs.length<=sizeLine:=by
 obtain⟨z,its,n,r,e⟩:=I.hok p _ h;exact⟨its,n,r,e,z⟩
theorem Inv.yK{ak:List (Addr×Obj)}{Z:St}{H:Hp}{s:Shared}{p:Addr}{xs ys:List V}{its its':List Value}{n n':Nat}{f:Obj->Obj}(I:Inv X ak Z H s)(h:H p=some (.lst xs))
  (ho:s.heap.get? p=some {cls:=.type "list",data:=.seq its.toArray n}) (hf:f {cls:=.type "list",data:=.seq its.toArray n}={cls:=.type "list",data:=.seq its'.toArray n'}) (r:Vals ys its') (hz:ys.length<=sizeLine) (t:Nat) :
  Inv X ak Z (upd H p (.lst ys)) {s with heap:=s.heap.update p f,toks:=t}:=by
 have e:(s.heap.update p f).get? p=some {cls:=.type "list",data:=.seq its'.toArray n'}:=by
  rw[Cd f ho (by rw[hf]<;>rfl),hf]
 refine I.write (x:=p) (e:=p) (by rw[h];trivial) (.inl rfl) (λb u hb q=>(z_ _ _ (Ne.symm hb)).trans q) ⟨_,e⟩ ?_;exact⟨hz,its',n',r,e⟩
noncomputable def El:V->V->V->Hp->(Hp->Prop)->Prop:=λo i v H Q=>∃p xs k j,o=.ref p/\i=.int k/\H p=some (.lst xs)/\pH xs.length k=some j/\Q (upd H p (.lst (xs.set j v)))
theorem zgK:Ds X El:=by
 intro ak s Z H o i v ov iv u Q I ro ri rv h;obtain⟨p,xs,k,j,rfl,rfl,hp,hj,q⟩:=h;cases ro;obtain⟨t,rfl⟩:=ri;obtain⟨its,n,r,ho,hz⟩:=I.lst hp;obtain⟨h1,h2,h3,h4⟩:=Ua hj;have hl:=r.length;have hn:=iK;have I':Inv X ak Z (upd H p (.lst (xs.set j v))) {s with heap:=s.heap.update p (Obj.mapSeq (·.setIfInBounds j u))}:=
  I.yK hp ho (zej its n j u) (r.set rv j) (by rw[qd];exact hz) s.toks
 by_cases h0:0<=k
 ·have hk:k.toNat=j:=by
   rw[seqIndex_of h0 h4] at h1;exact cT h1
  exact PySem.W.ki_setAt ho h0 gV (by rw[dO,<-hl];exact h4) (by rw[hk];exact⟨_,I',q⟩)
 ·have hk:(k+(its.toArray.size:Int)).toNat=j:=by
   rw[seqIndex_neg gV h3] at h1;rw[dO,<-hl];exact cT h1
  exact PySem.W.ki_setBack ho gV (by rw[dO,<-hl];exact h3) gV (by rw[hk];exact⟨_,I',q⟩)
theorem zcw(lo hi:Option Int)(n:Nat):(sliceBounds lo hi none n).1=((HT.bI n 0 lo:Nat):Int)/\(sliceBounds lo hi none n).2.1=((HT.bI n n hi:Nat):Int)/\(sliceBounds lo hi none n).2.2=1:=by
 refine⟨?_,?_,rfl⟩
 ·cases lo with
  |none=>simp[sliceBounds,HT.bI]
  |some i=>
   simp only[sliceBounds,HT.bI,Option.getD_none,show (1:Int)>0 by decide,if_true];by_cases h:i<0
   ·simp only[h,if_true]<;>lia
   ·simp only[h,xZ]<;>lia
 ·cases hi with
  |none=>simp[sliceBounds,HT.bI]
  |some i=>
   simp only[sliceBounds,HT.bI,Option.getD_none,show (1:Int)>0 by decide,if_true];by_cases h:i<0
   ·simp only[h,if_true]<;>lia
   ·simp only[h,xZ]<;>lia
theorem zb8(its:List Value)(lo hi:Option Int):slicePick its.toArray lo hi none=((its.drop (HT.bI its.length 0 lo)).take (HT.bI its.length its.length hi-HT.bI its.length 0 lo)).toArray:=by
 obtain⟨h1,h2,h3⟩:=zcw lo hi its.toArray.size;unfold slicePick;rw[h1,h2,h3];simp only[sliceRange_one,pick_run,dO]<;>rfl
noncomputable def Em(K:W.Frag):V->Option Int->Option Int->Hp->VK->Prop:=λx lo hi H Q=>∃a xs,x=.ref a/\cZ K H a xs/\∀p,H p=none->Q (.ref p) (upd H p (.lst (j9 xs lo hi)))
theorem uz:uw X (Em X.K):=by
 intro ak s Z H x v vl vu lo hi sl Q I rx hs pl pu h;obtain⟨a,xs,rfl,hx,q⟩:=h;cases rx;obtain⟨its,r,ht,hz⟩:=I.list hx;have hlen:=r.length;refine⟨"list",_,slot_list_getitem.lookup,ht.isList.typeIs,?_⟩;refine wpAny_getItem_list_slice ht.isList hs pl pu .none Nj ?_ (by rw[dO]<;>lia);rw[zb8,<-hlen];refine⟨.ref s.heap.objs.size,_,I.laid (t':=s.toks) (o:=.lst (j9 xs lo hi)) (λb ob q=>cO _ q) (bU _) ?_,rfl,q _ (I.hok.fresh (bU _))⟩;exact⟨jP (T_ xs lo hi) hz,_,0,(r.drop (HT.bI xs.length 0 lo)).take (HT.bI xs.length xs.length hi-HT.bI xs.length 0 lo),gw _ rfl⟩
theorem zcQ:cC X (.builtin "len") (λxs H Q=>∃p ys,xs=[.ref p]/\(cZ X.K H p ys\/eZ X.K H p ys)/\Q (.int ys.length) H):=by
 intro ak s Z H xs us Q I r h;obtain⟨p,ys,rfl,hq,q⟩:=h;obtain⟨u,rfl,rx⟩:=vals1 r;cases rx;have hn:=iK;rcases hq with hq|hq
 ·obtain⟨its,r',pl,hz⟩:=I.list hq;have hlen:=r'.length;exact Calls.call_len_list pl.isList (by simp only[dO]<;>lia) ⟨.int ys.length,H,I.tok _,⟨s.toks+1,by rw[dO,hlen]⟩,q⟩
 ·obtain⟨its,r',pl,hz⟩:=I.tuple hq;have hlen:=r'.length;exact len_tuple pl (by simp only[dO]<;>lia) ⟨.int ys.length,H,I.tok _,⟨s.toks+1,by rw[dO,hlen]⟩,q⟩
theorem zcE:cC X (.type "list") (λxs H Q=>∃p ys,xs=[.ref p]/\(cZ X.K H p ys\/eZ X.K H p ys)/\∀l,H l=none->Q (.ref l) (upd H l (.lst ys))):=by
 intro ak s Z H xs us Q I r h;obtain⟨p,ys,rfl,hq,q⟩:=h;obtain⟨u,rfl,rx⟩:=vals1 r;cases rx;have fin:∀(its:List Value),Vals ys its->ys.length<=sizeLine->∀(h':Heap) (c':Nat),(∀b o',s.heap.get? b=some o'->h'.get? b=some o')->
   h'.get? s.heap.objs.size=some {cls:=.type "list",dict:=none,data:=.seq its.toArray c',slots:=#[]}->EP X ak Z Q (.ref s.heap.objs.size) {s with heap:=h'}:=λits r' hz h' c' kp e=>
  ⟨.ref s.heap.objs.size,_,I.laid (t':=s.toks) kp (bU _) (show aR X.prog X.w _ h' _ (.lst ys) from ⟨hz,its,c',r',e⟩),rfl,q _ (I.hok.fresh (bU _))⟩
 rcases hq with hq|hq
 ·obtain⟨its,r',pl,hz⟩:=I.list hq;have hlen:=r'.length;obtain⟨o,ho,hc,n,hd⟩:=pl.isList;exact call_list_seq p (.inl rfl) ho hc hd (λh' c' kp e=>fin its r' hz h' c' kp e) (by simp only[dO]<;>lia)
 ·obtain⟨its,r',pl,hz⟩:=I.tuple hq;have hlen:=r'.length;obtain⟨o,ho,hc,n,hd⟩:=pl;exact call_list_seq p (.inr rfl) ho hc hd (λh' c' kp e=>fin its r' hz h' c' kp e) (by simp only[dO]<;>lia)
theorem zci:cC X (.type "tuple") (λxs H Q=>∃p ys,xs=[.ref p]/\((cZ X.K H p ys/\∀l,H l=none->Q (.ref l) (upd H l (.tup ys)))\/(eZ X.K H p ys/\Q (.ref p) H))):=by
 intro ak s Z H xs us Q I r h;obtain⟨p,ys,rfl,h⟩:=h;obtain⟨u,rfl,rx⟩:=vals1 r;cases rx;rcases h with ⟨hq,q⟩|⟨hq,q⟩
 ·obtain⟨its,r',pl,hz⟩:=I.list hq;have hlen:=r'.length;refine call_tuple_list pl.isList (λh' kp=>?_) (by simp only[dO]<;>lia);have I1:Inv X ak Z H {s with heap:=h'}:=I.kept (t':=s.toks) kp;have I2:Inv X ak Z (upd H h'.objs.size (.tup ys)) {s with heap:=h'.push {cls:=.type "tuple",data:=.seq its.toArray}}:=
   I1.laid (t':=s.toks) (λb o e=>cO _ e) (bU _) (show aR X.prog X.w _ _ _ (.tup ys) from ⟨hz,its,r',IsTup.new _ _⟩)
  exact⟨.ref h'.objs.size,_,I2,rfl,q _ (I1.hok.fresh (bU _))⟩
 ·obtain⟨its,r',pl,hz⟩:=I.tuple hq;exact call_tuple_same pl ⟨.ref p,H,I,rfl,q⟩
def Ub(K:W.Frag)(T:String)(x:V)(H:Hp):Prop:=match x with
 |.str _=>T="str"
 |.int _=>T="int"
 |.ref p=>(T="list"/\∃xs,cZ K H p xs)\/(T="tuple"/\∃o,K.lookup p=some o/\o.cls=.type "tuple"/\o.dict=none) \/
   (T="dict"/\((∃kvs,H p=some (.dK kvs))\/∃kvs,H p=some (.dT kvs)))\/(T="set"/\∃S n,H p=some (.set S n))
 |_=>False
theorem zkh{ak:List (Addr×Obj)}{Z:St}{H:Hp}{s:Shared}{T:String}{x:V}{v:Value}(I:Inv X ak Z H s)(r:RelV x v)(ty:Ub X.K T x H) :
  s.TypeIs v T/\∀a,v=.ref a->∃ob,s.heap.get? a=some ob/\ob.dict=none:=by
 cases x with
 |str z=>
  obtain⟨t,rfl⟩:=r;cases (show T="str" from ty);exact⟨typeIs_str s z t,λ_ e=>nomatch e⟩
 |int i=>
  obtain⟨t,rfl⟩:=r;cases (show T="int" from ty);exact⟨typeIs_int s i t,λ_ e=>nomatch e⟩
 |ref p=>
  cases r;rcases ty with ⟨rfl,xs,hq⟩|⟨rfl,o,hk,hc,hd⟩|⟨rfl,hk⟩|⟨rfl,S,n,hk⟩
  ·obtain⟨its,_,pl,_⟩:=I.list hq;refine⟨pl.isList.typeIs,λa e=>?_⟩;cases e;obtain⟨o,n,e,c,hd,_⟩:=pl;exact⟨o,e,hd⟩
  ·refine⟨⟨o,I.lF p o hk,hc⟩,λa e=>?_⟩;cases e;exact⟨o,I.lF _ o hk,hd⟩
  ·have z:∃o,s.heap.get? p=some o/\o.ExactDict:=by
    rcases hk with ⟨kvs,hk⟩|⟨kvs,hk⟩
    ·obtain⟨_,_,_,_,o,_,_,e,ex,_⟩:=I.hok p _ hk;exact⟨o,e,ex⟩
    ·obtain⟨_,_,_,_,o,_,_,e,ex,_⟩:=I.hok p _ hk;exact⟨o,e,ex⟩
   obtain⟨o,e,ex⟩:=z;refine⟨⟨o,e,ex.1⟩,λa e2=>?_⟩;cases e2;exact⟨o,e,ex.2.1⟩
  ·obtain⟨o,_,_,_,e,ex,_⟩:=I.hok p _ hk;refine⟨⟨o,e,ex.1⟩,λa e2=>?_⟩;cases e2;exact⟨o,e,ex.2.1⟩
 |_=>exact False.elim ty
noncomputable def tBM(K:W.Frag)(T:String)(r:V->List V->Hp->VK->Prop)(to:TE)(t:TA):TE:=λZ H Q=>to Z H λx H1=>Ub K T x H1/\t Z H1 λxs H2=>r x xs H2 Q
variable {o e:Expr}{es:List Expr}{to:TE}{t:TA}{name:Str}{apos cpos:Pos}{T id:String}{r:V->List V->Hp->VK->Prop}
theorem zln(pa:PlainAttrs T)(slot:Slot T name id)(hty:typeOf (.builtin id)=pure (.type "method_descriptor"))(hm:MtR X id r)(ho:PE X o to)(ha:PA X (e::es) t)
  (lN:attributeBase o name X.env (eval o X.env)=eval o X.env:=by rfl)
  (yL:((backTo cpos (starEach (e::es) X.env)).all (λx=>!x.1)&&(backToKw cpos (keywordEach [] X.env)).all (λx=>x.1.isSome)
  &&decide ((e::es).length+([]:List Keyword).length+(if ([]:List Keyword).isEmpty then 0 else 1)<30))=true:=by rfl)
  (lO:(apos.endLine==cpos.line)=true:=by rfl) (hs:starEach (e::es) X.env=(false,eval e X.env)::starEach es X.env:=by rfl) (mX:(backTo cpos (starEach es X.env)).any (·.1)=false:=by rfl) :
  PE X (.Call (.Attribute o name apos) (e::es) [] cpos) (tBM X.K T r to t):=by
 intro ak s Z H Q I h;refine wpAny_Call_method_late lN yL lO rfl (aW (ho ak s Z H _ I h) λv s1 hz=>?_);obtain⟨x,H1,I1,r1,ty,q1⟩:=hz;obtain⟨h1,h2⟩:=zkh I1 r1 ty;refine⟨T,id,pa,slot,hty,h1,h2,?_⟩;have hA:=ha cpos ak s1 Z H1 _ I1 q1;rw[hs] at hA ⊢;refine Calls.callWith_builtin (by show (false||(backTo cpos (starEach es X.env)).any (·.1))=false;rw[mX]<;>rfl) (Calls.evalArgs_plain ?_);exact aW hA λus s2 hx=>dw hx λvs H2 I2 r2 q2=>hm ak s2 Z H2 x vs v us Q I2 r1 r2 q2
end
def MtM(X:Cx)(id:String)(r:V->List V->Hp->VK->Prop):Prop:=
 ∀(ak:List (Addr×Obj)) (s:Shared) (Z:St) (H:Hp) (x:V) (xs:List V) (v:Value) (us:List Value) (Q:VK),Inv X ak Z H s->RelV x v->Vals xs us->r x xs H Q->
  wpAny (model X.prog X.w) X.A (call (.builtin id) (v::us)) (EP X ak Z Q) X.xe s
theorem Vals.one{x:V}{us:List Value}(h:Vals [x] us):∃u,us=[u]/\RelV x u:=by
 cases h with
 |cons r t=>cases t;exact⟨_,rfl,r⟩
theorem Vals.two{x y:V}{us:List Value}(h:Vals [x,y] us):∃u v,us=[u,v]/\RelV x u/\RelV y v:=by
 cases h with
 |cons r t=>
  obtain⟨v,rfl,q⟩:=Vals.one t;exact⟨_,_,rfl,r,q⟩
section
variable {X:Cx}{ak:List (Addr×Obj)}{Z:St}{H:Hp}{s:Shared}{l b:Addr}{xs ys zs:List V}
theorem Inv.Ms{its its':List Value}{n:Nat}{f:Array Value->Array Value}{t':Nat}(I:Inv X ak Z H s)(hH:H l=some (.lst xs))
  (e:s.heap.get? l=some {cls:=.type "list",data:=.seq its.toArray n}) (hf:f its.toArray=its'.toArray) (hv:Vals ys its') (hz:ys.length<=sizeLine) :
  Inv X ak Z (upd H l (.lst ys)) {s with heap:=s.heap.update l (Obj.mapSeq f),toks:=t'}:=by
 have q:=PySem.IsL.update e f;rw[hf] at q;refine I.write (x:=l) (e:=l) (by rw[hH];exact trivial) (.inl rfl) (λb' u hb hu=>(z_ s.heap (Obj.mapSeq f) (Ne.symm hb)).trans hu) ⟨_,q⟩ ?_;exact⟨hz,its',_,hv,q⟩
theorem Inv.Mu{its:List Value}{t':Nat}(I:Inv X ak Z H s)(hv:Vals ys its)(hz:ys.length<=sizeLine) :
  Inv X ak Z (upd H s.heap.objs.size (.lst ys)) {s with heap:=s.heap.push {cls:=.type "list",data:=.seq its.toArray},toks:=t'}:=
 I.laid (λ_ _ q=>cO _ q) (bU _) ⟨hz,its,0,hv,gw _ rfl⟩
theorem Inv.fresh(I:Inv X ak Z H s):H s.heap.objs.size=none:=I.hok.fresh (bU _)
theorem Inv.Mv(I:Inv X ak Z H s)(hH:H l=some (.lst xs)):xs.length<=sizeLine/\∃(its:List Value) (n:Nat),Vals xs its/\xs.length=its.length/\s.heap.get? l=some {cls:=.type "list",data:=.seq its.toArray n}:=by
 obtain⟨z,its,n,r,e⟩:=I.hok l _ hH;exact⟨z,its,n,r,r.length,e⟩
end
section
variable {X:Cx}
noncomputable def uD:V->List V->Hp->VK->Prop:=λx vs H Q=>∃l xs y,x=.ref l/\vs=[y]/\H l=some (.lst xs)/\xs.length<sizeLine/\Q .non (upd H l (.lst (xs++[y])))
theorem Uc:MtM X "list.append" uD:=by
 intro ak s Z H x vs v us Q I rx rv h;obtain⟨l,xs,y,rfl,rfl,hH,hz,q⟩:=h;cases rx;obtain⟨u,rfl,ru⟩:=rv.one;obtain⟨z,its,n,r,hl,e⟩:=I.Mv hH;refine call_meets F.slot_list_append ⟨_,e,rfl⟩ F.entry_list_append (F.args_list_append_2 _ _) (PySem.list_append l its.toArray n u (by rw[dO];lia)) ⟨e,?_⟩;refine⟨.non,_,I.Ms (its':=its++[u]) hH e Nj (r.append (.cons ru .nil)) ?_,rfl,q⟩;rw[iI,List.length_singleton]
 lia
end
section
variable {prog:Program}{w:World}{A:Around}{E:Value->Shared->Prop}{s:Shared}
set_option maxRecDepth 100000 in
end
end L2
namespace Ud
open PySem PySem.W PySem.Calls PyProof.Rows
theorem zbu{P:Params}{h:Heap}:∀(ns:List Int) (vs:List Value),WellAll P h vs (ns.map WData.int)->IntsAre vs ns:=by
 intro ns
 induction ns with
 |nil=>
  intro vs w;rw[List.map_nil] at w;cases w;exact .nil
 |cons n ns ih=>
  intro vs w;rw[nM] at w;cases w with
  |cons a b=>
   cases a;exact .cons _ _ (ih _ b)
theorem zex{l:OpenLaw}{n:Nat}(hn:l.most=some n){P:Params}{h:Heap}{args:List WData}{vals:List Value}
  (hpre:l.row.toRowW.claim.pre args=true) (Mw:WellAll P h vals args) :
  ∃a vs ns,vals=[Value.ref a]/\args=[WData.list (ns.map WData.int)]/\h.get? a=some {cls:=.type "list",data:=.seq vs.toArray}/\IntsAre vs ns/\ns.length<=n:=by
 have hsh:WShape.hasAll [] args [.list .int]=true:=(pre_splitW hpre).1;have hc:l.pre.holds [] {args:=args}=true:=(pre_splitW hpre).2;obtain⟨d,r,rfl,h1,h2⟩:=hasAllW_cons hsh;obtain rfl:=hasAllW_nil h2;obtain⟨xs,rfl,h3⟩:=hasW_list h1;obtain⟨ns,rfl⟩:=items_int h3;have hlen:ns.length<=n:=by
  unfold OpenLaw.pre at hc;have h4:(WTm.not (.lt (.lit (.int (n:Int))) (.len (.arg 0)))).holds [] {args:=[.list (ns.map .int)]}=true:=by
   have h4:=(holds_andW hc).1;rw[hn] at h4;exact h4
  have h5:=condW_of h4 (w_not (w_lt w_lit (w_len_list (w_arg rfl))));rw[cJ] at h5;refine HB λq=>?_;have q':(n:Int)<((ns.length:Nat):Int):=by lia
  first
   |(rw[gA q'] at h5;exact absurd h5 J0)
   |(simp at h5;lia)
 cases Mw with
 |cons w1 w2=>
  cases w2;cases w1 with
  |list ho kh=>exact⟨_,_,ns,rfl,rfl,ho,zbu ns _ kh,hlen⟩
theorem ze9(l:OpenLaw)(args:List WData):l.row.toRowW.claim.post args (.bool true) args=true:=
 postW_of (r:=l.row.toRowW) (X:=(true==true))
  (show WShape.has [] (.bool true) .bool=true by first|rfl|decide|simp[WShape.has,WShape.arms,WShape.armsAll])
  (show (WTm.eq .res (.lit (.bool true))).value [] {args:=args,res:=some (.bool true),after:=args}=some (.bool (true==true)) from w_eq_bool (w_res rfl) w_lit) rfl
theorem lQ{l:OpenLaw}{n:Nat}{q:Program}{loose:List Str}{XP:(Str->Option Value)->Heap->Prop}{YP:World->Heap->Prop}{d:DefRec}
  (hn:l.most=some n) (Mx:d.params.defaults=[])
  (call:∀(w:World) (s₀ s₁:Shared) (mg mb:Str->Option Value) (fa:Addr) (o:Obj) (pm cd doc:Value) (a:Addr) (vs:List Value) (ns:List Int),
   Ground q loose [] XP w s₀ mg mb s₁.heap->YP w s₁.heap->
   s₁.heap.get? fa=some o->o.data=.func (docDef d.name d.params d.body d.scope pm cd doc)->s₁.heap.CodeRec cd d.name->mg d.name=some (.ref fa)->
   s₁.heap.get? a=some {cls:=.type "list",data:=.seq vs.toArray}->IntsAre vs ns->ns.length<=n->s₁.gens=#[]->
   codeAny (model l.prog w) callerA (.call (.ref fa) ⟨[.ref a],[]⟩) (λr s'=>r=.ok (.ret (.bool true))/\OldK s₁.heap s'.heap/\s'.os=s₁.os/\AllBare s'.gens) s₁) :
  WalkO q loose XP YP l.row.toRowW d [] (λf vs=>PySem.call f vs):=by
 intro w s₀ s₁ mg mb G Y fa o pm cd doc dV kV ho hd jd hD hmg hg args vals as hpre aac hrd Mw En;obtain rfl:dV=.none:=Dflts.none hD Mx;obtain rfl:kV=.none:=Dflts.noKw hD;obtain⟨a,vs,ns,rfl,rfl,yM,hints,hlen⟩:=zex hn hpre Mw;refine enter_call (Ak (call w s₀ s₁ mg mb fa o pm cd doc a vs ns G Y ho (fd_plain hd) jd hmg yM hints hlen hg) λr s' hq=>?_);obtain⟨rfl,h2,h3,h4⟩:=hq;exact⟨.inl ⟨.bool true,.bool true,[],rfl,λ_=>rfl,.bool true,ze9 l _,λ_=>⟨List.Pairwise.nil,λ_ hm=>(nomatch hm)⟩⟩,h2,h3,h4⟩
end Ud
namespace L2
open PySem PySem.Spec PyProof.Rows
theorem Ue:∀{vs:List Value} {ns:List Int},IntsAre vs ns->Vals (ns.map V.int) vs
 |_,_,.nil=>.nil
 |_,_,.cons n t h=>.cons ⟨t,rfl⟩ (Ue h)
def Only(H:Hp):Prop:=∀b,H b=none\/∃o xs,H b=some (.sX o (.lst xs))
theorem zfZ{P:Program}{w:World}{K:W.Frag}{mg mb:Str->Option Value}{CX:pD}{k:Nat}{fa a:Addr}{fd:FuncData}{x:Str}{sp:Sp}{s₁:Shared}{vs:List Value}{ns:List Int}
  (KX:K.In s₁.heap) (Ug:s₁.heap.Ns mainGlobals mg) (hb:s₁.heap.Ns builtinsNs mb) (hbb:∀x:Str,x≠"__name__"->mb x=bootBuiltins x) (Mz:s₁.heap.NoLimit) (hg:s₁.gens=#[])
  (ha:s₁.heap.get? a=some {cls:=.type "list",data:=.seq vs.toArray}) (hi:IntsAre vs ns) (hl:ns.length<=sizeLine) (hr:bC k callerA)
  (F:∀base:Heap,K.In base->base.Ns mainGlobals mg->bQ P w K mg base CX true k fa fd [x] sp) (Ep:∀(s:Shared) (u:Value),BindsTo s fd ⟨[u],[]⟩ [(x,u)])
  (Io:∀H:Hp,Only H->cZ K H a (ns.map V.int)->sp [.ref a] H (λv _=>v=.bl true) λ_ _ _=>False)
  (hCX:∀H e s',CX [] H s₁ (λ_ _ _=>False) e s'->False) :
  codeAny (model P w) callerA (.call (.ref fa) ⟨[.ref a],[]⟩) (λr s'=>r=.ok (.ret (.bool true))/\OldK s₁.heap s'.heap/\s'.os=s₁.os/\AllBare s'.gens) s₁:=by
 have rv:=Ue hi;have lenV:=hi.length;have core:∀H:Hp,Only H->cZ K H a (ns.map V.int)->eY P w H s₁.heap->(∀b,H b≠none->b=a)->(H a≠none->K.lookup a=none)->
   codeAny (model P w) callerA (.call (.ref fa) ⟨[.ref a],[]⟩) (λr s'=>r=.ok (.ret (.bool true))/\OldK s₁.heap s'.heap/\s'.os=s₁.os/\AllBare s'.gens) s₁:=by
  intro H hO hS hok hA hK;have n8:∀{b:Addr} {o:Obj},s₁.heap.get? b=some o->H b=none->(jW s₁.heap H).get? b=some o:=λe n=>zgn e n;have DQ:∀{b:Addr} {o:Obj} {es:Array DictEntry} {ep:Nat},s₁.heap.get? b=some o->o.data=.dict es ep->H b=none:=λ{b o es ep} e d=>by
   cases q:H b with
   |none=>rfl
   |some u=>
    have e':b=a:=hA b (by rw[q];simp);subst e';rw[ha] at e;cases e;have d':Data.seq vs.toArray _=Data.dict es ep:=d;cases d'
  have Ir:∀{b:Addr} {m:Str->Option Value},s₁.heap.Ns b m->(jW s₁.heap H).Ns b m:=λ{b m} ⟨o,es,ep,e,d,r⟩=>⟨o,es,ep,n8 e (DQ e d),d,r⟩;have Uh:K.In (jW s₁.heap H):=λb o e=>n8 (KX b o e) (by
   cases q:H b with
   |none=>rfl
   |some u=>
    have e':b=a:=hA b (by rw[q];simp);subst e';rw[hK (by rw[q];simp)] at e;cases e)
  have hM:Mod K mg (jW s₁.heap H):=⟨Uh,Ir Ug,⟨mb,Ir hb,hbb⟩,let ⟨mc,h1,h2⟩:=Mz;⟨mc,Ir h1,h2⟩⟩;have e0:mU P w K mg (jW s₁.heap H) callerA [] s₁ H:=⟨rfl,hM,λb o e=>zhA e,Nat.le_of_eq (ze0 _ _),trivial,λb hb=>absurd (show b∈([]:List Addr) from hb) Nj,hok,.of_eq hg⟩;refine Ak ((F _ Uh (Ir Ug)).run callerA [] s₁ H ⟨[.ref a],[]⟩ [.ref a] [.ref a] _ _ (λ_=>rfl) hr e0 (Ep s₁ (.ref a)) (.cons rfl .nil) (Io H hO hS)) λr s' h=>?_;cases r with
  |error e=>exact(hCX H e s' h).elim
  |ok fl=>
   cases fl with
   |next=>exact False.elim h
   |brk=>exact False.elim h
   |cont=>exact False.elim h
   |ret u=>
    obtain⟨v,H',os,bare,un,MF,r',q⟩:=h;have q':v=.bl true:=q;subst q';obtain rfl:u=Value.bool true:=r';refine⟨rfl,OldK.of_keep λb o e=>?_,os,bare⟩;cases q:H b with
    |none=>exact un.keep b o e q (by intro z;exact absurd (show b∈([]:List Addr) from z) Nj) Nj
    |some u=>
     rcases hO b with z|⟨ob,xs,z⟩
     ·rw[q] at z;cases z
     ·have z2:=un.jk b ob _ z;obtain⟨e1,_⟩:=hok b _ z;obtain⟨e2,_⟩:=MF b _ z2;rw[e] at e1;cases e1;exact e2
 cases hk:K.lookup a with
 |some o=>
  have e:=KX a o hk;rw[ha] at e;cases e;refine core (λ_=>none) (λ_=>.inl rfl) (.inr ⟨_,vs.toArray,_,hk,rfl,rfl,rfl,by rw[dO,lenV];exact hl,by simpa using rv⟩) (λb u z=>by have z':(none:Option HO)=some u:=z;cases z') (λb z=>absurd rfl z) λz=>absurd rfl z
 |none=>
  refine core (λb=>if b=a then some (.sX {cls:=.type "list",data:=.seq vs.toArray} (.lst (ns.map V.int))) else none) (λb=>?_) (.inl (.inr ⟨{cls:=.type "list",data:=.seq vs.toArray},if_pos rfl⟩)) (λb u z=>?_) (λb z=>?_) λ_=>hk
  ·by_cases hb:b=a
   ·exact .inr ⟨_,_,if_pos hb⟩
   ·exact .inl (if_neg hb)
  ·by_cases hb:b=a
   ·have z':=(if_pos hb).symm.trans z;cases z';subst hb;exact⟨ha,by rw[cJ];exact hl,vs,_,rv,ha⟩
   ·have z':=(if_neg hb).symm.trans z;cases z'
  ·by_cases hb:b=a
   ·exact hb
   ·exact absurd (if_neg hb) z
def MJ(h0:Heap)(H:Hp)(h:Heap)(e:Addr)(hd:Value):Prop:=
 hd=.none\/∃T oT ts,hd=.ref T/\h0.get? T=none/\H T=none/\T≠e/\h.get? T=some oT/\oT.data=.fields ts/\ts[3]?=some .none
structure Exc(h0:Heap)(H:Hp)(h:Heap)(e C:Addr)(dx:Option Addr):Prop where
 new:h0.get? e=none
 un:H e=none
 ob:∃oe vs hd,h.get? e=some oe/\oe.cls=.ref C/\oe.dict=dx/\oe.data=.fields vs/\vs[1]?=some hd/\MJ h0 H h e hd
structure MK(h0:Heap)(H:Hp)(fr:List Addr)(h h':Heap)(ch:List Addr):Prop where
 rec_:∀b∈ch,h0.get? b=none/\H b=none/\∃o vs,h.get? b=some o/\o.data=.fields vs
 keep:∀b o,h.get? b=some o->b∉fr->b∉ch->h'.get? b=some o
 slot:∀b o,h.get? b=some o->b∈fr->∃sl,h'.get? b=some {o with slots:=sl}
 there:∀b o,h.get? b=some o->∃o',h'.get? b=some o'
noncomputable def qL(head:Value)(L:Addr)(pl:List Value):Obj:=
 {cls:=.type "traceback",dict:=none,data:=.fields ([head,.ref L,.none,rawInt L,.none]++(if pl.isEmpty then List.replicate 6 Value.none else pl)).toArray}
theorem Ui(o:Obj)(f:Array Value->Array Value):(o.mapFields f).dict=o.dict:=by
 obtain⟨c,d,dt,sl⟩:=o;cases dt<;>rfl
theorem Uj(o:Obj)(f:Array Value->Array Value):(o.mapFields f).cls=o.cls:=by
 obtain⟨c,d,dt,sl⟩:=o;cases dt<;>rfl
section
variable {M:Model}{A:Around}{E:Value->Shared->Prop}{s:Shared}{base h0:Heap}{env:Env}{outer:List Env}{L e C:Addr}{dx:Option Addr}{H:Hp}{Q:Unit->Shared->Prop}
theorem Uk(qe:A.frames=some (env::outer))(hl:s.heap.FunFrames base (env::outer))(hf:env.frame=some L)
  (he:s.heap.get? e=some oe) (hd:oe.data=.fields vs) (lq:1<vs.size)
  (k:∀h' T oT ts,s.heap.objs.size<=T->(∀b o,s.heap.get? b=some o->b∉frs (env::outer)->b≠e->h'.get? b=some o)->(∀b o,s.heap.get? b=some o->b∈frs (env::outer)->∃sl,h'.get? b=some {o with slots:=sl})->
   h'.get? e=some (oe.mapFields (·.setIfInBounds 1 (.ref T)))->h'.get? T=some oT->oT.data=.fields ts->3<ts.size->ts[3]?=some (rawInt L)->Q () {s with heap:=h'}) :
  wpAny M A (do let a <-frameOf env;let pl <-entryPlaceOf L hn;let b <-EntryCells.newEntry head a .none (rawInt L) .none pl;setField (.ref e) 1 b) Q E s:=by
 have Er:e∉frs (env::outer):=λhm=>by
  obtain⟨_,o,ho,hx⟩:=hl.mem hm;rw[he] at ho;cases ho;exact hx vs hd
 refine aC (wpAny_frameOf_fun qe hl hf λh₁ sl₁=>?_);refine aC (wpAny_entryPlaceOf λpl hpl=>?_);unfold EntryCells.newEntry newFields;refine aC (o_ ?_ (hpl.sizeOk5 _ _ _ _ _));have e1:h₁.get? e=some oe:=(sl₁.2.1 e Er).trans he;have e2:(h₁.push (qL head L pl)).get? e=some oe:=cO _ e1;refine Cv e2 hd lq ?_;have ne:h₁.objs.size≠e:=Aj (cj e1);have d3:=vK hd (·.setIfInBounds 1 (Value.ref h₁.objs.size));have kp:∀b o,h₁.get? b=some o->b≠e->((h₁.push (qL head L pl)).update e (Obj.mapFields (·.setIfInBounds 1 (Value.ref h₁.objs.size)))).get? b=some o:=λb o q n=>by
  rw[z_ _ _ n.symm];exact cO _ q
 refine k _ h₁.objs.size (qL head L pl) _ (by rw[sl₁.1];exact bU _) (λb o q n1 n2=>kp b o ((sl₁.2.1 b n1).trans q) n2) (λb o q m=>?_) (Cd _ e2 (Hs d3)) ?_ rfl ?_ ?_
 ·obtain⟨sl,z⟩:=sl₁.2.2 b o q;exact⟨sl,kp b _ z λy=>Er (y▸m)⟩
 ·rw[z_ _ _ ne.symm];exact gw _ rfl
 ·simp only[dO,iI,dR,xY]<;>lia
 ·first
   |(simp;done)
   |(rcases hpl with rfl|⟨_,_,_,_,_,_,_,rfl⟩<;>simp)
theorem zgu(qe:A.frames=some (env::outer))(hl:s.heap.FunFrames base (env::outer))(hf:env.frame=some L)(x:Exc h0 H s.heap e C dx)
  (k:∀h' T oT oe ts vs ch,MK h0 H (frs (env::outer)) s.heap h' ch->s.heap.objs.size<=T->h'.get? e=some oe->oe.cls=.ref C->oe.dict=dx->oe.data=.fields vs->vs[1]?=some (.ref T)->h'.get? T=some oT->oT.data=.fields ts->
   3<ts.size->ts[3]?=some (rawInt L)->Q () {s with heap:=h'}):wpAny M A (noteFrame (.ref e) env) Q E s:=by
 obtain⟨oe,vs,hd,he,hc,Iu,pJ,h1,tb⟩:=x.ob;have lq:1<vs.size:=(Ke.mp h1).1;have Er:∀b o ws,s.heap.get? b=some o->o.data=.fields ws->b∉frs (env::outer):=λb o ws q d hm=>by
  obtain⟨_,o',ho,hx⟩:=hl.mem hm;rw[q] at ho;cases ho;exact hx ws d
 unfold noteFrame;simp only[hf];refine aC (ji he pJ h1 ?_);rcases tb with rfl|⟨T,oT,ts,rfl,nT,uT,neT,gT,dT,h3⟩
 ·rw[if_neg J0];refine Uk qe hl hf he pJ lq λh' T oT ts lt kp sl ge gT dT z3 z4=>?_;refine k h' T oT _ ts _ [e] ⟨λb hb=>?_,λb o q n1 n2=>kp b o q n1 λz=>n2 (by rw[z];exact .head _),sl,λb o q=>?_⟩ lt ge ((Uj _ _).trans hc) ((Ui _ _).trans Iu) (vK pJ _) (by simp[lq]) gT dT z3 z4
  ·obtain rfl:b=e:=by simpa using hb
   exact⟨x.new,x.un,oe,vs,he,pJ⟩
  ·by_cases z:b=e
   ·subst z;exact⟨_,ge⟩
   ·by_cases m:b∈frs (env::outer)
    ·obtain⟨w,q'⟩:=sl b o q m;exact⟨_,q'⟩
    ·exact⟨o,kp b o q m z⟩
 ·rw[if_pos (show (Value.ref T != Value.none)=true from by simp)];refine aC (ji gT dT h3 ?_);rw[if_neg (show ¬((Value.none==rawInt L)=true) from by simp[rawInt])];have z3:3<ts.size:=(Ke.mp h3).1;refine aC (Cv gT dT z3 ?_);have oth:∀b,b≠T->(s.heap.update T (Obj.mapFields (·.setIfInBounds 3 Value.none))).get? b=s.heap.get? b:=λb n=>z_ _ _ n.symm;have hl':(s.heap.update T (Obj.mapFields (·.setIfInBounds 3 Value.none))).FunFrames base (env::outer):=hl.of_keeps λb o q nd=>⟨o,(oth b λz=>by subst z;rw[gT] at q;cases q;exact nd ts dT).trans q,rfl⟩;have sT:(s.heap.update T (Obj.mapFields (·.setIfInBounds 3 Value.none))).get? T=some (oT.mapFields (·.setIfInBounds 3 Value.none)):=Cd _ gT (Hs (vK dT _));refine Uk qe hl' hf ((oth e neT.symm).trans he) pJ lq λh' T' oT' ts' lt kp sl ge gT' dT' z3' z4'=>?_;have lt':s.heap.objs.size<=T':=by
   have:=lt;simp only[Heap.size_after_update] at this;exact this
  refine k h' T' oT' _ ts' _ [e,T] ⟨λb hb=>?_,λb o q n1 n2=>kp b o ((oth b λz=>n2 (by simp[z])).trans q) n1 λz=>n2 (by simp[z]),λb o q m=>?_,λb o q=>?_⟩ lt' ge ((Uj _ _).trans hc) ((Ui _ _).trans Iu) (vK pJ _) (by simp[lq]) gT' dT' z3' z4'
  ·have hb':b=e\/b=T:=by simpa using hb
   rcases hb' with rfl|rfl
   ·exact⟨x.new,x.un,oe,vs,he,pJ⟩
   ·exact⟨nT,uT,oT,ts,gT,dT⟩
  ·exact sl b o ((oth b λz=>by subst z;exact Er b o ts q (by rw[gT] at q;cases q;exact dT) m).trans q) m
  ·by_cases z:b=e
   ·subst z;exact⟨_,ge⟩
   ·by_cases y:b=T
    ·subst y;exact⟨_,kp b _ sT (Er b oT ts gT dT) z⟩
    ·by_cases m:b∈frs (env::outer)
     ·obtain⟨w,q'⟩:=sl b o ((oth b y).trans q) m;exact⟨_,q'⟩
     ·exact⟨o,kp b o ((oth b y).trans q) m z⟩
theorem zgz(he:s.heap.get? e=some oe)(hd:oe.data=.fields vs)(h1:vs[1]?=some (.ref T))(gT:s.heap.get? T=some oT)(dT:oT.data=.fields ts)(z3:3<ts.size)
  (k:∀h',(∀b o,b≠T->s.heap.get? b=some o->h'.get? b=some o)->h'.get? T=some (oT.mapFields (·.setIfInBounds 3 Value.none))->Q () {s with heap:=h'}):wpAny M A (setFlight (.ref e) none) Q E s:=by
 unfold setFlight;refine aC (ji he hd h1 ?_);rw[if_pos (show (Value.ref T != Value.none)=true from by simp)];exact Cv gT dT z3 (k _ (λb o n q=>(z_ _ _ n.symm).trans q) (Cd _ gT (Hs (vK dT _))))
theorem ze7(qe:A.frames=some (env::outer))(hl:s.heap.FunFrames base (env::outer))(hf:env.frame=some L)(x:Exc h0 H s.heap e C dx)
  (nW:∀b,s.heap.objs.size<=b->H b=none) (h0s:∀b o,h0.get? b=some o->∃o',s.heap.get? b=some o')
  (k:∀h' ch,MK h0 H (frs (env::outer)) s.heap h' ch->Exc h0 H h' e C dx->Q () {s with heap:=h'}) :
  wpAny M A (noteFrame (.ref e) env) (λ_ s₁=>wpAny M A (setFlight (.ref e) none) Q E s₁) E s:=by
 have ele:∃o,s.heap.get? e=some o:=let ⟨oe,_,_,he,_⟩:=x.ob;⟨oe,he⟩;refine zgu qe hl hf x λh' T oT oe ts vs ch t lt ge hc Iu pJ h1 gT dT z3 z4=>?_;have neT:T≠e:=λz=>by
  obtain⟨o,q⟩:=ele;exact absurd (f9 (cj q) (z▸lt)) (pA _)
 refine zgz (s:={s with heap:=h'}) ge pJ h1 gT dT z3 λh2 kp gT2=>?_;have nT:∀b o,s.heap.get? b=some o->b≠T:=λb o q z=>absurd (f9 (cj q) (z▸lt)) (pA _);refine k h2 ch ⟨t.rec_,λb o q n1 n2=>kp b o (nT b o q) (t.keep b o q n1 n2),λb o q m=>?_,λb o q=>?_⟩ ⟨x.new,x.un,oe,vs,.ref T,kp e oe neT.symm ge,hc,Iu,pJ,h1,.inr ⟨T,_,_,rfl,?_,nW T lt,neT,gT2,vK dT _,by simp[z3]⟩⟩
 ·obtain⟨sl,q'⟩:=t.slot b o q m;exact⟨sl,kp b _ (nT b o q) q'⟩
 ·obtain⟨o',q'⟩:=t.there b o q;exact⟨o',kp b o' (nT b o q) q'⟩
 ·cases z:h0.get? T with
  |none=>rfl
  |some o=>
   obtain⟨o',q⟩:=h0s T o z;exact absurd rfl (nT T o' q)
end
noncomputable abbrev XS:=St->Value->Option Addr->Hp->Prop
def Sub(h0 h:Heap):Prop:=∀b o,h0.get? b=some o->∃o',h.get? b=some o'
theorem Sub.none{h0 h:Heap}(x:Sub h0 h){b:Addr}(e:h.get? b=none):h0.get? b=none:=by
 cases q:h0.get? b with
 |none=>rfl
 |some o=>
  obtain⟨o',z⟩:=x b o q;rw[e] at z;cases z
theorem Exc.older{h0 h1:Heap}{H:Hp}{h:Heap}{e C:Addr}{dx:Option Addr}(x:Exc h1 H h e C dx)(y:Sub h0 h1):Exc h0 H h e C dx:=by
 obtain⟨oe,vs,hd,a,b,c,d,f,tb⟩:=x.ob;refine⟨y.none x.new,x.un,oe,vs,hd,a,b,c,d,f,?_⟩;rcases tb with z|⟨T,oT,ts,z1,z2,z3⟩
 ·exact .inl z
 ·exact .inr ⟨T,oT,ts,z1,y.none z2,z3⟩
section
variable {X:Cx}{ak:List (Addr×Obj)}{Z:St}{H:Hp}{s:Shared}{h0 h':Heap}{ch fr:List Addr}
theorem eY.tbd{P:Program}{w:World}{h:Heap}(x:eY P w H h)(t:MK h0 H fr h h' ch)(hf:∀b∈fr,H b=none):eY P w H h':=λa o e=>by
 have st:∀b u,(b=a\/H b=some (.own a))->h.get? b=some u->h'.get? b=some u:=λb u z q=>by
  have nb:H b≠none:=by
   rcases z with z|z
   ·rw[z,e];simp
   ·rw[z];simp
  exact t.keep b u q (λm=>nb (hf b m)) λm=>nb (t.rec_ b m).2.1
 exact(x a o e).stay st (λ_ z=>z) λ_ _ z=>z
end
def Raises(X:Cx)(EX:XS):Prop:=
 ∀(ak:List (Addr×Obj)) (Z:St) (H:Hp) (s:Shared) (h0:Heap) (e C:Addr) (dx:Option Addr),Inv X ak Z H s->(∀b o,X.s₀.heap.get? b=some o->b∉X.ex->∃o',h0.get? b=some o')->
  (∀p∈X.pn++ak,∃o,h0.get? p.1=some o)->Sub h0 s.heap->Exc h0 H s.heap e C dx->EX Z (.ref C) dx H->X.xe (.ref e) s
noncomputable def dZ(P:Program)(w:World):pD:=λouter H s E e s'=>
 ∃(a C:Addr) (dx:Option Addr) (H':Hp),e=.ref a/\s'.os=s.os/\AllBare s'.gens/\Un (frs outer) [] H H' s.heap s'.heap/\eY P w H' s'.heap/\Exc s.heap H' s'.heap a C dx/\E (.ref C) dx H'
theorem zd4{P:Program}{w:World}{K:W.Frag}{mg:Str->Option Value}{base:Heap}{N:List Str}{qual:Str}{scope:Scope}{f:Addr}{cd:Value}{A:Around}{outer:List Env}{s:Shared}{H:Hp}{E:XK}{cm:Bool} :
  Raises (dU (dZ P w) P w K mg base N qual scope f cd A outer s H E cm) (λ_ C dx H'=>E C dx H'):=by
 intro ak Z H1 s1 h0 e C dx I hs hp h01 x ex;have I0:Inv (dU (dZ P w) P w K mg base N qual scope f cd A outer s H E cm) [] Z H1 s1:=I.jZ λp z=>absurd z Nj;show wpAny (model P w) (A.deeper (envOfC qual scope s.heap.objs.size f cd)) (leaving (envOfC qual scope s.heap.objs.size f cd) (.ref e)) _ _ s1;unfold leaving;have hsub:Sub s.heap h0:=λb o q=>hs b o q (by show b∉([]:List Addr);simp);refine aC (ze7 (base:=base) (outer:=outer) (L:=s.heap.objs.size) I0.ok.frames I0.stack rfl x (λb z=>I0.hok.fresh z) h01 λh' ch t x'=>?_);have fin:∀b o,s.heap.get? b=some o->b∉ch:=λb o q m=>by
  have z:=hsub.none (t.rec_ b m).1;rw[q] at z;cases z
 have nL:∀b o,s.heap.get? b=some o->b∉frs outer->b∉frs (envOfC qual scope s.heap.objs.size f cd::outer):=λb o q n m=>by
  have m':b∈s.heap.objs.size::frs outer:=m;rcases fC.mp m' with z|z
  ·exact absurd (cj q) (by rw[z];exact pA _)
  ·exact n z
 refine⟨e,C,dx,H1,rfl,I0.os,I0.bare,⟨λb o q n hb _=>?_,λb o q n hb _=>?_,λb o q n _=>I0.base.free b o q n (by show b∉([]:List Addr);simp),λb o q _=>?_,I0.base.tups,I0.base.jk,I0.base.jV⟩,I0.hok.tbd t I0.jY,x'.older hsub,ex⟩
 ·exact t.keep b o (I0.base.keep b o q n hb (by show b∉([]:List Addr);simp)) (nL b o q hb) (fin b o q)
 ·obtain⟨sl,q1⟩:=I0.base.slot b o q n hb (by show b∉([]:List Addr);simp);obtain⟨sl',q2⟩:=t.slot b _ q1 (show b∈s.heap.objs.size::frs outer from iy _ hb);exact⟨sl',q2⟩
 ·obtain⟨o',q1⟩:=I0.base.there b o q (by show b∉([]:List Addr);simp);exact t.there b o' q1
section
variable {X:Cx}{cm:Bool}{k:Nat}{f C:Addr}{fd:FuncData}{ps:List Str}{sp:Sp}{EX:XS}{x m:Str}{p pos apos:Pos}{e o:Expr}{es:List Expr}{ta:TE}{t:TA}
theorem Raises.pass(R:Raises X EX)(I:Inv X ak Z H s)(h:dZ X.prog X.w X.stack H s (EX Z) v s'):X.xe v s':=by
 obtain⟨a,C,dx,H',rfl,os,bare,un,hok,x,q⟩:=h;have ao:Sub s.heap s'.heap:=λb o z=>un.there b o z Nj;refine R ak Z H' s' s.heap a C dx (I.call' os un hok bare λb z=>absurd z Nj) (λb o z n=>I.base.there b o z n) (λp hp=>?_) ao x q;exact⟨p.2,(I.pin p hp).1⟩
noncomputable def yN(sp:Sp)(EX:XS)(t:TA):TE:=λZ H Q=>t Z H λvs H1=>sp vs H1 Q (EX Z)
theorem zhU(F:bQ X.prog X.w X.K X.mg X.base (dZ X.prog X.w) cm k f fd ps sp)(h_:cm=true->X.aj=true)(hr:bC k X.A)(hb:Binds X.K fd ps [])(R:Raises X EX)
  (I:Inv X ak Z H s) (r:Vals vs us) (h:sp vs H Q (EX Z)):wpAny (model X.prog X.w) X.A (call (.ref f) us) (EP X ak Z Q) X.xe s:=by
 have hl:us.length=ps.length:=by rw[<-r.length];exact F.len _ _ _ _ h
 have hb':=hb s us I.lF (by rw[tY];exact hl);rw[tY] at hb';refine wpAny_call (Ak (F.run X.A X.stack s H ⟨us,[]⟩ us vs Q (EX Z) (λz=>I.ok.hd (h_ z)) hr I.env0 hb' r h) λr s' hq=>?_);cases r with
 |error v=>exact R.pass I hq
 |ok fl=>
  cases fl with
  |ret u=>exact I.after hq
  |next=>exact False.elim hq
  |brk=>exact False.elim hq
  |cont=>exact False.elim hq
theorem zgf(F:bQ X.prog X.w X.K X.mg X.base (dZ X.prog X.w) cm k f fd ps sp)(h_:cm=true->X.aj=true)(hr:bC k X.A)(hg:Gl X x)(hm:X.mg x=some (.ref f))(hk:PySem.W.keepIn X.K (.ref f)=true)(hb:Binds X.K fd ps [])(R:Raises X EX)
  (ha:PA X (e::es) t) (pF:(x==("__debug__" : Str))=false:=by decide) (he:starEach (e::es) X.env=(false,eval e X.env)::starEach es X.env:=by rfl) (hpl:(backTo pos (starEach es X.env)).any (·.1)=false:=by rfl) :
  PE X (.Call (.Name x p) (e::es) [] pos) (yN sp EX t):=by
 intro ak s Z H Q I h;refine xR (Lb I hg hm ?_ pF);exact KC (h₀:=X.base) I.ok.mod.vU hk (aW (ha pos ak s Z H _ I h) λus s1 ⟨vs,H1,I1,r,q⟩=>⟨I1.lF,zhU F h_ hr hb R I1 r q⟩) he hpl
end
noncomputable def uE(a C:Addr)(dx:Option Addr):HO:=.ext λh=>∃oe vs,h.get? a=some oe/\oe.cls=.ref C/\oe.dict=dx/\oe.data=.fields vs
end L2
namespace L2
open PySem PySem.Spec PyProof.Rows PySem.W Builtin.ObjectAttr
section
variable {prog:Program}{w:World}{A:Around}{E:Value->Shared->Prop}{s:Shared}{K:Frag}{x C:Addr}{ox:Obj}{od:Option Obj}{name:Str}{tk:Tok}
theorem ziv(XI:K.In s.heap)(I:InstAt s.heap x ox C od)(hf:findObj K C od name=some r)
  (h:match r with|.value v=>Q (.done (.ret v)) s|.bind g a=>wpAny (model prog w) A (call g [a,.ref x,.ref C]) (λv s'=>Q (.done (.ret v)) s') E s|.missing=>False) :
  wpAny (model prog w) A (Builtin.«object.__getattribute__» ⟨[.ref x,.str name tk],[]⟩) Q E s:=by
 obtain⟨hh,g,d,t,os⟩:=s;have L0:=I.type (M:=model prog w);have L1:=looks_find (M:=model prog w) XI I hf;unfold Builtin.«object.__getattribute__»;refine aC (wpAny_of_eq (a:=(Value.ref x,[Value.str name tk])) (by rfl) ?_);refine aC (wpAny_of_eq (a:=name) (by rfl) ?_);refine aC (L0.at (aC (L1.at ?_)));cases r with
 |value v=>exact aZ h
 |bind g a=>
  show wpAny _ _ (holding [a] (call g [a,.ref x,.ref C]) >>= ret) _ _ _;exact aC (qx (nO h (λv s' z=>aZ z) λ_ _ z=>z))
 |missing=>exact h.elim
theorem zfl(XI:K.In s.heap)(I:InstAt s.heap x ox C od)(hb:mroIn K C (.type "BaseException")=some true)(hf:findObj K C od name=some r)
  (h:match r with|.value v=>R (.ok (.ret v)) s|.bind g a=>wpAny (model prog w) A.in1 (call g [a,.ref x,.ref C]) (λv s'=>R (.ok (.ret v)) s') (λe s'=>R (.error e) s') s|.missing=>False) :
  codeAny (model prog w) A (.call (.builtin "BaseException.__getattribute__") ⟨[.ref x,.str name tk],[]⟩) R s:=by
 have hk:builtinKind "BaseException.__getattribute__"=some .slot:=by decide +kernel
 have yO:splitId "BaseException.__getattribute__"=some ("BaseException","__getattribute__"):=by decide +kernel
 have ha:=F.args_bexc_ga (.ref x) (.str name tk);refine codeAny_call_builtin F.attr_ValueError.ga.plain F.entry_bexc_ga ?_;have fin:wpAny (model prog w) A.in1 (Builtin.«object.__getattribute__» ⟨[.ref x,.str name tk],[]⟩) (λfin s'=>match fin with|.done f=>R (.ok f) s'|.again c'=>c'.quiet=true/\codeAny (model prog w) A c' R s') (λe s'=>R (.error e) s') s:=by
  refine ziv XI I hf ?_;cases r with
  |value v=>exact h
  |bind g a=>exact h
  |missing=>exact h.elim
 have chk:∀Q:Unit->Shared->Prop,Q () s->wpAny (model prog w) A.in1 (checkBuiltinCall "BaseException.__getattribute__" ⟨[.ref x,.str name tk],[]⟩) Q (λe s'=>R (.error e) s') s:=λQ hq=>by
  obtain⟨hh,g,d,t,os⟩:=s;have L0:=I.type (M:=model prog w);have L1:=looks_mroIn (M:=model prog w) XI hb;have LI:Looks (model prog w) hh (isInstance (.ref x) (.type "BaseException")) true:=L0.andThen L1;simp only[checkBuiltinCall,hk,yO];refine aC ?_
  repeat (first|with_reducible exact hq|with_reducible refine LI.at ?_|wp_step)
 exact chk _ fin
theorem bexc_get?(XI:K.In s.heap)(I:InstAt s.heap x ox C od)(hb:mroIn K C (.type "BaseException")=some true)(hga:findIn K (.ref C) "__getattribute__"=some (some (.builtin "BaseException.__getattribute__")))
  (hgn:findIn K (.ref C) "__getattr__"=some none) (hf:findObj K C od name=some r)
  (h:match r with|.value v=>wpAny (model prog w) A (handedOut v) (λu s'=>Q (some u) s') (λ_ _=>False) {s with toks:=s.toks+1}|.bind g a=>wpAny (model prog w) A.in1 (call g [a,.ref x,.ref C]) (λv s'=>wpAny (model prog w) A (handedOut v) (λu s''=>Q (some u) s'') (λ_ _=>False) s') (λ_ _=>False) {s with toks:=s.toks+1}|.missing=>False) :
  wpAny (model prog w) A (getAttr? (.ref x) name) Q E s:=by
 obtain⟨hh,g,d,t,os⟩:=s;have L0:=I.type (M:=model prog w);have L1:=looks_findIn (M:=model prog w) XI hga;have L2:=looks_findIn (M:=model prog w) XI hgn;have uF:(Value.builtin "BaseException.__getattribute__"==Value.builtin "object.__getattribute__")=false:=by decide +kernel
 unfold getAttr? getAttrBy? getAttrBy;refine aC (wpAny_mkText (aC (wpAny_attempt (qx (aC (L0.at (aC (L1.at ?_))))))));show wpAny _ _ (if (onTheHeap (.ref C)&&(Value.builtin "BaseException.__getattribute__"==Value.builtin "object.__getattribute__"))=true then _ else getAttrByItsOwn _ _ _ _ _ _) _ _ _;rw[uF,Cw,if_neg J0];unfold getAttrByItsOwn hookBefore callGetattribute boundAndCalled;refine aC (L2.at ?_);refine aC (wpAny_attempt (qx (aC (wpAny_of_eq (F.attr_ValueError.ga.bind (.ref x)) ?_))));refine wpAny_call (zfl XI I hb hf ?_);cases r with
 |value v=>exact nO h (λv s'' hv=>aZ hv) (λ_ _ z=>z.elim)
 |bind g a=>exact nO h (λv s' hv=>nO hv (λu s'' z=>aZ z) λ_ _ z=>z.elim) (λ_ _ z=>z.elim)
 |missing=>exact h.elim
end
structure XC(K:Frag)(C:Addr):Prop where
 ga:findIn K (.ref C) "__getattribute__"=some (some (.builtin "BaseException.__getattribute__"))
 gn:findIn K (.ref C) "__getattr__"=some none
 cl:findIn K (.ref C) "__class__"=some (some (.builtin "object.__class__"))
 mb:mroIn K C (.type "BaseException")=some true
 mo:mroIn K C (.type "object")=some true
 cd:(clsIn K C).isSome=true
 dg:specialIn K (.builtin "object.__class__") "__get__"=some (some (.builtin "getset_descriptor.__get__"))
 dt:takesIn K (.builtin "object.__class__")=some true
theorem zff{K:Frag}{C:Addr}{od:Option Obj}{name:Str}{a g:Value}(hc:(clsIn K C).isSome=true)(ha:findIn K (.ref C) name=some (some a))(hg:specialIn K a "__get__"=some (some g))(ht:takesIn K a=some true):findObj K C od name=some (.bind g a):=by
 obtain⟨cd,z⟩:=Kh.mp hc;simp only[findObj,z,ha,hg,ht,Option.bind_some]
theorem Ul{K:Frag}{e C:Addr}(c:XC K C):KitX K (.ref e) (.ref C) (λh=>∃ox od,InstAt h e ox C od) where
 ty:=λ_ _ _ ⟨_,_,I⟩=>I.type
 it:=λ_ _ XI _=>by
  have q:=c.cd;unfold clsIn at q;split at q
  ·rename_i c' d' cd' sl' lk;intro A' Q' E' s' k z;unfold isType loadHead;exact aC (wpAny_loadPart (k _ _ (XI _ _ lk)) (aZ z))
  ·cases q
 ne:=λh tp dd its n sl XI htp=>by
  refine Cj.mpr λz=>?_;have ee:C=tp:=Value.ref.inj (nP.mp z);subst ee;have q:=c.cd;unfold clsIn at q;split at q
  ·rename_i c' d' cd' sl' lk;have y:=(XI _ _ lk).symm.trans htp;cases y
  ·cases q
 ca:=λ{prog w A E Q s} XI ⟨ox,od,I⟩ k=>by
  have hf:findObj K C od "__class__"=some (.bind (.builtin "getset_descriptor.__get__") (.builtin "object.__class__")):=zff c.cd c.cl c.dg c.dt;refine bexc_get? XI I c.mb c.ga c.gn hf ?_;exact wpAny_call (class_get (s:={s with toks:=s.toks+1}) (ox:=ox) (od:=od) XI I c.mo (handed_on rfl k))
end L2
namespace L2
open PySem PySem.Spec PyProof.Rows
theorem zd8:∀(names:List (Str×NameKind)) (cs:List (Str×Addr)),(∀x∈names,x.2=.free->∃c,env.cells.lookup x.1=some c)->(∀x c,cs.lookup x=some c->env.cells.lookup x=some c)->
  ∃cl,(forIn names cs λx r=>(do
    if x.2==.free then
     let a <-cellOf env x.1
     pure (ForInStep.yield ((x.1,a)::r))
    else pure (ForInStep.yield r)):Sem (List (Str×Addr)))=pure cl/\(∀x c,cl.lookup x=some c->env.cells.lookup x=some c)/\(∀x c,cs.lookup x=some c->cl.lookup x=some c)/\∀x∈names,x.2=.free->∃c,cl.lookup x.1=some c:=by
 intro names
 induction names with
 |nil=>intro cs _ h;exact⟨cs,rfl,h,λ_ _ q=>q,λx z=>nomatch z⟩
 |cons y r ih=>
  intro cs h1 h2;obtain⟨n,k⟩:=y;by_cases hk:k=.free
  ·subst hk;obtain⟨c,hc⟩:=h1 (n,.free) nH rfl;have hc:env.cells.lookup n=some c:=hc;have h3:∀x d,((n,c)::cs).lookup x=some d->env.cells.lookup x=some d:=λx d q=>by
    rw[mO] at q;by_cases z:x=n
    ·subst z;simp at q;subst q;exact hc
    ·have z':(x==n)=false:=by simpa using z
     rw[z'] at q;exact h2 x d q
   obtain⟨cl,e,a,b,d⟩:=ih ((n,c)::cs) (λx z=>h1 x (iy _ z)) h3;have hco:cellOf env n=pure c:=by
    unfold cellOf;rw[hc]
   refine⟨cl,?_,a,λx q z=>?_,λx z q=>?_⟩
   ·rw[Cr];simp only[xW,if_true,hco];exact e
   ·by_cases y:x=n
    ·subst y;have z1:=h2 x q z;rw[hc] at z1;cases z1;exact b x c Nj
    ·have y':(x==n)=false:=by simpa using y
     exact b x q (by rw[mO,y'];exact z)
   ·rcases fC.mp z with z|z
    ·subst z;exact⟨c,b n c Nj⟩
    ·exact d x z q
  ·have hb:(k==NameKind.free)=false:=by simpa using hk
   obtain⟨cl,e,a,b,d⟩:=ih cs (λx z=>h1 x (iy _ z)) h2;refine⟨cl,?_,a,b,λx z q=>?_⟩
   ·rw[Cr];simp only[hb,Ht,xZ];exact e
   ·rcases fC.mp z with z|z
    ·subst z;exact absurd q hk
    ·exact d x z q
theorem zd7(h:∀x∈scope.names,x.2=.free->∃c,env.cells.lookup x.1=some c):∃cl,closureFor scope env=pure cl/\(∀x c,cl.lookup x=some c->env.cells.lookup x=some c)/\∀x∈scope.names,x.2=.free->∃c,cl.lookup x.1=some c:=by
 obtain⟨cl,e,a,_,d⟩:=zd8 scope.names [] h (λx c q=>by cases q);refine⟨cl,?_,a,d⟩;unfold closureFor;have e':=e;simp only[pure_bind,bind_pure] at e' ⊢;exact e'
theorem MN{env:Env}{k:NameKind}:∀{names:List (Str×NameKind)} {x:Str},(names.map λ(n,k)=>if (k==NameKind.free&&env.scope.kind==.function&&env.kindOf n==some .cell) then (n,NameKind.cell) else (n,k)).lookup x=some k->
  names.lookup x=some k\/(k=.cell/\names.lookup x=some .free)
 |[],x,h=>by simp at h
 |(n,q)::r,x,h=>by
  rw[nM,mO] at h;rw[mO];have hd:∀c:Bool,(if c=true then (n,NameKind.cell) else (n,q)).1=n:=λc=>by cases c<;>rfl
  rw[hd] at h;by_cases z:x=n
  ·subst z;simp only[xW] at h ⊢;split at h
   ·rename_i y;simp only[eU,nP] at y;cases h;exact .inr ⟨rfl,by rw[y.1.1]⟩
   ·cases h;exact .inl rfl
  ·have z':(x==n)=false:=by simpa using z
   simp only[z'] at h ⊢;exact MN h
theorem Iv{env:Env}:∀{names:List (Str×NameKind)} {x:Str},names.lookup x=some .free->
  (names.map λ(n,k)=>if (k==NameKind.free&&env.scope.kind==.function&&env.kindOf n==some .cell) then (n,NameKind.cell) else (n,k)).lookup x=some .cell \/
  (names.map λ(n,k)=>if (k==NameKind.free&&env.scope.kind==.function&&env.kindOf n==some .cell) then (n,NameKind.cell) else (n,k)).lookup x=some .free
 |[],x,h=>by simp at h
 |(n,q)::r,x,h=>by
  rw[mO] at h;rw[nM,mO];have hd:∀c:Bool,(if c=true then (n,NameKind.cell) else (n,q)).1=n:=λc=>by cases c<;>rfl
  rw[hd];by_cases z:x=n
  ·subst z;simp only[xW] at h ⊢;cases h
   split
   ·exact .inl rfl
   ·exact .inr rfl
  ·have z':(x==n)=false:=by simpa using z
   simp only[z'] at h ⊢;exact Iv h
structure lR(n:Nat)(h1:Heap)(names:List (Str×NameKind))(cl iB:List (Str×Addr)):Prop where
 d1:∀x c,iB.lookup x=some c->(cl.lookup x=some c/\(x,NameKind.cell)∉names)\/((x,NameKind.cell)∈names/\n<c/\h1.IsCell c none)
 d2:∀x y c,n<c->iB.lookup x=some c->iB.lookup y=some c->x=y
 d3:∀x,names.lookup x=some .cell->∃c,iB.lookup x=some c
 d4:∀x c,(x,NameKind.cell)∉names->cl.lookup x=some c->iB.lookup x=some c
theorem cc:(NameKind.cell==NameKind.cell)=true:=by decide
theorem Et:∀(names:List (Str×NameKind)) (h:Heap) (b:Addr) (o:Obj),h.get? b=some o->(pushCells h names).get? b=some o
 |[],h,b,o,e=>e
 |(x,k)::r,h,b,o,e=>by
  rw[pushCells]
  split
  ·exact Et r _ b o (cO _ e)
  ·exact Et r h b o e
theorem MP:∀(names:List (Str×NameKind)) (h:Heap) (acc:List (Str×Addr)) (x:Str) (c:Addr),(cellsFrom h.objs.size names acc).lookup x=some c->
  (acc.lookup x=some c/\(x,NameKind.cell)∉names)\/((x,NameKind.cell)∈names/\h.objs.size<=c/\(pushCells h names).IsCell c none)
 |[],h,acc,x,c,e=>.inl ⟨e,by simp⟩
 |(y,k)::r,h,acc,x,c,e=>by
  rw[cellsFrom] at e;rw[pushCells];by_cases hk:k=.cell
  ·subst hk;rw[if_pos cc] at e ⊢;have sz:(h.push {cls:=Value.type "cell",data:=Data.cell none}).objs.size=h.objs.size+1:=by unfold Heap.push;simp
   rw[<-sz] at e;rcases MP r _ _ x c e with ⟨a,b⟩|⟨a,b,d⟩
   ·rw[mO] at a;by_cases z:x=y
    ·subst z;simp at a;subst a;exact .inr ⟨nH,bU _,_,Et r _ _ _ (gw _ rfl),rfl⟩
    ·have z':(x==y)=false:=by simpa using z
     rw[z'] at a;exact .inl ⟨a,by simp[z,b]⟩
   ·exact .inr ⟨iy _ a,by lia,d⟩
  ·have hb:(k==NameKind.cell)=false:=by simpa using hk
   rw[if_neg (by rw[hb];decide)] at e ⊢;rcases MP r _ _ x c e with ⟨a,b⟩|⟨a,b,d⟩
   ·exact .inl ⟨a,by simp[b];intro _ q;exact hk q.symm⟩
   ·exact .inr ⟨iy _ a,b,d⟩
theorem M4:∀(names:List (Str×NameKind)) (n:Nat) (acc:List (Str×Addr)) (x y:Str) (c:Addr),(∀u v,acc.lookup u=some c->acc.lookup v=some c->u=v)->(∀u a,acc.lookup u=some a->a<n\/a≠c)->(cellsFrom n names acc).lookup x=some c->(cellsFrom n names acc).lookup y=some c->x=y
 |[],n,acc,x,y,c,h,_,e1,e2=>h x y e1 e2
 |(z,k)::r,n,acc,x,y,c,h,hl,e1,e2=>by
  rw[cellsFrom] at e1 e2;by_cases hk:k=.cell
  ·subst hk;rw[if_pos cc] at e1 e2;refine M4 r (n+1) _ x y c (λu v a b=>?_) (λu a q=>?_) e1 e2
   ·rw[mO] at a b;by_cases u1:u=z
    ·by_cases v1:v=z
     ·rw[u1,v1]
     ·have v':(v==z)=false:=by simpa using v1
      subst u1;simp at a;rw[v'] at b;subst a;have b:acc.lookup v=some n:=b;rcases hl v n b with q|q
      ·exact absurd q (pA _)
      ·exact absurd rfl q
    ·have u':(u==z)=false:=by simpa using u1
     rw[u'] at a;have a:acc.lookup u=some c:=a;by_cases v1:v=z
     ·subst v1;simp at b;subst b;rcases hl u n a with q|q
      ·exact absurd q (pA _)
      ·exact absurd rfl q
     ·have v':(v==z)=false:=by simpa using v1
      rw[v'] at b;exact h u v a b
   ·rw[mO] at q;by_cases u1:u=z
    ·subst u1;simp at q;subst q;exact .inl (Hz _)
    ·have u':(u==z)=false:=by simpa using u1
     rw[u'] at q;exact(hl u a q).imp (λq=>Cm q) id
  ·have hb:(k==NameKind.cell)=false:=by simpa using hk
   rw[if_neg (by rw[hb];decide)] at e1 e2;exact M4 r n acc x y c h hl e1 e2
theorem M5:∀(names:List (Str×NameKind)) (n:Nat) (acc:List (Str×Addr)) (x:Str) (c:Addr),(x,NameKind.cell)∉names->acc.lookup x=some c->(cellsFrom n names acc).lookup x=some c
 |[],n,acc,x,c,_,e=>e
 |(z,k)::r,n,acc,x,c,h,e=>by
  rw[cellsFrom];have hr:(x,NameKind.cell)∉r:=λq=>h (iy _ q);by_cases hk:k=.cell
  ·subst hk;rw[if_pos cc];refine M5 r (n+1) _ x c hr ?_;have:x≠z:=λq=>h (by rw[q];exact nH);have z':(x==z)=false:=by simpa using this
   rw[mO,z'];exact e
  ·have hb:(k==NameKind.cell)=false:=by simpa using hk
   rw[if_neg (by rw[hb];decide)];exact M5 r n acc x c hr e
theorem M6:∀(names:List (Str×NameKind)) (acc:List (Str×Addr)) (s:Shared) (Q:List (Str×Addr)->Shared->Prop),
  Q (cellsFrom s.heap.objs.size names acc) {s with heap:=pushCells s.heap names}->
  wpAny M A (forIn names acc λx (cells:List (Str×Addr))=>match x with
   |(name,kind)=>if (kind==NameKind.cell)=true then do
     let a <-alloc {cls:=Value.type "cell",data:=Data.cell none}
     pure (ForInStep.yield ((name,a)::cells))
    else pure (ForInStep.yield cells)) Q E s
 |[],acc,s,Q,h=>by
  rw[HJ];exact aZ h
 |(z,k)::r,acc,s,Q,h=>by
  rw[Cr];rw[cellsFrom,pushCells] at h;by_cases hk:k=.cell
  ·subst hk;rw[if_pos cc,if_pos cc] at h;refine aC ?_;dsimp only;rw[if_pos cc];refine aC (wpAny_alloc (aZ ?_));refine M6 r _ _ Q ?_;have sz:(s.heap.push {cls:=Value.type "cell",data:=Data.cell none}).objs.size=s.heap.objs.size+1:=by unfold Heap.push;simp
   rw[sz];exact h
  ·have hb:(k==NameKind.cell)=false:=by simpa using hk
   rw[if_neg (by rw[hb];decide),if_neg (by rw[hb];decide)] at h;refine aC ?_;dsimp only;rw[if_neg (by rw[hb];decide)];exact aZ (M6 r _ _ Q h)
theorem zfd(old:∀x c,cl.lookup x=some c->c<s.heap.objs.size)(inj:∀x y c,cl.lookup x=some c->cl.lookup y=some c->x=y)
  (h:∀h1 iB,h1.Ns s.heap.objs.size (λ_=>none)->(∀b o,s.heap.get? b=some o->h1.get? b=some o)->lR s.heap.objs.size h1 scope.names cl iB->Q {scope:=scope,locals:=s.heap.objs.size,globals:=globals,cells:=iB,qual:=qual,func:=none,code:=env.code,frame:=env.frame,builtins:=env.builtins} {s with heap:=h1}) :
  wpAny M A (newFunctionEnv scope globals cl [] qual none .none (some env)) Q E s:=by
 unfold newFunctionEnv;refine aC (wpAny_alloc ?_);refine aC ?_;refine M6 scope.names cl _ _ ?_;dsimp only;rw[HJ];refine aC (aZ (aZ ?_));have sz:(s.heap.push {cls:=Value.type (if (some env).isSome=true then "dict" else "frame"),data:=Data.dict #[]}).objs.size=s.heap.objs.size+1:=by unfold Heap.push;simp
 refine h _ _ ?_ (λb o e=>Et _ _ _ _ (cO _ e)) ⟨λx c e=>?_,λx y c hc e1 e2=>?_,λx e=>?_,λx c hx e=>M5 _ _ _ x c hx e⟩
 ·refine⟨_,#[],_,Et _ _ _ _ (gw _ rfl),rfl,?_,λ_=>rfl⟩;intro e he;simp at he
 ·rcases MP _ _ _ x c e with ⟨a,b⟩|⟨a,b,d⟩
  ·exact .inl ⟨a,b⟩
  ·rw[sz] at b;exact .inr ⟨a,by lia,d⟩
 ·exact M4 _ _ _ x y c (λu v a b=>inj u v c a b) (λu a q=>.inl (by rw[sz];exact Cm (old u a q))) e1 e2
 ·have:=Ko scope.names (s.heap.push {cls:=Value.type (if (some env).isSome=true then "dict" else "frame"),data:=Data.dict #[]}).objs.size cl (.inl e);exact Kh.mp this
noncomputable def Cx.blk(X:Cx)(scope:Scope)(cl:List (Str×Addr))(N:List Str)(C:Addr)(s3:Shared)(H3:Hp)(fp:List Addr)(ak:List (Addr×Obj)):Cx where
 prog:=X.prog
 w:=X.w
 K:=X.K
 mg:=X.mg
 base:=X.base
 A:=X.A
 N:=N
 s₀:=s3
 H₀:=H3
 env:=compEnvC scope cl C X.env
 outer:=X.stack
 stack:=X.stack
 ex:=fp
 fn:=λx=>scope.names.lookup x==some .cell
 aj:=X.aj
 pn:=X.pn++ak
 xe:=λ_ _=>False
structure cR(sc scope:Scope):Prop where
 kind:scope.kind=.function
 Um:∀y∈scope.names,y.2=.cell->scope.names.lookup y.1=some .cell
 free:∀y∈scope.names,y.2=.free->sc.names.lookup y.1=some .cell\/sc.names.lookup y.1=some .free
 loc:∀y∈scope.names,y.2=.local->scope.names.lookup y.1=some .local
section
variable {X:Cx}{ak:List (Addr×Obj)}{Z:St}{H:Hp}{s:Shared}{scope:Scope}{cl:List (Str×Addr)}{N:List Str}{fp:List Addr}{ZY:St}
theorem zhY{h1:Heap}{t:Nat}{iB:List (Str×Addr)}(I:Inv X ak Z H s)(B:cR X.env.scope scope)(c1:∀x c,cl.lookup x=some c->X.env.cells.lookup x=some c)(c2:∀x∈scope.names,x.2=.free->∃c,cl.lookup x.1=some c)
  (f:∀b∈fp,gC X ak H b) (fo:∀b∈fp,∃o,s.heap.get? b=some o) (hn:h1.Ns s.heap.objs.size (λ_=>none)) (kp:∀b o,s.heap.get? b=some o->h1.get? b=some o) (CN:lR s.heap.objs.size h1 scope.names cl iB)
  (hl:ZY.length=N.length) (hZ:∀(i:Nat) (x:Str) (v:V),N[i]?=some x->ZY[i]?=some (some v)->scope.names.lookup x=some .free/\∃j:Nat,X.N[j]?=some x/\Z[j]?=some (some v)) :
  Inv (X.blk scope iB N s.heap.objs.size s H fp ak) [] ZY H {s with heap:=h1,toks:=t}:=by
 have lt:∀b o,s.heap.get? b=some o->b≠s.heap.objs.size:=λb o q=>fD (cj q);have Uo:∀b,b≠X.env.locals->b∉X.fs->b∉frs X.stack:=λb a c z=>(fC.mp (I.jX b z)).elim a c;have mem_of:∀x k,scope.names.lookup x=some k->(x,k)∈scope.names:=λx k q=>Ac q;have old:∀x c,cl.lookup x=some c->c<s.heap.objs.size:=λx c q=>by
  obtain⟨v,o,q1,q2⟩:=I.cell x c (c1 x c q);exact cj q1
 have Uq:∀x,scope.names.lookup x=some .free->(x,NameKind.cell)∉scope.names:=λx q z=>by
  have:=B.Um _ z rfl;have this:scope.names.lookup x=some .cell:=this;rw[q] at this;cases this
 refine⟨⟨I.ok.mod,B.kind,I.ok.glob,I.ok.blt,bU _,λx y c a b=>?_,λx hx=>?_,λx c z q=>?_,I.ok.hd,I.ok.frames,.inl rfl,λb hb=>?_,I.bs,jP I.ok.yr I.sz,λb o q hb=>?_,λb hb=>Uo b (f b hb).2.1 (f b hb).2.2.1,I.stack,I.jY⟩,
  rfl,I.bare,Un.kept kp,⟨_,hn,λi x v e1 e2 e3=>?_⟩,λx c q=>?_,I.hok.fresh (bU _),λx c q=>?_,λp hp=>?_,I.hok.kept kp,hl⟩
 ·by_cases hc:s.heap.objs.size<c
  ·exact CN.d2 x y c hc a b
  ·rcases CN.d1 x c a with ⟨a1,_⟩|⟨_,a1,_⟩
   ·rcases CN.d1 y c b with ⟨b1,_⟩|⟨_,b1,_⟩
    ·exact I.ok.inj x y c (c1 x c a1) (c1 y c b1)
    ·exact absurd b1 hc
   ·exact absurd a1 hc
 ·have hx:(relabel scope X.env).names.lookup x=some .cell\/(relabel scope X.env).names.lookup x=some .free:=hx;have fr:scope.names.lookup x=some .cell\/scope.names.lookup x=some .free:=by
   rcases hx with hx|hx
   ·rcases MN hx with z|⟨_,z⟩
    ·exact .inl z
    ·exact .inr z
   ·rcases MN hx with z|⟨z,_⟩
    ·exact .inr z
    ·cases z
  rcases fr with fr|fr
  ·exact CN.d3 x fr
  ·obtain⟨c,hc⟩:=c2 (x,.free) (mem_of x _ fr) rfl;exact⟨c,CN.d4 x c (Uq x fr) hc⟩
 ·rcases CN.d1 x c q with ⟨_,q1⟩|⟨_,q1,_⟩
  ·have z:(scope.names.lookup x==some NameKind.cell)=true:=z;exact absurd (mem_of x _ (by simpa using z)) q1
  ·exact vQ q1
 ·obtain⟨o,q⟩:=fo b hb;refine⟨lt b o q,λx c z=>?_⟩;rcases CN.d1 x c z with ⟨q1,_⟩|⟨_,q1,_⟩
  ·exact(f b hb).2.2.2.2.1 x c (c1 x c q1)
  ·exact λe=>absurd (cj q) (by rw[<-e];exact Nat.not_lt.mpr (vQ q1))
 ·obtain⟨_,_,_,z,_⟩:=f b hb;rcases z with z|z
  ·exact I.ok.yt b o q z
  ·exact absurd (f9 (cj q) (jP I.ok.yr z)) (pA _)
 ·obtain⟨fr,j,hj,hv⟩:=hZ i x v e1 e2;have hk:=B.free (x,.free) (mem_of x _ fr) rfl;obtain⟨m,hm,hlk⟩:=I.loc;obtain⟨u,r,l⟩:=hlk j x v hj hv (hk.elim (λz=>.inr (.inl z)) λz=>.inr (.inr z));obtain⟨c',jo⟩:=c2 (x,.free) (mem_of x _ fr) rfl;have jo:cl.lookup x=some c':=jo;refine⟨u,r,.inr ⟨Iv fr,c',CN.d4 x c' (Uq x fr) jo,?_⟩⟩;rcases l with ⟨k1,_⟩|⟨_,c,k2,oc,k3,k4⟩
  ·have k1:X.env.scope.names.lookup x=some .local:=k1;rcases hk with hk|hk
   ·have hk:X.env.scope.names.lookup x=some .cell:=hk;rw[k1] at hk;cases hk
   ·have hk:X.env.scope.names.lookup x=some .free:=hk;rw[k1] at hk;cases hk
  ·have e:=c1 x c' jo;rw[k2] at e;cases e;exact⟨oc,kp _ oc k3,k4⟩
 ·rcases CN.d1 x c q with ⟨q1,_⟩|⟨_,_,q1⟩
  ·obtain⟨v,o,q1,q2⟩:=I.cell x c (c1 x c q1);exact⟨v,o,kp c o q1,q2⟩
  ·exact⟨none,q1⟩
 ·rcases CN.d1 x c q with ⟨q1,_⟩|⟨_,q1,_⟩
  ·exact I.gP x c (c1 x c q1)
  ·exact I.hok.fresh (vQ q1)
 ·have hp:p∈X.pn++ak:=by
   have z:p∈(X.pn++ak)++[]:=hp;simpa using z
  obtain⟨a1,a2,a3,a4,a5⟩:=I.pin p hp;exact⟨kp _ _ a1,a2,lt _ _ a1,Uo _ a3 a4,a5⟩
theorem zcX(I:Inv X ak Z H s)(f:∀b∈fp,gC X ak H b)(bZ:Inv (X.blk scope cl N s.heap.objs.size s H fp ak) [] Z' H' s'):Inv X ak Z H' s':=
 I.call' (ch:=fp) bZ.os bZ.base bZ.hok bZ.bare λb hb=>by
  obtain⟨_,a2,_,a4,a5,a6⟩:=f b hb;exact⟨a4.imp id λz=>Ce z,a2,a5,a6⟩
theorem Ur{Z':St}{H':Hp}{s':Shared}{h2:Heap}{C:Addr}(bZ:Inv X ak Z H' s')(hC:X.s₀.heap.objs.size<=C)(n1:H' C=none)(n2:C≠X.env.locals)(n3:∀x c,X.env.cells.lookup x=some c->c≠C)(n4:∀p∈X.pn++ak,p.1≠C)
  (sb:Heap.SameBut C s'.heap h2):Inv X ak Z H' {s' with heap:=h2}:=
 bZ.turned (t':=s'.toks) (λb o z q=>(sb.2 b z).trans q) n1 n2 (.inr hC) n3 n4
end
noncomputable abbrev n_(ifs:List Expr)(env:Env):Sem Bool:=forIn ifs true λc r=>if r=true then do let ok <-isTrue c env (eval c env);pure (ForInStep.yield ok) else pure (ForInStep.yield r)
theorem zfA{prog:Program}{w:World}{A:Around}{R:Result->Shared->Prop}{s:Shared}{elt target iter:Expr}{ifs:List Expr}{scope:Scope}{pos:Pos}{it acc:Value}{env:Env}(V:Nat->Shared->Prop)
  (turn:∀n s,V n s->wpAny (model prog w) A (pyNext it) (λr s₁=>match r with
   |none=>R (.ok .next) s₁
   |some v=>wpAny (model prog w) A (letOwnedTupleGo target it v) (λ_ s₂=>wpAny (model prog w) A (assign target env v) (λ_ s₃=>
     wpAny (model prog w) A (n_ ifs env) (λok s₄=>
      if ok=true then wpAny (model prog w) A (eval elt env) (λx s₅=>wpAny (model prog w) A (call (.builtin "list.append") [acc,x]) (λ_ s₆=>∃m,m<n/\V m s₆) (λ_ _=>False) s₅) (λ_ _=>False) s₄
      else ∃m,m<n/\V m s₄) (λ_ _=>False) s₃) (λ_ _=>False) s₂) (λ_ _=>False) s₁) (λ_ _=>False) s)
  (n:Nat) (h:V n s):codeAny (model prog w) A (.compLoop (.ListComp elt [⟨target,iter,ifs,0⟩] scope pos) 0 it acc env) R s:=by
 refine codeAny_loop rfl V (λn s hV=>?_) n h;show wpAny _ A ((compTurn (.ListComp elt [⟨target,iter,ifs,0⟩] scope pos) 0 it acc env).onRaise (λx=>do noteFrame x env;theTreesLotGoes x)) _ _ s;refine wpAny_noted ?_;rw[compTurn_list];refine aC (wpAny_standAt (aC (nO (turn n s hV) (λr s₁ h₁=>?_) λ_ _ z=>z.elim)));cases r with
 |none=>exact aZ h₁
 |some v=>
  refine aC (nO h₁ (λ_ s₂ h₂=>?_) λ_ _ z=>z.elim);refine aC (nO h₂ (λ_ s₃ h₃=>aC (nO h₃ (λok s₄ h₄=>?_) λ_ _ z=>z.elim)) λ_ _ z=>z.elim);cases ok with
  |true=>
   simp only[if_true] at h₄ ⊢;exact aC (aC (nO h₄ (λx s₅ h₅=>aC (nO h₅ (λ_ s₆ h₆=>aZ (aZ ⟨rfl,h₆⟩)) λ_ _ z=>z.elim)) λ_ _ z=>z.elim))
  |false=>
   simp only[Ht,xZ] at h₄ ⊢;exact aZ ⟨rfl,h₄⟩
def Iw(X:Cx)(ifs:List Expr)(t:TT):Prop:=
 ∀(ak:List (Addr×Obj)) (s:Shared) (Z:St) (H:Hp) (Q:Bool->Hp->Prop),Inv X ak Z H s->t Z H Q->wpAny (model X.prog X.w) X.A (n_ ifs X.env) (TP X ak Z Q) X.xe s
noncomputable def M7:TT:=λ_ H Q=>Q true H
theorem zhL:Iw X [] M7:=λ_ _ _ H _ I h=>wpAny_tests_nil ⟨H,I,h⟩
theorem ziN(h:PT X c t):Iw X [c] t:=λak s Z H Q I hq=>wpAny_tests_one (h ak s Z H Q I hq)
def Eu(ZY:St->St)(g:TG)(tt:TT)(te:TE)(bZ:It)(Z:St)(H:Hp)(Q:VK):Prop:=∀D,H D=none->∃W:Nat->Nat->St->Hp->Prop,(∃m,W 0 m (ZY Z) (upd H D (.lst [])))/\∀i m Z' H',W i m Z' H'->
 (bZ.stop i H'/\Q (.ref D) H')\/(bZ.go i H'/\∃N:St->Hp->Prop,(∀Z2 H2,N Z2 H2->∃m',m'<m/\W (i+1) m' Z2 H2)/\∀x H2,bZ.yD i H' x H2->g x Z' H2 λZ3 H3=>tt Z3 H3 λok H4=>
  if ok=true then te Z3 H4 λy H5=>∃ys,H5 D=some (.lst ys)/\ys.length<sizeLine/\N Z3 (upd H5 D (.lst (ys++[y]))) else N Z3 H4)
section
variable {X:Cx}{elt tg iter:Expr}{ifs:List Expr}{scope:Scope}{pos:Pos}{N:List Str}{ZY:St->St}{wi:TI}{g:TG}{tt:TT}{te:TE}
structure Parts(X:Cx)(elt tg:Expr)(ifs:List Expr)(scope:Scope)(N:List Str)(g:TG)(tt:TT)(te:TE):Prop where
 tgt:∀cl C s3 H3 fp ak,PG (X.blk scope cl N C s3 H3 fp ak) tg g
 tst:∀cl C s3 H3 fp ak,Iw (X.blk scope cl N C s3 H3 fp ak) ifs tt
 el:∀cl C s3 H3 fp ak,PE (X.blk scope cl N C s3 H3 fp ak) elt te
theorem Us(hc:X.aj=true)(B:cR X.env.scope scope)(P:Parts X elt tg ifs scope N g tt te)(hl:∀Z,(ZY Z).length=N.length)
  (hZ:∀(Z:St) (i:Nat) (x:Str) (v:V),N[i]?=some x->(ZY Z)[i]?=some (some v)->scope.names.lookup x=some .free/\∃j:Nat,X.N[j]?=some x/\Z[j]?=some (some v))
  {ak:List (Addr×Obj)} {s:Shared} {Z:St} {H:Hp} {Q:VK} {it:Addr} {fp:List Addr} {tn:Nat->Heap->Prop} {bZ:It} (I:Inv X ak Z H s) (T:Turn X.prog X.w X.K tg bZ fp it tn) (st:tn 0 s.heap) (f:∀b∈fp,gC X ak H b) (h:Eu ZY g tt te bZ Z H Q)
  {cl:List (Str×Addr)} (c1:∀x c,cl.lookup x=some c->X.env.cells.lookup x=some c) (c2:∀x∈scope.names,x.2=.free->∃c,cl.lookup x.1=some c) {R:Value->Addr->Result->Shared->Prop} {E:Value->Shared->Prop}
  (k:∀D C s' H',Inv X ak Z H' s'->X.s₀.heap.objs.size<=C->H' C=none->C≠X.env.locals->(∀x c,X.env.cells.lookup x=some c->c≠C)->(∀p∈X.pn++ak,p.1≠C)->(∃m,s'.heap.Ns C m)->Q (.ref D) H'->R (.ref D) C (.ok .next) s') :
  wpAny (model X.prog X.w) X.A (newList []) (λacc s₃=>wpAny (model X.prog X.w) X.A (newFunctionEnv scope X.env.globals cl [] X.env.qual none .none (some X.env)) (λcenv s₄=>
   codeAny (model X.prog X.w) X.A (.compStart (.ListComp elt [⟨tg,iter,ifs,0⟩] scope pos) 0 (.ref it) acc {cenv with scope:=relabel scope X.env}) (R acc cenv.locals) s₄) E s₃) E s:=by
 refine o_ ?_;have hD:H s.heap.objs.size=none:=I.hok.fresh (bU _);have I3:Inv X ak Z (upd H s.heap.objs.size (.lst [])) {s with heap:=s.heap.push {cls:=.type "list",dict:=none,data:=.seq ([]:List Value).toArray}}:=
  I.laid (t':=s.toks) (λb u q=>cO _ q) (bU _) ⟨jQ _,[],0,.nil,gw _ rfl⟩
 have f3:∀b∈fp,gC X ak (upd H s.heap.objs.size (.lst [])) b:=λb hb=>by
  obtain⟨a1,a2⟩:=f b hb;obtain⟨o,q,_⟩:=T.obj 0 _ st b hb;exact⟨by rw[dz (fD (cj q))];exact a1,a2⟩
 have st3:tn 0 (s.heap.push {cls:=.type "list",dict:=none,data:=.seq ([]:List Value).toArray}):=T.keep _ _ _ st λb hb o q=>cO _ q;obtain⟨W,⟨m0,w0⟩,turn⟩:=h s.heap.objs.size hD;generalize M8:({s with heap:=s.heap.push {cls:=.type "list",dict:=none,data:=.seq ([]:List Value).toArray}}:Shared)=s3 at *;have yP:tn 0 s3.heap:=by rw[<-M8];exact st3
 generalize hH3:upd H s.heap.objs.size (.lst [])=H3 at *;refine zfd (λx c q=>by obtain⟨v,o,q1,_⟩:=I3.cell x c (c1 x c q);exact cj q1) (λx y c a b=>I3.ok.inj x y c (c1 x c a) (c1 y c b)) λh1 iB hn kp CN=>?_;have M9:Inv (X.blk scope iB N s3.heap.objs.size s3 H3 fp ak) [] (ZY Z) H3 {s3 with heap:=h1}:=
  zhY (t:=s3.toks) I3 B c1 c2 f3 (λb hb=>let ⟨o,q,_⟩:=T.obj 0 _ yP b hb;⟨o,q⟩) hn kp CN (hl Z) (hZ Z)
 have Ut:tn 0 h1:=T.keep _ _ _ yP λb hb o q=>kp b o q;have fY:∀{H':Hp},(∀b∈fp,H' b=none)->∀b∈fp,gC (X.blk scope iB N s3.heap.objs.size s3 H3 fp ak) [] H' b:=λ{H'} z b hb=>by
  obtain⟨a1,a2,a3,a4,a5,a6⟩:=f3 b hb;obtain⟨o,q,_⟩:=T.obj 0 _ yP b hb;refine⟨z b hb,fD (cj q),λy=>(fC.mp (I3.jX b y)).elim a2 a3,.inl hb,λx c y=>?_,λp hp=>a6 p ?_⟩
  ·rcases CN.d1 x c y with ⟨q1,_⟩|⟨_,q1,_⟩
   ·exact a5 x c (c1 x c q1)
   ·exact λe=>absurd (cj q) (by rw[<-e];exact Nat.not_lt.mpr (vQ q1))
  have y:p∈(X.pn++ak)++[]:=hp;simpa using y
 have loop:codeAny (model X.prog X.w) X.A (.compLoop (.ListComp elt [⟨tg,iter,ifs,0⟩] scope pos) 0 (.ref it) (.ref s.heap.objs.size) (compEnvC scope iB s3.heap.objs.size X.env)) (R (.ref s.heap.objs.size) s3.heap.objs.size) {s3 with heap:=h1}:=by
  refine zfA (λn s'=>∃i Z' H',Inv (X.blk scope iB N s3.heap.objs.size s3 H3 fp ak) [] Z' H' s'/\tn i s'.heap/\(∀b∈fp,H' b=none)/\W i n Z' H') ?_ m0 ⟨0,ZY Z,H3,M9,Ut,λb hb=>(f3 b hb).1,w0⟩;rintro n s5 ⟨i,Z5,H5,uG,Ar,Ik,w5⟩;rcases turn i n Z5 H5 w5 with ⟨stop,q⟩|⟨go,Nx,hN,step⟩
  ·refine aW (T.done (X.blk scope iB N s3.heap.objs.size s3 H3 fp ak) rfl rfl rfl hc i [] s5 Z5 H5 _ uG (fY Ik) Ar stop) λr s6 ⟨hr,yQ⟩=>?_;subst hr;have JX:=zcX I3 f3 yQ;refine k s.heap.objs.size s3.heap.objs.size s6 H5 JX I3.sz yQ.free (Aj I3.lt) (λx c y z=>?_) (λp hp z=>?_) ?_ q
   ·obtain⟨v,qc⟩:=I3.cell x c y;exact absurd qc.lt (by rw[z];exact pA _)
   ·exact absurd (cj (I3.pin p hp).1) (by rw[z];exact pA _)
   ·obtain⟨m,hm,_⟩:=yQ.loc;exact⟨m,hm⟩
  ·refine aW (T.item (X.blk scope iB N s3.heap.objs.size s3 H3 fp ak) rfl rfl rfl hc i [] s5 Z5 H5 _ uG (fY Ik) Ar go) λr s6 hx=>tZ hx λu hr h6=>?_;subst hr;refine aW h6 λ_ s7 hz=>?_;obtain⟨x,H7,M_,r7,y7,Nb,fr7⟩:=hz;have Ew:=M_.pinned (fY fr7) (T.obj _ _ Nb);refine aW (P.tgt iB s3.heap.objs.size s3 H3 fp ak _ s7 Z5 H7 x u _ Ew r7 (step x H7 y7)) λ_ s8 hz=>?_;obtain⟨Z8,H8,Nf,q8⟩:=hz;refine aW (P.tst iB s3.heap.objs.size s3 H3 fp ak _ s8 Z8 H8 _ Nf q8) λok s9 hx=>tZ hx λH9 Ey q9=>?_;have again:∀{H':Hp} {s':Shared},Inv (X.blk scope iB N s3.heap.objs.size s3 H3 fp ak) ([]++iJ fp s7.heap) Z8 H' s'->Nx Z8 H'->∃m,m<n/\∃i Z' H',Inv (X.blk scope iB N s3.heap.objs.size s3 H3 fp ak) [] Z' H' s'/\tn i s'.heap/\(∀b∈fp,H' b=none)/\W i m Z' H':=λ{H' s'} mY n'=>by
    obtain⟨m',hm,w'⟩:=hN Z8 H' n';refine⟨m',hm,i+1,Z8,H',mY.fL,T.keep _ _ _ Nb λb hb o e=>(mY.pin (b,o) (sJ _ (sJ _ (Ij hb e)))).1,λb hb=>?_,w'⟩;obtain⟨o,e,d⟩:=T.obj _ _ Nb b hb;exact(mY.pin (b,o) (sJ _ (sJ _ (Ij hb e)))).2.1
   cases ok with
   |false=>
    rw[if_neg J0] at q9 ⊢;exact again Ey q9
   |true=>
    rw[if_pos rfl] at q9 ⊢;refine aW (P.el iB s3.heap.objs.size s3 H3 fp ak _ s9 Z8 H9 _ Ey q9) λv s10 hz=>?_;obtain⟨y,H10,Ez,r10,ys,Ng,hz,q10⟩:=hz;refine aW (Uc (X:=(X.blk scope iB N s3.heap.objs.size s3 H3 fp ak)) _ s10 Z8 H10 (.ref s.heap.objs.size) [y] (.ref s.heap.objs.size) [v] (λ_ H'=>Nx Z8 H') Ez rfl (.cons r10 .nil) ⟨s.heap.objs.size,ys,y,rfl,rfl,Ng,hz,q10⟩) λ_ s11 hx=>dw hx λ_ H11 EY _ q11=>again EY q11
 exact codeAny_compStart_list loop (T.self _ 0 _ _ _ Ut loop)
end
noncomputable def qM(wi:TI)(ZY:St->St)(g:TG)(tt:TT)(te:TE):TE:=λZ H Q=>wi Z H λbZ H1=>Eu ZY g tt te bZ Z H1 Q
section
variable {X:Cx}{elt tg iter:Expr}{ifs:List Expr}{scope:Scope}{pos spos py:Pos}{N:List Str}{ZY:St->St}{wi:TI}{g:TG}{tt:TT}{te:TE}{i:Nat}{y:Str}
theorem Uu(I:Inv X ak Z H s)(B:cR X.env.scope scope):∃cl,closureFor scope X.env=pure cl/\(∀x c,cl.lookup x=some c->X.env.cells.lookup x=some c)/\∀x∈scope.names,x.2=.free->∃c,cl.lookup x.1=some c:=
 zd7 λx hx hf=>I.ok.has x.1 (B.free x hx hf)
theorem ziy(hc:X.aj=true)(B:cR X.env.scope scope)(hi:PI X tg iter wi)(P:Parts X elt tg ifs scope N g tt te)(hl:∀Z,(ZY Z).length=N.length)
  (hZ:∀(Z:St) (i:Nat) (x:Str) (v:V),N[i]?=some x->(ZY Z)[i]?=some (some v)->scope.names.lookup x=some .free/\∃j:Nat,X.N[j]?=some x/\Z[j]?=some (some v))
  (hs:∀x,foldedSetIterable iter X.env x=pure x:=by intro _;rfl):PE X (.ListComp elt [⟨tg,iter,ifs,0⟩] scope pos) (qM wi ZY g tt te):=by
 intro ak s Z H Q I h;obtain⟨cl,Ay,c1,c2⟩:=Uu I B;rw[eval_ListComp];refine wpAny_comprehension_free (use:=none) rfl hs Ay B.kind B.loc (aW (hi ak s Z H _ I h) λxv s1 h1=>aW h1 λitv s2 h2=>?_);obtain⟨it,fp,tn,bZ,H2,e,I2,T,st2,f2,hq⟩:=h2;subst e;exact Us hc B P hl hZ I2 T st2 f2 hq c1 c2 (R:=λacc C=>compPost (model X.prog X.w) X.A X.xe none (EP X ak Z Q) acc C) λD C s' H' mY a b c d e ⟨m,hm⟩ q=>⟨m,hm,λh' sb=>⟨.ref D,H',Ur (Z':=Z) mY a b c d e sb,rfl,q⟩⟩
theorem zea(hc:X.aj=true)(hN:X.N.Nodup)(E_:X.N[i]?=some y)(hx:Loc X.env.scope y)(hf:X.fn y=true\/X.env.scope.names.lookup y=some .local)(B:cR X.env.scope scope)(hi:PI X tg iter wi)(P:Parts X elt tg ifs scope N g tt te)(hl:∀Z,(ZY Z).length=N.length)
  (hZ:∀(Z:St) (i:Nat) (x:Str) (v:V),N[i]?=some x->(ZY Z)[i]?=some (some v)->scope.names.lookup x=some .free/\∃j:Nat,X.N[j]?=some x/\Z[j]?=some (some v))
  (Fb:swapsWith (.ListComp elt [⟨tg,iter,ifs,0⟩] scope pos) (some (.Name y py)) spos.line X.env=pure true) (hs:∀x,foldedSetIterable iter X.env x=pure x:=by intro _;rfl) :
  PS X (.Assign [.Name y py] (.ListComp elt [⟨tg,iter,ifs,0⟩] scope pos) spos) (yC (qM wi ZY g tt te) (cX i)):=by
 intro ak s Z H D I h;obtain⟨cl,Ay,c1,c2⟩:=Uu I B;rw[exec_Assign_Name_used _ _ _ _ Fb];refine aC (wpAny_standAt (aC ?_));show wpAny _ X.A (do let _ <-comprehension (.ListComp elt [⟨tg,iter,ifs,0⟩] scope pos) scope X.env _ (newList []) false (eval iter X.env) (some (assign (.Name y py) X.env))) _ _ s;refine aC (wpAny_comprehension_free (use:=some (assign (.Name y py) X.env)) rfl hs Ay B.kind B.loc (aW (hi ak s Z H _ I h) λxv s1 h1=>aW h1 λitv s2 h2=>?_));obtain⟨it,fp,tn,bZ,H2,e,I2,T,st2,f2,hq⟩:=h2;subst e;refine Us hc B P hl hZ I2 T st2 f2 hq c1 c2 (R:=λacc C=>compPost (model X.prog X.w) X.A X.xe (some (assign (.Name y py) X.env)) _ acc C) λD' C s' H' mY a b c d e ⟨m,hm⟩ q=>?_;show wpAny _ _ (assign (.Name y py) X.env (.ref D')) _ _ s';refine wpAny_assign_Name (SQ (v:=.ref D') mY hN E_ hx rfl (λs5 uG ⟨ad,sb,had⟩=>?_) hf);have nC:C≠ad:=by
  rcases had with z|z
  ·rw[z];exact c
  ·exact(d y ad z).symm
 obtain⟨ol,es,ep,e1,r1⟩:=hm;refine⟨m,⟨ol,es,ep,(sb.2 C nC).trans e1,r1⟩,λh' sb'=>aZ (aZ ⟨_,H',Ur (Z':=Z) uG a b c d e sb',q⟩)⟩
end
end L2
namespace L2
open PySem PySem.Spec PyProof.Rows PySem.W
noncomputable def bJ{α:Type}(lt:Nat->Nat->Option Bool):KasT α->Option α
 |.ret a=>some a
 |.ask i j k=>match lt i j with
  |some b=>bJ lt (k b)
  |none=>none
theorem Uv{α:Type}{lt:Nat->Nat->Option Bool}{cmp:Nat->Nat->(Bool->Shared->Prop)->Shared->Prop}{Q:α->Shared->Prop}{s:Shared}(hc:∀i j b C,lt i j=some b->C b s->cmp i j C s){a:α}(q:Q a s):∀{t:KasT α},bJ lt t=some a->t.kasWp cmp Q s
 |.ret a',h=>by
  unfold bJ at h;cases h;exact q
 |.ask i j k,h=>by
  unfold bJ at h;cases e:lt i j with
  |none=>rw[e] at h;cases h
  |some b=>
   rw[e] at h;exact hc i j b _ e (Uv hc q h)
noncomputable def iu(vs:List Value)(p:Array Nat):Array Value:=if vs.length<2 then vs.toArray else List.toArray (p.toList.map λi=>vs.getD i Value.none)
section
variable {prog:Program}{w:World}{A:Around}{E:Value->Shared->Prop}{s:Shared}{κ:SortKind}{lt:Nat->Nat->Option Bool}{p:Array Nat}
theorem zco{a:Addr}{vs:List Value}{n:Nat}{P:PySem.Fin->Shared->Prop}(ho:s.heap.get? a=some (seqObj "list" vs.toArray n))(qN:vs.length<64)
  (hk:2<=vs.length->∀(s':Shared) (Q:SortKind->Shared->Prop),(∀b o,b≠a->s.heap.get? b=some o->s'.heap.get? b=some o)->Q κ s'->wpAny (model prog w) A (keyKind' vs.toArray) Q E s')
  (gD:2<=vs.length->∀(s':Shared) i j b C,(∀b o,b≠a->s.heap.get? b=some o->s'.heap.get? b=some o)->lt i j=some b->C b s'->kas_ask prog w A κ vs i j C s') (hr:2<=vs.length->bJ lt (kas_sort vs.length)=some p) (Nh:2<=vs.length->p.size=vs.length)
  (h:P (.done (.ret .none)) {s with heap:=sortedHeap s.heap a vs (iu vs p)}) :
  wpAny (model prog w) A (Builtin.«list.sort» ⟨[.ref a],[]⟩) P E s:=by
 rw[list_sort_plain];have ha:a<s.heap.objs.size:=cj ho;refine aC (listItems_at ho rfl ?_);refine aC (listUpdate_at ho rfl ?_ (by rw[dO,qy];lia) (jQ _));obtain⟨e1,Iz⟩ : ∃e1,(s.heap.update a (Obj.mapSeq λ_=>#[])).get? a=some (seqObj "list" #[] e1):=⟨_,get?_update_seq ho (λ_=>#[])⟩;refine aC (seqEpoch_at Iz rfl ?_);refine aC (wpAny_newTuple ?_ (by show vs.length<=_;rw[qy];lia));refine aC (wpAny_newList ?_ (jQ _));refine qx ?_;have keep:∀b o,b≠a->s.heap.get? b=some o->(((s.heap.update a (Obj.mapSeq λ_=>(#[]:Array Value))).push (seqObj "tuple" vs.toArray 0)).push (seqObj "list" #[] 0)).get? b=some o:=λb o nb e=>
  cO _ (cO _ ((Heap.get?_update_ne _ _ _ _ nb).trans e))
 have IK:(((s.heap.update a (Obj.mapSeq λ_=>(#[]:Array Value))).push (seqObj "tuple" vs.toArray 0)).push (seqObj "list" #[] 0)).get? a=some (seqObj "list" #[] e1):=by
  rw[Hv _ _ _ (by rw[size_push',Heap.size_update];exact fD (Cm ha)),Hv _ _ _ (by rw[Heap.size_update];exact fD ha)];exact Iz
 show wpAny (model prog w) A _ P E {s with heap:=((s.heap.update a (Obj.mapSeq λ_=>#[])).push (seqObj "tuple" vs.toArray 0)).push (seqObj "list" #[] 0)};dsimp only;have lq:vs.toArray.size=vs.length:=by simp
 by_cases h2:vs.toArray.size<2
 ·rw[if_pos h2,if_pos h2];refine aC (aZ ?_);rw[StateT.run_pure];refine aC (aZ ?_);dsimp only;refine aC (seqEpoch_at IK rfl ?_);refine aC (listUpdate_at IK rfl ?_ (jQ _) (by rw[Array.size_map];show (pairsOf vs).size<=_;rw[pairsOf_size,qy];lia));simp only[bne_self_eq_false,Ht,xZ];have e:((vs.toArray.zip vs.toArray).map (·.2))=iu vs p:=by
   unfold iu;rw[if_pos (by rw[lq] at h2;exact h2)];apply Array.toList_inj.mp;simp[List.map_snd_zip]
  refine aZ ?_;have h':=h;rw[<-e] at h';exact h'
 ·rw[if_neg h2,if_neg h2];have lU:2<=vs.length:=by lia
  refine aC (hk lU _ _ keep ?_);refine aC (nO (kat_run (κ:=κ) (ks:=vs) (vs:=vs) (G:=λp' s'=>p'=p/\s'={s with heap:=((s.heap.update a (Obj.mapSeq λ_=>#[])).push (seqObj "tuple" vs.toArray 0)).push (seqObj "list" #[] 0)})
   (Q:=λst' s'=>arrOf st'=p.map (kas_item (vs.toArray.zip vs.toArray))/\failedOf st'=none/\s'={s with heap:=((s.heap.update a (Obj.mapSeq λ_=>#[])).push (seqObj "tuple" vs.toArray 0)).push (seqObj "list" #[] 0)})
   rfl lU qN (λp' st' s' a1 a2 a3 a4=>⟨by rw[a2,a4.1],a3,a4.2⟩) (Uv (λi j b C hl hC=>gD lU _ i j b C keep hl hC) ⟨rfl,rfl⟩ (hr lU))) ?_ λ_ _ e=>e)
  rintro⟨⟨⟩,st'⟩ s' ⟨IV,hf,rfl⟩;dsimp only;have hout:=kat_snds (ks:=vs) (vs:=vs) rfl IV;have e:List.toArray (p.toList.map λi=>vs.getD i Value.none)=iu vs p:=by
   unfold iu;rw[if_neg gV]
  rw[hout,e];have hso:(iu vs p).size=vs.length:=by rw[<-e,dO,cJ,vJ,Nh lU]
  refine aC (seqEpoch_at IK rfl ?_);refine aC (listUpdate_at IK rfl ?_ (jQ _) (by rw[hso,qy];lia));rw[hf];simp only[bne_self_eq_false,Ht,xZ];exact aZ h
theorem Ni(hl:s.heap.IsList l vs.toArray)(qN:vs.length<64)
  (hk:2<=vs.length->∀(s':Shared) (Q:SortKind->Shared->Prop) E,(∀b o,s.heap.get? b=some o->s'.heap.get? b=some o)->Q κ s'->wpAny (model prog w) A.in1.in1 (keyKind' vs.toArray) Q E s')
  (gD:2<=vs.length->∀(s':Shared) i j b C,(∀b o,s.heap.get? b=some o->s'.heap.get? b=some o)->lt i j=some b->C b s'->kas_ask prog w A.in1.in1 κ vs i j C s') (hr:2<=vs.length->bJ lt (kas_sort vs.length)=some p) (Nh:2<=vs.length->p.size=vs.length)
  (h:Q (.ref (s.heap.objs.size+1)) {s with heap:=sortedAll s.heap vs (iu vs p)}) :
  wpAny (model prog w) A (call (.builtin "sorted") [.ref l]) Q E s:=by
 refine Calls.call_function_entry kind_sorted plain_sorted entry_sorted (args_sorted1 _) ?_;unfold Builtin.«sorted»;refine aC (m:=checkCount "sorted" 1 1 _) (aZ ?_);refine aC (collect_list hl ?_ (by rw[qy];lia));refine aC (wpAny_newList ?_ (by rw[qy];lia));have lq:((s.heap.push (seqObj "list" #[] 0)).update s.heap.objs.size (Obj.mapSeq (·++vs.toArray))).objs.size=s.heap.objs.size+1:=by
  rw[Heap.size_update,size_push']
 have Ib:(((s.heap.push (seqObj "list" #[] 0)).update s.heap.objs.size (Obj.mapSeq (·++vs.toArray))).push (seqObj "list" vs.toArray 0)).get? (s.heap.objs.size+1)=some (seqObj "list" vs.toArray 0):=by
  rw[<-lq];exact gw _ rfl
 have keep:∀b o,s.heap.get? b=some o->(((s.heap.push (seqObj "list" #[] 0)).update s.heap.objs.size (Obj.mapSeq (·++vs.toArray))).push (seqObj "list" vs.toArray 0)).get? b=some o:=λb o q=>by
  have gD:b<s.heap.objs.size:=cj q;rw[Hv _ _ _ (by rw[lq];exact fD (Cm gD)),Heap.get?_update_ne _ _ _ _ (fD gD),Hv _ _ _ (fD gD)];exact q
 show wpAny _ _ _ _ _ {s with heap:=((s.heap.push (seqObj "list" #[] 0)).update s.heap.objs.size (Obj.mapSeq (·++vs.toArray))).push (seqObj "list" vs.toArray 0)};rw[lq];have nn:∀b o,s.heap.get? b=some o->b≠s.heap.objs.size+1:=λb o e=>fD (Cm (cj e));refine aC (qx (vL slot_list_sort ⟨_,Ib,rfl⟩ entry_list_sort (zco (κ:=κ) (lt:=lt) (p:=p) Ib qN (λh2 s' Q' k q=>hk h2 s' Q' _ (λb o e=>k b o (nn b o e) (keep b o e)) q) (λh2 s' i j b C k e q=>gD h2 s' i j b C (λb o e=>k b o (nn b o e) (keep b o e)) e q) hr Nh ⟨_,rfl,?_⟩) (args_list_sort _)));exact aZ ⟨_,rfl,h⟩
end
noncomputable def jq:List V->List V->Option Bool
 |[],ys=>some (decide (0<ys.length))
 |_::_,[]=>some false
 |.int x::xs,.int y::ys=>if x=y then jq xs ys else some (decide (x<y))
 |_::_,_::_=>none
theorem zj5{prog:Program}{w:World}{A:Around}{s:Shared}{fin:Bool}{C:Bool->Shared->Prop}{b:Bool}:∀{us ws:List V} {its jts:List Value} {i:Nat},Vals us its->Vals ws jts->jq us ws=some b->fin=decide (us.length<ws.length)->C b s->KatLex prog w A true fin C (its.zip jts) i s:=by
 intro us ws its jts i r1
 induction r1 generalizing ws jts i with
 |nil=>
  intro _ h hf hc;rw[List.zip_nil_left];unfold jq at h;cases h;rw[hf];exact kat_nil hc
 |@cons x u us its rx ri ih=>
  intro r2 h hf hc;cases r2 with
  |nil=>
   rw[List.zip_nil_right];unfold jq at h;cases h;rw[hf];exact kat_nil (by simpa using hc)
  |@cons y v ws jts ry rj=>
   rw[Cg];cases x with
   |int a=>
    cases y with
    |int c=>
     obtain⟨t,rfl⟩:=rx;obtain⟨t',rfl⟩:=ry;unfold jq at h;refine kat_cons (wpAny_eqBool_int ?_);by_cases e:a=c
     ·rw[if_pos e] at h;subst e;rw[xW];exact kat_yes (ih rj h (by rw[hf];simp) hc)
     ·rw[if_neg e] at h;cases h;rw[show (a==c)=false by simpa using e];refine kat_no ?_;by_cases hi:i=0
      ·subst hi;exact oneLt_int hc
      ·rw[show (true&&i==0)=false by simpa using hi];exact kat_one _ _ (wpAny_lt_int hc)
    |_=>cases h
   |_=>cases y<;>cases h
def qO(K:W.Frag)(H:Hp)(ys:List V)(lt:Nat->Nat->Option Bool):Prop:=
 ((∀v∈ys,∃i,v=V.int i)/\∀i j b,lt i j=some b->∃x y,ys[i]?=some (.int x)/\ys[j]?=some (.int y)/\b=decide (x<y)) \/
 ((∀v∈ys,∃a i r,v=.ref a/\eZ K H a (.int i::r))/\∀i j b,lt i j=some b->∃a c us ws,ys[i]?=some (.ref a)/\ys[j]?=some (.ref c)/\eZ K H a us/\eZ K H c ws/\jq us ws=some b)
noncomputable def jr(ys:List V)(p:Array Nat):List V:=if ys.length<2 then ys else p.toList.map λi=>ys.getD i .non
theorem Uw(r:Vals ys its):∀l:List Nat,Vals (l.map λi=>ys.getD i .non) (l.map λi=>its.getD i Value.none)
 |[]=>.nil
 |i::l=>by
  refine .cons ?_ (Uw r l);cases e:ys[i]? with
  |some y=>
   obtain⟨u,e1,e2⟩:=r.get e;show RelV (ys.getD i .non) (its.getD i Value.none);rw[nF,nF,e,e1];exact e2
  |none=>
   have e1:its[i]?=none:=by rw[oZ] at e ⊢;rw[<-r.length];exact e
   show RelV (ys.getD i .non) (its.getD i Value.none);rw[nF,nF,e,e1];rfl
theorem zgq{ys:List V}{its:List Value}(r:Vals ys its)(p:Array Nat):Vals (jr ys p) (iu its p).toList:=by
 unfold jr iu;rw[r.length];by_cases h:its.length<2
 ·rw[if_pos h,if_pos h];exact r
 ·rw[if_neg h,if_neg h];exact Uw r p.toList
theorem zgt{ys:List V}{its:List Value}(r:Vals ys its):∀u∈its,∃v∈ys,RelV v u:=by
 induction r with
 |nil=>intro u hu;cases hu
 |cons h t ih=>
  intro u hu;rcases fC.mp hu with rfl|hu
  ·exact⟨_,nH,h⟩
  ·obtain⟨v,a,b⟩:=ih u hu;exact⟨v,iy _ a,b⟩
section
variable {X:Cx}
theorem zeC{prog:Program}{w:World}{A:Around}{E:Value->Shared->Prop}{s:Shared}{its:List Value}{Q:SortKind->Shared->Prop}(h2:2<=its.length)(hi:∀u∈its,∃i t,u=Value.int i t)(q:Q oneType' s):wpAny (model prog w) A (keyKind' its.toArray) Q E s:=
 kas_kind (T:=.type "int") h2 (λv hv=>by obtain⟨i,t,rfl⟩:=hi v hv;exact .of_pure rfl) J0 J0 q
theorem ziu{K:W.Frag}{ak:List (Addr×Obj)}{s:Shared}{Z:St}{H:Hp}(I:Inv X ak Z H s){h':Heap}(k:∀b o,s.heap.get? b=some o->h'.get? b=some o):∀{ys:List V} {its:List Value},Vals ys its->(∀v∈ys,∃a i r,v=.ref a/\eZ X.K H a (.int i::r))->∃fs:List Value,fs.length=its.length/\(∀f∈fs,∃i t,f=Value.int i t)/\KatTups h' its fs:=by
 intro ys its r0
 induction r0 with
 |nil=>exact λ_=>⟨[],rfl,(λf hf=>by cases hf),trivial⟩
 |@cons v u ys its r rs ih=>
  intro h;obtain⟨a,i,r',rfl,hq⟩:=h _ nH;obtain⟨fs,l,hf,kt⟩:=ih λv hv=>h v (iy _ hv);obtain⟨its',rv,⟨o,ho,hc,n,hd⟩,_⟩:=I.tuple hq;cases (show u=Value.ref a from r);cases rv with
  |cons ri rr=>
   obtain⟨t,rfl⟩:=ri;refine⟨Value.int i t::fs,by simp[l],λf hf'=>?_,KatTups.cons (k _ _ ho) hc hd Nj kt⟩;rcases fC.mp hf' with rfl|z
   ·exact⟨i,t,rfl⟩
   ·exact hf f z
theorem zep{prog:Program}{w:World}{A:Around}{E:Value->Shared->Prop}{s:Shared}{its fs:List Value}{Q:SortKind->Shared->Prop}(h2:2<=its.length)(hl:fs.length=its.length)(hi:∀u∈fs,∃i t,u=Value.int i t)(kt:KatTups s.heap its fs)(q:Q (tuples' true) s):wpAny (model prog w) A (keyKind' its.toArray) Q E s:=
 kat_kind (T:=.type "int") kt gV (λv hv=>by obtain⟨i,t,rfl⟩:=hi v hv;exact .of_pure rfl) J0 q
theorem IW{its:List Value}{i:Nat}{u:Value}(h:its[i]?=some u):its.getD i Value.none=u:=by rw[nF,h];rfl
theorem zda:cC X (.builtin "sorted") (λxs H Q=>∃l ys lt p,xs=[.ref l]/\cZ X.K H l ys/\ys.length<64/\(2<=ys.length->qO X.K H ys lt/\bJ lt (kas_sort ys.length)=some p/\p.size=ys.length)/\∀r,H r=none->Q (.ref r) (upd H r (.lst (jr ys p)))):=by
 intro ak s Z H xs us Q I r h;obtain⟨l,ys,lt,p,rfl,hq,qN,hs,q⟩:=h;obtain⟨u,rfl,rx⟩:=vals1 r;cases rx;obtain⟨its,rv,pl,hz⟩:=I.list hq;have hlen:=rv.length;have fin:EP X ak Z Q (.ref (s.heap.objs.size+1)) {s with heap:=sortedAll s.heap its (iu its p)}:=by
  obtain⟨e,he⟩:=sortedAll_at s.heap its (iu its p);have hn:H (s.heap.objs.size+1)=none:=I.hok.fresh (Nat.le_succ _);refine⟨.ref (s.heap.objs.size+1),_,I.laid (t':=s.toks) (λb u q=>sortedAll_old q) (Nat.le_succ _) (show aR X.prog X.w _ _ _ (.lst (jr ys p)) from ⟨?_,(iu its p).toList,e,zgq rv p,by rw[Array.toArray_toList];exact he⟩),rfl,q _ hn⟩;unfold jr;by_cases h2:ys.length<2
  ·rw[if_pos h2];exact hz
  ·rw[if_neg h2,cJ,vJ,(hs gV).2.2];exact hz
 by_cases h2:2<=ys.length
 ·obtain⟨hS,hr,hp⟩:=hs h2;rcases hS with ⟨hI,gD⟩|⟨hT,gD⟩
  ·refine Ni (κ:=oneType') (lt:=lt) (p:=p) pl.isList gV (λlU s' Q' E' k q'=>zeC lU (λu hu=>?_) q') (λ_ s' i j b C k e hC=>?_) (λ_=>by rw[<-hlen];exact hr) (λ_=>by lia) fin
   ·obtain⟨v,hv,rr⟩:=zgt rv u hu;obtain⟨i,rfl⟩:=hI v hv;obtain⟨t,rfl⟩:=rr;exact⟨i,t,rfl⟩
   ·obtain⟨x,y,e1,e2,rfl⟩:=gD i j b e;obtain⟨u1,f1,g1⟩:=rv.get e1;obtain⟨u2,f2,g2⟩:=rv.get e2;obtain⟨t1,rfl⟩:=g1;obtain⟨t2,rfl⟩:=g2;show wpAny _ _ (keyLt' oneType' (its.getD i Value.none) (its.getD j Value.none)) C _ s';rw[IW f1,IW f2];exact kat_lt_int hC
  ·refine Ni (κ:=tuples' true) (lt:=lt) (p:=p) pl.isList gV (λlU s' Q' E' k q'=>?_) (λ_ s' i j b C k e hC=>?_) (λ_=>by rw[<-hlen];exact hr) (λ_=>by lia) fin
   ·obtain⟨fs,l1,hf,kt⟩:=ziu (K:=X.K) I k rv hT;exact zep lU l1 hf kt q'
   ·obtain⟨a,c,us,ws,e1,e2,q1,q2,e3⟩:=gD i j b e;obtain⟨u1,f1,g1⟩:=rv.get e1;obtain⟨u2,f2,g2⟩:=rv.get e2;cases (show u1=Value.ref a from g1);cases (show u2=Value.ref c from g2);obtain⟨i1,r1,⟨o1,Iz,hc1,n1,hd1⟩,_⟩:=I.tuple q1;obtain⟨i2,r2,⟨o2,mW,mF,n2,hd2⟩,_⟩:=I.tuple q2;show wpAny _ _ (keyLt' (tuples' true) (its.getD i Value.none) (its.getD j Value.none)) C _ s';rw[IW f1,IW f2];refine kat_lt (k _ _ Iz) hd1 (k _ _ mW) hd2 (zj5 r1 r2 e3 ?_ hC);rw[r1.length,r2.length];simp
 ·exact Ni (κ:=oneType') (lt:=lt) (p:=p) pl.isList gV (λlU=>absurd lU gV) (λlU=>absurd lU gV) (λlU=>absurd lU gV) (λlU=>absurd lU gV) fin
end
end L2
namespace L2
open PySem PySem.Spec PyProof.Rows PySem.W PySem.Calls
theorem Ux{α:Type}:∀{l:List (Str×α)} {f:Str} {u:α},(l.map (·.1)).Nodup->(f,u)∈l->l.lookup f=some u
 |(g,v)::r,f,u,hn,hm=>by
  rw[nM,vM] at hn;rw[mO];rcases fC.mp hm with e|hm
  ·cases e;simp
  ·have:f≠g:=λz=>hn.1 (by rw[<-z];exact sU.mpr ⟨(f,u),hm,rfl⟩);rw[show (f==g)=false by simpa using this];exact Ux hn.2 hm
theorem zhQ{α:Type}{fs:List Str}{us:List α}{i:Nat}{f:Str}{u:α}(h1:fs[i]?=some f)(h2:us[i]?=some u):(f,u)∈fs.zip us:=by
 refine dH (i:=i) ?_;exact(List.getElem?_zip_eq_some (z:=(f,u))).mpr ⟨h1,h2⟩
structure XF(K:Frag)(C:Addr)(f:Str):Prop where
 ga:findIn K (.ref C) "__getattribute__"=some (some (.builtin "BaseException.__getattribute__"))
 gn:findIn K (.ref C) "__getattr__"=some none
 mb:mroIn K C (.type "BaseException")=some true
 no:findIn K (.ref C) f=some none
 hd:hasDictIn K C=true
end L2
namespace L2
open PySem PySem.Spec PyProof.Rows
section
variable {X:Cx}{ak:List (Addr×Obj)}{Z:St}{H:Hp}{s:Shared}{h':Heap}
theorem Inv.pK{t':Nat}{ch:List Addr}{a:Addr}{o:HO}(I:Inv X ak Z H s)(k:∀b u,b∉ch->s.heap.get? b=some u->h'.get? b=some u)(hf:∀b∈ch,gC X ak H b)(ha:s.heap.objs.size<=a)(new:aR X.prog X.w (upd H a o) h' a o) :
  Inv X ak Z (upd H a o) {s with heap:=h',toks:=t'}:=by
 have vX:∀b u,H b=some u->b∉ch:=λb u e z=>by rw[(hf b z).1] at e;cases e
 have hn:H a=none:=I.hok.fresh ha;have na:∀b u,H b=some u->b≠a:=λb u e z=>by rw[z,hn] at e;cases e
 have la:∀b u,s.heap.get? b=some u->b≠a:=λb u e=>fD (f9 (cj e) ha);refine I.step (g':=s.gens) (d':=s.drawn) (ch:=ch) (λb hb=>?_) (λb o _ _ hc e _=>k b o hc e) (λb o _ _ hc e _=>⟨o.slots,k b o hc e⟩) (λb o' _ e n=>by rw[dz (la b o' e)];exact n)
  (λb o hc e=>⟨o,k b o hc e⟩) (λb xs e=>by rw[dz (na b _ e)];exact e) (λb o u e=>by rw[dz (na b _ e)];exact e) (λb ps e=>⟨#[],by rw[dz (na b _ e),e];simp⟩) (λm hm=>?_) (λb u e=>?_) I.bare
 ·obtain⟨f0,f1,f2,f3,f4,f5⟩:=hf b hb;exact⟨f3.imp id λz=>Ce z,f1,f4,f5⟩
 ·obtain⟨o,es,ep,ho,r⟩:=hm;exact⟨o,es,ep,k _ o (λz=>(hf _ z).2.1 rfl) ho,r⟩
 ·by_cases z:b=a
  ·subst z;rw[jB] at e;cases e;exact new
  ·rw[dz z] at e;refine(I.hok b u e).stay (λc v hc q=>k c v ?_ q) (λc q=>by rw[dz (na c _ q)];exact q) λc _ q=>by rw[dz (na c _ q)];exact q
   rcases hc with y|y
   ·rw[y];exact vX b u e
   ·exact vX c _ y
theorem Inv.uH{t':Nat}{ch:List Addr}(I:Inv X ak Z H s)(k:∀b u,b∉ch->s.heap.get? b=some u->h'.get? b=some u)(hf:∀b∈ch,gC X ak H b):Inv X ak Z H {s with heap:=h',toks:=t'}:=by
 have vX:∀b u,H b=some u->b∉ch:=λb u e z=>by rw[(hf b z).1] at e;cases e
 refine I.step (g':=s.gens) (d':=s.drawn) (ch:=ch) (λb hb=>?_) (λb o _ _ hc e _=>k b o hc e) (λb o _ _ hc e _=>⟨o.slots,k b o hc e⟩) (λ_ _ _ _ n=>n)
  (λb o hc e=>⟨o,k b o hc e⟩) (λ_ _ e=>e) (λ_ _ _ e=>e) (λb ps e=>⟨#[],by rw[e];simp⟩) (λm hm=>?_) (λb u e=>?_) I.bare
 ·obtain⟨f0,f1,f2,f3,f4,f5⟩:=hf b hb;exact⟨f3.imp id λz=>Ce z,f1,f4,f5⟩
 ·obtain⟨o,es,ep,ho,r⟩:=hm;exact⟨o,es,ep,k _ o (λz=>(hf _ z).2.1 rfl) ho,r⟩
 ·refine(I.hok b u e).stay (λc v hc q=>k c v ?_ q) (λ_ q=>q) λ_ _ q=>q;rcases hc with y|y
  ·rw[y];exact vX b u e
  ·exact vX c _ y
end
structure mH(prog:Program)(w:World)(it src:Addr)(st:Nat->Heap->Prop)(its:Array Value):Prop where
 item:∀(A:Around) (E:Value->Shared->Prop) (s:Shared) (i:Nat) (x:Value) (Q:Value->Shared->Prop),st i s.heap->its[i]?=some x->(∀h',st (i+1) h'->Heap.SameBut it s.heap h'->Q x {s with heap:=h'})->wpAny (model prog w) A (Builtin.SmallTypes.nextOf (.ref it)) Q E s
 fin:∀(A:Around) (E:Value->Shared->Prop) (s:Shared) (i:Nat) (Q:Value->Shared->Prop),A.handled=none->st i s.heap->its[i]?=none->(∀h' e,Heap.ExtBut it s.heap h'->(∃o,h'.get? e=some o/\o.cls=.type "StopIteration")->E (.ref e) {s with heap:=h'})->wpAny (model prog w) A (Builtin.SmallTypes.nextOf (.ref it)) Q E s
 keep:∀i h h',st i h->(∀b o,b=it\/b=src->h.get? b=some o->h'.get? b=some o)->st i h'
theorem mH.list(qP:l≠it):mH prog w it l (λi h=>h.IsListIter it l i/\h.IsList l its) its where
 item:=λA E s i x Q ⟨h1,h2⟩ hx q=>wpAny_nextOf_list_item h1 h2 hx λh' a sb=>q h' ⟨a,h2.at λo e=>(sb.2 l qP).trans e⟩ sb
 fin:=λA E s i Q hh ⟨h1,h2⟩ hx q=>wpAny_nextOf_list_end hh h1 h2 hx q
 keep:=λi h h' ⟨h1,h2⟩ k=>⟨h1.at λo e=>k it o (.inl rfl) e,h2.at λo e=>k l o (.inr rfl) e⟩
theorem Uy(l:Addr):¬((Value.ref l==Value.none)=true):=λz=>by cases (show false=true from z)
theorem IsTupleIter.at'{h h':Heap}{it l:Addr}{i:Nat}(x:h.IsTupleIter it l i)(k:∀o,h.get? it=some o->h'.get? it=some o):h'.IsTupleIter it l i:=by
 obtain⟨o,e,r⟩:=x;exact⟨o,k o e,r⟩
theorem IsTuple.at'{h h':Heap}{l:Addr}{xs:Array Value}(x:h.IsTuple l xs)(k:∀o,h.get? l=some o->h'.get? l=some o):h'.IsTuple l xs:=by
 obtain⟨o,e,r⟩:=x;exact⟨o,k o e,r⟩
section
variable {prog:Program}{w:World}{A:Around}{E:Value->Shared->Prop}{s:Shared}{it l:Addr}{i:Nat}{its:Array Value}
theorem zd2{x:Value}{Q:Value->Shared->Prop}(hi:s.heap.IsTupleIter it l i)(hl:s.heap.IsTuple l its)(hx:its[i]?=some x)(q:∀h',h'.IsTupleIter it l (i+1)->Heap.SameBut it s.heap h'->Q x {s with heap:=h'}) :
  wpAny (model prog w) A (Builtin.SmallTypes.nextOf (.ref it)) Q E s:=by
 obtain⟨oi,ei,ci,di⟩:=id hi;obtain⟨ol,el,_,nl,dl⟩:=hl;unfold Builtin.SmallTypes.nextOf;refine aC (xO (name:=Str.ofString "__next__") hi.typeIs Ho (vL Ho hi.typeIs F.entry_tuple_iterator_next ?_ (F.args_tuple_iterator_next_1 _)));show wpAny _ A.in1 (field (.ref it) 0 >>= _) _ E s;refine aC (ji ei di (x:=.ref l) rfl ?_);show wpAny _ A.in1 (if (Value.ref l==Value.none)=true then _ else _) _ E s;rw[if_neg (Uy l)];show wpAny _ A.in1 (field (.ref it) 1 >>= _) _ E s;refine aC (ji ei di (x:=.int i 0) rfl ?_);show wpAny _ A.in1 (seqItems? (.ref l) >>= _) _ E s;refine aC (vO el dl ?_);simp only[Ag,hx];refine aC (Cv ei di Nj (aZ ⟨x,rfl,aZ (q _ ⟨_,Cd _ ei (Hs (vK di _)),(Obj.cls_mapFields ..).trans ci,?_⟩ (Heap.SameBut.update ..))⟩));rw[vK di];simp[rawInt]
theorem zeG{Q:Value->Shared->Prop}(hh:A.handled=none)(hi:s.heap.IsTupleIter it l i)(hl:s.heap.IsTuple l its)(hx:its[i]?=none)(q:∀h' e,Heap.ExtBut it s.heap h'->(∃o,h'.get? e=some o/\o.cls=.type "StopIteration")->E (.ref e) {s with heap:=h'}) :
  wpAny (model prog w) A (Builtin.SmallTypes.nextOf (.ref it)) Q E s:=by
 obtain⟨oi,ei,ci,di⟩:=id hi;obtain⟨ol,el,_,nl,dl⟩:=hl;unfold Builtin.SmallTypes.nextOf;refine aC (xO (name:=Str.ofString "__next__") hi.typeIs Ho (vL Ho hi.typeIs F.entry_tuple_iterator_next ?_ (F.args_tuple_iterator_next_1 _)));show wpAny _ A.in1 (field (.ref it) 0 >>= _) _ E s;refine aC (ji ei di (x:=.ref l) rfl ?_);show wpAny _ A.in1 (if (Value.ref l==Value.none)=true then _ else _) _ E s;rw[if_neg (Uy l)];show wpAny _ A.in1 (field (.ref it) 1 >>= _) _ E s;refine aC (ji ei di (x:=.int i 0) rfl ?_);show wpAny _ A.in1 (seqItems? (.ref l) >>= _) _ E s;refine aC (vO el dl ?_);simp only[Ag,hx];refine aC (wpAny_rule (aC (Cv ei di Nj ?_)));show wpAny _ A.in1 (newExc (.type "StopIteration") [] >>= _) _ E _;refine aC ?_;simp only[newExc,newTuple];refine aC (o_ (aC (m:=firstArgMember _ _) (wpAny_of_eq (a:=Value.none) (by first|rfl|(simp only[firstArgMember];rfl)) (o_ ?_ (by size_fits)))) (by size_fits));simp only[raiseNew];refine aC (wpAny_handled ?_);rw[show A.in1.handled=none from hh];exact aC (aZ (wpAny_throw (q _ _ (((Heap.SameBut.update ..).extBut.push _).push _) ⟨_,gw _ rfl,rfl⟩)))
end
theorem mH.tuple{prog:Program}{w:World}{it l:Addr}{its:Array Value}(qP:l≠it):mH prog w it l (λi h=>h.IsTupleIter it l i/\h.IsTuple l its) its where
 item:=λA E s i x Q ⟨h1,h2⟩ hx q=>zd2 h1 h2 hx λh' a sb=>q h' ⟨a,IsTuple.at' h2 λo e=>(sb.2 l qP).trans e⟩ sb
 fin:=λA E s i Q hh ⟨h1,h2⟩ hx q=>zeG hh h1 h2 hx q
 keep:=λi h h' ⟨h1,h2⟩ k=>⟨IsTupleIter.at' h1 λo e=>k it o (.inl rfl) e,IsTuple.at' h2 λo e=>k l o (.inr rfl) e⟩
structure kj(z TI TO i1 i2 l1 l2:Addr):Prop where
 zs:z≠TI/\z≠TO/\z≠i1/\z≠i2/\z≠l1/\z≠l2
 os:TO≠TI/\TO≠i1/\TO≠i2/\TO≠l1/\TO≠l2
 is:TI≠i1/\TI≠i2/\i1≠i2/\i1≠l1/\i1≠l2/\i2≠l1/\i2≠l2
section
variable {prog:Program}{w:World}{A:Around}{E:Value->Shared->Prop}{s:Shared}{z TI TO i1 i2 l1 l2:Addr}{st1 st2:Nat->Heap->Prop}{xs ys:Array Value}{k:Nat}{a b:Value}
theorem zf8(N1:mH prog w i1 l1 st1 xs)(N2:mH prog w i2 l2 st2 ys)(D:kj z TI TO i1 i2 l1 l2)(hz:IsZip s.heap z TI TO .none)(Nk:IsPair s.heap TI (.ref i1) (.ref i2))(Nm:IsPair s.heap TO a b)
  (h1:st1 k s.heap) (h2:st2 k s.heap) (hx:xs[k]?=some x) (hy:ys[k]?=some y)
  (q:∀h',IsZip h' z TI TO (rawInt s.heap.objs.size)->IsPair h' TO x y->st1 (k+1) h'->st2 (k+1) h'->IsPair h' s.heap.objs.size x y->h'.objs.size=s.heap.objs.size+1->(∀c o,c≠z->c≠TO->c≠i1->c≠i2->s.heap.get? c=some o->h'.get? c=some o)->Q (some (.ref s.heap.objs.size)) {s with heap:=h'}) :
  wpAny (model prog w) A (pyNext (.ref z)) Q E s:=by
 obtain⟨⟨z1,z2,z3,z4,z5,z6⟩,⟨t1,t2,t3,t4,t5⟩,⟨j1,j2,j3,j4,j5,j6,j7⟩⟩:=D;have hT:s.TypeIs (.ref z) "zip":=⟨_,hz,rfl⟩;unfold pyNext;refine aC (wpAny_attempt (xO (name:=Str.ofString "__next__") hT HF (vL HF hT F.entry_zip_next ?_ (F.args_zip_next_1 _))));show wpAny _ A.in1 (field (.ref z) 2 >>= _) _ _ s;refine aC (ji hz rfl (x:=.bool false) rfl ?_);show wpAny _ A.in1 (field (.ref z) 3 >>= _) _ _ s;refine aC (ji hz rfl (x:=.ref TI) rfl (aC (vO Nk rfl ?_)));show wpAny _ A.in1 (Builtin.SmallTypes.ownedTupleIsFree (.ref z) >>= _) _ _ s;refine aC ?_;unfold Builtin.SmallTypes.ownedTupleIsFree;refine aC (ji hz rfl (x:=.none) rfl (aZ ?_));simp only[if_true];refine aC (wpAny_rule (aC (ji hz rfl (x:=.ref TO) rfl (aC (Ae hz Nj λha za sa=>aC ?_)))))
 replace za:IsZip ha z TI TO .ellipsis:=za
 simp only[List.zipIdx_cons,List.zipIdx_nil,Cr,HJ];refine aC (aC (wpAny_onRaise ?_));show wpAny _ A.in1 (Builtin.SmallTypes.nextOf (.ref i1) >>= _) _ _ _;refine aC (N1.item _ _ {s with heap:=ha} k x _ (N1.keep _ _ _ h1 λc o hc e=>sa.extBut c o (by rcases hc with rfl|rfl;exact z3.symm;exact z5.symm) e) hx λhb Uz sb=>aZ ?_);have tb:IsPair hb TO a b:=sb.extBut _ _ t2 (sa.extBut _ _ z2.symm Nm);refine aC (vO tb rfl (aC (Ku tb λhc tc sc=>aC (wpAny_letGo (aZ ?_)))))
 replace tc:IsPair hc TO x b:=tc
 refine aC (aC (wpAny_onRaise ?_));show wpAny _ A.in1 (Builtin.SmallTypes.nextOf (.ref i2) >>= _) _ _ _;have k2:st2 k hc:=N2.keep _ _ _ h2 λc o jo e=>by
  rcases jo with rfl|rfl
  ·exact sc.extBut _ _ t3.symm (sb.extBut _ _ j3.symm (sa.extBut _ _ z4.symm e))
  ·exact sc.extBut _ _ t5.symm (sb.extBut _ _ j5.symm (sa.extBut _ _ z6.symm e))
 have k1:st1 (k+1) hc:=N1.keep _ _ _ Uz λc o jo e=>by
  rcases jo with rfl|rfl
  ·exact sc.extBut _ _ t2.symm e
  ·exact sc.extBut _ _ t4.symm e
 refine aC (N2.item _ _ {s with heap:=hc} k y _ k2 hy λhd sd2 sd=>aZ ?_);have td:IsPair hd TO x b:=sd.extBut _ _ t3 tc;refine aC (vO td rfl (aC (Ku td λhe te se=>aC (wpAny_letGo (aZ (aZ ?_))))))
 replace te:IsPair he TO x y:=te
 refine aC (vO te rfl (aC (wpAny_newTuple ?_)));have size:he.objs.size=s.heap.objs.size:=by rw[se.1,sd.1,sc.1,sb.1,sa.1]
 have ze:IsZip he z TI TO .ellipsis:=se.extBut _ _ z2 (sd.extBut _ _ z4 (sc.extBut _ _ z2 (sb.extBut _ _ z3 za)));have kept:∀c o,c≠z->c≠TO->c≠i1->c≠i2->s.heap.get? c=some o->he.get? c=some o:=λc o c1 c2 c3 c4 e=>se.extBut _ _ c2 (sd.extBut _ _ c4 (sc.extBut _ _ c2 (sb.extBut _ _ c3 (sa.extBut _ _ c1 e))));have e1:st1 (k+1) he:=N1.keep _ _ _ k1 λc o jo e=>by
  rcases jo with rfl|rfl
  ·exact se.extBut _ _ t2.symm (sd.extBut _ _ j3 e)
  ·exact se.extBut _ _ t4.symm (sd.extBut _ _ j6.symm e)
 have e2:st2 (k+1) he:=N2.keep _ _ _ sd2 λc o jo e=>by
  rcases jo with rfl|rfl
  ·exact se.extBut _ _ t3.symm e
  ·exact se.extBut _ _ t5.symm e
 show wpAny _ A.in1 (Builtin.SmallTypes.ownedTupleHandOut (.ref z) (.ref he.objs.size) >>= _) _ _ _;refine aC ?_;unfold Builtin.SmallTypes.ownedTupleHandOut;have zf:IsZip (he.push {cls:=.type "tuple",data:=.seq #[x,y]}) z TI TO .ellipsis:=cO _ ze;refine aC (Ae zf Nj λhg zg sg=>Ae zg Nj λhh zh sh=>aZ ⟨_,rfl,aZ ?_⟩)
 replace zh:IsZip hh z TI TO (rawInt he.objs.size):=zh
 have up:∀c o,c≠z->he.get? c=some o->hh.get? c=some o:=λc o c1 e=>sh.extBut _ _ c1 (sg.extBut _ _ c1 (cO _ e));have lz:z<he.objs.size:=cj ze;have tn:IsPair hh he.objs.size x y:=sh.extBut _ _ (Aj lz) (sg.extBut _ _ (Aj lz) (gw _ rfl));have sz:hh.objs.size=he.objs.size+1:=by rw[sh.1,sg.1,vN]
 rw[size] at zh tn sz;show Q (some (.ref he.objs.size)) _;rw[size];exact q hh zh (up _ _ z2.symm te) (N1.keep _ _ _ e1 λc o jo e=>up c o (by rcases jo with rfl|rfl;exact z3.symm;exact z5.symm) e) (N2.keep _ _ _ e2 λc o jo e=>up c o (by rcases jo with rfl|rfl;exact z4.symm;exact z6.symm) e) tn sz λc o c1 c2 c3 c4 e=>up c o c1 (kept c o c1 c2 c3 c4 e)
theorem zhR(hn:A.handled=none)(N1:mH prog w i1 l1 st1 xs)(N2:mH prog w i2 l2 st2 ys)(D:kj z TI TO i1 i2 l1 l2)(hz:IsZip s.heap z TI TO .none)(Nk:IsPair s.heap TI (.ref i1) (.ref i2))(Nm:IsPair s.heap TO a b)
  (h1:st1 k s.heap) (h2:st2 k s.heap) (hx:xs[k]?=none\/ys[k]?=none) (q:∀h',(∀c o,c≠z->c≠TO->c≠i1->c≠i2->s.heap.get? c=some o->h'.get? c=some o)->Q none {s with heap:=h'}):wpAny (model prog w) A (pyNext (.ref z)) Q E s:=by
 obtain⟨⟨z1,z2,z3,z4,z5,z6⟩,⟨t1,t2,t3,t4,t5⟩,⟨j1,j2,j3,j4,j5,j6,j7⟩⟩:=D;have hT:s.TypeIs (.ref z) "zip":=⟨_,hz,rfl⟩;have stop:∀(h':Heap) (e:Addr),(∀c o,c≠z->c≠TO->c≠i1->c≠i2->s.heap.get? c=some o->h'.get? c=some o)->(∃o,h'.get? e=some o/\o.cls=.type "StopIteration")->
   wpAny (model prog w) A (do if <-isInstance (.ref e) (.type "StopIteration") then pure none else throw (.ref e):Sem (Option Value)) Q E {s with heap:=h'}:=λh' e kp ⟨o,ho,hc⟩=>
  aC (wpAny_isInstance (T:="StopIteration") (b:=true) ⟨o,ho,hc⟩ isSubtype_stop (aZ (q h' kp)))
 unfold pyNext;refine aC (wpAny_attempt (xO (name:=Str.ofString "__next__") hT HF (vL HF hT F.entry_zip_next ?_ (F.args_zip_next_1 _))));show wpAny _ A.in1 (field (.ref z) 2 >>= _) _ _ s;refine aC (ji hz rfl (x:=.bool false) rfl ?_);show wpAny _ A.in1 (field (.ref z) 3 >>= _) _ _ s;refine aC (ji hz rfl (x:=.ref TI) rfl (aC (vO Nk rfl ?_)));show wpAny _ A.in1 (Builtin.SmallTypes.ownedTupleIsFree (.ref z) >>= _) _ _ s;refine aC ?_;unfold Builtin.SmallTypes.ownedTupleIsFree;refine aC (ji hz rfl (x:=.none) rfl (aZ ?_));simp only[if_true];refine aC (wpAny_rule (aC (ji hz rfl (x:=.ref TO) rfl (aC (Ae hz Nj λha za sa=>aC ?_)))))
 replace za:IsZip ha z TI TO .ellipsis:=za
 simp only[List.zipIdx_cons,List.zipIdx_nil,Cr,HJ];refine aC (aC (wpAny_onRaise ?_));show wpAny _ A.in1 (Builtin.SmallTypes.nextOf (.ref i1) >>= _) _ _ _;have ka:st1 k ha:=N1.keep _ _ _ h1 λc o hc e=>sa.extBut c o (by rcases hc with rfl|rfl;exact z3.symm;exact z5.symm) e;cases ex:xs[k]? with
 |none=>
  refine aC (N1.fin _ _ {s with heap:=ha} k _ hn ka ex λhb e sb se=>?_);obtain⟨oe,ho,hc⟩:=se;have zb:IsZip hb z TI TO .ellipsis:=sb _ _ z3 za;have ne:e≠z:=λy=>by subst y;rw[zb] at ho;cases ho;simp at hc
  exact Ae zb Nj λhd _ sd=>stop hd e (λc o c1 _ c3 _ y=>sd.extBut _ _ c1 (sb _ _ c3 (sa.extBut _ _ c1 y))) ⟨oe,sd.extBut _ _ ne ho,hc⟩
 |some x=>
  have ey:ys[k]?=none:=by
   rcases hx with y|y
   ·rw[ex] at y;cases y
   ·exact y
  refine aC (N1.item _ _ {s with heap:=ha} k x _ ka ex λhb Uz sb=>aZ ?_);have tb:IsPair hb TO a b:=sb.extBut _ _ t2 (sa.extBut _ _ z2.symm Nm);refine aC (vO tb rfl (aC (Ku tb λhc tc sc=>aC (wpAny_letGo (aZ ?_)))));refine aC (aC (wpAny_onRaise ?_));show wpAny _ A.in1 (Builtin.SmallTypes.nextOf (.ref i2) >>= _) _ _ _;have k2:st2 k hc:=N2.keep _ _ _ h2 λc o jo e=>by
   rcases jo with rfl|rfl
   ·exact sc.extBut _ _ t3.symm (sb.extBut _ _ j3.symm (sa.extBut _ _ z4.symm e))
   ·exact sc.extBut _ _ t5.symm (sb.extBut _ _ j5.symm (sa.extBut _ _ z6.symm e))
  refine aC (N2.fin _ _ {s with heap:=hc} k _ hn k2 ey λhd e sd se=>?_);obtain⟨oe,ho,Ay⟩:=se;have zd:IsZip hd z TI TO .ellipsis:=sd _ _ z4 (sc.extBut _ _ z2 (sb.extBut _ _ z3 za));have ne:e≠z:=λy=>by subst y;rw[zd] at ho;cases ho;simp at Ay
  exact Ae zd Nj λhf _ sf=>stop hf e (λc o c1 c2 c3 c4 y=>sf.extBut _ _ c1 (sd _ _ c4 (sc.extBut _ _ c2 (sb.extBut _ _ c3 (sa.extBut _ _ c1 y))))) ⟨oe,sf.extBut _ _ ne ho,Ay⟩
end
noncomputable def Ck:Bool->Heap->Addr->Array Value->Prop
 |true,h,l,xs=>h.IsList l xs
 |false,h,l,xs=>h.IsTuple l xs
noncomputable def Rk:Bool->Addr->Addr->Nat->Heap->Prop
 |true,it,l,i,h=>h.IsListIter it l i
 |false,it,l,i,h=>h.IsTupleIter it l i
noncomputable def Sk:Bool->W.Frag->Hp->Addr->List V->Prop
 |true,K,H,l,xs=>cZ K H l xs
 |false,K,H,l,xs=>eZ K H l xs
noncomputable def gF:Bool->Addr->Obj
 |true,l=>{cls:=.type "list_iterator",data:=.fields #[.ref l,.int 0 0]}
 |false,l=>{cls:=.type "tuple_iterator",data:=.fields #[.ref l,.int 0 0]}
theorem mH.of(kd:Bool)(qP:l≠it):mH prog w it l (λi h=>Rk kd it l i h/\Ck kd h l its) its:=by
 cases kd
 ·exact mH.tuple qP
 ·exact mH.list qP
theorem Ck.keep(x:Ck kd h l xs)(k:∀o,h.get? l=some o->h'.get? l=some o):Ck kd h' l xs:=by
 cases kd
 ·exact IsTuple.at' x k
 ·exact Heap.IsList.at x k
theorem Rk.keep(x:Rk kd it l i h)(k:∀o,h.get? it=some o->h'.get? it=some o):Rk kd it l i h':=by
 cases kd
 ·exact IsTupleIter.at' x k
 ·exact Heap.IsListIter.at x k
theorem Rk.obj(x:Rk kd it l i h):∃o,h.get? it=some o/\∀v,o.data≠.cell v:=by
 cases kd
 ·obtain⟨o,e,c,d⟩:=x;exact⟨o,e,λv z=>by rw[d] at z;cases z⟩
 ·obtain⟨o,e,c,d⟩:=x;exact⟨o,e,λv z=>by rw[d] at z;cases z⟩
theorem Ck.lt(x:Ck kd h l xs):l<h.objs.size:=by
 cases kd
 ·obtain⟨o,e,_⟩:=x;exact cj e
 ·obtain⟨o,e,_⟩:=x;exact cj e
section
variable {prog:Program}{w:World}{A:Around}{E:Value->Shared->Prop}{s:Shared}
theorem UG(c:Ck kd s.heap l xs)(q:Q (.ref s.heap.objs.size) {s with heap:=s.heap.push (gF kd l)}):wpAny (model prog w) A (pyIter (.ref l)) Q E s:=by
 cases kd
 ·exact wpAny_pyIter_tuple c q
 ·exact wpAny_pyIter_list c q
end
noncomputable def zH(h:Heap)(k1 k2:Bool)(l1 l2:Addr):Heap:=((((h.push (gF k1 l1)).push (gF k2 l2)).push {cls:=.type "tuple",data:=.seq #[.ref h.objs.size,.ref (h.push (gF k1 l1)).objs.size]}).push {cls:=.type "tuple",data:=.seq #[.none,.none]}).push
 {cls:=.type "zip",data:=.fields #[.none,.bool false,.bool false,.ref ((h.push (gF k1 l1)).push (gF k2 l2)).objs.size,.ref (((h.push (gF k1 l1)).push (gF k2 l2)).push {cls:=.type "tuple",data:=.seq #[.ref h.objs.size,.ref (h.push (gF k1 l1)).objs.size]}).objs.size]}
theorem zfV(k1 k2:Bool)(l1 l2:Addr)(xs ys:Array Value):Meets (Builtin.«zip.__new__» ⟨[.type "zip",.ref l1,.ref l2],[]⟩) (λ_ R s=>Ck k1 s.heap l1 xs/\Ck k2 s.heap l2 ys /\
   R (.ok (.ret (.ref ((((s.heap.push (gF k1 l1)).push (gF k2 l2)).push {cls:=.type "tuple",data:=.seq #[.ref s.heap.objs.size,.ref (s.heap.push (gF k1 l1)).objs.size]}).push {cls:=.type "tuple",data:=.seq #[.none,.none]}).objs.size))) {s with heap:=zH s.heap k1 k2 l1 l2}):=
 .of_wp λprog w A R s h=>by
  obtain⟨hp,g,d,tk,os⟩:=s;obtain⟨c1,c2,h⟩:=h;have hsub:=sub_zip;have C1:Ck k1 (Shared.heap ⟨hp,g,d,tk,os⟩) l1 xs:=c1;have C2:Ck k2 (Shared.heap ⟨hp.push (gF k1 l1),g,d,tk,os⟩) l2 ys:=c2.keep λo e=>cO _ e
  wp_walk using UG C1,UG C2
  exact⟨_,rfl,h⟩
section
variable {prog:Program}{w:World}{A:Around}{E:Value->Shared->Prop}{s:Shared}
theorem zhM(c1:Ck k1 s.heap l1 xs)(c2:Ck k2 s.heap l2 ys)
  (h:∀h',IsZip h' (s.heap.objs.size+4) (s.heap.objs.size+2) (s.heap.objs.size+3) .none->IsPair h' (s.heap.objs.size+2) (.ref s.heap.objs.size) (.ref (s.heap.objs.size+1))->IsPair h' (s.heap.objs.size+3) .none .none->
   Rk k1 s.heap.objs.size l1 0 h'->Rk k2 (s.heap.objs.size+1) l2 0 h'->(∀c o,s.heap.get? c=some o->h'.get? c=some o)->Q (.ref (s.heap.objs.size+4)) {s with heap:=h'}) :
  wpAny (model prog w) A (call (.type "zip") [.ref l1,.ref l2]) Q E s:=by
 refine callType_new F.called_zip J0 (F.typeCall_zip_2 _ _) (F.newCall_zip_2 _ _) (λobj=>F.args_object_init_3 obj _ _) F.entry_zip_new (zfV k1 k2 l1 l2 xs ys) ⟨c1,c2,?_⟩;have n1:(s.heap.push (gF k1 l1)).objs.size=s.heap.objs.size+1:=vN ..;have n2:((s.heap.push (gF k1 l1)).push (gF k2 l2)).objs.size=s.heap.objs.size+2:=by rw[vN,n1]
 have fr:∀kd l,(gF kd l).isFreed=false:=λkd l=>by cases kd<;>rfl
 have rk:∀{h:Heap} {a:Addr} {kd:Bool} {l:Addr},h.get? a=some (gF kd l)->Rk kd a l 0 h:=λ{h a kd l} e=>by
  cases kd
  ·exact⟨_,e,rfl,rfl⟩
  ·exact⟨_,e,rfl,rfl⟩
 have o1:(s.heap.push (gF k1 l1)).get? s.heap.objs.size=some (gF k1 l1):=gw _ (fr _ _);have o2:((s.heap.push (gF k1 l1)).push (gF k2 l2)).get? (s.heap.objs.size+1)=some (gF k2 l2):=by
  have:=gw (s.heap.push (gF k1 l1)) (o:=gF k2 l2) (fr _ _);rw[n1] at this;exact this
 generalize hA:(s.heap.push (gF k1 l1)).push (gF k2 l2)=I8 at *;have eH:zH s.heap k1 k2 l1 l2=((I8.push {cls:=.type "tuple",data:=.seq #[.ref s.heap.objs.size,.ref (s.heap.objs.size+1)]}).push {cls:=.type "tuple",data:=.seq #[.none,.none]}).push {cls:=.type "zip",data:=.fields #[.none,.bool false,.bool false,.ref (s.heap.objs.size+2),.ref (s.heap.objs.size+3)]}:=by
  unfold zH;rw[hA,n1,n2,vN,n2]
 have n3:(I8.push {cls:=.type "tuple",data:=.seq #[.ref s.heap.objs.size,.ref (s.heap.objs.size+1)]}).objs.size=s.heap.objs.size+3:=by rw[vN,n2]
 have n4:((I8.push {cls:=.type "tuple",data:=.seq #[.ref s.heap.objs.size,.ref (s.heap.objs.size+1)]}).push {cls:=.type "tuple",data:=.seq #[.none,.none]}).objs.size=s.heap.objs.size+4:=by rw[vN,n3]
 rw[n1,n4];have g5:(zH s.heap k1 k2 l1 l2).get? (s.heap.objs.size+4)=some {cls:=.type "zip",data:=.fields #[.none,.bool false,.bool false,.ref (s.heap.objs.size+2),.ref (s.heap.objs.size+3)]}:=by
  rw[eH,<-n4];exact gw _ rfl
 have g4:(zH s.heap k1 k2 l1 l2).get? (s.heap.objs.size+3)=some {cls:=.type "tuple",data:=.seq #[.none,.none]}:=by
  rw[eH,<-n3];exact cO _ (gw _ rfl)
 have g3:(zH s.heap k1 k2 l1 l2).get? (s.heap.objs.size+2)=some {cls:=.type "tuple",data:=.seq #[.ref s.heap.objs.size,.ref (s.heap.objs.size+1)]}:=by
  rw[eH,<-n2];exact cO _ (cO _ (gw _ rfl))
 have up:∀c o,I8.get? c=some o->(zH s.heap k1 k2 l1 l2).get? c=some o:=λc o e=>by rw[eH];exact cO _ (cO _ (cO _ e))
 refine⟨⟨_,g5,rfl⟩,h _ g5 g3 g4 (rk (up _ _ ?_)) (rk (up _ _ o2)) λc o e=>up _ _ ?_⟩
 ·rw[<-hA];exact cO _ o1
 ·rw[<-hA];exact cO _ (cO _ e)
end
noncomputable def Np(K:W.Frag)(k1 k2:Bool)(l1 l2:Addr):It:=
 ⟨λi H=>∃xs ys x y,Sk k1 K H l1 xs/\Sk k2 K H l2 ys/\xs[i]?=some x/\ys[i]?=some y,
  λi H v H'=>∃a x y,H a=none/\v=.ref a/\H'=upd H a (.tup [x,y])/\(∀xs,Sk k1 K H l1 xs->xs[i]?=some x)/\∀ys,Sk k2 K H l2 ys->ys[i]?=some y,
  λi H=>∃xs ys,Sk k1 K H l1 xs/\Sk k2 K H l2 ys/\(xs.length<=i\/ys.length<=i)⟩
section
variable {X:Cx}{ak:List (Addr×Obj)}{Z:St}{H:Hp}{s:Shared}{kd:Bool}{l:Addr}{xs ys:List V}
theorem Inv.row(I:Inv X ak Z H s)(h:Sk kd X.K H l xs):∃its:List Value,Vals xs its/\Ck kd s.heap l its.toArray:=by
 cases kd
 ·obtain⟨its,rv,p,hz⟩:=I.tuple h;exact⟨its,rv,p⟩
 ·obtain⟨its,rv,p,hz⟩:=I.list h;exact⟨its,rv,p.isList⟩
theorem Inv.oh(I:Inv X ak Z H s)(h:Sk kd X.K H l xs)(h':Sk kd X.K H l ys):xs=ys:=by
 cases kd
 ·exact I.jC h h'
 ·exact I.lJ h h'
end
theorem zfW{P:Program}{w:World}{K:W.Frag}{elts:List Expr}{kk:Nat}{pos:Pos}{k1 k2:Bool}{l1 l2 z TI TO i1 i2:Addr}(D:kj z TI TO i1 i2 l1 l2) :
  Turn P w K (.Tuple elts kk pos) (Np K k1 k2 l1 l2) [z,TI,TO,i1,i2] z (λi h=>IsZip h z TI TO .none/\IsPair h TI (.ref i1) (.ref i2)/\(∃a b,IsPair h TO a b)/\Rk k1 i1 l1 i h/\Rk k2 i2 l2 i h) where
 mem:=by simp
 obj:=λi h ⟨a1,a2,⟨p,q,a3⟩,a4,a5⟩ b hb=>by
  have:b=z\/b=TI\/b=TO\/b=i1\/b=i2:=by simpa using hb
  rcases this with rfl|rfl|rfl|rfl|rfl
  ·exact⟨_,a1,λv y=>by cases y⟩
  ·exact⟨_,a2,λv y=>by cases y⟩
  ·exact⟨_,a3,λv y=>by cases y⟩
  ·exact a4.obj
  ·exact a5.obj
 keep:=λi h h' ⟨a1,a2,⟨p,q,a3⟩,a4,a5⟩ k=>⟨k z Nj _ a1,k TI Nj _ a2,⟨p,q,k TO Nj _ a3⟩,a4.keep λo e=>k i1 Nj o e,a5.keep λo e=>k i2 Nj o e⟩
 item:=by
  rintro X hP hw hK hc i ak s Z H E I hf ⟨a1,a2,⟨p,q,a3⟩,a4,a5⟩ hg;subst hP hw hK;obtain⟨xs,ys,x,y,Az,A_,hx,hy⟩:=hg;obtain⟨UJ,I9,c1⟩:=I.row Az;obtain⟨Fe,I_,c2⟩:=I.row A_;obtain⟨u,hu,ru⟩:=I9.get hx;obtain⟨v,hv,rv⟩:=I_.get hy;have D':=D;obtain⟨⟨z1,z2,z3,z4,z5,z6⟩,⟨t1,t2,t3,t4,t5⟩,⟨j1,j2,j3,j4,j5,j6,j7⟩⟩:=D';refine zf8 (mH.of k1 j4.symm) (mH.of k2 j7.symm) D a1 a2 a3 ⟨a4,c1⟩ ⟨a5,c2⟩ (x:=u) (y:=v) (by simpa using hu) (by simpa using hv) λh1 b1 b2 b3 b4 b5 b6 kp=>?_;refine⟨_,rfl,wpAny_letOwnedTupleGo_zip (s:={s with heap:=h1}) b1 λh2 e2 sb=>?_⟩;have hT2:IsPair h2 s.heap.objs.size u v:=(sb.2 _ (Aj (cj a1))).trans b5;have kk:∀b o,b∉[z,TI,TO,i1,i2]->s.heap.get? b=some o->h2.get? b=some o:=λb o hb e=>(sb.2 b λy=>hb (by simp[y])).trans (kp b o (λy=>hb (by simp[y])) (λy=>hb (by simp[y])) (λy=>hb (by simp[y])) (λy=>hb (by simp[y])) e);have I2:=I.pK (t':=s.toks) (a:=s.heap.objs.size) (o:=.tup [x,y]) kk (λb hb=>hf b hb) (bU _) (show aR X.prog X.w _ h2 _ (.tup [x,y]) from ⟨by show 2<=sizeLine;decide,[u,v],.cons ru (.cons rv .nil),⟨_,hT2,rfl,_,rfl⟩⟩);have hn:H s.heap.objs.size=none:=I.hok.fresh (bU _);refine⟨.ref s.heap.objs.size,_,I2,rfl,⟨_,x,y,hn,rfl,rfl,λzs hz=>by rw[I.oh hz Az];exact hx,λzs hz=>by rw[I.oh hz A_];exact hy⟩,⟨e2,(sb.2 _ z1.symm).trans (kp _ _ z1.symm t1.symm j1 j2 a2),⟨_,_,(sb.2 _ z2.symm).trans b2⟩,b3.1.keep λo e=>(sb.2 _ z3.symm).trans e,b4.1.keep λo e=>(sb.2 _ z4.symm).trans e⟩,λb hb=>?_⟩;have nb:b≠s.heap.objs.size:=by
   have:b=z\/b=TI\/b=TO\/b=i1\/b=i2:=by simpa using hb
   rcases this with rfl|rfl|rfl|rfl|rfl
   ·exact fD (cj a1)
   ·exact fD (cj a2)
   ·exact fD (cj a3)
   ·obtain⟨o,e,_⟩:=a4.obj;exact fD (cj e)
   ·obtain⟨o,e,_⟩:=a5.obj;exact fD (cj e)
  rw[dz nb];exact(hf b hb).1
 done:=by
  rintro X hP hw hK hc i ak s Z H E I hf ⟨a1,a2,⟨p,q,a3⟩,a4,a5⟩ hg;subst hP hw hK;obtain⟨xs,ys,Az,A_,hx⟩:=hg;obtain⟨UJ,I9,c1⟩:=I.row Az;obtain⟨Fe,I_,c2⟩:=I.row A_;have n1:=I9.length;have n2:=I_.length;refine zhR (I.ok.hd hc) (mH.of k1 D.is.2.2.2.1.symm) (mH.of k2 D.is.2.2.2.2.2.2.symm) D a1 a2 a3 ⟨a4,c1⟩ ⟨a5,c2⟩ ?_ λh' kp=>⟨rfl,I.uH (t':=s.toks) (ch:=[z,TI,TO,i1,i2]) (λb o hb e=>kp b o (λy=>hb (by simp[y])) (λy=>hb (by simp[y])) (λy=>hb (by simp[y])) (λy=>hb (by simp[y])) e) λb hb=>hf b hb⟩;rcases hx with y|y
  ·exact .inl (by simp;lia)
  ·exact .inr (by simp;lia)
 self:=λ_ _ _ _ _ ⟨a1,_⟩ h=>wpAny_pyIter_zip a1 h
section
variable {X:Cx}
noncomputable def Nq(K:W.Frag)(ta:TA):TI:=λZ H R=>ta Z H λvs H1=>∃k1 k2 l1 l2 xs ys,vs=[.ref l1,.ref l2]/\Sk k1 K H1 l1 xs/\Sk k2 K H1 l2 ys/\R (Np K k1 k2 l1 l2) H1
theorem zgB:bootBuiltins "zip"=some (.type "zip"):=by decide +kernel
theorem zjH{a b:Expr}{ta:TA}{p pos tpos:Pos}{elts:List Expr}{kk:Nat}(hg:Gl X "zip")(hm:X.mg "zip"=none)(ha:PA X [a,b] ta)(hs:starEach [a,b] X.env=[(false,eval a X.env),(false,eval b X.env)]:=by rfl)(ud:starEach [b] X.env=[(false,eval b X.env)]:=by rfl) :
  PI X (.Tuple elts kk tpos) (.Call (.Name "zip" p) [a,b] [] pos) (Nq X.K ta):=by
 intro ak s Z H R I h;refine Call_ (t_ I hg hm zgB (xM (aW (ha pos ak s Z H _ I h) λus s1 hz=>?_) (by rw[hs,ud]) (by rw[ud];rfl)));obtain⟨vs,H1,I1,r1,q1⟩:=hz;obtain⟨k1,k2,l1,l2,xs,ys,e,Az,A_,q⟩:=q1;subst e;cases r1 with
 |cons r rr=>
  cases rr with
  |cons r' rr=>
   cases rr;cases r;cases r';obtain⟨UJ,I9,c1⟩:=I1.row Az;obtain⟨Fe,I_,c2⟩:=I1.row A_;have m1:=c1.lt;have m2:=c2.lt;refine zhM c1 c2 λh' b1 b2 b3 b4 b5 kp=>?_;refine wpAny_pyIter_zip b1 ?_;have ne:∀{u v:Nat},u<v->u≠v:=λh=>fD h;have D:kj (s1.heap.objs.size+4) (s1.heap.objs.size+2) (s1.heap.objs.size+3) s1.heap.objs.size (s1.heap.objs.size+1) l1 l2:=
    ⟨⟨(ne gV).symm,(ne gV).symm,(ne gV).symm,(ne gV).symm,(ne (f9 m1 gV)).symm,(ne (f9 m2 gV)).symm⟩,
     ⟨(ne gV).symm,(ne gV).symm,(ne gV).symm,(ne (f9 m1 gV)).symm,(ne (f9 m2 gV)).symm⟩,
     ⟨(ne gV).symm,(ne gV).symm,ne gV,(ne m1).symm,(ne m2).symm,(ne (f9 m1 gV)).symm,(ne (f9 m2 gV)).symm⟩⟩
   refine⟨s1.heap.objs.size+4,[s1.heap.objs.size+4,s1.heap.objs.size+2,s1.heap.objs.size+3,s1.heap.objs.size,s1.heap.objs.size+1],_,_,H1,rfl,I1.kept (t':=s1.toks) kp,zfW D,⟨b1,b2,⟨_,_,b3⟩,b4,b5⟩,λb hb=>?_,q⟩;have:s1.heap.objs.size<=b:=by
    have:b=s1.heap.objs.size+4\/b=s1.heap.objs.size+2\/b=s1.heap.objs.size+3\/b=s1.heap.objs.size\/b=s1.heap.objs.size+1:=by simpa using hb
    rcases this with rfl|rfl|rfl|rfl|rfl<;>lia
   exact I1.uc this (I1.hok.fresh this)
end
end L2
set_option genSizeOf false
set_option genInjectivity false
namespace Mi
open PySem
inductive D where
 |non|bl (b:Bool)|int (i:Int)|str (s:Str)|tup (xs:List D)|fl (xs:List D)|fd (ks vs:List D)|exc (c:Nat) (fs:List D)|ob (c:Nat) (fs:List D)|any
inductive Xv where
 |d (x:D)|l (n:Nat)
inductive Kx where
 |non|int (i:Int)|row (is:List Int)
deriving DecidableEq
inductive SO where
 |lst (xs:List D)
 |dct (kvs:List (List Kx×D))
noncomputable abbrev S:=List SO
inductive Rs (α:Type) where
 |ok (a:α)|er (c:Nat) (fs:List D)
noncomputable abbrev M(α:Type):=S->Option (Rs α×S)
noncomputable def M.ret{α:Type}(a:α):M α:=λs=>some (.ok a,s)
noncomputable def M.bd{α β:Type}(m:M α)(k:α->M β):M β:=λs=>match m s with
 |some (.ok a,s')=>k a s'
 |some (.er c f,s')=>some (.er c f,s')
 |none=>none
noncomputable def M.qt{α:Type}(m:M α):M α:=λs=>match m s with
 |some (.ok a,s')=>some (.ok a,s')
 |_=>none
noncomputable def M.no{α:Type}:M α:=λ_=>none
noncomputable def M.opt{α:Type}:Option α->M α
 |some a=>M.ret a
 |none=>M.no
inductive Rz where
 |dat (d:D)|nw (xs:List D)
inductive Pr where
 |add|ao|mul|fdiv|mod|pow|neg
 |eq|ne|lt|le|gt|ge|inn|nin
 |qQ|v7
 |len|abs|max2|min2|Fg|Fi|Fj|Ba|uI|divmod|all|sum|list|tuple|sorted|ou|qR|str1
 |ix|rev|UL|Fl|mult|v8
 |count|index|repr
 |Ja|Nr|Nt|shl|shr|band|isT|noT|isF|Fp
inductive Kd where
 |int|bool|str|tuple|list|dict|cls (c:Nat)|pL
mutual
inductive E where
 |c (d:D)
 |v (i:Nat)
 |pr (fz:Bool) (p:Pr) (xs:Es)
 |v9 (p q:Pr) (a b c:E)
 |ch3 (p q r:Pr) (a b c d:E)
 |and (a b:E)
 |or (a b:E)
 |not (a:E)
 |ite (c a b:E)
 |tup (xs:Es)
 |lst (fz:Bool) (xs:Es)
 |qT (k:Str) (i:Int)
 |call (f:Nat) (xs:Es)
 |jD (a:E) (k:Kd)
 |sl (fz:Bool) (a:E) (lo hi:Eo)
 |meth (fz:Bool) (p:Pr) (k:Kd) (o:E) (xs:Es)
 |push (o a:E)
 |pop (o:E)
 |comp (fz:Bool) (elt:E) (tg:List Nat) (it:Wk) (fr:List Nat) (many:Nat) (cond:Eo)
 |Fq (fz:Bool) (elt:E) (tg:List Nat) (it:Wk) (UW:List Nat) (Fe:Wk) (fr:List Nat) (many:Nat) (cond:Eo)
 |fld (o:E) (cs:List Nat) (i:Nat)
 |of (o:E) (c i:Nat)
 |mk (c f:Nat) (xs:Es)
 |cm (c f:Nat) (o:E) (xs:Es)
 |Nu
 |din (b:Bool) (k d:E)
 |Nv (d k:E)
 |tru (a:E)
 |Ft (fz:Bool) (a:E) (b:E)
 |orv (a b:E)
 |ins (o i a:E)
 |no
inductive Wk where
 |seq (e:E)
 |rg (a b:E)
 |zip (a b:E)
 |enum (a:E)
 |rrg (a:E)
inductive Es where
 |nil
 |cons (a:E) (r:Es)
inductive Eo where
 |no
 |yes (a:E)
end
noncomputable abbrev Ea(a:E):Es:=.cons a .nil
noncomputable abbrev Eb(a b:E):Es:=.cons a (.cons b .nil)
noncomputable abbrev Ec(a b c:E):Es:=.cons a (.cons b (.cons c .nil))
noncomputable abbrev Ei(a b:E):E:=.pr true .ix (.cons a (.cons b .nil))
noncomputable abbrev Ci(i:Int):E:=.c (.int i)
noncomputable def Es.len:Es->Nat
 |.nil=>0
 |.cons _ r=>r.len+1
inductive Tg where
 |nm (i:Nat)
 |tp (is:List Nat)
 |ao (o i:E)
mutual
inductive St where
 |pass
 |ex (e:E)
 |asg (t:Tg) (e:E)
 |par (i j:Nat) (a b:E)
 |aug (i:Nat) (e:E)
 |ret (e:E)
 |rise (c:Nat) (kp:Bool) (xs:Es)
 |iff (c:E) (t e:bM)
 |wh (c:E) (b:bM)
 |fr (t:Tg) (w:Wk) (b:bM)
 |Ny (b:bM) (d:Nat) (i:Nat) (h:bM)
 |dput (d k v:E)
 |no
inductive bM where
 |nil
 |cons (a:St) (r:bM)
end
noncomputable def jt(eq:D->D->Option Bool):List D->List D->Option Bool
 |[],[]=>some true
 |[],_::_=>some false
 |_::_,[]=>some false
 |x::xs,y::ys=>match eq x y,jt eq xs ys with
  |some a,some b=>some (a&&b)
  |_,_=>none
noncomputable def kq:D->Option Nat
 |.non=>some 0
 |.bl _=>some 1
 |.int _=>some 1
 |.str _=>some 2
 |.tup _=>some 3
 |.fl _=>some 4
 |_=>none
noncomputable def c7:Nat->D->D->Option Bool
 |n+1,.tup xs,.tup ys=>jt (c7 n) xs ys
 |n+1,.fl xs,.fl ys=>jt (c7 n) xs ys
 |_,.non,.non=>some true
 |_,.bl a,.bl b=>some (a==b)
 |_,.int a,.int b=>some (a==b)
 |_,.str a,.str b=>some (a==b)
 |_,.bl a,.int b=>some ((if a then 1 else 0)==b)
 |_,.int a,.bl b=>some (a==(if b then 1 else 0))
 |_,a,b=>match kq a,kq b with
  |some i,some j=>if i=j then none else some false
  |_,_=>none
noncomputable def dI:List D->Option (List Int)
 |[]=>some []
 |.int i::r=>(dI r).map (i::·)
 |_=>none
noncomputable def ltI:List Int->List Int->Bool
 |_,[]=>false
 |[],_::_=>true
 |x::xs,y::ys=>if x=y then ltI xs ys else decide (x<y)
noncomputable def dB:List D->Option (List Bool)
 |[]=>some []
 |.bl b::r=>(dB r).map (b::·)
 |_=>none
noncomputable def cut{α:Type}(xs:List α)(lo hi:Option Int):List α:=(xs.drop (HT.bI xs.length 0 lo)).take (HT.bI xs.length xs.length hi-HT.bI xs.length 0 lo)
noncomputable def iR:D->Option (List D)
 |.tup xs=>some xs
 |.fl xs=>some xs
 |_=>none
noncomputable def cutD(x:D)(lo hi:Option Int):Option Rz:=match x with
 |.tup xs=>some (.dat (.tup (cut xs lo hi)))
 |.fl xs=>some (.nw (cut xs lo hi))
 |_=>none
noncomputable def memD(d:D):List D->Option Bool
 |[]=>some false
 |x::r=>match c7 50 x d,memD d r with
  |some a,some b=>some (a||b)
  |_,_=>none
noncomputable def Fv(d:D):List D->Nat
 |[]=>0
 |x::r=>Fv d r+(if c7 50 x d=some true then 1 else 0)
noncomputable def yR:Kd->D->Bool
 |.list,.fl _=>true
 |.str,.str _=>true
 |.dict,.fd _ _=>true
 |_,_=>false
noncomputable def bR(f:Int->Int->Option D):List D->Option Rz
 |[.int i,.int j]=>(f i j).map .dat
 |_=>none
noncomputable def oA(f:Int->D):List D->Option Rz
 |[.int i]=>some (.dat (f i))
 |_=>none
noncomputable def pN(f:List D->Option Rz):List D->Option Rz
 |[a]=>(iR a).bind f
 |_=>none
noncomputable def yS:List D->Option Rz
 |[.int i,.int j]=>some (.dat (.int (i+j)))
 |[.tup xs,.tup ys]=>if xs.length+ys.length<=sizeLine then some (.dat (.tup (xs++ys))) else none
 |[.fl xs,.fl ys]=>if xs.length+ys.length<=sizeLine then some (.nw (xs++ys)) else none
 |[.str x,.str y]=>if x.length+y.length<=sizeLine then some (.dat (.str (x++y))) else none
 |_=>none
noncomputable def Fw:List D->Option Rz
 |[.int i,.int j]=>some (.dat (.bl (decide (i<j))))
 |[.tup xs,.tup ys]=>match dI xs,dI ys with
  |some a,some b=>some (.dat (.bl (ltI a b)))
  |_,_=>none
 |_=>none
noncomputable def Bb(f:Bool->Bool):List D->Option Rz
 |[a,b]=>(c7 50 a b).map λk=>.dat (.bl (f k))
 |_=>none
noncomputable def Bc(f:Bool->Bool):List D->Option Rz
 |[a,b]=>((iR b).bind (memD a)).map λk=>.dat (.bl (f k))
 |_=>none
noncomputable def D.jE:D->Bool
 |.non=>true
 |_=>false
noncomputable def yU(f:Bool->Bool):List D->Option Rz
 |[a]=>some (.dat (.bl (f a.jE)))
 |_=>none
noncomputable def Fx:List D->Option Rz
 |[.int i]=>some (.dat (.int i))
 |[.bl k]=>some (.dat (.int (if k then 1 else 0)))
 |_=>none
noncomputable def yV:List D->Option Rz
 |[.fl xs]=>(dB xs).map λbs=>.dat (.bl (bs.all id))
 |_=>none
noncomputable def kE:List D->Option (List Int)
 |[]=>some []
 |.int i::r=>(kE r).map (i::·)
 |_=>none
noncomputable def best(bt:Int->Int->Bool)(i:Int)(is:List Int):Int:=is.foldl (λm j=>if bt j m then j else m) i
noncomputable def Fy(bt:Int->Int->Bool):Option (List Int)->Option Rz
 |some (i::is)=>some (.dat (.int (best bt i is)))
 |_=>none
noncomputable def wg(bt:Int->Int->Bool):List D->Option Rz
 |[a]=>(iR a).bind λxs=>Fy bt (kE xs)
 |_=>none
noncomputable def okR(i j:Int):Bool:=decide (-(2^62)<=i/\i<2^62/\-(2^62)<=j/\j<2^62/\(j-i).toNat<=65536)
noncomputable def Fz(i:Int)(n:Nat):List D:=(List.range n).map λk=>.int (i+(k:Nat))
noncomputable def Nz:List D->Option Rz
 |[.int j]=>if okR 0 j then some (.nw (Fz 0 (j-0).toNat)) else none
 |[.int i,.int j]=>if okR i j then some (.nw (Fz i (j-i).toNat)) else none
 |_=>none
noncomputable def yW:List D->Option Rz
 |[.int j]=>if okR 0 j then some (.dat (.tup (Fz 0 (j-0).toNat))) else none
 |_=>none
noncomputable def mZ:List D->Option Rz
 |[a]=>(iR a).map λxs=>.dat (.tup xs)
 |_=>none
noncomputable def NK:List D->Option Rz
 |[a,.int i]=>((iR a).bind λxs=>L2.nZ xs i).map .dat
 |_=>none
noncomputable def pO:List D->List D->Option Bool
 |[],ys=>some (decide (0<ys.length))
 |_::_,[]=>some false
 |.int x::xs,.int y::ys=>if x=y then pO xs ys else some (decide (x<y))
 |_::_,_::_=>none
noncomputable def wj(xs:List D)(i j:Nat):Option Bool:=match xs[i]?,xs[j]? with
 |some (.int x),some (.int y)=>some (decide (x<y))
 |some (.tup us),some (.tup ws)=>pO us ws
 |_,_=>none
noncomputable def wk(b:List Int):List (List Int)->List Int
 |[]=>b
 |x::r=>wk (if ltI x b=true then x else b) r
noncomputable def wu:List D->Option (List (List Int))
 |[]=>some []
 |.tup xs::r=>match dI xs,wu r with
  |some a,some b=>some (a::b)
  |_,_=>none
 |_=>none
noncomputable def FJ:List D->Option Rz
 |[.fl xs]=>match wu xs with
  |some (x::r)=>some (.dat (.tup ((wk x r).map .int)))
  |_=>none
 |_=>none
noncomputable def iU:D->Bool
 |.int _=>true
 |_=>false
noncomputable def gG:D->Bool
 |.tup (.int _::_)=>true
 |_=>false
noncomputable def oE(lt:Nat->Nat->Option Bool)(xs:List D):Option (List D):=if xs.length<2 then some xs else if xs.length<64 then (match L2.bJ lt (PySem.W.kas_sort xs.length) with
  |some p=>if p.size=xs.length then some (p.toList.map λi=>xs.getD i .non) else none
  |none=>none) else none
noncomputable def wz(xs:List D):Option (List D):=if xs.all iU||xs.all gG then oE (wj xs) xs else none
noncomputable def kI:List D->Option Rz
 |[.fl xs]=>(wz xs).map .nw
 |_=>none
noncomputable def ltK(ks:List Int)(i j:Nat):Option Bool:=match ks[i]?,ks[j]? with
 |some x,some y=>some (decide (x<y))
 |_,_=>none
noncomputable def yX:List D->Option Rz
 |[.tup xs]=>some (.dat (.tup xs.reverse))
 |_=>none
noncomputable def yZ:List D->Option Rz
 |[.fl xs,d]=>(memD d xs).map λ_=>.dat (.int (Fv d xs:Nat))
 |_=>none
noncomputable def zc:List D->Option Rz
 |[.fl xs,.bl b]=>((dB xs).bind λbs=>bs.idxOf? b).map λ(i:Nat)=>.dat (.int i)
 |_=>none
noncomputable def NP:List D->Option Rz
 |[.int i]=>if i.natAbs<2^62 then some (.dat (.str (Str.ofString (toString i)))) else none
 |_=>none
noncomputable def kJ(f:D->Option PyData):List D->Option (List PyData)
 |[]=>some []
 |x::r=>match f x,kJ f r with
  |some a,some b=>some (a::b)
  |_,_=>none
noncomputable def pd:Nat->D->Option PyData
 |n+1,.tup xs=>(kJ (pd n) xs).map .tuple
 |n+1,.fl xs=>(kJ (pd n) xs).map .list
 |_,.non=>some .none
 |_,.bl b=>some (.bool b)
 |_,.int i=>some (.int i)
 |_,.str x=>some (.str x)
 |_,_=>none
noncomputable def pe:Nat->D->Option PyData
 |n+1,.tup xs=>(kJ (pe n) xs).map .tuple
 |n+1,.fd [.str k] [.int i]=>some (.dict [(.str k,.int i)])
 |_,.non=>some .none
 |_,.bl b=>some (.bool b)
 |_,.int i=>some (.int i)
 |_,.str x=>some (.str x)
 |_,_=>none
noncomputable def NQ(a b:Option PyData):Option PyData:=match a with
 |some d=>some d
 |none=>b
noncomputable def Bf:D->Option PyData
 |.fd [.str k] [.int i]=>some (.dict [(.str k,.int i)])
 |x=>NQ (pd 40 x) (pe 40 x)
noncomputable def Bg(d:PyData):Option Rz:=if d.showable=true/\d.shown.length<=sizeLine then some (.dat (.str d.shown)) else none
noncomputable def qU:List D->Option Rz
 |[x]=>(Bf x).bind Bg
 |_=>none
noncomputable def wA:List (Int×Int):=[(0,1),(0,2),(0,3),(0,4),(0,5),(0,6),(0,7),(1,2),(1,3),(1,4),(1,5),(1,6),(1,7),(2,3),(2,4),(2,5),(2,6),(2,7),(3,4),(3,5),(3,6),(3,7),(4,5),(4,6),(4,7),(5,6),(5,7),(6,7)]
noncomputable def ss(ts:List (Int×Int)):List (Int×Int):=wA.filter λt=>ts.contains t
noncomputable def NT:D->Option (Int×Int)
 |.tup [.int a,.int b]=>if 0<=a/\a<b/\b<8 then some (a,b) else none
 |_=>none
noncomputable def wD:List D->Option (List (Int×Int))
 |[]=>some []
 |x::r=>match NT x,wD r with
  |some a,some b=>some (a::b)
  |_,_=>none
noncomputable def pSs:List D->Option Rz
 |[.tup xs]=>(wD xs).map λts=>.nw ((ss ts).map λp=>.tup [.int p.1,.int p.2])
 |_=>none
noncomputable def FN(is:List Int):Bool:=decide (is.length<=1000)&&is.all λi=>decide (-1000000<=i/\i<=1000000)
noncomputable def NZ(is:List Int):Option Rz:=match FN is with
 |true=>some (.dat (.int is.sum))
 |false=>none
noncomputable def N5:List D->Option Rz
 |[a]=>(iR a).bind λxs=>(kE xs).bind NZ
 |_=>none
noncomputable def kO:List Int->List Int
 |[]=>[]
 |x::r=>if r.contains x then kO r else x::kO r
noncomputable def FP:List D->Option Rz
 |[.tup xs]=>(kE xs).map λis=>.dat (.int (kO is).length)
 |_=>none
noncomputable def rep{α:Type}(xs:List α)(n:Nat):List α:=(List.replicate n xs).flatten
noncomputable def FQ:List D->Option Rz
 |[.fl xs,.int n]=>if 0<=n/\n<=1000/\xs.length<=1000 then some (.nw (rep xs n.toNat)) else none
 |_=>none
noncomputable def zj:List D->Option Rz
 |[.tup xs]=>if xs.all iU=true then (wz xs).map .nw else none
 |_=>none
noncomputable def wF:List D->Option Rz
 |[.tup xs,.int n]=>if 1<=n/\n<=1000/\1<=xs.length/\xs.length<=1000 then some (.dat (.tup (rep xs n.toNat))) else none
 |_=>none
noncomputable def N6(xs ys:List D):List D:=List.zipWith (λp q=>.tup [p,q]) xs ys
noncomputable def FT:List D->Option Rz
 |[a,b]=>match iR a,iR b with
  |some xs,some ys=>some (.nw (N6 xs ys))
  |_,_=>none
 |_=>none
noncomputable def FW:List D->Option Rz
 |[.tup xs]=>some (.dat (.tup (xs.drop 1).reverse))
 |[.fl xs]=>some (.nw (xs.drop 1).reverse)
 |_=>none
noncomputable def D.isB(b:Bool):D->Bool
 |.bl c=>b==c
 |_=>false
noncomputable def zm(b:Bool)(f:Bool->Bool):List D->Option Rz
 |[a]=>some (.dat (.bl (f (a.isB b))))
 |_=>none
noncomputable def Fp:List D->Option Nat
 |[]=>none
 |.tup []::_=>some 0
 |.tup (_::_)::r=>(Fp r).map (·+1)
 |.non::r=>(Fp r).map (·+1)
 |_=>none
noncomputable def N7:List D->Option Rz
 |[.tup xs,.tup []]=>(Fp xs).map λi=>.dat (.int i)
 |_=>none
noncomputable def FZ:D->Option Bool
 |.non=>some false
 |.bl b=>some b
 |.int i=>some (i != 0)
 |.tup xs=>some (!xs.isEmpty)
 |.fl xs=>some (!xs.isEmpty)
 |_=>none
noncomputable def prim:Pr->List D->Option Rz
 |.add=>yS
 |.ao=>bR λi j=>some (.int (i-j))
 |.mul=>bR λi j=>if (-(2^64)<i/\i<2^64)\/(-(2^64)<j/\j<2^64) then some (.int (i*j)) else none
 |.fdiv=>bR λi j=>if 0<j/\j<1073741824 then some (.int (i/j)) else none
 |.mod=>bR λi j=>if 0<j then some (.int (i%j)) else none
 |.pow=>bR λi j=>if 0<=j/\j<=1000000/\i.natAbs<2^64 then some (.int (i^j.toNat)) else none
 |.neg=>oA λi=>.int (-i)
 |.eq=>Bb id
 |.ne=>Bb not
 |.lt=>Fw
 |.le=>bR λi j=>some (.bl (decide (i<=j)))
 |.gt=>bR λi j=>some (.bl (decide (j<i)))
 |.ge=>bR λi j=>some (.bl (decide (j<=i)))
 |.inn=>Bc id
 |.nin=>Bc not
 |.qQ=>yU id
 |.v7=>yU not
 |.len=>pN λxs=>some (.dat (.int xs.length))
 |.abs=>oA λi=>.int (if i<0 then -i else i)
 |.max2=>bR λi j=>some (.int (if j>i then j else i))
 |.min2=>bR λi j=>some (.int (if j<i then j else i))
 |.uI=>Fx
 |.divmod=>bR λi j=>if 0<j/\j<1073741824 then some (.tup [.int (i/j),.int (i%j)]) else none
 |.all=>yV
 |.UL=>Nz
 |.Fg=>wg λa b=>decide (a>b)
 |.Fi=>wg λa b=>decide (a<b)
 |.Fj=>FJ
 |.Ba=>yW
 |.list=>pN λxs=>some (.nw xs)
 |.tuple=>mZ
 |.ix=>NK
 |.rev=>yX
 |.sorted=>kI
 |.ou=>pSs
 |.Fl=>FQ
 |.mult=>wF
 |.v8=>zj
 |.sum=>N5
 |.qR=>FP
 |.count=>yZ
 |.index=>zc
 |.repr=>qU
 |.str1=>NP
 |.Ja=>bR λi j=>some (.bl (!decide (0<=i/\i<j)))
 |.Nr=>FT
 |.Nt=>FW
 |.shl=>bR λi j=>if 0<=j/\j<=64/\i.natAbs<2^64 then some (.int (i*2^j.toNat)) else none
 |.shr=>bR λi j=>if 0<=j/\j<=64/\0<=i then some (.int (i/2^j.toNat)) else none
 |.band=>bR λi j=>if j=1/\0<=i then some (.int (i%2)) else none
 |.isT=>zm true id
 |.noT=>zm true not
 |.isF=>zm false id
 |.Fp=>N7
noncomputable def jF(ao:Nat->Nat->Bool):D->Kd->Option Bool
 |.exc c _,.cls e=>some (ao c e)
 |.exc _ _,.pL=>some true
 |.exc _ _,_=>none
 |.ob _ _,_=>none
 |.any,_=>none
 |_,.cls _=>none
 |_,.pL=>none
 |.bl _,.bool=>some true
 |.bl _,.int=>some true
 |.bl _,_=>some false
 |.int _,.int=>some true
 |.int _,_=>some false
 |.non,_=>some false
 |.str _,.str=>some true
 |.str _,_=>some false
 |.tup _,.tuple=>some true
 |.tup _,_=>some false
 |.fl _,.list=>some true
 |.fl _,_=>some false
 |.fd _ _,.dict=>some true
 |.fd _ _,_=>some false
noncomputable def rd(x:Xv):M D:=λs=>match x with
 |.d v=>some (.ok v,s)
 |.l n=>match s[n]? with
  |some (.lst xs)=>some (.ok (.fl xs),s)
  |_=>none
noncomputable def eE:List Xv->M (List D)
 |[]=>M.ret []
 |x::r=>M.bd (rd x) λd=>M.bd (eE r) λds=>M.ret (d::ds)
noncomputable def dat(x:Xv):M D:=match x with
 |.d v=>M.ret v
 |.l _=>M.no
noncomputable def bW:List Xv->M (List D)
 |[]=>M.ret []
 |x::r=>M.bd (dat x) λd=>M.bd (bW r) λds=>M.ret (d::ds)
noncomputable def bool(x:Xv):M Bool:=match x with
 |.d (.bl b)=>M.ret b
 |_=>M.no
noncomputable def int(x:Xv):M Int:=match x with
 |.d (.int b)=>M.ret b
 |_=>M.no
noncomputable def newL(fz:Bool)(xs:List D):M Xv:=match fz with
 |true=>M.ret (.d (.fl xs))
 |false=>λs=>some (.ok (.l s.length),s++[.lst xs])
noncomputable def bO(fz:Bool)(o:Option Rz):M Xv:=match o with
 |some (.dat d)=>M.ret (.d d)
 |some (.nw xs)=>newL fz xs
 |none=>M.no
noncomputable def cF(x:Xv):M (Nat×List D):=λs=>match x with
 |.l n=>match s[n]? with
  |some (.lst xs)=>some (.ok (n,xs),s)
  |_=>none
 |_=>none
noncomputable def putL(n:Nat)(xs:List D):M Unit:=λs=>some (.ok (),s.set n (.lst xs))
noncomputable def N8:D->Option Kx
 |.non=>some .non
 |.int i=>some (.int i)
 |.tup xs=>(dI xs).map .row
 |_=>none
noncomputable def U6:List D->Option (List Kx)
 |[]=>some []
 |x::r=>match N8 x,U6 r with
  |some a,some b=>some (a::b)
  |_,_=>none
noncomputable def kOf:D->Option (List Kx)
 |.tup xs=>U6 xs
 |_=>none
noncomputable abbrev tu:=List (List Kx×D)
noncomputable def uJ(k:List Kx):tu->Option D
 |[]=>none
 |p::r=>if p.1=k then some p.2 else uJ k r
noncomputable def N_(k:List Kx)(d:D)(r:tu):tu:=if (uJ k r).isSome=true then r.map λp=>if p.1=k then (p.1,d) else p else r++[(k,d)]
noncomputable def qW(x:Xv):M (Nat×tu):=λs=>match x with
 |.l n=>match s[n]? with
  |some (.dct kvs)=>some (.ok (n,kvs),s)
  |_=>none
 |_=>none
noncomputable def putD(n:Nat)(kvs:tu):M Unit:=λs=>some (.ok (),s.set n (.dct kvs))
noncomputable def key(x:Xv):M (List Kx):=match x with
 |.d v=>M.opt (kOf v)
 |.l _=>M.no
noncomputable def enumFrom:Nat->List D->List D
 |_,[]=>[]
 |i,x::r=>.tup [.int i,x]::enumFrom (i+1) r
inductive Src where
 |fix (xs:List D)|live (n:Nat)|wG (n:Nat)
noncomputable def Src.at(c:Src)(i:Nat)(s:S):Option (Option D):=match c with
 |.fix xs=>some xs[i]?
 |.live n=>match s[n]? with
  |some (.lst xs)=>some xs[i]?
  |_=>none
 |.wG n=>match s[n]? with
  |some (.lst xs)=>some (xs[i]?.map λx=>.tup [.int i,x])
  |_=>none
noncomputable def qX(x:Xv):M (Src×Nat):=λs=>match x with
 |.d (.tup xs)=>some (.ok (.fix (enumFrom 0 xs),(enumFrom 0 xs).length),s)
 |.d (.fl xs)=>some (.ok (.fix (enumFrom 0 xs),(enumFrom 0 xs).length),s)
 |.l n=>match s[n]? with
  |some (.lst xs)=>some (.ok (.wG n,xs.length),s)
  |_=>none
 |_=>none
noncomputable def src(x:Xv):M (Src×Nat):=λs=>match x with
 |.d (.tup xs)=>some (.ok (.fix xs,xs.length),s)
 |.d (.fl xs)=>some (.ok (.fix xs,xs.length),s)
 |.l n=>match s[n]? with
  |some (.lst xs)=>some (.ok (.live n,xs.length),s)
  |_=>none
 |_=>none
noncomputable def m6(x:Xv):M (List D):=match x with
 |.d (.tup xs)=>M.ret xs
 |.d (.fl xs)=>M.ret xs
 |_=>M.no
noncomputable def fQ(a b:Int):List D:=(List.range (b-a).toNat).map λ(i:Nat)=>.int (a+i)
noncomputable def dJ(a:Int):Bool:=decide (-(2^62)<a)&&decide (a<2^62)
noncomputable def walk(c:Src)(f:D->List D->M (List D)):Nat->Nat->List D->M (List D)
 |0,_,_=>M.no
 |k+1,i,acc=>λs=>match c.at i s with
  |none=>none
  |some none=>some (.ok acc,s)
  |some (some x)=>M.bd (f x acc) (λacc'=>walk c f k (i+1) acc') s
noncomputable def wH(f:D->M Xv):List D->Option (List Int)
 |[]=>some []
 |x::r=>match f x [] with
  |some (.ok (.d (.int k)),[])=>(wH f r).map (k::·)
  |_=>none
noncomputable abbrev Vs:=List (Option Xv)
noncomputable abbrev Fn:=Nat->List Xv->M Xv
noncomputable def locs:List Xv->List Nat
 |[]=>[]
 |.d _::r=>locs r
 |.l n::r=>n::locs r
noncomputable def cM:Nat->List Xv->List Xv
 |_,[]=>[]
 |k,.d v::r=>.d v::cM k r
 |k,.l _::r=>.l k::cM (k+1) r
noncomputable def gH(s:S):List Nat->Option S
 |[]=>some []
 |n::r=>match s[n]?,gH s r with
  |some o,some q=>some (o::q)
  |_,_=>none
noncomputable def cG(s:S):List Nat->S->S
 |n::r,o::q=>cG (s.set n o) r q
 |_,_=>s
noncomputable def bN(F:List Xv->M Xv)(xs:List Xv):M Xv:=λs=>
 if (locs xs).Nodup then match gH s (locs xs) with
  |none=>none
  |some s0=>match F (cM 0 xs) s0 with
   |none=>none
   |some (.er c fs,s1)=>some (.er c fs,cG s (locs xs) s1)
   |some (.ok (.d v),s1)=>some (.ok (.d v),cG s (locs xs) s1)
   |some (.ok (.l n),s1)=>match (locs xs)[n]? with
    |some m=>some (.ok (.l m),cG s (locs xs) s1)
    |none=>match s1[n]? with
     |some o=>some (.ok (.l s.length),cG s (locs xs) s1++[o])
     |none=>none
 else none
noncomputable def Oa(F:List Xv->M Xv)(c:Nat)(vs:List Xv):M Xv:=λs=>
 if locs vs=[] then match F (.d .any::vs) [] with
  |some (.ok (.d (.tup ds)),_)=>some (.ok (.d (.ob c ds)),s)
  |_=>none
 else none
noncomputable def pP(c:Nat)(x:Xv):M (List D):=match x with
 |.d (.ob e fs)=>if e=c then M.ret fs else M.no
 |_=>M.no
noncomputable def fu{α:Type}:List Nat->List α->List (Option α)->Option (List (Option α))
 |[],[],J=>some J
 |i::is,d::ds,J=>fu is ds (J.set i (some d))
 |_,_,_=>none
noncomputable def jG:D->Option (List D)
 |.tup xs=>some xs
 |_=>none
noncomputable def eF(tg:List Nat)(x:D)(J:Vs):Option Vs:=match tg with
 |[i]=>some (J.set i (some (.d x)))
 |is=>(jG x).bind λds=>fu is (ds.map .d) J
noncomputable def blk(many:Nat)(fr:List Nat)(J:Vs):Vs:=List.replicate many none++fr.map λj=>J[j]?.join
section
variable (ao:Nat->Nat->Bool)(aj:Bool)(F:Fn)
mutual
noncomputable def ev:E->Vs->M Xv
 |.c d,_=>M.ret (.d d)
 |.v i,J=>M.opt (J[i]?.join)
 |.pr fz p xs,J=>M.bd (evs xs J) λvs=>M.bd (eE vs) λds=>bO fz (prim p ds)
 |.v9 p q a b c,J=>M.bd (ev a J) λx=>M.bd (ev b J) λy=>M.bd (eE [x,y]) λds=>M.bd (bO true (prim p ds)) λt=>M.bd (bool t) λk=>
   if k=true then M.bd (ev c J) λz=>M.bd (eE [y,z]) λds=>bO true (prim q ds) else M.ret (.d (.bl false))
 |.ch3 p q r a b c d,J=>M.bd (ev a J) λx=>M.bd (ev b J) λy=>M.bd (eE [x,y]) λds=>M.bd (bO true (prim p ds)) λt=>M.bd (bool t) λk=>
   if k=true then M.bd (ev c J) λz=>M.bd (eE [y,z]) λds=>M.bd (bO true (prim q ds)) λt=>M.bd (bool t) λk2=>
    if k2=true then M.bd (ev d J) λw=>M.bd (eE [z,w]) λds=>bO true (prim r ds) else M.ret (.d (.bl false))
   else M.ret (.d (.bl false))
 |.and a b,J=>M.bd (ev a J) λx=>M.bd (bool x) λk=>if k=true then ev b J else M.ret (.d (.bl false))
 |.or a b,J=>M.bd (ev a J) λx=>M.bd (bool x) λk=>if k=true then M.ret (.d (.bl true)) else ev b J
 |.not a,J=>M.bd (ev a J) λx=>M.bd (bool x) λk=>M.ret (.d (.bl (!k)))
 |.ite c a b,J=>M.bd (ev c J) λx=>M.bd (bool x) λk=>if k=true then ev a J else ev b J
 |.tup xs,J=>M.bd (evs xs J) λvs=>M.bd (bW vs) λds=>M.ret (.d (.tup ds))
 |.lst fz xs,J=>M.bd (evs xs J) λvs=>M.bd (bW vs) λds=>newL fz ds
 |.qT k i,_=>M.ret (.d (.fd [.str k] [.int i]))
 |.call f xs,J=>M.bd (evs xs J) λvs=>bN (F f) vs
 |.jD a k,J=>M.bd (ev a J) λx=>M.bd (rd x) λd=>M.bd (M.opt (jF ao d k)) λb=>M.ret (.d (.bl b))
 |.sl fz a lo hi,J=>M.bd (ev a J) λx=>M.bd (uK lo J) λl=>M.bd (uK hi J) λh=>M.bd (rd x) λd=>bO fz (cutD d l h)
 |.meth fz p k o xs,J=>M.bd (ev o J) λx=>M.bd (rd x) λd=>if yR k d=true then M.bd (evs xs J) λys=>M.bd (eE (x::ys)) λds=>bO fz (prim p ds) else M.no
 |.push o a,J=>M.bd (ev o J) λx=>M.bd (cF x) λ_=>M.bd (ev a J) λy=>M.bd (dat y) λd=>M.bd (cF x) λnx=>if nx.2.length<sizeLine then M.bd (putL nx.1 (nx.2++[d])) λ_=>M.ret (.d .non) else M.no
 |.pop o,J=>M.bd (ev o J) λx=>M.bd (cF x) λnx=>match nx.2.getLast? with
   |some d=>M.bd (putL nx.1 nx.2.dropLast) λ_=>M.ret (.d d)
   |none=>M.no
 |.comp fz elt tg it fr many cond,J=>if aj=true then M.bd (kW it J) λcn=>
   M.bd (walk cn.1 (λd acc=>M.bd (M.opt (eF tg d (blk many fr J))) λJ'=>M.bd (M.qt (oF cond J')) λok=>
    if ok=true then M.bd (M.qt (ev elt J')) λy=>M.bd (dat y) λe=>if acc.length<sizeLine then M.ret (acc++[e]) else M.no else M.ret acc) (cn.2+1) 0 []) λxs=>newL fz xs
  else M.no
 |.Fq fz elt tg it UW Fe fr many cond,J=>if aj=true then M.bd (kW it J) λcn=>
   M.bd (walk cn.1 (λd acc=>M.bd (M.opt (eF tg d (blk many fr J))) λJ'=>M.bd (M.qt (kW Fe J')) λU7=>
    walk U7.1 (λd2 acc=>M.bd (M.opt (eF UW d2 J')) λU8=>M.bd (M.qt (oF cond U8)) λok=>
     if ok=true then M.bd (M.qt (ev elt U8)) λy=>M.bd (dat y) λe=>if acc.length<sizeLine then M.ret (acc++[e]) else M.no else M.ret acc) (U7.2+1) 0 acc) (cn.2+1) 0 []) λxs=>newL fz xs
  else M.no
 |.fld o cs i,J=>M.bd (ev o J) λx=>match x with
   |.d (.exc c fs)=>if cs.contains c=true then M.opt (fs[i]?.map .d) else M.no
   |_=>M.no
 |.of o c i,J=>M.bd (ev o J) λx=>M.bd (pP c x) λfs=>M.opt (fs[i]?.map .d)
 |.mk c f xs,J=>M.bd (evs xs J) λvs=>Oa (F f) c vs
 |.cm c f o xs,J=>M.bd (ev o J) λx=>M.bd (pP c x) λ_=>M.bd (evs xs J) λvs=>M.qt (bN (F f) (x::vs))
 |.Nu,_=>λs=>some (.ok (.l s.length),s++[.dct []])
 |.din b k d,J=>M.bd (ev k J) λx=>M.bd (ev d J) λy=>M.bd (key x) λkx=>M.bd (qW y) λnk=>M.ret (.d (.bl ((uJ kx nk.2).isSome==b)))
 |.Nv d k,J=>M.bd (ev d J) λy=>M.bd (ev k J) λx=>M.bd (key x) λkx=>M.bd (qW y) λnk=>M.opt ((uJ kx nk.2).map .d)
 |.tru a,J=>M.bd (ev a J) λx=>M.bd (rd x) λd=>M.bd (M.opt (FZ d)) λk=>M.ret (.d (.bl k))
 |.Ft fz a b,J=>if aj=true then M.bd (ev a J) λx=>match x with
   |.d (.fl xs)=>M.bd (M.opt (wH (λd=>ev b [some (.d d)]) xs)) λks=>M.bd (M.opt (oE (ltK ks) xs)) λys=>newL fz ys
   |_=>M.no else M.no
 |.orv a b,J=>M.bd (ev a J) λx=>M.bd (rd x) λd=>M.bd (M.opt (FZ d)) λk=>if k=true then M.ret x else ev b J
 |.ins o i a,J=>M.bd (ev o J) λx=>M.bd (cF x) λ_=>M.bd (ev i J) λz=>M.bd (int z) λj=>M.bd (ev a J) λy=>M.bd (dat y) λd=>M.bd (cF x) λnx=>if 0<=j/\j<=nx.2.length/\nx.2.length<sizeLine then M.bd (putL nx.1 (nx.2.take j.toNat++d::nx.2.drop j.toNat)) λ_=>M.ret (.d .non) else M.no
 |.no,_=>M.no
noncomputable def kW:Wk->Vs->M (Src×Nat)
 |.seq e,J=>M.bd (ev e J) src
 |.rg a b,J=>M.bd (ev a J) λx=>M.bd (ev b J) λy=>M.bd (int x) λi=>M.bd (int y) λj=>if dJ i&&dJ j then M.ret (.fix (fQ i j),(fQ i j).length) else M.no
 |.zip a b,J=>M.bd (ev a J) λx=>M.bd (ev b J) λy=>M.bd (m6 x) λxs=>M.bd (m6 y) λys=>M.ret (.fix (List.zipWith (λp q=>.tup [p,q]) xs ys),(List.zipWith (λ(p q:D)=>D.tup [p,q]) xs ys).length)
 |.enum a,J=>M.bd (ev a J) qX
 |.rrg a,J=>M.bd (ev a J) λx=>M.bd (int x) λi=>if dJ i then M.ret (.fix (fQ 0 i).reverse,(fQ 0 i).length) else M.no
noncomputable def uK:Eo->Vs->M (Option Int)
 |.no,_=>M.ret none
 |.yes a,J=>M.bd (ev a J) λx=>M.bd (int x) λi=>M.ret (some i)
noncomputable def oF:Eo->Vs->M Bool
 |.no,_=>M.ret true
 |.yes a,J=>M.bd (ev a J) bool
noncomputable def evs:Es->Vs->M (List Xv)
 |.nil,_=>M.ret []
 |.cons a r,J=>M.bd (ev a J) λx=>M.bd (evs r J) λxs=>M.ret (x::xs)
end
end
inductive Out where
 |nx (J:Vs)|rt (x:Xv)|bk (J:Vs)|ct (J:Vs)|er (c:Nat) (fs:List D) (J:Vs)
noncomputable abbrev MS:=S->Option (Out×S)
noncomputable def ofM{α:Type}(m:M α)(J:Vs)(k:α->MS):MS:=λs=>match m s with
 |some (.ok a,s')=>k a s'
 |some (.er c fs,s')=>some (.er c fs J,s')
 |none=>none
noncomputable def bY(m:MS)(k:Vs->MS):MS:=λs=>match m s with
 |some (.nx J,s')=>k J s'
 |r=>r
section
variable (ao:Nat->Nat->Bool)
noncomputable def store(aj:Bool)(F:Fn)(t:Tg)(x:Xv)(J:Vs):MS:=match t with
 |.nm i=>λs=>some (.nx (J.set i (some x)),s)
 |.tp is=>if aj=true then ofM (M.bd (dat x) λd=>M.opt ((jG d).bind λds=>fu is (ds.map .d) J)) J (λJ' s=>some (.nx J',s)) else λ_=>none
 |.ao o i=>ofM (M.bd (dat x) λd=>M.bd (ev ao aj F o J) λy=>M.bd (ev ao aj F i J) λz=>M.bd (int z) λj=>M.bd (cF y) λnx=>
   match L2.pH nx.2.length j with
   |some q=>putL nx.1 (nx.2.set q d)
   |none=>M.no) J (λ_ s=>some (.nx J,s))
noncomputable def m7(c:Vs->M Bool)(b:Vs->MS):Nat->Vs->MS
 |0,_=>λ_=>none
 |k+1,J=>ofM (c J) J λok=>if ok=true then λs=>match b J s with
   |some (.nx J',s')=>m7 c b k J' s'
   |some (.ct J',s')=>m7 c b k J' s'
   |some (.bk J',s')=>some (.nx J',s')
   |r=>r
  else λs=>some (.nx J,s)
noncomputable def cU(c:Src)(b:D->Vs->MS):Nat->Nat->Vs->MS
 |0,_,_=>λ_=>none
 |k+1,i,J=>λs=>match c.at i s with
  |none=>none
  |some none=>some (.nx J,s)
  |some (some d)=>match b d J s with
   |some (.nx J',s')=>cU c b k (i+1) J' s'
   |some (.ct J',s')=>cU c b k (i+1) J' s'
   |some (.bk J',s')=>some (.nx J',s')
   |r=>r
noncomputable def goes(i:Nat):Out->Out
 |.nx J=>.nx (J.set i none)
 |.bk J=>.bk (J.set i none)
 |.ct J=>.ct (J.set i none)
 |r=>r
noncomputable def Ga:Nat:=1000000000000
mutual
noncomputable def ex(aj:Bool)(F:Bool->Fn):St->Vs->MS
 |.pass,J=>λs=>some (.nx J,s)
 |.ex e,J=>ofM (ev ao aj (F aj) e J) J λ_ s=>some (.nx J,s)
 |.asg t e,J=>ofM (ev ao aj (F aj) e J) J λx=>store ao aj (F aj) t x J
 |.par i j a b,J=>if aj=true then ofM (M.bd (ev ao aj (F aj) a J) λx=>M.bd (ev ao aj (F aj) b J) λy=>M.ret (x,y)) J λxy s=>some (.nx ((J.set i (some xy.1)).set j (some xy.2)),s) else λ_=>none
 |.aug i e,J=>ofM (M.bd (M.opt (J[i]?.join)) λx=>M.bd (ev ao aj (F aj) e J) λy=>M.bd (int x) λp=>M.bd (int y) λq=>M.ret (p+q)) J λr s=>some (.nx (J.set i (some (.d (.int r)))),s)
 |.ret e,J=>ofM (ev ao aj (F aj) e J) J λx s=>some (.rt x,s)
 |.rise c kp xs,J=>if aj=true then ofM (M.bd (evs ao aj (F aj) xs J) bW) J λds s=>some (.er c (if kp=true then ds else []) J,s) else λ_=>none
 |.iff c t e,J=>ofM (M.bd (ev ao aj (F aj) c J) bool) J λb=>if b=true then exs aj F t J else exs aj F e J
 |.wh c b,J=>m7 (λJ=>M.bd (ev ao aj (F aj) c J) bool) (λJ=>exs aj F b J) Ga J
 |.fr t w b,J=>if aj=true then ofM (kW ao aj (F aj) w J) J λcn=>cU cn.1 (λd J=>bY (store ao aj (F aj) t (.d d) J) λJ'=>exs aj F b J') (cn.2+1) 0 J else λ_=>none
 |.Ny b d i h,J=>if aj=true then λs=>match exs aj F b J s with
   |some (.er c fs J',s')=>if ao c d=true then (match exs false F h (J'.set i (some (.d (.exc c fs)))) s' with
    |some (r,s'')=>(match r with
     |.er _ _ _=>none
     |r=>some (goes i r,s''))
    |none=>none) else none
   |r=>r
  else λ_=>none
 |.dput d k v,J=>ofM (M.bd (ev ao aj (F aj) v J) λz=>M.bd (dat z) λw=>M.bd (ev ao aj (F aj) d J) λy=>M.bd (ev ao aj (F aj) k J) λx=>M.bd (key x) λkx=>M.bd (qW y) λnk=>if nk.2.length<sizeLine then putD nk.1 (N_ kx w nk.2) else M.no) J (λ_ s=>some (.nx J,s))
 |.no,_=>λ_=>none
noncomputable def exs(aj:Bool)(F:Bool->Fn):bM->Vs->MS
 |.nil,J=>λs=>some (.nx J,s)
 |.cons a r,J=>bY (ex aj F a J) λJ'=>exs aj F r J'
end
structure Df where
 many:Nat
 fU:Nat
 body:bM
noncomputable def call(T:Nat->Option Df):Nat->Bool->Fn
 |0,_,_,_=>M.no
 |k+1,aj,f,xs=>match T f with
  |none=>M.no
  |some d=>if xs.length=d.fU then λs=>match exs ao aj (λc=>call T k c) d.body (xs.map some++List.replicate (d.many-d.fU) none) s with
    |some (.nx _,s')=>some (.ok (.d .non),s')
    |some (.rt v,s')=>some (.ok v,s')
    |some (.er c fs _,s')=>some (.er c fs,s')
    |_=>none
   else M.no
end
end Mi
namespace Mi
open PySem L2
structure Ph where
 z:Addr->Prop
 l:List Addr
structure Cl where
 a:Nat->Addr
 f:Nat->List Str
 b:Nat->Addr
 g:Nat->List Str
section
variable (K:W.Frag)(cA:Cl)
def KT(a:Addr)(vs:List V):Prop:=eZ K (λ_=>none) a vs
def KL(a:Addr)(vs:List V):Prop:=cZ K (λ_=>none) a vs
def TupAt(U:Ph)(H:Hp)(a:Addr)(vs:List V):Prop:=(Rd H a (.tup vs)/\¬U.z a)\/KT K a vs
def LstAt(U:Ph)(H:Hp)(a:Addr)(vs:List V):Prop:=(Rd H a (.lst vs)/\¬U.z a)\/KL K a vs
def ExcAt(U:Ph)(H:Hp)(a:Addr)(c:Nat)(vs:List V):Prop:=¬U.z a/\((cA.f c=[]/\vs=[]/\H a=some (uE a (cA.a c) none))\/∃dx,H a=some (uE a (cA.a c) (some dx))/\¬U.z dx/\H dx=some (.xd ((cA.f c).zip vs))/\(cA.f c).length=vs.length)
def m8(U:Ph)(H:Hp)(a:Addr)(c:Nat)(vs:List V):Prop:=¬U.z a/\∃dx,H a=some (.ins (cA.b c) dx ((cA.g c).zip vs))/\(cA.g c).length=vs.length
mutual
inductive Rep (U:Ph) (H:Hp):D->V->Prop where
 |non:Rep U H .non .non
 |bl (b:Bool):Rep U H (.bl b) (.bl b)
 |int (i:Int):Rep U H (.int i) (.int i)
 |str (x:Str):Rep U H (.str x) (.str x)
 |tup {a:Addr} {xs:List D} {vs:List V} (h:TupAt K U H a vs) (r:aA U H xs vs):Rep U H (.tup xs) (.ref a)
 |fl {a:Addr} {xs:List D} {vs:List V} (h:LstAt K U H a vs) (r:aA U H xs vs):Rep U H (.fl xs) (.ref a)
 |fd {a:Addr} {k:Str} {i:Int} (h:H a=some (.dK [(.inr k,.int i)])) (n:¬U.z a):Rep U H (.fd [.str k] [.int i]) (.ref a)
 |exc {a:Addr} {c:Nat} {xs:List D} {vs:List V} (h:ExcAt cA U H a c vs) (r:aA U H xs vs):Rep U H (.exc c xs) (.ref a)
 |ob {a:Addr} {c:Nat} {xs:List D} {vs:List V} (h:m8 cA U H a c vs) (r:aA U H xs vs):Rep U H (.ob c xs) (.ref a)
 |any (a:Addr):Rep U H .any (.ref a)
inductive aA (U:Ph) (H:Hp):List D->List V->Prop where
 |nil:aA U H [] []
 |cons {d:D} {v:V} {ds:List D} {vs:List V} (h:Rep U H d v) (r:aA U H ds vs):aA U H (d::ds) (v::vs)
end
inductive aX (U:Ph) (H:Hp):Xv->V->Prop where
 |d {x:D} {v:V} (h:Rep K cA U H x v):aX U H (.d x) v
 |l {n:Nat} {a:Addr} (h:U.l[n]?=some a):aX U H (.l n) (.ref a)
inductive aM (U:Ph) (H:Hp):List Xv->List V->Prop where
 |nil:aM U H [] []
 |cons {d:Xv} {v:V} {ds:List Xv} {vs:List V} (h:aX K cA U H d v) (r:aM U H ds vs):aM U H (d::ds) (v::vs)
noncomputable def kxH:Kx->Int
 |.non=>reduceHash 0xFCA86420
 |.int i=>hashInt i
 |.row is=>reduceHash (Builtin.Tuple.tupleHashOf (is.map hashInt))
noncomputable def Gb(k:List Kx):Int:=reduceHash (Builtin.Tuple.tupleHashOf (k.map kxH))
noncomputable def kxD:Kx->D
 |.non=>.non
 |.int i=>.int i
 |.row is=>.tup (is.map .int)
noncomputable def Ob(k:List Kx):D:=.tup (k.map kxD)
noncomputable abbrev pQ:=List (List Kx×Addr×Value)
noncomputable def DcO(a:Addr)(xs:pQ):HO:=.ext λh=>(a==sysModules)=false/\xs.length<=sizeLine/\∃o es ep,h.get? a=some o/\o.ExactDict/\o.data=.dict es ep/\es.toList=xs.map (λx=>⟨Gb x.1,.ref x.2.1,x.2.2⟩)/\(xs.map (·.1)).Nodup
inductive zp (U:Ph) (H:Hp):tu->pQ->Prop where
 |nil:zp U H [] []
 |cons {k:List Kx} {d:D} {ka:Addr} {u:Value} {v:V} {r:tu} {xs:pQ} (hk:Rep K cA U H (Ob k) (.ref ka)) (hu:RelV v u) (hv:Rep K cA U H d v) (q:zp U H r xs):zp U H ((k,d)::r) ((k,ka,u)::xs)
noncomputable def je(U:Ph)(H:Hp)(a:Addr):SO->Prop
 |.lst xs=>∃vs,H a=some (.lst vs)/\aA K cA U H xs vs
 |.dct kvs=>∃xs,H a=some (DcO a xs)/\zp K cA U H kvs xs
structure aG(U:Ph)(H:Hp)(s:S):Prop where
 len:U.l.length=s.length
 obj:∀(n:Nat) o a,s[n]?=some o->U.l[n]?=some a->je K cA U H a o
 uniq:U.l.Nodup
 lz:∀a∈U.l,U.z a
 zt:∀a,U.z a->∃o,H a=some o
structure Ext(U:Ph)(H:Hp)(U':Ph)(H':Hp):Prop where
 more:∃r,U'.l=U.l++r/\∀b∈r,H b=none
 qg:∀a,U.z a->U'.z a
 kY:∀a,U'.z a->U.z a\/H a=none
 frame:∀a o,H a=some o->a∉U.l->H' a=some o
 stay:∀a o,H a=some o->∃o',H' a=some o'
def aU(U:Ph)(H:Hp)(Z:L2.St)(J:Vs):Prop:=Z.length=J.length/\∀(i:Nat) (x:Xv),J[i]?=some (some x)->∃v,Z[i]?=some (some v)/\aX K cA U H x v
end
section
variable {K:W.Frag}{cA:Cl}{U U' Oc:Ph}{H H' Gd:Hp}{s:S}{Z:L2.St}{J:Vs}
theorem Ext.refl:Ext U H U H:=⟨⟨[],by simp,by simp⟩,λ_ h=>h,λ_ h=>.inl h,λ_ _ h _=>h,λ_ o h=>⟨o,h⟩⟩
theorem Ext.jH(x:Ext U H U' H'){a:Addr}(h:H' a=none):H a=none:=by
 cases e:H a with
 |none=>rfl
 |some o=>obtain⟨o',q⟩:=x.stay a o e;rw[h] at q;cases q
theorem Ext.trans(x:Ext U H U' H')(y:Ext U' H' Oc Gd):Ext U H Oc Gd:=by
 obtain⟨r,e,hr⟩:=x.more;obtain⟨r',e',wI⟩:=y.more;refine⟨⟨r++r',by rw[e',e,Hw],λb hb=>?_⟩,λa h=>y.qg a (x.qg a h),λa h=>?_,λa o h n=>y.frame a o (x.frame a o h n) ?_,λa o h=>?_⟩
 ·rcases jh.mp hb with z|z
  ·exact hr b z
  ·exact x.jH (wI b z)
 ·rcases y.kY a h with z|z
  ·exact x.kY a z
  ·exact .inr (x.jH z)
 ·rw[e];intro z;rcases jh.mp z with z|z
  ·exact n z
  ·rw[hr a z] at h;cases h
 ·obtain⟨o',q⟩:=x.stay a o h;exact y.stay a o' q
theorem Ext.get(x:Ext U H U' H'){n:Nat}{a:Addr}(h:U.l[n]?=some a):U'.l[n]?=some a:=by
 obtain⟨r,e,_⟩:=x.more;rw[e,nG (fB.mp h).1];exact h
theorem Ext.out(x:Ext U H U' H')(hz:∀a∈U.l,U.z a){a:Addr}{o:HO}(h:H a=some o)(n:¬U.z a):H' a=some o/\¬U'.z a:=
 ⟨x.frame a o h λz=>n (hz a z),λz=>by
  rcases x.kY a z with y|y
  ·exact n y
  ·rw[h] at y;cases y⟩
theorem TupAt.mono(x:Ext U H U' H')(hz:∀a∈U.l,U.z a){a:Addr}{vs:List V}(h:TupAt K U H a vs):TupAt K U' H' a vs:=by
 rcases h with ⟨h|⟨o,h⟩,n⟩|h
 ·obtain⟨p,q⟩:=x.out hz h n;exact .inl ⟨.inl p,q⟩
 ·obtain⟨p,q⟩:=x.out hz h n;exact .inl ⟨.inr ⟨o,p⟩,q⟩
 ·exact .inr h
theorem LstAt.mono(x:Ext U H U' H')(hz:∀a∈U.l,U.z a){a:Addr}{vs:List V}(h:LstAt K U H a vs):LstAt K U' H' a vs:=by
 rcases h with ⟨h|⟨o,h⟩,n⟩|h
 ·obtain⟨p,q⟩:=x.out hz h n;exact .inl ⟨.inl p,q⟩
 ·obtain⟨p,q⟩:=x.out hz h n;exact .inl ⟨.inr ⟨o,p⟩,q⟩
 ·exact .inr h
theorem ExcAt.mono(x:Ext U H U' H')(hz:∀a∈U.l,U.z a){a:Addr}{c:Nat}{vs:List V}(h:ExcAt cA U H a c vs):ExcAt cA U' H' a c vs:=by
 obtain⟨n,⟨e1,e2,h⟩|⟨dx,h,n2,h2,h3⟩⟩:=h
 ·obtain⟨p,q⟩:=x.out hz h n;exact⟨q,.inl ⟨e1,e2,p⟩⟩
 ·obtain⟨p,q⟩:=x.out hz h n;obtain⟨p2,q2⟩:=x.out hz h2 n2;exact⟨q,.inr ⟨dx,p,q2,p2,h3⟩⟩
theorem m8.mono(x:Ext U H U' H')(hz:∀a∈U.l,U.z a){a:Addr}{c:Nat}{vs:List V}(h:m8 cA U H a c vs):m8 cA U' H' a c vs:=by
 obtain⟨n,dx,h,h3⟩:=h;obtain⟨p,q⟩:=x.out hz h n;exact⟨q,dx,p,h3⟩
theorem Rep.mono(x:Ext U H U' H')(hz:∀a∈U.l,U.z a){d:D}{v:V}(h:Rep K cA U H d v):Rep K cA U' H' d v:=
 Rep.rec (motive_1:=λd v _=>Rep K cA U' H' d v) (motive_2:=λd v _=>aA K cA U' H' d v) .non .bl .int .str (λh _ i=>.tup (h.mono x hz) i) (λh _ i=>.fl (h.mono x hz) i) (λh n=>.fd (x.out hz h n).1 (x.out hz h n).2) (λh _ i=>.exc (h.mono x hz) i) (λh _ i=>.ob (h.mono x hz) i) .any .nil (λ_ _ i j=>.cons i j) h
theorem aA.mono(x:Ext U H U' H')(hz:∀a∈U.l,U.z a){d:List D}{v:List V}(h:aA K cA U H d v):aA K cA U' H' d v:=
 aA.rec (motive_1:=λd v _=>Rep K cA U' H' d v) (motive_2:=λd v _=>aA K cA U' H' d v) .non .bl .int .str (λh _ i=>.tup (h.mono x hz) i) (λh _ i=>.fl (h.mono x hz) i) (λh n=>.fd (x.out hz h n).1 (x.out hz h n).2) (λh _ i=>.exc (h.mono x hz) i) (λh _ i=>.ob (h.mono x hz) i) .any .nil (λ_ _ i j=>.cons i j) h
theorem aA.map(m:∀d v,Rep K cA U H d v->Rep K cA U' H' d v):∀{d:List D} {v:List V},aA K cA U H d v->aA K cA U' H' d v
 |_,_,.nil=>.nil
 |_,_,.cons h r=>.cons (m _ _ h) (aA.map m r)
theorem zp.map(m:∀d v,Rep K cA U H d v->Rep K cA U' H' d v){d:tu}{v:pQ}(h:zp K cA U H d v):zp K cA U' H' d v:=by
 induction h with
 |nil=>exact .nil
 |cons a b c _ ih=>exact .cons (m _ _ a) b (m _ _ c) ih
theorem je.map{a:Addr}{o:SO}(h:je K cA U H a o)(e:∀u,H a=some u->H' a=some u)(m:∀d v,Rep K cA U H d v->Rep K cA U' H' d v):je K cA U' H' a o:=by
 cases o with
 |lst xs=>obtain⟨vs,q,r⟩:=h;exact⟨vs,e _ q,r.map m⟩
 |dct xs=>obtain⟨vs,q,r⟩:=h;exact⟨vs,e _ q,r.map m⟩
theorem aX.mono(x:Ext U H U' H')(hz:∀a∈U.l,U.z a){d:Xv}{v:V}(h:aX K cA U H d v):aX K cA U' H' d v:=by
 cases h with
 |d h=>exact .d (h.mono x hz)
 |l h=>exact .l (x.get h)
theorem aM.mono(x:Ext U H U' H')(hz:∀a∈U.l,U.z a):∀{ds:List Xv} {vs:List V},aM K cA U H ds vs->aM K cA U' H' ds vs
 |_,_,.nil=>.nil
 |_,_,.cons h r=>.cons (h.mono x hz) (aM.mono x hz r)
theorem aU.mono(x:Ext U H U' H')(hz:∀a∈U.l,U.z a)(h:aU K cA U H Z J):aU K cA U' H' Z J:=⟨h.1,λi d e=>let ⟨v,a,b⟩:=h.2 i d e;⟨v,a,b.mono x hz⟩⟩
theorem aA.len:∀{ds:List D} {vs:List V},aA K cA U H ds vs->ds.length=vs.length
 |_,_,.nil=>rfl
 |_,_,.cons _ r=>by rw[dR,dR,aA.len r]
theorem aM.len:∀{ds:List Xv} {vs:List V},aM K cA U H ds vs->ds.length=vs.length
 |_,_,.nil=>rfl
 |_,_,.cons _ r=>by rw[dR,dR,aM.len r]
theorem aA.get:∀{ds:List D} {vs:List V} {i:Nat} {d:D},aA K cA U H ds vs->ds[i]?=some d->∃v,vs[i]?=some v/\Rep K cA U H d v
 |_,_,_,_,.nil,e=>by simp at e
 |_,_,0,_,.cons h _,e=>by simp at e;subst e;exact⟨_,rfl,h⟩
 |_,_,i+1,d,.cons _ r,e=>by
  obtain⟨v,a,b⟩:=aA.get (i:=i) (d:=d) r (by simpa using e);exact⟨v,by simpa using a,b⟩
theorem aM.get:∀{ds:List Xv} {vs:List V} {i:Nat} {d:Xv},aM K cA U H ds vs->ds[i]?=some d->∃v,vs[i]?=some v/\aX K cA U H d v
 |_,_,_,_,.nil,e=>by simp at e
 |_,_,0,_,.cons h _,e=>by simp at e;subst e;exact⟨_,rfl,h⟩
 |_,_,i+1,d,.cons _ r,e=>by
  obtain⟨v,a,b⟩:=aM.get (i:=i) (d:=d) r (by simpa using e);exact⟨v,by simpa using a,b⟩
theorem aA.none:∀{ds:List D} {vs:List V} {i:Nat},aA K cA U H ds vs->ds[i]?=none->vs[i]?=none:=λ{ds vs i} r e=>by
 have:=r.len;have h2:ds.length<=i:=oZ.mp e;exact oZ.mpr gV
theorem aA.app:∀{ds es:List D} {vs us:List V},aA K cA U H ds vs->aA K cA U H es us->aA K cA U H (ds++es) (vs++us)
 |_,_,_,_,.nil,s=>s
 |_,_,_,_,.cons h r,s=>.cons h (aA.app r s)
theorem aA.take:∀{ds:List D} {vs:List V} (n:Nat),aA K cA U H ds vs->aA K cA U H (ds.take n) (vs.take n)
 |_,_,0,_=>by simp;exact .nil
 |_,_,n+1,.nil=>by simp;exact .nil
 |_,_,n+1,.cons h r=>by simp only[List.take_succ_cons];exact .cons h (aA.take n r)
theorem aA.drop:∀{ds:List D} {vs:List V} (n:Nat),aA K cA U H ds vs->aA K cA U H (ds.drop n) (vs.drop n)
 |_,_,0,r=>r
 |_,_,n+1,.nil=>by simp;exact .nil
 |_,_,n+1,.cons _ r=>by simp only[List.drop_succ_cons];exact aA.drop n r
theorem aA.set{d:D}{v:V}(h:Rep K cA U H d v):∀{ds:List D} {vs:List V} (i:Nat),aA K cA U H ds vs->aA K cA U H (ds.set i d) (vs.set i v)
 |_,_,_,.nil=>.nil
 |_,_,0,.cons _ r=>.cons h r
 |_,_,i+1,.cons q r=>.cons q (aA.set h i r)
theorem aA.rev:∀{ds:List D} {vs:List V},aA K cA U H ds vs->aA K cA U H ds.reverse vs.reverse
 |_,_,.nil=>.nil
 |_,_,.cons h r=>by rw[Hx,Hx];exact(aA.rev r).app (.cons h .nil)
theorem aA.cut{ds:List D}{vs:List V}{l h:Option Int}(r:aA K cA U H ds vs):aA K cA U H (Mi.cut ds l h) (j9 vs l h):=by
 unfold Mi.cut j9;rw[<-r.len];exact(r.drop _).take _
def bA(H H':Hp):Prop:=∀a o,H a=some o->H' a=some o
theorem bA.refl:bA H H:=λ_ _ h=>h
theorem bA.trans(x:bA H H')(y:bA H' Gd):bA H Gd:=λa o h=>y a o (x a o h)
theorem bA.new{p:Addr}{o:HO}(hp:H p=none):bA H (upd H p o):=λa u h=>by rw[dz (Ao h hp)];exact h
theorem bA.ext(g:bA H H'):Ext U H U H':=⟨⟨[],by simp,by simp⟩,λ_ h=>h,λ_ h=>.inl h,λa o h _=>g a o h,λa o h=>⟨o,g a o h⟩⟩
theorem je.grow{a:Addr}{o:SO}(g:bA H H')(hz:∀a∈U.l,U.z a)(h:je K cA U H a o):je K cA U H' a o:=h.map (g _) λ_ _ r=>r.mono g.ext hz
theorem aG.grow(g:bA H H')(h:aG K cA U H s):aG K cA U H' s:=
 ⟨h.len,λn o a e1 e2=>(h.obj n o a e1 e2).grow g h.lz,h.uniq,h.lz,λa z=>let ⟨o,e⟩:=h.zt a z;⟨o,g _ _ e⟩⟩
theorem aG.nz(h:aG K cA U H s){p:Addr}(hp:H p=none):¬U.z p:=λz=>by obtain⟨o,e⟩:=h.zt p z;rw[hp] at e;cases e
noncomputable def Ph.add(U:Ph)(p:Addr):Ph:=⟨λa=>U.z a\/a=p,U.l++[p]⟩
theorem Ext.add{p:Addr}{o:HO}(hp:H p=none):Ext U H (U.add p) (upd H p o):=
 ⟨⟨[p],rfl,by simpa using hp⟩,λ_ h=>.inl h,λa h=>h.imp id λe=>by rw[e];exact hp,λa u h _=>bA.new hp a u h,λa u h=>⟨u,bA.new hp a u h⟩⟩
theorem aG.Od{p:Addr}{so:SO}{ho:HO}(h:aG K cA U H s)(hp:H p=none)(hr:je K cA (U.add p) (upd H p ho) p so):aG K cA (U.add p) (upd H p ho) (s++[so]):=by
 have pn:p∉U.l:=λz=>h.nz hp (h.lz p z);refine⟨by show (U.l++[p]).length=_;rw[iI,iI,h.len];rfl,λn o a e1 e2=>?_,?_,λa ha=>?_,λa ha=>?_⟩
 ·have e2:(U.l++[p])[n]?=some a:=e2;by_cases hn:n<s.length
  ·rw[nG hn] at e1;rw[nG (by rw[h.len];exact hn)] at e2;exact(h.obj n o a e1 e2).map (bA.new hp _) λ_ _ r=>r.mono (Ext.add hp) h.lz
  ·have hl:n=s.length:=by
    have z:=(fB.mp e1).1;rw[iI] at z;simp at z
    lia
   subst hl;rw[oY (bU _)] at e1;rw[oY (by rw[h.len];exact bU _)] at e2;simp at e1;simp[h.len] at e2;subst e1 e2;exact hr
 ·show (U.l++[p]).Nodup;rw[Hy];refine⟨h.uniq,by simp,λa ha b hb e=>?_⟩;simp at hb;subst hb e;exact pn ha
 ·have ha:a∈U.l++[p]:=ha;rcases jh.mp ha with z|z
  ·exact .inl (h.lz a z)
  ·simp at z;exact .inr z
 ·rcases ha with z|z
  ·obtain⟨o,e⟩:=h.zt a z;exact⟨o,bA.new hp _ _ e⟩
  ·subst z;exact⟨_,jB⟩
theorem aG.add{p:Addr}{xs:List D}{vs:List V}(h:aG K cA U H s)(hp:H p=none)(r:aA K cA U H xs vs):aG K cA (U.add p) (upd H p (.lst vs)) (s++[.lst xs]):=h.Od hp ⟨vs,jB,r.mono (Ext.add hp) h.lz⟩
theorem Ext.write{n:Nat}{p:Addr}{o:HO}(hp:U.l[n]?=some p)(hv:∃u,H p=some u):Ext U H U (upd H p o):=by
 have hm:p∈U.l:=dH hp;refine⟨⟨[],by simp,by simp⟩,λ_ h=>h,λ_ h=>.inl h,λa u h n=>by
  have ne:a≠p:=λe=>n (by rw[e];exact hm);rw[dz ne];exact h,λa u h=>?_⟩
 by_cases e:a=p
 ·subst e;exact⟨o,jB⟩
 ·exact⟨u,by rw[dz e];exact h⟩
theorem aG.zu{n:Nat}{p:Addr}{so:SO}{ho:HO}(h:aG K cA U H s)(hl:n<s.length)(hp:U.l[n]?=some p)(hr:je K cA U (upd H p ho) p so):aG K cA U (upd H p ho) (s.set n so):=by
 have hv:=h.zt p (h.lz p (dH hp));have x:Ext U H U (upd H p ho):=Ext.write hp hv;refine⟨by rw[qd];exact h.len,λm o a e1 e2=>?_,h.uniq,h.lz,λa ha=>?_⟩
 ·by_cases hm:n=m
  ·subst hm;rw[zZ hl] at e1;cases e1;rw[hp] at e2;cases e2;exact hr
  ·rw[tX hm] at e1;have ne:a≠p:=λy=>by
    subst y;exact hm ((KJ (fB.mp hp).1 h.uniq).mp (hp.trans e2.symm))
   exact(h.obj m o a e1 e2).map (λ_ q=>by rw[dz ne];exact q) λ_ _ r=>r.mono x h.lz
 ·obtain⟨o,e⟩:=h.zt a ha;obtain⟨o',e'⟩:=x.stay a o e;exact⟨o',e'⟩
theorem aG.write{n:Nat}{p:Addr}{xs ys:List D}{us:List V}(h:aG K cA U H s)(hn:s[n]?=some (.lst xs))(hp:U.l[n]?=some p)(r:aA K cA U H ys us):aG K cA U (upd H p (.lst us)) (s.set n (.lst ys)):=
 h.zu (fB.mp hn).1 hp ⟨us,jB,r.mono (Ext.write hp (h.zt p (h.lz p (dH hp)))) h.lz⟩
theorem aU.set{i:Nat}{d:Xv}{v:V}(hL:aU K cA U H Z J)(r:aX K cA U H d v):aU K cA U H (Z.set i (some v)) (J.set i (some d)):=by
 refine⟨by rw[qd,qd];exact hL.1,λj e h=>?_⟩;by_cases Oe:i=j
 ·subst Oe;by_cases hl:i<J.length
  ·rw[zZ hl] at h;cases h;exact⟨v,by rw[zZ (by rw[hL.1];exact hl)],r⟩
  ·rw[List.getElem?_eq_none (by rw[qd];lia)] at h;cases h
 ·rw[tX Oe] at h;obtain⟨u,a,b⟩:=hL.2 j e h;exact⟨u,by rw[tX Oe];exact a,b⟩
theorem TupAt.iC{a:Addr}{vs:List V}(h:TupAt K U H a vs):eZ K H a vs:=by
 rcases h with ⟨h,_⟩|(h|h)
 ·exact .inl h
 ·rcases h with h|⟨o,h⟩<;>cases h
 ·exact .inr h
theorem LstAt.tD{a:Addr}{vs:List V}(h:LstAt K U H a vs):cZ K H a vs:=by
 rcases h with ⟨h,_⟩|(h|h)
 ·exact .inl h
 ·rcases h with h|⟨o,h⟩<;>cases h
 ·exact .inr h
theorem TupAt.new{p:Addr}{vs:List V}(hz:¬U.z p):TupAt K U (upd H p (.tup vs)) p vs:=.inl ⟨.inl jB,hz⟩
theorem LstAt.new{p:Addr}{vs:List V}(hz:¬U.z p):LstAt K U (upd H p (.lst vs)) p vs:=.inl ⟨.inl jB,hz⟩
end
end Mi
namespace Mi
open PySem PySem.Spec PyProof.Rows L2
theorem un{α β γ:Type}{A B C:α->β->γ->Prop}{R:Prop}(h:∃a b c,A a b c/\B a b c/\C a b c)(f:∀a b c,A a b c->B a b c->C a b c->R):R:=by
 obtain⟨a,b,c,x,y,z⟩:=h;exact f a b c x y z
section
variable (K:W.Frag)(cA:Cl)
def Run{α:Type}(m:M α)(U:Ph)(H:Hp)(s:S)(P:α->S->Ph->Hp->Prop)(Ee:Nat->List D->S->Ph->Hp->Prop):Prop:=
 match m s with
 |some (.ok a,s')=>∀U' H',Ext U H U' H'->aG K cA U' H' s'->P a s' U' H'
 |some (.er c f,s')=>∀U' H',Ext U H U' H'->aG K cA U' H' s'->Ee c f s' U' H'
 |none=>False
def iV(U:Ph)(H:Hp)(c:Nat)(fs:List D)(dx:Option Addr):Prop:=
 (cA.f c=[]/\fs=[]/\dx=none)\/∃d vs,dx=some d/\¬U.z d/\H d=some (.xd ((cA.f c).zip vs))/\(cA.f c).length=vs.length/\aA K cA U H fs vs
noncomputable def eX(EX:XS)(Z:L2.St):Nat->List D->S->Ph->Hp->Prop:=λc fs _ U' H'=>∀dx,iV K cA U' H' c fs dx->EX Z (.ref (cA.a c)) dx H'
noncomputable def tE(EX:XS)(m:Vs->M Xv):TE:=λZ H Q=>∃U J s,aU K cA U H Z J/\aG K cA U H s/\Run K cA (m J) U H s (λd _ U' H'=>∀v,aX K cA U' H' d v->Q v H') (eX K cA EX Z)
noncomputable def Og(EX:XS)(m:Vs->M (List Xv)):TA:=λZ H Q=>∃U J s,aU K cA U H Z J/\aG K cA U H s/\Run K cA (m J) U H s (λd _ U' H'=>∀v,aM K cA U' H' d v->Q v H') (eX K cA EX Z)
noncomputable def uL(EX:XS)(m:Vs->M Bool):TT:=λZ H Q=>∃U J s,aU K cA U H Z J/\aG K cA U H s/\Run K cA (m J) U H s (λd _ U' H'=>Q d H') (eX K cA EX Z)
def Rv(U:Ph)(H:Hp)(d:D)(v:V):Prop:=match d with
 |.fl xs=>∃a vs,v=.ref a/\cZ K H a vs/\aA K cA U H xs vs
 |d=>Rep K cA U H d v
inductive uM (U:Ph) (H:Hp):List D->List V->Prop where
 |nil:uM U H [] []
 |cons {d:D} {v:V} {ds:List D} {vs:List V} (h:Rv K cA U H d v) (r:uM U H ds vs):uM U H (d::ds) (v::vs)
def aY(U:Ph)(H:Hp)(o:Option Rz)(Q:VK):Prop:=match o with
 |none=>False
 |some (.dat d)=>∀H' v,bA H H'->Rep K cA U H' d v->Q v H'
 |some (.nw xs)=>∀p vs,H p=none->aA K cA U H xs vs->Q (.ref p) (upd H p (.lst vs))
structure Zt(U:Ph)(H:Hp):Prop where
 lz:∀a∈U.l,U.z a
 zt:∀a,U.z a->∃o,H a=some o
def aQ(p:Pr)(r:List V->Hp->VK->Prop):Prop:=∀(U:Ph) (H:Hp) (ds:List D) (vs:List V) (Q:VK),Zt U H->uM K cA U H ds vs->aY K cA U H (prim p ds) Q->r vs H Q
end
section
variable {K:W.Frag}{cA:Cl}{U U':Ph}{H H':Hp}{s:S}{Z:L2.St}{J:Vs}{EX:XS}
theorem aG.zs(h:aG K cA U H s):Zt U H:=⟨h.lz,h.zt⟩
theorem Zt.nz(h:Zt U H)(hp:H p=none):¬U.z p:=λz=>by obtain⟨o,e⟩:=h.zt p z;rw[hp] at e;cases e
theorem Rep.rv{d:D}{v:V}(h:Rep K cA U H d v):Rv K cA U H d v:=by
 cases h with
 |fl h r=>exact⟨_,_,rfl,h.tD,r⟩
 |non=>exact .non
 |bl b=>exact .bl b
 |int b=>exact .int b
 |str b=>exact .str b
 |tup h r=>exact .tup h r
 |fd h n=>exact .fd h n
 |exc h r=>exact .exc h r
 |ob h r=>exact .ob h r
 |any v=>exact .any v
theorem Run.bd{α β:Type}{m:M α}{k:α->M β}{P:β->S->Ph->Hp->Prop}{Ee:Nat->List D->S->Ph->Hp->Prop}(h:Run K cA (M.bd m k) U H s P Ee):Run K cA m U H s (λa s1 U1 H1=>Ext U H U1 H1/\aG K cA U1 H1 s1/\Run K cA (k a) U1 H1 s1 P Ee) Ee:=by
 unfold Run M.bd at *;cases e:m s with
 |none=>rw[e] at h;exact h
 |some r=>
  obtain⟨r,s1⟩:=r;rw[e] at h;cases r with
  |er c f=>exact h
  |ok a=>
   intro U1 H1 x1 r1;refine⟨x1,r1,?_⟩;dsimp only at h ⊢;cases e2:k a s1 with
   |none=>rw[e2] at h;exact h
   |some q=>
    obtain⟨q,s2⟩:=q;rw[e2] at h;cases q with
    |ok b=>exact λU2 H2 x2 r2=>h U2 H2 (x1.trans x2) r2
    |er c f=>exact λU2 H2 x2 r2=>h U2 H2 (x1.trans x2) r2
theorem Run.imp{α:Type}{m:M α}{P P':α->S->Ph->Hp->Prop}{Ee:Nat->List D->S->Ph->Hp->Prop}(h:Run K cA m U H s P Ee)(f:∀a s' U' H',P a s' U' H'->P' a s' U' H'):Run K cA m U H s P' Ee:=by
 unfold Run at *;split at h
 ·exact λU' H' x r=>f _ _ _ _ (h U' H' x r)
 ·exact h
 ·exact h
theorem Run.ext(x:Ext U H U' H')(h:Run K cA m U H s P Ee):Run K cA m U' H' s P Ee:=by
 unfold Run at *;split at h
 ·exact λU2 H2 y r=>h U2 H2 (x.trans y) r
 ·exact λU2 H2 y r=>h U2 H2 (x.trans y) r
 ·exact h.elim
theorem Run.bG{α:Type}{a:α}{P:α->S->Ph->Hp->Prop}{Ee:Nat->List D->S->Ph->Hp->Prop}(r:aG K cA U H s)(h:Run K cA (M.ret a) U H s P Ee):P a s U H:=h U H Ext.refl r
theorem Run.opt{α:Type}{o:Option α}{P:α->S->Ph->Hp->Prop}{Ee:Nat->List D->S->Ph->Hp->Prop}(r:aG K cA U H s)(h:Run K cA (M.opt o) U H s P Ee):∃a,o=some a/\P a s U H:=by
 cases o with
 |none=>exact h.elim
 |some a=>exact⟨a,rfl,h U H Ext.refl r⟩
theorem U9(h:Run K cA (M.bd (M.opt o) k) U H s P Ee):∃a,o=some a/\Run K cA (k a) U H s P Ee:=by
 cases o with
 |none=>exact h.elim
 |some a=>exact⟨a,rfl,h⟩
theorem Ge{β:Type}{x:Xv}{v:V}{k:Bool->M β}{P:β->S->Ph->Hp->Prop}{Ee:Nat->List D->S->Ph->Hp->Prop}(r:aX K cA U H x v)(h:Run K cA (M.bd (bool x) k) U H s P Ee):∃b,x=.d (.bl b)/\v=.bl b/\Run K cA (k b) U H s P Ee:=by
 cases r with
 |l _=>exact h.elim
 |d r=>cases r with
  |bl b=>exact⟨b,rfl,rfl,h⟩
  |_=>exact h.elim
theorem Gf(r:aX K cA U H x v)(h:Run K cA (M.bd (int x) k) U H s P Ee):∃b,x=.d (.int b)/\v=.int b/\Run K cA (k b) U H s P Ee:=by
 cases r with
 |l _=>exact h.elim
 |d r=>cases r with
  |int b=>exact⟨b,rfl,rfl,h⟩
  |_=>exact h.elim
theorem Oh(r:aX K cA U H x v)(h:Run K cA (M.bd (dat x) k) U H s P Ee):∃d,x=.d d/\Rep K cA U H d v/\Run K cA (k d) U H s P Ee:=by
 cases r with
 |l _=>exact h.elim
 |d r=>exact⟨_,rfl,r,h⟩
theorem Oi:∀{xs:List Xv} {vs:List V} {k:List D->M β} {P:β->S->Ph->Hp->Prop} {Ee:Nat->List D->S->Ph->Hp->Prop},aM K cA U H xs vs->Run K cA (M.bd (bW xs) k) U H s P Ee->∃ds,xs=ds.map .d/\aA K cA U H ds vs/\Run K cA (k ds) U H s P Ee:=by
 intro xs
 induction xs with
 |nil=>intro vs k P Ee r h;cases r;exact⟨[],rfl,.nil,h⟩
 |cons x xs ih=>
  intro vs k P Ee r h;cases r with
  |cons a r=>
   cases a with
   |l _=>exact h.elim
   |@d y v a=>
    have h2:Run K cA (M.bd (bW xs) λds=>k (y::ds)) U H s P Ee:=by
     unfold Run M.bd bW dat at h;unfold Run M.bd;simp only[M.bd,M.ret] at h;cases e:bW xs s with
     |none=>simp only[e] at h
     |some q=>
      obtain⟨q,s1⟩:=q;simp only[e] at h;cases q with
      |ok ds=>exact h
      |er c f=>exact h
    obtain⟨ds,e,rs,h3⟩:=ih r h2;exact⟨y::ds,by rw[e];rfl,.cons a rs,h3⟩
theorem Oj(hS:aG K cA U H s)(r:aX K cA U H x v)(h:Run K cA (M.bd (rd x) k) U H s P Ee):∃d,Rv K cA U H d v/\Run K cA (k d) U H s P Ee:=by
 cases r with
 |d r=>exact⟨_,r.rv,h⟩
 |@l n a hl=>
  unfold Run M.bd rd at h;dsimp only at h;cases e:s[n]? with
  |none=>rw[e] at h;exact h.elim
  |some o=>
   rw[e] at h;cases o with
   |lst xs=>
    obtain⟨vs,q1,q2⟩:=hS.obj n _ _ e hl;exact⟨.fl xs,⟨a,vs,rfl,cZ.of q1,q2⟩,h⟩
   |_=>exact h.elim
theorem iw{α β γ:Type}(m:M α)(f:α->M β)(g:β->M γ):M.bd (M.bd m f) g=M.bd m λx=>M.bd (f x) g:=by
 funext s
 unfold M.bd;cases m s with
 |none=>rfl
 |some r=>
  obtain⟨r,s1⟩:=r;cases r<;>rfl
theorem qY{β:Type}:∀{xs:List Xv} {vs:List V} {k:List D->M β} {P:β->S->Ph->Hp->Prop} {Ee:Nat->List D->S->Ph->Hp->Prop},aG K cA U H s->aM K cA U H xs vs->Run K cA (M.bd (eE xs) k) U H s P Ee->∃ds,uM K cA U H ds vs/\Run K cA (k ds) U H s P Ee:=by
 intro xs
 induction xs with
 |nil=>intro vs k P Ee hS r h;cases r;exact⟨[],.nil,h⟩
 |cons x xs ih=>
  intro vs k P Ee hS r h;cases r with
  |cons a r=>
   have h2:Run K cA (M.bd (rd x) λd=>M.bd (eE xs) λds=>k (d::ds)) U H s P Ee:=by
    have e:M.bd (eE (x::xs)) k=M.bd (rd x) λd=>M.bd (eE xs) λds=>k (d::ds):=by
     show M.bd (M.bd (rd x) λd=>M.bd (eE xs) λds=>M.ret (d::ds)) k=_;rw[iw]
     congr 1
     funext d
     rw[iw];rfl
    rw[e] at h;exact h
   obtain⟨d,rd,h3⟩:=Oj hS a h2;obtain⟨ds,rs,h4⟩:=ih hS r h3;exact⟨d::ds,.cons rd rs,h4⟩
theorem qj{fz:Bool}{o:Option Rz}{Q:VK}{Ee:Nat->List D->S->Ph->Hp->Prop}(hS:aG K cA U H s)(h:Run K cA (bO fz o) U H s (λx _ U' H'=>∀v,aX K cA U' H' x v->Q v H') Ee):aY K cA U H o Q:=by
 cases o with
 |none=>exact h.elim
 |some z=>
  cases z with
  |dat d=>exact λH' v g r=>h U H' g.ext (hS.grow g) v (.d r)
  |nw xs=>
   intro p vs hp r;cases fz with
   |true=>exact h U _ (bA.new hp).ext (hS.grow (bA.new hp)) _ (.d (.fl (LstAt.new (hS.nz hp)) (r.mono (bA.new hp).ext hS.lz)))
   |false=>exact h (U.add p) _ (Ext.add hp) (hS.add hp r) _ (.l (by show (U.l++[p])[s.length]?=_;rw[<-hS.len];simp))
theorem zgN{fz:Bool}{xs:List D}{Q:VK}{Ee:Nat->List D->S->Ph->Hp->Prop}(hS:aG K cA U H s)(h:Run K cA (newL fz xs) U H s (λx _ U' H'=>∀v,aX K cA U' H' x v->Q v H') Ee):∀p vs,H p=none->aA K cA U H xs vs->Q (.ref p) (upd H p (.lst vs)):=
 qj (o:=some (.nw xs)) hS h
theorem bF{β:Type}{ma:Vs->M Xv}{k:Xv->M β}{P:β->S->Ph->Hp->Prop}(hL:aU K cA U H Z J)(hS:aG K cA U H s)(h:Run K cA (M.bd (ma J) k) U H s P (eX K cA EX Z)){Q:VK}
  (f:∀x H1 U1 d s1,Ext U H U1 H1->aU K cA U1 H1 Z J->aG K cA U1 H1 s1->aX K cA U1 H1 d x->Run K cA (k d) U1 H1 s1 P (eX K cA EX Z)->Q x H1):tE K cA EX ma Z H Q:=
 ⟨U,J,s,hL,hS,h.bd.imp λd s1 U1 H1 ⟨x1,r1,h1⟩ v rv=>f v H1 U1 d s1 x1 (hL.mono x1 hS.lz) r1 rv h1⟩
theorem m9{β:Type}{ma:Vs->M (List Xv)}{k:List Xv->M β}{P:β->S->Ph->Hp->Prop}(hL:aU K cA U H Z J)(hS:aG K cA U H s)(h:Run K cA (M.bd (ma J) k) U H s P (eX K cA EX Z)){Q:List V->Hp->Prop}
  (f:∀x H1 U1 d s1,Ext U H U1 H1->aU K cA U1 H1 Z J->aG K cA U1 H1 s1->aM K cA U1 H1 d x->Run K cA (k d) U1 H1 s1 P (eX K cA EX Z)->Q x H1):Og K cA EX ma Z H Q:=
 ⟨U,J,s,hL,hS,h.bd.imp λd s1 U1 H1 ⟨x1,r1,h1⟩ v rv=>f v H1 U1 d s1 x1 (hL.mono x1 hS.lz) r1 rv h1⟩
theorem uN(hL:aU K cA U H Z J)(hS:aG K cA U H s)(h:Run K cA (M.bd (ma J) k) U H s P (eX K cA EX Z))
  (f:∀b H1 U1 s1,Ext U H U1 H1->aU K cA U1 H1 Z J->aG K cA U1 H1 s1->Run K cA (k b) U1 H1 s1 P (eX K cA EX Z)->Q b H1):uL K cA EX ma Z H Q:=
 ⟨U,J,s,hL,hS,h.bd.imp λd s1 U1 H1 ⟨x1,r1,h1⟩=>f d H1 U1 s1 x1 (hL.mono x1 hS.lz) r1 h1⟩
end
section
variable (X:Cx)(cA:Cl)(ao:Nat->Nat->Bool)(aj:Bool)(F:Fn)(EX:XS)
def SE(e:Expr)(m:E):Prop:=PE X e (tE X.K cA EX (ev ao aj F m))
def SA(es:List Expr)(m:Es):Prop:=PA X es (Og X.K cA EX (evs ao aj F m))
def ST(e:Expr)(m:E):Prop:=PT X e (uL X.K cA EX (λJ=>M.bd (ev ao aj F m J) bool))
def SW(e:Expr)(m:E):Prop:=PW X e (uL X.K cA EX (λJ=>M.bd (ev ao aj F m J) bool))
end
section
variable {X:Cx}{cA:Cl}{ao:Nat->Nat->Bool}{aj:Bool}{F:Fn}{EX:XS}{a b c d e:Expr}{A B C Dd E':E}{pos:Pos}{es:List Expr}{Xs:Es}{fz:Bool}{p:Pr}
theorem PE.weak{t t':TE}(h:PE X e t)(f:∀Z H Q,t' Z H Q->t Z H Q):PE X e t':=λak s Z H Q I q=>h ak s Z H Q I (f Z H Q q)
theorem PT.weak{t t':TT}(h:PT X e t)(f:∀Z H Q,t' Z H Q->t Z H Q):PT X e t':=λak s Z H Q I q=>h ak s Z H Q I (f Z H Q q)
theorem PW.weak{t t':TT}(h:PW X e t)(f:∀Z H Q,t' Z H Q->t Z H Q):PW X e t':=λwh ak s Z H Q I q=>h wh ak s Z H Q I (f Z H Q q)
theorem PA.weak{t t':TA}(h:PA X es t)(f:∀Z H Q,t' Z H Q->t Z H Q):PA X es t':=λp ak s Z H Q I q=>h p ak s Z H Q I (f Z H Q q)
theorem zkk{i j p}:SE X cA ao aj F EX (.Constant (.int i) j p) (.c (.int i)):=PE.weak La λZ H Q hh=>un hh λU J s hL hS h=>h.bG hS _ (.d (.int i))
theorem zlB{i j p}:SE X cA ao aj F EX (.Constant (.bool i) j p) (.c (.bl i)):=PE.weak zlE λZ H Q hh=>un hh λU J s hL hS h=>h.bG hS _ (.d (.bl i))
theorem zkU{j p}:SE X cA ao aj F EX (.Constant .none j p) (.c .non):=PE.weak zjl λZ H Q hh=>un hh λU J s hL hS h=>h.bG hS _ (.d .non)
theorem zjR{i j p}:SE X cA ao aj F EX (.Constant (.str i) j p) (.c (.str i)):=PE.weak S9 λZ H Q hh=>un hh λU J s hL hS h=>h.bG hS _ (.d (.str i))
theorem Ol{α:Type}{o:Option (Option α)}{x:α}(h:o.join=some x):o=some (some x):=by
 cases o with
 |none=>cases h
 |some y=>cases y with
  |none=>cases h
  |some z=>cases h;rfl
theorem U_(i:Nat){x:Str}(hN:X.N[i]?=some x:=by rfl)(hv:K4 X.env.scope x:=by first|exact Or.inl rfl|exact Or.inr (Or.inl rfl)|exact Or.inr (Or.inr rfl))(hd:(x==("__debug__" : Str))=false:=by decide)
  (jd:(x==("__classdict__" : Str))=false:=by decide):SE X cA ao aj F EX (.Name x pos) (.v i):=PE.weak (S8 hN hv hd jd) λZ H Q hh=>un hh λU J s hL hS h=>by
 obtain⟨dd,e1,q⟩:=Run.opt hS h;obtain⟨v,q1,q2⟩:=hL.2 i dd (Ol e1);exact⟨v,q1,q v q2⟩
theorem zhV{x:Str}{i:Int}{t:Tok}(hg:Gl X x)(hm:X.mg x=some (.int i t))(hd:(x==("__debug__" : Str))=false:=by decide):SE X cA ao aj F EX (.Name x pos) (.c (.int i)):=PE.weak (S_ (v:=.int i) hg hm ⟨t,rfl⟩ hd) λZ H Q hh=>un hh λU J s hL hS h=>h.bG hS _ (.d (.int i))
theorem zhr{x y:Str}{t:Tok}(hg:Gl X x)(hm:X.mg x=some (.str y t))(hd:(x==("__debug__" : Str))=false:=by decide):SE X cA ao aj F EX (.Name x pos) (.c (.str y)):=PE.weak (S_ (v:=.str y) hg hm ⟨t,rfl⟩ hd) λZ H Q hh=>un hh λU J s hL hS h=>h.bG hS _ (.d (.str y))
theorem zkZ:SA X cA ao aj F EX [] .nil:=PA.weak Aw λZ H Q hh=>un hh λU J s hL hS h=>h.bG hS _ .nil
theorem zhF(ha:SE X cA ao aj F EX a A)(hr:SA X cA ao aj F EX es Xs)(hs:starEach (a::es) X.env=(false,eval a X.env)::starEach es X.env:=by rfl):SA X cA ao aj F EX (a::es) (.cons A Xs):=PA.weak (uo ha hr hs) λZ H Q hh=>un hh λU J s hL hS h=>by
 refine bF hL hS h λx H1 U1 d1 s1 x1 hL1 aL r1 h1=>m9 hL1 aL h1 λys H2 U2 d2 s2 x2 hL2 bf r2 h2=>h2.bG bf _ (.cons (r1.mono x2 aL.lz) r2)
theorem Jc{U U1 U2:Ph}{H1 H2:Hp}{s1 s2:S}{d1 d2:Xv}{x y:V}{Q:VK}{Ee:Nat->List D->S->Ph->Hp->Prop}(x2:Ext U1 H1 U2 H2)(aL:aG X.K cA U1 H1 s1)(bf:aG X.K cA U2 H2 s2)(r1:aX X.K cA U1 H1 d1 x)(r2:aX X.K cA U2 H2 d2 y)
  (h:Run X.K cA (M.bd (eE [d1,d2]) λds=>bO fz (prim p ds)) U2 H2 s2 (λx _ U' H'=>∀v,aX X.K cA U' H' x v->Q v H') Ee) {r:List V->Hp->VK->Prop} (hp:aQ X.K cA p r):r [x,y] H2 Q:=by
 obtain⟨ds,rs,h2⟩:=qY bf (.cons (r1.mono x2 aL.lz) (.cons r2 .nil)) h;exact hp U2 H2 ds _ Q bf.zs rs (qj bf h2)
noncomputable def r2(r:R2):List V->Hp->VK->Prop:=λvs H Q=>∃x y,vs=[x,y]/\r x y H Q
theorem zx{r:R2}{x y:V}{H:Hp}{Q:VK}(h:r2 r [x,y] H Q):r x y H Q:=by
 obtain⟨_,_,e,q⟩:=h;cases e;exact q
theorem ziX{op:Operator}{r:R2}(ho:dh X (binaryOp op) r)(hp:aQ X.K cA p (r2 r))(ha:SE X cA ao aj F EX a A)(hb:SE X cA ao aj F EX b B):SE X cA ao aj F EX (.BinOp a op b pos) (.pr fz p (.cons A (.cons B .nil))):=PE.weak (zlN ho ha hb) λZ H Q hh=>un hh λU J s hL hS h=>by
 have h:Run X.K cA (M.bd (M.bd (ev ao aj F A J) λx=>M.bd (M.bd (ev ao aj F B J) λy=>M.bd (M.ret []) λz=>M.ret (y::z)) λys=>M.ret (x::ys)) λvs=>M.bd (eE vs) λds=>bO fz (prim p ds)) U H s _ _:=h;simp only[iw] at h;refine bF hL hS h λx H1 U1 d1 s1 x1 hL1 aL r1 h1=>bF hL1 aL h1 λy H2 U2 d2 s2 x2 hL2 bf r2' h2=>?_;exact zx (Jc (fz:=fz) (U:=U) x2 aL bf r1 r2' h2 hp)
theorem zj3{op:CmpOp}{r:R2}(ho:dh X (compareOp op) r)(hp:aQ X.K cA p (r2 r))(ha:SE X cA ao aj F EX a A)(hb:SE X cA ao aj F EX b B)(hm:behindInMarks op b=false):SE X cA ao aj F EX (.Compare a [op] [b] pos) (.pr true p (.cons A (.cons B .nil))):=PE.weak (zhN ho ha hb hm) λZ H Q hh=>un hh λU J s hL hS h=>by
 have h:Run X.K cA (M.bd (M.bd (ev ao aj F A J) λx=>M.bd (M.bd (ev ao aj F B J) λy=>M.bd (M.ret []) λz=>M.ret (y::z)) λys=>M.ret (x::ys)) λvs=>M.bd (eE vs) λds=>bO true (prim p ds)) U H s _ _:=h;simp only[iw] at h;refine bF hL hS h λx H1 U1 d1 s1 x1 hL1 aL r1 h1=>bF hL1 aL h1 λy H2 U2 d2 s2 x2 hL2 bf r2' h2=>?_;exact zx (Jc (fz:=true) (U:=U) x2 aL bf r1 r2' h2 hp)
theorem iT{A B:Prop}(h:A):if true=true then A else B:=by rw[if_pos rfl];exact h
theorem iF{A B:Prop}(h:B):if false=true then A else B:=by rw[if_neg Kz];exact h
theorem zjG{op:CmpOp}{r:R2}(ho:dh X (compareOp op) r)(hp:aQ X.K cA p (r2 r))(ha:SE X cA ao aj F EX a A)(hb:SE X cA ao aj F EX b B)(hm:behindInMarks op b=false):ST X cA ao aj F EX (.Compare a [op] [b] pos) (.pr true p (.cons A (.cons B .nil))):=PT.weak (zhl ho ha hb hm) λZ H Q hh=>un hh λU J s hL hS h=>by
 have h:Run X.K cA (M.bd (M.bd (M.bd (ev ao aj F A J) λx=>M.bd (M.bd (ev ao aj F B J) λy=>M.bd (M.ret []) λz=>M.ret (y::z)) λys=>M.ret (x::ys)) λvs=>M.bd (eE vs) λds=>bO true (prim p ds)) bool) U H s _ _:=h;simp only[iw] at h;refine bF hL hS h λx H1 U1 d1 s1 x1 hL1 aL r1 h1=>bF hL1 aL h1 λy H2 U2 d2 s2 x2 hL2 bf r2' h2=>?_;obtain⟨ds,rs,h3⟩:=qY bf (.cons (r1.mono x2 aL.lz) (.cons r2' .nil)) h2;refine zx (hp U2 H2 ds _ _ bf.zs rs (qj (Ee:=eX X.K cA EX Z) bf (h3.bd.imp λt s3 U3 H3 ⟨x3,lV,h4⟩ v rv=>?_)));cases rv with
 |l _=>exact h4.elim
 |d rv=>cases rv with
  |bl k=>exact⟨k,rfl,h4 U3 H3 Ext.refl lV⟩
  |_=>exact h4.elim
theorem zjI{op op':CmpOp}{r r':R2}{q:Pr}(ho:dh X (compareOp op) r)(hp:aQ X.K cA p (r2 r))(qI:dh X (compareOp op') r')(tG:aQ X.K cA q (r2 r'))(ha:SE X cA ao aj F EX a A)(hb:SE X cA ao aj F EX b B)(hc:SE X cA ao aj F EX c C)(hm:lastMarks [op,op'] [b,c]=false:=by with_unfolding_all rfl) :
  SE X cA ao aj F EX (.Compare a [op,op'] [b,c] pos) (.v9 p q A B C):=PE.weak (zgj ho qI ha hb hc hm) λZ H Q hh=>un hh λU J s hL hS h=>by
 refine bF hL hS h λx H1 U1 d1 s1 x1 hL1 aL r1 h1=>bF hL1 aL h1 λy H2 U2 d2 s2 x2 hL2 bf r2' h2=>?_;obtain⟨ds,rs,h3⟩:=qY bf (.cons (r1.mono x2 aL.lz) (.cons r2' .nil)) h2;refine zx (hp U2 H2 ds _ _ bf.zs rs (qj (Ee:=eX X.K cA EX Z) bf (h3.bd.imp λt s3 U3 H3 ⟨x3,lV,h4⟩ v rv=>?_)));obtain⟨k,_,e,h5⟩:=Ge rv h4;refine⟨k,e,?_⟩;cases k with
 |false=>exact iF (h5.bG lV _ (.d (.bl _)))
 |true=>
  have zy:=hL2.mono x3 bf.lz;refine iT (bF zy lV h5 λz H4 U4 d4 s4 x4 hL4 wJ r4 h6=>?_);exact zx (Jc (fz:=true) (U:=U) x4 lV wJ (r2'.mono x3 bf.lz) r4 h6 tG)
theorem zjz(ha:SE X cA ao aj F EX a A):SE X cA ao aj F EX (.UnaryOp .Not a pos) (.not A):=PE.weak (ziU ha) λZ H Q hh=>un hh λU J s hL hS h=>by
 refine bF hL hS h λx H1 U1 d1 s1 x1 hL1 aL r1 h1=>?_;obtain⟨i,_,e,h3⟩:=Ge r1 h1;exact⟨i,e,h3.bG aL _ (.d (.bl _))⟩
theorem zk1{op}(ha:SE X cA ao aj F EX a A):SE X cA ao aj F EX (.BoolOp op [a] pos) A:=zkI ha
theorem zkx{rest:List Expr}(ha:SE X cA ao aj F EX a A)(hb:SE X cA ao aj F EX (.BoolOp .And (b::rest) pos) B):SE X cA ao aj F EX (.BoolOp .And (a::b::rest) pos) (.and A B):=PE.weak (zka ha hb) λZ H Q hh=>un hh λU J s hL hS h=>by
 refine bF hL hS h λx H1 U1 d1 s1 x1 hL1 aL r1 h1=>?_;obtain⟨i,_,e,h3⟩:=Ge r1 h1;refine⟨i,e,?_⟩;cases i with
 |true=>exact iT ⟨U1,J,s1,hL1,aL,h3⟩
 |false=>exact iF (h3.bG aL _ (.d (.bl _)))
theorem zla{rest:List Expr}(ha:SE X cA ao aj F EX a A)(hb:SE X cA ao aj F EX (.BoolOp .Or (b::rest) pos) B):SE X cA ao aj F EX (.BoolOp .Or (a::b::rest) pos) (.or A B):=PE.weak (zlp ha hb) λZ H Q hh=>un hh λU J s hL hS h=>by
 refine bF hL hS h λx H1 U1 d1 s1 x1 hL1 aL r1 h1=>?_;obtain⟨i,_,e,h3⟩:=Ge r1 h1;refine⟨i,e,?_⟩;cases i with
 |true=>exact iT (h3.bG aL _ (.d (.bl _)))
 |false=>exact iF ⟨U1,J,s1,hL1,aL,h3⟩
end
section
variable {X:Cx}{cA:Cl}{ao:Nat->Nat->Bool}{aj:Bool}{F:Fn}{EX:XS}{a b c d e o:Expr}{A B C Dd E' O:E}{pos pp p2 apos:Pos}{es:List Expr}{Xs:Es}{fz:Bool}{p:Pr}{x:Str}
theorem zja(ha:SE X cA ao aj F EX a A)(he:∀whole,isTrue a X.env whole=(do let v <-whole;standAt a.pos;holding [v] (truthy v)):=by intro _;rfl):ST X cA ao aj F EX a A:=PT.weak (zkG ha he) λZ H Q hh=>un hh λU J s hL hS h=>by
 refine bF hL hS h λx H1 U1 d1 s1 x1 hL1 aL r1 h1=>?_;have h1:Run X.K cA (M.bd (bool d1) M.ret) U1 H1 s1 (λd _ U' H'=>Q d H') (eX X.K cA EX Z):=by
  cases d1 with
  |l n=>exact h1
  |d v=>cases v<;>exact h1
 obtain⟨k,_,e,q⟩:=Ge r1 h1;exact⟨k,e,q.bG aL⟩
theorem zgo{m:M Xv}{g:Bool->Bool}:M.bd (M.bd m λx=>M.bd (bool x) λk=>M.ret (Xv.d (.bl (g k)))) bool=M.bd (M.bd m bool) λk=>M.ret (g k):=by
 rw[iw,iw]
 congr 1
 funext x
 rw[iw];rfl
theorem zkm(ha:ST X cA ao aj F EX a A):ST X cA ao aj F EX (.UnaryOp .Not a pos) (.not A):=PT.weak (zk6 ha) λZ H Q hh=>un hh λU J s hL hS h=>by
 have h:Run X.K cA (M.bd (M.bd (ev ao aj F A J) λx=>M.bd (bool x) λk=>M.ret (Xv.d (.bl (!k)))) bool) U H s _ _:=h;rw[zgo (g:=λk=>!k)] at h;exact uN hL hS h λk H1 U1 s1 x1 hL1 aL h1=>h1.bG aL
theorem ziR(ha:ST X cA ao aj F EX a A):SW X cA ao aj F EX (.BoolOp .And [a] pos) A:=zif ha
theorem zkT(ha:ST X cA ao aj F EX a A):SW X cA ao aj F EX (.BoolOp .Or [a] pos) A:=zkD ha
theorem Va{m:M Xv}{k:Bool->M Xv}:M.bd (M.bd m λx=>M.bd (bool x) k) bool=M.bd (M.bd m bool) λb=>M.bd (k b) bool:=by
 rw[iw,iw]
 congr 1
 funext x
 rw[iw]
theorem zjM{rest:List Expr}(ha:ST X cA ao aj F EX a A)(hb:SW X cA ao aj F EX (.BoolOp .And (b::rest) pos) B):SW X cA ao aj F EX (.BoolOp .And (a::b::rest) pos) (.and A B):=PW.weak (zkg ha hb) λZ H Q hh=>un hh λU J s hL hS h=>by
 have h:Run X.K cA (M.bd (M.bd (ev ao aj F A J) λx=>M.bd (bool x) λk=>if k=true then ev ao aj F B J else M.ret (Xv.d (.bl false))) bool) U H s _ _:=h;rw[Va] at h;refine uN hL hS h λk H1 U1 s1 x1 hL1 aL h3=>?_;cases k with
 |true=>exact iT ⟨U1,J,s1,hL1,aL,h3⟩
 |false=>exact iF (Run.bG aL (a:=false) h3)
theorem zlU{rest:List Expr}(ha:ST X cA ao aj F EX a A)(hb:SW X cA ao aj F EX (.BoolOp .Or (b::rest) pos) B):SW X cA ao aj F EX (.BoolOp .Or (a::b::rest) pos) (.or A B):=PW.weak (zlO ha hb) λZ H Q hh=>un hh λU J s hL hS h=>by
 have h:Run X.K cA (M.bd (M.bd (ev ao aj F A J) λx=>M.bd (bool x) λk=>if k=true then M.ret (Xv.d (.bl true)) else ev ao aj F B J) bool) U H s _ _:=h;rw[Va] at h;refine uN hL hS h λk H1 U1 s1 x1 hL1 aL h3=>?_;cases k with
 |true=>exact iT (Run.bG aL (a:=true) h3)
 |false=>exact iF ⟨U1,J,s1,hL1,aL,h3⟩
theorem zmS(h:SW X cA ao aj F EX a A):ST X cA ao aj F EX a A:=Kac h
theorem zhu:(M.bd m λx=>M.bd (bool x) k)=M.bd (M.bd m bool) k:=by rw[iw]
theorem zjS(hc:ST X cA ao aj F EX c C)(ha:SE X cA ao aj F EX a A)(hb:SE X cA ao aj F EX b B):SE X cA ao aj F EX (.IfExp c a b pos) (.ite C A B):=PE.weak (zf0 hc ha hb) λZ H Q hh=>un hh λU J s hL hS h=>by
 have h:Run X.K cA (M.bd (ev ao aj F C J) λx=>M.bd (bool x) λk=>if k=true then ev ao aj F A J else ev ao aj F B J) U H s _ _:=h;rw[zhu] at h;refine uN hL hS h λk H1 U1 s1 x1 hL1 aL h3=>?_;cases k with
 |true=>exact iT ⟨U1,J,s1,hL1,aL,h3⟩
 |false=>exact iF ⟨U1,J,s1,hL1,aL,h3⟩
theorem Vb:∀(Xs:Es) (J:Vs) (s:S) (ds:List Xv) (s':S),evs ao aj F Xs J s=some (.ok ds,s')->ds.length=Es.len Xs
 |.nil,J,s,ds,s',h=>by cases h;rfl
 |.cons a r,J,s,ds,s',h=>by
  have h:M.bd (ev ao aj F a J) (λx=>M.bd (evs ao aj F r J) λxs=>M.ret (x::xs)) s=some (.ok ds,s'):=h;unfold M.bd at h;cases e1:ev ao aj F a J s with
  |none=>rw[e1] at h;cases h
  |some q=>
   obtain⟨q,s1⟩:=q;rw[e1] at h;cases q with
   |er c f=>cases h
   |ok d=>
    dsimp only at h;cases e2:evs ao aj F r J s1 with
    |none=>rw[e2] at h;cases h
    |some q=>
     obtain⟨q,s2⟩:=q;rw[e2] at h;cases q with
     |er c f=>cases h
     |ok ds'=>
      cases h;rw[dR,Vb r J s1 ds' _ e2];rfl
theorem Gg{β:Type}{K:W.Frag}{U:Ph}{H:Hp}{s:S}{Z:L2.St}{J:Vs}{k:List Xv->M β}{P:β->S->Ph->Hp->Prop}(hL:aU K cA U H Z J)(hS:aG K cA U H s)(h:Run K cA (M.bd (evs ao aj F Xs J) k) U H s P (eX K cA EX Z)){Q:List V->Hp->Prop}
  (f:∀x H1 U1 d s1,d.length=Es.len Xs->Ext U H U1 H1->aU K cA U1 H1 Z J->aG K cA U1 H1 s1->aM K cA U1 H1 d x->Run K cA (k d) U1 H1 s1 P (eX K cA EX Z)->Q x H1):Og K cA EX (evs ao aj F Xs) Z H Q:=by
 refine⟨U,J,s,hL,hS,?_⟩;have h2:=h.bd;unfold Run at h2 ⊢;cases e:evs ao aj F Xs J s with
 |none=>rw[e] at h2;exact h2
 |some r=>
  obtain⟨r,s1⟩:=r;rw[e] at h2;cases r with
  |er c f=>exact h2
  |ok ds=>
   intro U1 H1 x1 r1 v rv;obtain⟨_,_,h3⟩:=h2 U1 H1 x1 r1;exact f v H1 U1 ds s1 (Vb Xs J s ds s1 e) x1 (hL.mono x1 hS.lz) r1 rv h3
theorem zkb{k}(ha:SA X cA ao aj F EX es Xs)(hz:Es.len Xs<=sizeLine):SE X cA ao aj F EX (.Tuple es k pos) (.tup Xs):=PE.weak (zk0 ha) λZ H Q hh=>un hh λU J s hL hS h=>by
 refine Gg hL hS h λvs H1 U1 xs s1 hl x1 hL1 aL rv h1=>?_;obtain⟨ds,e,rs,h2⟩:=Oi rv h1;refine⟨by rw[<-rv.len,hl];exact hz,λp hp=>?_⟩;exact h2 U1 (upd H1 p (.tup vs)) (bA.new hp).ext (aL.grow (bA.new hp)) _ (.d (.tup (TupAt.new (aL.nz hp)) (rs.mono (bA.new hp).ext aL.lz)))
theorem zkB(ha:SA X cA ao aj F EX es Xs)(hz:Es.len Xs<=sizeLine):SE X cA ao aj F EX (.List es pos) (.lst fz Xs):=PE.weak (zjc ha) λZ H Q hh=>un hh λU J s hL hS h=>by
 refine Gg hL hS h λvs H1 U1 xs s1 hl x1 hL1 aL rv h1=>?_;obtain⟨ds,e,rs,h2⟩:=Oi rv h1;exact⟨by rw[<-rv.len,hl];exact hz,λp hp=>zgN aL h2 p vs hp rs⟩
theorem wK{id:String}{r:List V->Hp->VK->Prop}(hc:cC X (.builtin id) r)(hp:aQ X.K cA p r)
  (hg:Gl X x) (hm:X.mg x=none) (hv:bootBuiltins x=some (.builtin id)) (ha:SA X cA ao aj F EX (e::es) Xs) (hn:x≠"__name__":=by decide) (pF:(x==("__debug__" : Str))=false:=by decide)
  (he:starEach (e::es) X.env=(false,eval e X.env)::starEach es X.env:=by rfl) (hpl:(backTo pos (starEach es X.env)).any (·.1)=false:=by rfl):SE X cA ao aj F EX (.Call (.Name x pp) (e::es) [] pos) (.pr fz p Xs):=PE.weak (T6 hc hg hm hv ha hn pF he hpl) λZ H Q hh=>un hh λU J s hL hS h=>
 m9 hL hS h λvs H1 U1 ds s1 x1 hL1 aL r1 h1=>by
  obtain⟨ds,rs,h3⟩:=qY aL r1 h1;exact hp U1 H1 ds _ _ aL.zs rs (qj aL h3)
theorem Om{id:String}{r:List V->Hp->VK->Prop}(hc:cC X (.type id) r)(hp:aQ X.K cA p r)
  (hg:Gl X x) (hm:X.mg x=none) (hv:bootBuiltins x=some (.type id)) (ha:SA X cA ao aj F EX (e::es) Xs) (hn:x≠"__name__":=by decide) (pF:(x==("__debug__" : Str))=false:=by decide)
  (he:starEach (e::es) X.env=(false,eval e X.env)::starEach es X.env:=by rfl) (hpl:(backTo pos (starEach es X.env)).any (·.1)=false:=by rfl):SE X cA ao aj F EX (.Call (.Name x pp) (e::es) [] pos) (.pr fz p Xs):=PE.weak (zfh hc hg hm hv ha hn pF he hpl) λZ H Q hh=>un hh λU J s hL hS h=>
 m9 hL hS h λvs H1 U1 ds s1 x1 hL1 aL r1 h1=>by
  obtain⟨ds,rs,h3⟩:=qY aL r1 h1;exact hp U1 H1 ds _ _ aL.zs rs (qj aL h3)
theorem zlM(hp:aQ X.K cA p (r2 (Mr X.K)))(ha:SE X cA ao aj F EX a A)(hb:SE X cA ao aj F EX b B)(hs:n6 b:=by intro _ _;rfl):SE X cA ao aj F EX (.Subscript a b pos) (.pr true p (.cons A (.cons B .nil))):=PE.weak (zk9 zj4 ha hb hs) λZ H Q hh=>un hh λU J s hL hS h=>by
 have h:Run X.K cA (M.bd (M.bd (ev ao aj F A J) λx=>M.bd (M.bd (ev ao aj F B J) λy=>M.bd (M.ret []) λz=>M.ret (y::z)) λys=>M.ret (x::ys)) λvs=>M.bd (eE vs) λds=>bO true (prim p ds)) U H s _ _:=h;simp only[iw] at h;refine bF hL hS h λx H1 U1 d1 s1 x1 hL1 aL r1 h1=>bF hL1 aL h1 λy H2 U2 d2 s2 x2 hL2 bf r2' h2=>?_;exact zx (Jc (fz:=true) (U:=U) x2 aL bf r1 r2' h2 hp)
theorem zl6(ho:Il X (unaryOp op) r)(hp:aQ X.K cA p (λvs H Q=>∃x,vs=[x]/\r x H Q))(ha:SE X cA ao aj F EX a A):SE X cA ao aj F EX (.UnaryOp op a pos) (.pr true p (.cons A .nil)):=PE.weak (Tt ho ha) λZ H Q hh=>un hh λU J s hL hS h=>by
 have h:Run X.K cA (M.bd (M.bd (ev ao aj F A J) λx=>M.bd (M.ret []) λz=>M.ret (x::z)) λvs=>M.bd (eE vs) λds=>bO true (prim p ds)) U H s _ _:=h;simp only[iw] at h;refine bF hL hS h λx H1 U1 d1 s1 x1 hL1 aL r1 h1=>?_;obtain⟨ds,rs,h3⟩:=qY aL (.cons r1 .nil) h1;obtain⟨_,e,q⟩:=hp U1 H1 ds _ _ aL.zs rs (qj aL h3);cases e;exact q
theorem zk5{j p'}(ha:SE X cA ao aj F EX a A):SE X cA ao aj F EX (.Compare a [.Is] [.Constant .none j p'] pos) (.pr true .qQ (.cons A .nil)):=PE.weak (zjP (Tc ha)) λZ H Q hh=>un hh λU J s hL hS h=>by
 have h:Run X.K cA (M.bd (M.bd (ev ao aj F A J) λx=>M.bd (M.ret []) λz=>M.ret (x::z)) λvs=>M.bd (eE vs) λds=>bO true (prim .qQ ds)) U H s _ _:=h;simp only[iw] at h;refine bF hL hS h λx H1 U1 d1 s1 x1 hL1 aL r1 h1=>?_;obtain⟨ds,rs,h3⟩:=qY aL (.cons r1 .nil) h1;cases rs with
 |cons r rs=>cases rs with
  |nil=>
   rename_i d;have h4:=qj aL h3;have q:=h4 H1 _ bA.refl (.bl _);cases d<;>first
    |(obtain⟨_,_,rfl,_,_⟩:=r;exact q)
    |(cases (show Rep _ _ _ _ _ x from r)<;>exact q)
theorem Vc(q:Pr)(hq:prim q=yU f)(hh:uL X.K cA EX (λJ=>M.bd (ev ao aj F (.pr true q (.cons A .nil)) J) bool) Z H Q):tE X.K cA EX (ev ao aj F A) Z H λx H1=>Q (f (decide (x=.non))) H1:=un hh λU J s hL hS h=>by
 have h:Run X.K cA (M.bd (M.bd (M.bd (ev ao aj F A J) λx=>M.bd (M.ret []) λz=>M.ret (x::z)) λvs=>M.bd (eE vs) λds=>bO true (prim q ds)) bool) U H s _ _:=h;simp only[iw] at h;refine bF hL hS h λx H1 U1 d1 s1 x1 hL1 aL r1 h1=>?_;obtain⟨ds,rs,h3⟩:=qY aL (.cons r1 .nil) h1;cases rs with
 |cons r rs=>cases rs with
  |nil=>
   rename_i d;rw[hq] at h3;have h4:Run X.K cA (M.bd (M.ret (Xv.d (.bl (f d.jE)))) bool) U1 H1 s1 (λd _ U' H'=>Q d H') (eX X.K cA EX Z):=h3;have q:=h4 U1 H1 Ext.refl aL;cases d<;>first
    |(obtain⟨_,_,rfl,_,_⟩:=r;exact q)
    |(cases (show Rep _ _ _ _ _ x from r)<;>exact q)
theorem zk4{j p'}(ha:SE X cA ao aj F EX a A):ST X cA ao aj F EX (.Compare a [.Is] [.Constant .none j p'] pos) (.pr true .qQ (.cons A .nil)):=PT.weak (Td (Tc ha)) λZ H Q hh=>by
 have:=Vc .qQ (f:=id) rfl hh;obtain⟨U,J,s,a,b,c⟩:=this;exact⟨U,J,s,a,b,c.imp λd s' U' H' k v rv=>⟨_,rfl,k v rv⟩⟩
theorem zia{j p'}(ha:SE X cA ao aj F EX a A):ST X cA ao aj F EX (.Compare a [.IsNot] [.Constant .none j p'] pos) (.pr true .v7 (.cons A .nil)):=PT.weak (Td (ziO ha)) λZ H Q hh=>by
 have:=Vc .v7 (f:=not) rfl hh;obtain⟨U,J,s,a,b,c⟩:=this;exact⟨U,J,s,a,b,c.imp λd s' U' H' k v rv=>⟨_,rfl,k v rv⟩⟩
end
mutual
inductive Is (h:Heap):D->Value->Prop where
 |non:Is h .non .none
 |bl (b:Bool):Is h (.bl b) (.bool b)
 |int (i:Int) (t:Tok):Is h (.int i) (.int i t)
 |str (x:Str) (t:Tok):Is h (.str x) (.str x t)
 |tup {a:Addr} {xs:List D} {its:List Value} (p:h.IsTuple a its.toArray) (r:gR h xs its):Is h (.tup xs) (.ref a)
 |fl {a:Addr} {xs:List D} {its:List Value} (p:h.IsList a its.toArray) (r:gR h xs its):Is h (.fl xs) (.ref a)
 |oth {d:D} {u:Value} (k:kq d=none):Is h d u
inductive gR (h:Heap):List D->List Value->Prop where
 |nil:gR h [] []
 |cons {d:D} {u:Value} {ds:List D} {us:List Value} (a:Is h d u) (r:gR h ds us):gR h (d::ds) (u::us)
end
section
variable {X:Cx}{cA:Cl}{ak:List (Addr×Obj)}{Z:L2.St}{H:Hp}{s:Shared}{U:Ph}{h:Heap}
theorem Oo(I:Inv X ak Z H s){ds:List D}{vs:List V}{us:List Value}(h:aA X.K cA U H ds vs)(r:Vals vs us):gR s.heap ds us:=
 aA.rec (motive_1:=λd v _=>∀{u:Value},RelV v u->Is s.heap d u) (motive_2:=λd v _=>∀{u:List Value},Vals v u->gR s.heap d u) (λr=>by cases r;exact .non) (λb _ r=>by cases r;exact .bl b) (λi _ r=>by obtain⟨t,rfl⟩:=r;exact .int i t) (λi _ r=>by obtain⟨t,rfl⟩:=r;exact .str i t)
 (λh _ ih _ r=>by
  cases r;obtain⟨its,rv,ht,_⟩:=I.tuple h.iC;exact .tup ht (ih rv))
 (λh _ ih _ r=>by
  cases r;obtain⟨its,rv,ht,_⟩:=I.list h.tD;exact .fl ht.isList (ih rv))
 (λ_ _ _ _=>.oth rfl) (λ_ _ _ _ _=>.oth rfl) (λ_ _ _ _ _=>.oth rfl) (λ_ _ _=>.oth rfl)
 (λr=>by cases r;exact .nil)
 (λ_ _ i j _ r=>by
  cases r with
  |cons a b=>exact .cons (i a) (j b)) h r
theorem uO(I:Inv X ak Z H s){d:D}{v:V}{u:Value}(h:Rep X.K cA U H d v)(r:RelV v u):Is s.heap d u:=by
 cases h with
 |non=>cases r;exact .non
 |bl b=>cases r;exact .bl b
 |int i=>obtain⟨t,rfl⟩:=r;exact .int i t
 |str i=>obtain⟨t,rfl⟩:=r;exact .str i t
 |tup h q=>
  cases r;obtain⟨its,rv,ht,_⟩:=I.tuple h.iC;exact .tup ht (Oo I q rv)
 |fl h q=>
  cases r;obtain⟨its,rv,ht,_⟩:=I.list h.tD;exact .fl ht.isList (Oo I q rv)
 |fd _ _=>exact .oth rfl
 |exc _ _=>exact .oth rfl
 |ob _ _=>exact .oth rfl
 |any _=>exact .oth rfl
theorem uP(I:Inv X ak Z H s){d:D}{v:V}{u:Value}(q:Rv X.K cA U H d v)(r:RelV v u):Is s.heap d u:=by
 cases d with
 |fl xs=>
  obtain⟨a,vs,rfl,sq,rs⟩:=q;cases r;obtain⟨its,rv,ht,_⟩:=I.list sq;exact .fl ht.isList (Oo I rs rv)
 |non=>exact uO I q r
 |bl b=>exact uO I q r
 |int b=>exact uO I q r
 |str b=>exact uO I q r
 |tup b=>exact uO I q r
 |fd b c=>exact uO I q r
 |exc b c=>exact uO I q r
 |ob b c=>exact uO I q r
 |any=>exact uO I q r
theorem gR.len:∀{ds:List D} {us:List Value},gR h ds us->ds.length=us.length
 |_,_,.nil=>rfl
 |_,_,.cons _ r=>by rw[dR,dR,gR.len r]
theorem gR.get:∀{ds:List D} {us:List Value} {i:Nat} {d:D},gR h ds us->ds[i]?=some d->∃u,us[i]?=some u/\Is h d u
 |_,_,_,_,.nil,e=>by simp at e
 |_,_,0,_,.cons h _,e=>by simp at e;subst e;exact⟨_,rfl,h⟩
 |_,_,i+1,d,.cons _ r,e=>by
  obtain⟨v,a,b⟩:=gR.get (i:=i) (d:=d) r (by simpa using e);exact⟨v,by simpa using a,b⟩
theorem Vd{a:Addr}{is js:Array Value}(p:h.IsTuple a is)(q:h.IsTuple a js):is=js:=by
 obtain⟨o,e,c,n,d⟩:=p;obtain⟨o',e',c',n',d'⟩:=q;rw[e] at e';cases e';rw[d] at d';cases d';rfl
theorem Ve{a:Addr}{is js:Array Value}(p:h.IsList a is)(q:h.IsList a js):is=js:=by
 obtain⟨o,e,c,n,d⟩:=p;obtain⟨o',e',c',n',d'⟩:=q;rw[e] at e';cases e';rw[d] at d';cases d';rfl
theorem Bh{a:Addr}{is js:Array Value}(p:h.IsList a is)(q:h.IsTuple a js):False:=by
 obtain⟨o,e,c,n,d⟩:=p;obtain⟨o',e',c',n',d'⟩:=q;rw[e] at e';cases e';rw[c] at c';exact absurd c' Nj
theorem Gh{eq:D->D->Option Bool}:∀{xs ys:List D} {b:Bool},jt eq xs ys=some b->∃e:Nat->Bool,(∀(j:Nat) x y,xs[j]?=some x->ys[j]?=some y->eq x y=some (e j))/\b=((List.range (min xs.length ys.length)).all e&&xs.length==ys.length)
 |[],[],b,h=>by cases h;exact⟨λ_=>true,λj x y q=>by simp at q,by simp⟩
 |[],y::ys,b,h=>by cases h;exact⟨λ_=>true,λj x y q=>by simp at q,by simp⟩
 |x::xs,[],b,h=>by cases h;exact⟨λ_=>true,λj x y q r=>by simp at r,by simp⟩
 |x::xs,y::ys,b,h=>by
  simp only[jt] at h;cases e1:eq x y with
  |none=>rw[e1] at h;cases h
  |some a=>
   cases e2:jt eq xs ys with
   |none=>rw[e1,e2] at h;cases h
   |some c=>
    rw[e1,e2] at h;cases h;obtain⟨e,h1,h2⟩:=Gh e2;refine⟨λj=>match j with|0=>a|j+1=>e j,λj p q r1 r2=>?_,?_⟩
    ·cases j with
     |zero=>
      simp at r1 r2;subst r1 r2;exact e1
     |succ j=>exact h1 j p q (by simpa using r1) (by simpa using r2)
    ·rw[h2];simp only[dR,Nat.succ_min_succ,Kq,vP,CJ,Function.comp_def];rw[Bool.and_assoc]
     congr 2
     simp
theorem ql{n:Nat}{d e:D}(k:kq d=none):c7 n d e=none:=by
 cases n<;>cases d<;>first|cases k;done|(cases e<;>rfl)
theorem fG{n:Nat}{d e:D}(k:kq e=none):c7 n d e=none:=by
 cases n<;>cases e<;>first|cases k;done|(cases d<;>rfl)
theorem Vf:∀(n:Nat) {d1 d2:D} {u:Value} {b:Bool},Is h d1 u->Is h d2 u->c7 n d1 d2=some b->b=true:=by
 intro n;have rows:∀(n:Nat),(∀{d1 d2:D} {u:Value} {b:Bool},Is h d1 u->Is h d2 u->c7 n d1 d2=some b->b=true)->∀{xs ys:List D} {is js:List Value} {b:Bool},gR h xs is->gR h ys js->is.toArray=js.toArray->jt (c7 n) xs ys=some b->b=true:=by
  intro n ih xs ys is js b q1 q2 e hd;have e:is=js:=by simpa using e
  subst e;obtain⟨e,a1,a2⟩:=Gh (eq:=c7 n) hd;rw[a2];have hl:_=_:=q1.len.trans q2.len.symm;rw[eU];refine⟨gb.mpr λj hj=>?_,by rw[hl];simp⟩;have hj:=nJ.mp hj;obtain⟨x,hx⟩ : ∃x,_=some x:=⟨_,eO (f9 hj (Nat.min_le_left _ _))⟩;obtain⟨y,hy⟩ : ∃y,_=some y:=⟨_,eO (f9 hj (Nat.min_le_right _ _))⟩;obtain⟨v1,e1,p1⟩:=q1.get hx;obtain⟨v2,e2,p2⟩:=q2.get hy;rw[e1] at e2;cases e2;exact ih p1 p2 (a1 j x y hx hy)
 induction n with
 |zero=>
  intro d1 d2 u b r1 r2 hd;cases r1 with
  |oth k=>rw[ql k] at hd;cases hd
  |non=>cases r2 with
   |oth k=>rw[fG k] at hd;cases hd
   |non=>cases hd;rfl
  |bl x=>cases r2 with
   |oth k=>rw[fG k] at hd;cases hd
   |bl y=>cases hd;simp
  |int x t=>cases r2 with
   |oth k=>rw[fG k] at hd;cases hd
   |int y=>cases hd;simp
  |str x t=>cases r2 with
   |oth k=>rw[fG k] at hd;cases hd
   |str y=>cases hd;simp
  |tup p q=>cases r2 with
   |oth k=>rw[fG k] at hd;cases hd
   |tup p2 q2=>cases hd
   |fl p2 q2=>exact(Bh p2 p).elim
  |fl p q=>cases r2 with
   |oth k=>rw[fG k] at hd;cases hd
   |fl p2 q2=>cases hd
   |tup p2 q2=>exact(Bh p p2).elim
 |succ n ih=>
  intro d1 d2 u b r1 r2 hd;cases r1 with
  |oth k=>rw[ql k] at hd;cases hd
  |non=>cases r2 with
   |oth k=>rw[fG k] at hd;cases hd
   |non=>cases hd;rfl
  |bl x=>cases r2 with
   |oth k=>rw[fG k] at hd;cases hd
   |bl y=>cases hd;simp
  |int x t=>cases r2 with
   |oth k=>rw[fG k] at hd;cases hd
   |int y=>cases hd;simp
  |str x t=>cases r2 with
   |oth k=>rw[fG k] at hd;cases hd
   |str y=>cases hd;simp
  |tup p q=>cases r2 with
   |oth k=>rw[fG k] at hd;cases hd
   |tup p2 q2=>exact rows n ih q q2 (Vd p p2) hd
   |fl p2 q2=>exact(Bh p2 p).elim
  |fl p q=>cases r2 with
   |oth k=>rw[fG k] at hd;cases hd
   |fl p2 q2=>exact rows n ih q q2 (Ve p p2) hd
   |tup p2 q2=>exact(Bh p p2).elim
theorem parts{n:Nat}{A:Around}{xs ys:List D}{is js:List Value}{b:Bool}(r1:gR s.heap xs is)(r2:gR s.heap ys js)(hd:jt (c7 n) xs ys=some b)
  (ih:∀{d1 d2:D} {u1 u2:Value} {b:Bool},Is s.heap d1 u1->Is s.heap d2 u2->c7 n d1 d2=some b->SeqAt.EqAt A s u1 u2 b) :
  ∃e:Nat->Bool,(∀j (h1:j<is.toArray.size) (h2:j<js.toArray.size),SeqAt.EqAt A s is.toArray[j] js.toArray[j] (e j))/\b=((List.range (min is.toArray.size js.toArray.size)).all e&&is.toArray.size==js.toArray.size):=by
 obtain⟨e,a1,a2⟩:=Gh hd;have z1:=r1.len;have z2:=r2.len;refine⟨e,λj h1 h2=>?_,by simp only[dO,<-z1,<-z2];exact a2⟩;simp only[dO] at h1 h2;obtain⟨x,hx⟩ : ∃x,xs[j]?=some x:=⟨_,eO (by rw[z1];exact h1)⟩;obtain⟨y,hy⟩ : ∃y,ys[j]?=some y:=⟨_,eO (by rw[z2];exact h2)⟩;obtain⟨u,f1,g1⟩:=r1.get hx;obtain⟨u',f2,g2⟩:=r2.get hy;have k1:is.toArray[j]=u:=by
  have:=fB.mp f1;simpa using this.2
 have k2:js.toArray[j]=u':=by
  have:=fB.mp f2;simpa using this.2
 rw[k1,k2];exact ih g1 g2 (a1 j x y hx hy)
theorem Vg{A:Around}{l m:Addr}{is js:Array Value}{e:Nat->Bool}{b:Bool}(p1:s.heap.IsList l is)(p2:s.heap.IsList m js)(hu:A.units<cLine)(he:∀j (h1:j<is.size) (h2:j<js.size),SeqAt.EqAt A.in1 s is[j] js[j] (e j))(hb:b=((List.range (min is.size js.size)).all e&&is.size==js.size)):SeqAt.RcAt A s (.ref l) (.ref m) b:=by
 by_cases hz:is.size=js.size
 ·have:b=(List.range is.size).all e:=by rw[hb,hz];simp
  rw[this];exact SeqAt.RcAt.lists p1 p2 hz hu he
 ·have Oq:(is.size != js.size)=true:=by simpa using hz
  have:b=false:=by rw[hb];simp[hz]
  rw[this];exact SeqAt.RcAt.lists_lengths p1 p2 Oq hu
theorem zfB{A:Around}{l m:Addr}{is js:Array Value}{e:Nat->Bool}{b:Bool}(p1:s.heap.IsList l is)(p2:s.heap.IsList m js)(hu:A.units<cLine)(he:∀j (h1:j<is.size) (h2:j<js.size),SeqAt.EqAt A.in1 s is[j] js[j] (e j))(hb:b=((List.range (min is.size js.size)).all e&&is.size==js.size)):SeqAt.RcNeAt A s (.ref l) (.ref m) (!b):=by
 by_cases hz:is.size=js.size
 ·have:b=(List.range is.size).all e:=by rw[hb,hz];simp
  rw[this];exact SeqAt.RcNeAt.lists p1 p2 hz hu he
 ·have Oq:(is.size != js.size)=true:=by simpa using hz
  have:b=false:=by rw[hb];simp[hz]
  rw[this];exact SeqAt.RcNeAt.lists_lengths p1 p2 Oq hu
open SeqAt in
theorem Bj:∀(n:Nat) {A:Around} {d1 d2:D} {u1 u2:Value} {b:Bool},A.units+n<cLine->Is s.heap d1 u1->Is s.heap d2 u2->c7 n d1 d2=some b->SeqAt.EqAt A s u1 u2 b:=by
 intro n
 induction n with
 |zero=>
  intro A d1 d2 u1 u2 b hu r1 r2 hd;have hu:A.units<cLine:=by lia
  cases r1 with
  |oth k=>rw[ql k] at hd;cases hd
  |non=>cases r2 with
   |oth k=>rw[fG k] at hd;cases hd
   |non=>cases hd;exact EqAt.same _
   |bl y=>cases hd;exact EqAt.none_bool _
   |int y t=>cases hd;exact EqAt.none_int _ _
   |str y t=>cases hd;exact EqAt.none_str _ _
   |tup p q=>cases hd;exact EqAt.none_tuple p hu
   |fl p q=>cases hd;exact EqAt.none_list p hu
  |bl x=>cases r2 with
   |oth k=>rw[fG k] at hd;cases hd
   |non=>cases hd;exact EqAt.bool_none _
   |bl y=>cases hd;exact EqAt.bool_bool _ _
   |int y t=>cases hd;exact EqAt.bool_int _ _ _
   |str y t=>cases hd;exact EqAt.bool_str _ _ _
   |tup p q=>cases hd;exact EqAt.bool_tuple _ p hu
   |fl p q=>cases hd;exact EqAt.bool_list _ p hu
  |int x t=>cases r2 with
   |oth k=>rw[fG k] at hd;cases hd
   |non=>cases hd;exact EqAt.int_none _ _
   |bl y=>cases hd;exact EqAt.int_bool _ _ _
   |int y t=>cases hd;exact EqAt.int_int _ _ _ _
   |str y t=>cases hd;exact EqAt.int_str _ _ _ _
   |tup p q=>cases hd;exact EqAt.int_tuple _ _ p hu
   |fl p q=>cases hd;exact EqAt.int_list _ _ p hu
  |str x t=>cases r2 with
   |oth k=>rw[fG k] at hd;cases hd
   |non=>cases hd;exact EqAt.str_none _ _
   |bl y=>cases hd;exact EqAt.str_bool _ _ _
   |int y t=>cases hd;exact EqAt.str_int _ _ _ _
   |str y t=>cases hd;exact EqAt.str_str _ _ _ _
   |tup p q=>cases hd;exact EqAt.str_tuple _ _ p hu
   |fl p q=>cases hd;exact EqAt.str_list _ _ p hu
  |tup p q=>cases r2 with
   |oth k=>rw[fG k] at hd;cases hd
   |non=>cases hd;exact EqAt.tuple_none p hu
   |bl y=>cases hd;exact EqAt.tuple_bool _ p hu
   |int y t=>cases hd;exact EqAt.tuple_int _ _ p hu
   |str y t=>cases hd;exact EqAt.tuple_str _ _ p hu
   |tup p2 q2=>cases hd
   |fl p2 q2=>cases hd;exact EqAt.tuple_list p p2 hu
  |fl p q=>cases r2 with
   |oth k=>rw[fG k] at hd;cases hd
   |non=>cases hd;exact EqAt.list_none p hu
   |bl y=>cases hd;exact EqAt.list_bool _ p hu
   |int y t=>cases hd;exact EqAt.list_int _ _ p hu
   |str y t=>cases hd;exact EqAt.list_str _ _ p hu
   |tup p2 q2=>cases hd;exact EqAt.list_tuple p p2 hu
   |fl p2 q2=>cases hd
 |succ n ih=>
  intro A d1 d2 u1 u2 b hu0 r1 r2 hd;have hu:A.units<cLine:=by lia
  have fV:A.in1.units+n<cLine:=by show A.units+1+n<cLine;lia
  cases r1 with
  |oth k=>rw[ql k] at hd;cases hd
  |non=>cases r2 with
   |oth k=>rw[fG k] at hd;cases hd
   |non=>cases hd;exact EqAt.same _
   |bl y=>cases hd;exact EqAt.none_bool _
   |int y t=>cases hd;exact EqAt.none_int _ _
   |str y t=>cases hd;exact EqAt.none_str _ _
   |tup p q=>cases hd;exact EqAt.none_tuple p hu
   |fl p q=>cases hd;exact EqAt.none_list p hu
  |bl x=>cases r2 with
   |oth k=>rw[fG k] at hd;cases hd
   |non=>cases hd;exact EqAt.bool_none _
   |bl y=>cases hd;exact EqAt.bool_bool _ _
   |int y t=>cases hd;exact EqAt.bool_int _ _ _
   |str y t=>cases hd;exact EqAt.bool_str _ _ _
   |tup p q=>cases hd;exact EqAt.bool_tuple _ p hu
   |fl p q=>cases hd;exact EqAt.bool_list _ p hu
  |int x t=>cases r2 with
   |oth k=>rw[fG k] at hd;cases hd
   |non=>cases hd;exact EqAt.int_none _ _
   |bl y=>cases hd;exact EqAt.int_bool _ _ _
   |int y t=>cases hd;exact EqAt.int_int _ _ _ _
   |str y t=>cases hd;exact EqAt.int_str _ _ _ _
   |tup p q=>cases hd;exact EqAt.int_tuple _ _ p hu
   |fl p q=>cases hd;exact EqAt.int_list _ _ p hu
  |str x t=>cases r2 with
   |oth k=>rw[fG k] at hd;cases hd
   |non=>cases hd;exact EqAt.str_none _ _
   |bl y=>cases hd;exact EqAt.str_bool _ _ _
   |int y t=>cases hd;exact EqAt.str_int _ _ _ _
   |str y t=>cases hd;exact EqAt.str_str _ _ _ _
   |tup p q=>cases hd;exact EqAt.str_tuple _ _ p hu
   |fl p q=>cases hd;exact EqAt.str_list _ _ p hu
  |@tup a1 xs is p q=>cases r2 with
   |oth k=>rw[fG k] at hd;cases hd
   |non=>cases hd;exact EqAt.tuple_none p hu
   |bl y=>cases hd;exact EqAt.tuple_bool _ p hu
   |int y t=>cases hd;exact EqAt.tuple_int _ _ p hu
   |str y t=>cases hd;exact EqAt.tuple_str _ _ p hu
   |@tup a2 ys js p2 q2=>
    by_cases ea:a1=a2
    ·subst ea;have:=Vf (n+1) (.tup p q) (.tup p2 q2) hd;subst this;exact EqAt.same _
    ·obtain⟨e,he,hb⟩:=parts (A:=A.in1) q q2 hd λa b c=>ih fV a b c;rw[hb];exact EqAt.of_refs ea (RcAt.tuples p p2 hu he)
   |fl p2 q2=>cases hd;exact EqAt.tuple_list p p2 hu
  |@fl a1 xs is p q=>cases r2 with
   |oth k=>rw[fG k] at hd;cases hd
   |non=>cases hd;exact EqAt.list_none p hu
   |bl y=>cases hd;exact EqAt.list_bool _ p hu
   |int y t=>cases hd;exact EqAt.list_int _ _ p hu
   |str y t=>cases hd;exact EqAt.list_str _ _ p hu
   |tup p2 q2=>cases hd;exact EqAt.list_tuple p p2 hu
   |@fl a2 ys js p2 q2=>
    by_cases ea:a1=a2
    ·subst ea;have:=Vf (n+1) (.fl p q) (.fl p2 q2) hd;subst this;exact EqAt.same _
    ·obtain⟨e,he,hb⟩:=parts (A:=A.in1) q q2 hd λa b c=>ih fV a b c;exact EqAt.of_refs ea (Vg p p2 hu he hb)
end
section
variable {X:Cx}{cA:Cl}{ak:List (Addr×Obj)}{Z:L2.St}{H:Hp}{s:Shared}{U:Ph}{h:Heap}
open SeqAt in
theorem Vh(hu0:A.units+(n+1)<cLine)(r1:Is s.heap d1 u1)(r2:Is s.heap d2 u2)(hd:c7 (n+1) d1 d2=some b):RcAt A s u1 u2 b/\RcNeAt A s u1 u2 (!b):=by
 have hu:A.units<cLine:=by lia
 have fV:A.in1.units+n<cLine:=by show A.units+1+n<cLine;lia
 cases r1 with
 |oth k=>rw[ql k] at hd;cases hd
 |non=>cases r2 with
  |oth k=>rw[fG k] at hd;cases hd
  |non=>cases hd;exact⟨RcAt.none_none,RcNeAt.none_none⟩
  |bl y=>cases hd;exact⟨RcAt.none_bool _,RcNeAt.none_bool _⟩
  |int y t=>cases hd;exact⟨RcAt.none_int _ _,RcNeAt.none_int _ _⟩
  |str y t=>cases hd;exact⟨RcAt.none_str _ _,RcNeAt.none_str _ _⟩
  |tup p q=>cases hd;exact⟨RcAt.none_tuple p hu,RcNeAt.none_tuple p hu⟩
  |fl p q=>cases hd;exact⟨RcAt.none_list p hu,RcNeAt.none_list p hu⟩
 |bl x=>cases r2 with
  |oth k=>rw[fG k] at hd;cases hd
  |non=>cases hd;exact⟨RcAt.bool_none _,RcNeAt.bool_none _⟩
  |bl y=>cases hd;exact⟨RcAt.bool_bool _ _,RcNeAt.bool_bool _ _⟩
  |int y t=>cases hd;exact⟨RcAt.bool_int _ _ _,RcNeAt.bool_int _ _ _⟩
  |str y t=>cases hd;exact⟨RcAt.bool_str _ _ _,RcNeAt.bool_str _ _ _⟩
  |tup p q=>cases hd;exact⟨RcAt.bool_tuple _ p hu,RcNeAt.bool_tuple _ p hu⟩
  |fl p q=>cases hd;exact⟨RcAt.bool_list _ p hu,RcNeAt.bool_list _ p hu⟩
 |int x t=>cases r2 with
  |oth k=>rw[fG k] at hd;cases hd
  |non=>cases hd;exact⟨RcAt.int_none _ _,RcNeAt.int_none _ _⟩
  |bl y=>cases hd;exact⟨RcAt.int_bool _ _ _,RcNeAt.int_bool _ _ _⟩
  |int y t=>cases hd;exact⟨RcAt.int_int _ _ _ _,RcNeAt.int_int _ _ _ _⟩
  |str y t=>cases hd;exact⟨RcAt.int_str _ _ _ _,RcNeAt.int_str _ _ _ _⟩
  |tup p q=>cases hd;exact⟨RcAt.int_tuple _ _ p hu,RcNeAt.int_tuple _ _ p hu⟩
  |fl p q=>cases hd;exact⟨RcAt.int_list _ _ p hu,RcNeAt.int_list _ _ p hu⟩
 |str x t=>cases r2 with
  |oth k=>rw[fG k] at hd;cases hd
  |non=>cases hd;exact⟨RcAt.str_none _ _,RcNeAt.str_none _ _⟩
  |bl y=>cases hd;exact⟨RcAt.str_bool _ _ _,RcNeAt.str_bool _ _ _⟩
  |int y t=>cases hd;exact⟨RcAt.str_int _ _ _ _,RcNeAt.str_int _ _ _ _⟩
  |str y t=>cases hd;exact⟨RcAt.str_str _ _ _ _,RcNeAt.str_str _ _ _ _⟩
  |tup p q=>cases hd;exact⟨RcAt.str_tuple _ _ p hu,RcNeAt.str_tuple _ _ p hu⟩
  |fl p q=>cases hd;exact⟨RcAt.str_list _ _ p hu,RcNeAt.str_list _ _ p hu⟩
 |@tup a1 xs is p q=>cases r2 with
  |oth k=>rw[fG k] at hd;cases hd
  |non=>cases hd;exact⟨RcAt.tuple_none p hu,RcNeAt.tuple_none p hu⟩
  |bl y=>cases hd;exact⟨RcAt.tuple_bool _ p hu,RcNeAt.tuple_bool _ p hu⟩
  |int y t=>cases hd;exact⟨RcAt.tuple_int _ _ p hu,RcNeAt.tuple_int _ _ p hu⟩
  |str y t=>cases hd;exact⟨RcAt.tuple_str _ _ p hu,RcNeAt.tuple_str _ _ p hu⟩
  |@tup a2 ys js p2 q2=>
   obtain⟨e,he,hb⟩:=parts (A:=A.in1) q q2 hd λa b c=>Bj n fV a b c;rw[hb];exact⟨RcAt.tuples p p2 hu he,RcNeAt.tuples p p2 hu he⟩
  |fl p2 q2=>cases hd;exact⟨RcAt.tuple_list p p2 hu,RcNeAt.tuple_list p p2 hu⟩
 |@fl a1 xs is p q=>cases r2 with
  |oth k=>rw[fG k] at hd;cases hd
  |non=>cases hd;exact⟨RcAt.list_none p hu,RcNeAt.list_none p hu⟩
  |bl y=>cases hd;exact⟨RcAt.list_bool _ p hu,RcNeAt.list_bool _ p hu⟩
  |int y t=>cases hd;exact⟨RcAt.list_int _ _ p hu,RcNeAt.list_int _ _ p hu⟩
  |str y t=>cases hd;exact⟨RcAt.list_str _ _ p hu,RcNeAt.list_str _ _ p hu⟩
  |tup p2 q2=>cases hd;exact⟨RcAt.list_tuple p p2 hu,RcNeAt.list_tuple p p2 hu⟩
  |@fl a2 ys js p2 q2=>
   obtain⟨e,he,hb⟩:=parts (A:=A.in1) q q2 hd λa b c=>Bj n fV a b c;exact⟨Vg p p2 hu he hb,zfB p p2 hu he hb⟩
noncomputable def uQ(K:W.Frag)(cA:Cl)(f:Bool->Bool):R2:=λx y H Q=>∃U d1 d2 b,Rv K cA U H d1 x/\Rv K cA U H d2 y/\c7 50 d1 d2=some b/\Q (.bl (f b)) H
theorem zjE(hu:X.A.units+60<cLine):dh X (compareOp .Eq) (uQ X.K cA id):=by
 rintro ak s Z H x y v u Q I rx ry ⟨U,d1,d2,b,r1,r2,hd,q⟩;exact(Vh (n:=49) gV (uP I r1 rx) (uP I r2 ry) hd).1 X.prog X.w X.xe _ ⟨.bl b,H,I,rfl,q⟩
theorem zjV(hu:X.A.units+60<cLine):dh X (compareOp .NotEq) (uQ X.K cA not):=by
 rintro ak s Z H x y v u Q I rx ry ⟨U,d1,d2,b,r1,r2,hd,q⟩;exact(Vh (n:=49) gV (uP I r1 rx) (uP I r2 ry) hd).2 X.prog X.w X.xe _ ⟨.bl (!b),H,I,rfl,q⟩
theorem ziC:∀(n:Nat) {d d' x:D} {u:Value} {b b':Bool},Is h d u->Is h d' u->c7 n d x=some b->c7 n d' x=some b'->b=b':=by
 intro n;have tn:∀{n:Nat} {xs xs':List D} {x:D},(∀ys,x=.tup ys->False)->c7 n (.tup xs) x=c7 n (.tup xs') x:=λ{n xs xs' x} hx=>by
  cases n<;>cases x<;>first|rfl|exact(hx _ rfl).elim
 have ln:∀{n:Nat} {xs xs':List D} {x:D},(∀ys,x=.fl ys->False)->c7 n (.fl xs) x=c7 n (.fl xs') x:=λ{n xs xs' x} hx=>by
  cases n<;>cases x<;>first|rfl|exact(hx _ rfl).elim
 have main:∀{n:Nat},(∀{xs xs' ys:List D} {is js:List Value} {b b':Bool},gR h xs is->gR h xs' js->is.toArray=js.toArray->c7 n (.tup xs) (.tup ys)=some b->c7 n (.tup xs') (.tup ys)=some b'->b=b')->(∀{xs xs' ys:List D} {is js:List Value} {b b':Bool},gR h xs is->gR h xs' js->is.toArray=js.toArray->c7 n (.fl xs) (.fl ys)=some b->c7 n (.fl xs') (.fl ys)=some b'->b=b')->∀{d d' x:D} {u:Value} {b b':Bool},Is h d u->Is h d' u->c7 n d x=some b->c7 n d' x=some b'->b=b':=by
  intro n R L d d' x u b b' r1 r2 h1 h2;cases r1 with
  |oth k=>rw[ql k] at h1;cases h1
  |non=>cases r2 with
   |oth k=>rw[ql k] at h2;cases h2
   |non=>rw[h1] at h2;exact cT h2
  |bl y=>cases r2 with
   |oth k=>rw[ql k] at h2;cases h2
   |bl=>rw[h1] at h2;exact cT h2
  |int y=>cases r2 with
   |oth k=>rw[ql k] at h2;cases h2
   |int=>rw[h1] at h2;exact cT h2
  |str y=>cases r2 with
   |oth k=>rw[ql k] at h2;cases h2
   |str=>rw[h1] at h2;exact cT h2
  |tup p q=>cases r2 with
   |oth k=>rw[ql k] at h2;cases h2
   |tup p2 q2=>
    cases x with
    |tup ys=>exact R q q2 (Vd p p2) h1 h2
    |_=>rw[tn (by intro ys z;cases z),h2] at h1;exact(cT h1).symm
   |fl p2 q2=>exact(Bh p2 p).elim
  |fl p q=>cases r2 with
   |oth k=>rw[ql k] at h2;cases h2
   |fl p2 q2=>
    cases x with
    |fl ys=>exact L q q2 (Ve p p2) h1 h2
    |_=>rw[ln (by intro ys z;cases z),h2] at h1;exact(cT h1).symm
   |tup p2 q2=>exact(Bh p p2).elim
 induction n with
 |zero=>
  intro d d' x u b b' r1 r2;exact main (n:=0) (λ_ _ _ z=>by cases z) (λ_ _ _ z=>by cases z) r1 r2
 |succ n ih=>
  have rows:∀{xs xs' ys:List D} {is js:List Value} {b b':Bool},gR h xs is->gR h xs' js->is.toArray=js.toArray->jt (c7 n) xs ys=some b->jt (c7 n) xs' ys=some b'->b=b':=by
   intro xs xs' ys is js b b' q1 q2 e h1 h2;have e:is=js:=by simpa using e
   subst e;obtain⟨e1,a1,b1⟩:=Gh h1;obtain⟨e2,a2,b2⟩:=Gh h2;have hl:xs.length=xs'.length:=q1.len.trans q2.len.symm;rw[b1,b2,hl]
   congr 1
   rw[Bool.eq_iff_iff,gb,gb];have key:∀j∈List.range (min xs'.length ys.length),e1 j=e2 j:=λj hj=>by
    have hj:=nJ.mp hj;obtain⟨x1,wL⟩ : ∃x,xs[j]?=some x:=⟨_,eO (by rw[hl];exact f9 hj (Nat.min_le_left _ _))⟩;obtain⟨x2,uF⟩ : ∃x,xs'[j]?=some x:=⟨_,eO (f9 hj (Nat.min_le_left _ _))⟩;obtain⟨y,hy⟩ : ∃y,ys[j]?=some y:=⟨_,eO (f9 hj (Nat.min_le_right _ _))⟩;obtain⟨v1,f1,p1⟩:=q1.get wL;obtain⟨v2,f2,p2⟩:=q2.get uF;rw[f1] at f2;cases f2;exact ih p1 p2 (a1 j x1 y wL hy) (a2 j x2 y uF hy)
   exact⟨λz j hj=>by rw[<-key j hj];exact z j hj,λz j hj=>by rw[key j hj];exact z j hj⟩
  intro d d' x u b b' r1 r2;exact main (n:=n+1) rows rows r1 r2
theorem Vi:∀{xs:List D} {b:Bool},memD x xs=some b->∀d∈xs,∃k,c7 50 d x=some k
 |[],_,_,d,hd=>by cases hd
 |y::xs,b,h,d,hd=>by
  unfold memD at h;cases e1:c7 50 y x with
  |none=>simp only[e1] at h;cases h
  |some a=>
   cases e2:memD x xs with
   |none=>simp only[e1,e2] at h;cases h
   |some c=>
    rcases fC.mp hd with rfl|hd
    ·exact⟨a,e1⟩
    ·exact Vi e2 d hd
theorem Jd:∀{xs:List D} {us:List Value} {b:Bool},memD x xs=some b->gR h xs us->∃e:Value->Bool,(∀u∈us,∃d,Is h d u/\c7 50 d x=some (e u))/\us.any e=b:=by
 intro xs us b hm r;have ex:∀u∈us,∃d k,Is h d u/\c7 50 d x=some k:=by
  intro u hu;obtain⟨i,hi,e⟩:=Ky hu;have hl:=r.len;obtain⟨d,hd⟩ : ∃d,xs[i]?=some d:=⟨_,eO gV⟩;obtain⟨u',e1,q⟩:=r.get hd;rw[eO hi,e] at e1;cases e1;obtain⟨k,hk⟩:=Vi hm d (dH hd);exact⟨d,k,q,hk⟩
 refine⟨λu=>by classical exact if z:∃k,∃d,Is h d u/\c7 50 d x=some k then z.choose else false,λu hu=>?_,?_⟩
 ·obtain⟨d,k,q,hk⟩:=ex u hu;have z:∃k,∃d,Is h d u/\c7 50 d x=some k:=⟨k,d,q,hk⟩;dsimp only;rw[dif_pos z];exact z.choose_spec
 ·clear ex;have key:∀(xs:List D) (us:List Value) (b:Bool),memD x xs=some b->gR h xs us->us.any (λu=>by classical exact if z:∃k,∃d,Is h d u/\c7 50 d x=some k then z.choose else false)=b:=by
   intro xs
   induction xs with
   |nil=>intro us b hm r;cases r;cases hm;rfl
   |cons d ds ih=>
    intro us b hm r;cases r with
    |@cons _ u _ us a r=>
     unfold memD at hm;cases e1:c7 50 d x with
     |none=>simp only[e1] at hm;cases hm
     |some k=>
      cases e2:memD x ds with
      |none=>simp only[e1,e2] at hm;cases hm
      |some c=>
       simp only[e1,e2] at hm;cases hm;rw[List.any_cons];have z:∃k,∃d,Is h d u/\c7 50 d x=some k:=⟨k,d,a,e1⟩;have hk:z.choose=k:=by
        obtain⟨d',q,Dk⟩:=z.choose_spec;exact ziC 50 q a Dk e1
       rw[dif_pos z,hk,ih us c e2 r]
  exact key xs us b hm r
noncomputable def uR(K:W.Frag)(cA:Cl)(f:Bool->Bool):R2:=λx y H Q=>∃U d1 d2 xs b,Rv K cA U H d1 x/\Rv K cA U H d2 y/\iR d2=some xs/\memD d1 xs=some b/\Q (.bl (f b)) H
theorem zko(hu:X.A.units+60<cLine):dh X (compareOp .In) (uR X.K cA id):=by
 rintro ak s Z H x y v u Q I rx ry ⟨U,d1,d2,xs,b,r1,r2,hq,hm,q⟩;have fV:X.A.in1.units+50<cLine:=by show X.A.units+1+50<cLine;lia
 have i1:=uP I r1 rx;cases uP I r2 ry with
 |tup p r=>
  cases hq;obtain⟨e,he,hb⟩:=Jd hm r;refine SeqAt.in_tupleAt e p (λw hw=>?_) ⟨.bl b,H,I,by rw[<-hb];simp[L2.RelV],q⟩;obtain⟨d,q1,q2⟩:=he w (by simpa using hw);exact Bj 50 fV q1 i1 q2
 |fl p r=>
  cases hq;obtain⟨e,he,hb⟩:=Jd hm r;refine SeqAt.in_listAt e p (λw hw=>?_) ⟨.bl b,H,I,by rw[<-hb];simp[L2.RelV],q⟩;obtain⟨d,q1,q2⟩:=he w (by simpa using hw);exact Bj 50 fV q1 i1 q2
 |oth k=>cases d2<;>cases hq<;>cases k
 |_=>cases hq
theorem zhK(hu:X.A.units+60<cLine):dh X (compareOp .NotIn) (uR X.K cA not):=by
 rintro ak s Z H x y v u Q I rx ry ⟨U,d1,d2,xs,b,r1,r2,hq,hm,q⟩;have fV:X.A.in1.units+50<cLine:=by show X.A.units+1+50<cLine;lia
 have i1:=uP I r1 rx;cases uP I r2 ry with
 |tup p r=>
  cases hq;obtain⟨e,he,hb⟩:=Jd hm r;refine SeqAt.notIn_tupleAt e p (λw hw=>?_) ⟨.bl (!b),H,I,by rw[<-hb];simp[L2.RelV],q⟩;obtain⟨d,q1,q2⟩:=he w (by simpa using hw);exact Bj 50 fV q1 i1 q2
 |fl p r=>
  cases hq;obtain⟨e,he,hb⟩:=Jd hm r;refine SeqAt.notIn_listAt e p (λw hw=>?_) ⟨.bl (!b),H,I,by rw[<-hb];simp[L2.RelV],q⟩;obtain⟨d,q1,q2⟩:=he w (by simpa using hw);exact Bj 50 fV q1 i1 q2
 |oth k=>cases d2<;>cases hq<;>cases k
 |_=>cases hq
end
end Mi
namespace HT
open PySem PyProof.Rows
section
variable {prog:Program}{w:World}{A:Around}{E:Value->Shared->Prop}{s:Shared}
theorem qZ{t b:Addr}{vs ws:List Value}{Q:Value->Shared->Prop}(ht:IsTup s.heap t vs.toArray)(hb:IsTup s.heap b ws.toArray)(hv:vs=[])
  (h1:Q (.ref b) s):wpAny (model prog w) A (binaryOp .Add (.ref t) (.ref b)) Q E s:=by
 obtain⟨⟨cls,dd,data,sl⟩,ho,hc,n,hd⟩:=id ht;obtain⟨⟨cls2,dd2,data2,sl2⟩,mW,mF,n2,hd2⟩:=id hb;simp only at hc hd mF hd2;subst hc hd mF hd2;exact concat_meets ⟨_,ho,rfl⟩ ⟨_,mW,rfl⟩ noFill_tuple_add seq_tuple_add Kp Km (Kl _ _)
   (tuple_addW0 t b vs.toArray ws.toArray n n2 dd dd2 sl sl2 (by simp[hv])) ⟨ho,mW,h1⟩
theorem dW{t sl:Addr}{items:Array Value}{vl vu:Value}{lo hi:Option Int}{Q:Value->Shared->Prop}(ht:IsTup s.heap t items)(hs:s.heap.IsSliceOf sl vl vu .none)(pl:IsPart vl lo)(pu:IsPart vu hi)
  (hw:bI items.size 0 lo=0/\bI items.size items.size hi=items.size) (h:Q (.ref t) s):wpAny (model prog w) A (getItem (.ref t) (.ref sl)) Q E s:=by
 obtain⟨os,pG,yI,sZ⟩:=id hs;have D_:s.TypeIs (.ref sl) "slice":=⟨os,pG,yI⟩;unfold getItem
 try with_reducible refine qx ?_
 first|refine aC (aZ ?_)|skip
 refine aC (wpAny_sequenceKey ht.typeIs J0 ?_);refine aC (xO (name:=Str.ofString "__getitem__") ht.typeIs tW
  (vL tW ht.typeIs entry_tuple_getitem ?_ (args_tuple_getitem _ _)))
 show wpAny _ _ (Builtin.Tuple.tupleItemsOf (.ref t) >>= _) _ _ s;refine aC (tupleItemsOf_ ht ?_);refine aC (CG D_ ?_);rw[if_pos J0];refine aC (T8 hs pl pu ?_);have Ot:(((bI items.size 0 lo:Nat):Int)==0&&(1:Int)==1&&(bI items.size items.size hi-bI items.size 0 lo)==items.size)=true:=by
  rw[hw.1,hw.2];simp
 show wpAny _ _ (if (((bI items.size 0 lo:Nat):Int)==0&&(1:Int)==1&&(bI items.size items.size hi-bI items.size 0 lo)==items.size)=true then _ else _) _ _ s;rw[if_pos Ot];refine aC ?_;unfold Builtin.Tuple.tupleIsExact;refine aC (CG ht.typeIs ?_);refine aZ ?_;rw[if_pos J0];refine aC (wpAny_rule ?_);exact aZ ⟨_,rfl,aZ h⟩
theorem zbK{i:Int}{t:Tok}{Q:Option Int->Shared->Prop}(h:Q (some i) s):wpAny (model prog w) A (Builtin.Slice.slicePartIndex (.int i t)) Q E s:=Ml (.int i t) h
theorem zbo{sl:Addr}{t:Tok}{n:Nat}{Q:Int×Int×Nat->Shared->Prop}(hs:s.heap.IsSliceOf sl .none .none (.int (-1) t))
  (h:Q ((n:Int)-1,-1,n) s):wpAny (model prog w) A (Builtin.Slice.sliceApplied (.ref sl) (pure (n:Int))) Q E s:=by
 obtain⟨os,pG,yI,sZ⟩:=id hs;unfold Builtin.Slice.sliceApplied Builtin.Slice.sliceFields;refine aC (aC (ji pG sZ (x:=.none) rfl (aC (ji pG sZ (x:=.none) rfl (aC (ji pG sZ (x:=.int (-1) t) rfl (aZ ?_)))))));refine aC (zbK ?_);show wpAny _ _ (if ((-1:Int)==0)=true then _ else _) _ _ s;rw[if_neg J0];refine aC (slicePart_none (aC (slicePart_none (aC (aZ ?_)))));show wpAny _ _ (pure ((n:Int)-1,(-1:Int),Builtin.Slice.slicePlaces ((n:Int)-1) (-1) (-1))) _ _ s;have e:Builtin.Slice.slicePlaces ((n:Int)-1) (-1) (-1)=n:=by
  unfold Builtin.Slice.slicePlaces;rw[if_neg J0];by_cases hn:n=0
  ·subst hn;rfl
  ·rw[if_pos gV];have:(-(-1:Int))=1:=rfl;rw[this,Int.ediv_one]
   lia
 rw[e];exact aZ h
theorem zgJ(xs:Array Value):((List.range xs.size).filterMap λ(m:Nat)=>xs[(((xs.size:Int)-1)+(m:Int) * -1).toNat]?).toArray=xs.toList.reverse.toArray:=by
 have e:∀n,n<=xs.size->(List.range n).filterMap (λ(m:Nat)=>xs[(((xs.size:Int)-1)+(m:Int) * -1).toNat]?)=(xs.toList.reverse).take n:=by
  intro n
  induction n with
  |zero=>intro _;simp
  |succ n ih=>
   intro hn;have gD:n<xs.toList.reverse.length:=by simp;lia
   rw[List.range_succ,Aa,ih gV,List.take_succ_eq_append_getElem gD]
   congr 1
   have:(((xs.size:Int)-1)+(n:Int) * -1).toNat=xs.size-1-n:=by lia
   simp only[xP,List.filterMap_nil,this];rw[Array.getElem?_eq_getElem gV];simp[List.getElem_reverse]
 rw[e xs.size (bU _),List.take_of_length_le Nj]
theorem fW(ht:IsTup s.heap t items)(hs:s.heap.IsSliceOf sl .none .none (.int (-1) tk))
  (h:Q (.ref s.heap.objs.size) {s with heap:=s.heap.push {cls:=.type "tuple",data:=.seq items.toList.reverse.toArray}})
  (lq:items.size<=sizeLine):wpAny (model prog w) A (getItem (.ref t) (.ref sl)) Q E s:=by
 have fP:sizeOk (.seq items.toList.reverse.toArray):=by
  show items.toList.reverse.toArray.size<=sizeLine;simpa using lq
 obtain⟨os,pG,yI,sZ⟩:=id hs;have D_:s.TypeIs (.ref sl) "slice":=⟨os,pG,yI⟩;unfold getItem
 try with_reducible refine qx ?_
 first|refine aC (aZ ?_)|skip
 refine aC (wpAny_sequenceKey ht.typeIs J0 ?_);refine aC (xO (name:=Str.ofString "__getitem__") ht.typeIs tW
  (vL tW ht.typeIs entry_tuple_getitem ?_ (args_tuple_getitem _ _)))
 show wpAny _ _ (Builtin.Tuple.tupleItemsOf (.ref t) >>= _) _ _ s;refine aC (tupleItemsOf_ ht ?_);refine aC (CG D_ ?_);rw[if_pos J0];refine aC (zbo hs ?_);show wpAny _ _ (if (((items.size:Int)-1)==0&&(-1:Int)==1&&items.size==items.size)=true then _ else _) _ _ s;rw[if_neg Nj,zgJ]
 first
  |exact aC (m:=Builtin.Tuple.tupleExact _) (o_ (aZ ⟨_,rfl,aZ h⟩) fP)
  |exact aC (m:=Builtin.Tuple.tupleExact _) (o_ (aC (aZ (aZ ⟨_,rfl,aZ h⟩))) fP)
  |exact aC (aC (m:=Builtin.Tuple.tupleExact _) (o_ (aZ (aZ ⟨_,rfl,aZ h⟩)) fP))
  |exact aC (aC (m:=Builtin.Tuple.tupleExact _) (o_ (aZ ⟨_,rfl,aZ h⟩) fP))
end
end HT
namespace L2
open PySem PySem.Spec PyProof.Rows
section
variable {X:Cx}{e:Expr}{te:TE}{pos p2:Pos}
noncomputable def q_(K:W.Frag):R2:=λx y H Q=>∃a b xs ys,x=.ref a/\y=.ref b/\eZ K H a xs/\eZ K H b ys/\xs.length+ys.length<=sizeLine /\
 (xs=[]->Q (.ref b) H)/\(ys=[]->Q (.ref a) H)/\∀p,H p=none->Q (.ref p) (upd H p (.tup (xs++ys)))
theorem rm:dh X (binaryOp .Add) (q_ X.K):=by
 intro ak s Z H x y v u Q I rx ry h;obtain⟨a,b,xs,ys,rfl,rfl,ha,hb,hz,q0,q1,q2⟩:=h;cases rx;cases ry;obtain⟨its,r1,p1,_⟩:=I.tuple ha;obtain⟨its2,r2,p2,_⟩:=I.tuple hb;by_cases hx:xs=[]
 ·exact HT.qZ p1 p2 (r1.j_.mpr hx) ⟨.ref b,H,I,rfl,q0 hx⟩
 ·refine HT.uq p1 p2 (λz=>hx (r1.j_.mp z)) (λz=>⟨.ref a,H,I,rfl,q1 (r2.j_.mp z)⟩) (λz=>?_) (by rw[<-r1.length,<-r2.length];exact hz);refine⟨.ref s.heap.objs.size,_,I.laid (t':=s.toks) (o:=.tup (xs++ys)) (λb ob q=>cO _ q) (bU _) ?_,rfl,q2 _ (I.hok.fresh (bU _))⟩;exact⟨by rw[iI];exact hz,_,r1.append r2,IsTup.new _ _⟩
noncomputable def wM(K:W.Frag):V->Option Int->Option Int->Hp->VK->Prop:=λx lo hi H Q=>∃a xs,x=.ref a/\eZ K H a xs /\
 ((HT.bI xs.length 0 lo=0/\HT.bI xs.length xs.length hi=xs.length)->Q (.ref a) H)/\∀p,H p=none->Q (.ref p) (upd H p (.tup (j9 xs lo hi)))
theorem zhz:uw X (wM X.K):=by
 intro ak s Z H x v vl vu lo hi sl Q I rx hs pl pu h;obtain⟨a,xs,rfl,hx,hw,q⟩:=h;by_cases hz:HT.bI xs.length 0 lo=0/\HT.bI xs.length xs.length hi=xs.length
 ·cases rx;obtain⟨its,r,ht,_⟩:=I.tuple hx;have hlen:its.toArray.size=xs.length:=by rw[dO];exact r.length.symm
  refine⟨"tuple",_,tW.lookup,ht.typeIs,?_⟩;exact HT.dW ht hs pl pu (by rw[hlen];exact hz) ⟨.ref a,H,I,rfl,hw hz⟩
 ·exact zjj ak s Z H (.ref a) v vl vu lo hi sl Q I rx hs pl pu ⟨a,xs,rfl,hx,hz,q⟩
theorem zj9(he:PE X e te):PE X (.Subscript e (.Slice none none (some (.UnaryOp .USub (.Constant (.int 1) j p3) p4)) p2) pos) (λZ H Q=>te Z H λx H1=>∃a xs,x=.ref a/\eZ X.K H1 a xs/\∀p,H1 p=none->Q (.ref p) (upd H1 p (.tup xs.reverse))):=by
 intro ak s Z H Q I h;refine Subscript_ (aW (he ak s Z H _ I h) λv s1 hz=>?_);obtain⟨x,H1,I1,r1,a,xs,ex,hx,q⟩:=hz;subst ex;cases r1;refine wpAny_Slice ?_;rw[evalPart_none];refine aZ (aZ ?_);rw[evalPart_some];refine aW (Tt (r:=rU λi=>.int (-i)) Tv La ak s1 Z H1 (λv H'=>v=.int (-1)/\H'=H1) I1 ⟨1,rfl,rfl,rfl⟩) λu s2 hz=>?_;obtain⟨z,H2,I2,r2,ez,eH⟩:=hz;subst ez eH;obtain⟨t,rfl⟩:=r2;obtain⟨its,r,ht,hz⟩:=I2.tuple hx;have I4:Inv X ak Z H2 {s2 with heap:=s2.heap.push {cls:=.type "slice",data:=.fields #[.none,.none,.int (-1) t]}}:=I2.kept (t':=s2.toks) λb ob q=>cO _ q;obtain⟨its,r,ht,hz⟩:=I4.tuple hx;have hlen:its.toArray.size=xs.length:=by rw[dO];exact r.length.symm
 show wpAny (model X.prog X.w) X.A (subscriptTail e (.Slice none none (some (.UnaryOp .USub (.Constant (.int 1) j p3) p4)) p2) (.ref a) (.ref s2.heap.objs.size)) (EP X ak Z Q) X.xe {s2 with heap:=s2.heap.push {cls:=.type "slice",data:=.fields #[.none,.none,.int (-1) t]}};refine tail_any (ops:=[.ref a,.ref s2.heap.objs.size]) ht.typeIs tW.lookup (HT.fW ht (Heap.IsSliceOf.new ..) ?_ (by rw[hlen];exact hz)) (by with_unfolding_all rfl);refine⟨.ref _,_,I4.laid (t':=s2.toks) (o:=.tup xs.reverse) (λb ob q=>cO _ q) (bU _) ?_,rfl,q _ (I4.hok.fresh (bU _))⟩;refine⟨by rw[List.length_reverse];exact hz,_,?_,IsTup.new _ _⟩;have rv:∀{xs:List V} {us:List Value},Vals xs us->Vals xs.reverse us.reverse:=λ{xs us} r=>by
  induction r with
  |nil=>exact .nil
  |cons a b ih=>rw[Hx,Hx];exact ih.append (.cons a .nil)
 simpa using rv r
end
section
variable {X:Cx}
noncomputable def wN(K:W.Frag):R2:=λx y H Q=>∃l b xs zs,x=.ref l/\y=.ref b/\cZ K H l xs/\cZ K H b zs/\xs.length+zs.length<=sizeLine/\∀p,H p=none->Q (.ref p) (upd H p (.lst (xs++zs)))
theorem uU:dh X (binaryOp .Add) (wN X.K):=by
 intro ak s Z H x y v u Q I rx ry h;obtain⟨l,b,xs,zs,rfl,rfl,hH,hB,hz,q⟩:=h;cases rx;cases ry;obtain⟨its,r,pl,_⟩:=I.list hH;obtain⟨its2,r2,pl2,_⟩:=I.list hB;obtain⟨⟨cls,dd,data,sl⟩,ho,hc,n,hd⟩:=pl.isList;obtain⟨⟨cls2,dd2,data2,sl2⟩,mW,mF,n2,hd2⟩:=pl2.isList;simp only at hc hd mF hd2;subst hc hd mF hd2;refine concat_meets ⟨_,ho,rfl⟩ ⟨_,mW,rfl⟩ noFill_list_add seq_list_add PySem.F.slot_list_add PySem.F.entry_list_add (PySem.F.args_list_add_2 _ _) (list_addW l b its.toArray its2.toArray n n2 dd dd2 sl sl2 (by rw[dO,dO,<-r.length,<-r2.length];exact hz)) ⟨ho,mW,?_⟩;have ea:its.toArray++its2.toArray=(its++its2).toArray:=by simp
 rw[ea];exact⟨.ref _,_,I.Mu (t':=s.toks) (r.append r2) (by rw[iI];omega),rfl,q _ I.fresh⟩
noncomputable def oG(K:W.Frag):R2:=λx y H Q=>lK (λi j=>.int (i+j)) x y H Q\/wN K x y H Q\/q_ K x y H Q\/∃i j,x=.str i/\y=.str j/\i.length+j.length<=sizeLine/\Q (.str (i++j)) H
theorem zfx:dh X (binaryOp .Add) (oG X.K):=yF.or (uU.or (rm.or zel))
end
end L2
namespace Mi
open PySem PySem.Spec PyProof.Rows L2
section
variable {K:W.Frag}{cA:Cl}{U:Ph}{H:Hp}{Q:VK}{p:Pr}
theorem aY.some'{o:Option Rz}(h:aY K cA U H o Q):∃z,o=some z:=by
 cases o with
 |none=>exact h.elim
 |some z=>exact⟨z,rfl⟩
theorem aY.of{o:Option Rz}{z:Rz}(h:aY K cA U H o Q)(e:o=some z):aY K cA U H (some z) Q:=e▸h
theorem aY.here{d:D}{v:V}(h:aY K cA U H (some (.dat d)) Q)(r:Rep K cA U H d v):Q v H:=h H v bA.refl r
theorem aY.tup{xs:List D}{vs:List V}{a:Addr}(h:aY K cA U H (some (.dat (.tup xs))) Q)(z:Zt U H)(r:aA K cA U H xs vs)(hp:H a=none):Q (.ref a) (upd H a (.tup vs)):=
 h _ _ (bA.new hp) (.tup (TupAt.new (z.nz hp)) (r.mono (bA.new hp).ext z.lz))
theorem uM.two{ds:List D}{vs:List V}{d d':D}(h:uM K cA U H [d,d'] vs):∃v v',vs=[v,v']/\Rv K cA U H d v/\Rv K cA U H d' v':=by
 cases h with
 |cons a r=>cases r with
  |cons b r=>cases r;exact⟨_,_,rfl,a,b⟩
theorem uM.one(h:uM K cA U H [d] vs):∃v,vs=[v]/\Rv K cA U H d v:=by
 cases h with
 |cons a r=>cases r;exact⟨_,rfl,a⟩
theorem Rv.int{i:Int}{v:V}(h:Rv K cA U H (.int i) v):v=.int i:=by cases (show Rep K cA U H (.int i) v from h);rfl
theorem Rv.bl{i:Bool}{v:V}(h:Rv K cA U H (.bl i) v):v=.bl i:=by cases (show Rep K cA U H (.bl i) v from h);rfl
theorem Rv.str{i:Str}{v:V}(h:Rv K cA U H (.str i) v):v=.str i:=by cases (show Rep K cA U H (.str i) v from h);rfl
theorem Rv.tup{xs:List D}{v:V}(h:Rv K cA U H (.tup xs) v):∃a vs,v=.ref a/\TupAt K U H a vs/\aA K cA U H xs vs:=by
 cases (show Rep K cA U H (.tup xs) v from h) with
 |tup a r=>exact⟨_,_,rfl,a,r⟩
theorem Rv.sq{d:D}{xs:List D}{v:V}(h:Rv K cA U H d v)(e:iR d=some xs):∃a vs,v=.ref a/\(cZ K H a vs\/eZ K H a vs)/\aA K cA U H xs vs:=by
 cases d with
 |tup ys=>
  cases e;obtain⟨a,vs,e,t,r⟩:=Rv.tup h;exact⟨a,vs,e,.inr t.iC,r⟩
 |fl ys=>
  cases e;obtain⟨a,vs,e,l,r⟩:=h;exact⟨a,vs,e,.inl l,r⟩
 |_=>cases e
theorem Vj{f:Int->Int->Option D}{ds:List D}{z:Rz}(h:bR f ds=some z):∃i j d,ds=[.int i,.int j]/\f i j=some d/\z=.dat d:=by
 cases ds with
 |nil=>cases h
 |cons a t=>
 cases a with
 |int i=>
  cases t with
  |nil=>cases h
  |cons b t=>
  cases b with
  |int j=>
   cases t with
   |cons _ _=>cases h
   |nil=>
    obtain⟨d,e1,e2⟩:=jz.mp h;exact⟨_,_,d,rfl,e1,e2.symm⟩
  |_=>cases h
 |_=>cases h
theorem Gi{f:Int->Int->Option D}(hp:prim p=bR f){C:Int->Int->Prop}{g:Int->Int->V}(hf:∀i j d,f i j=some d->C i j/\∀U H,Rep K cA U H d (g i j)):aQ K cA p (r2 (rI C g)):=by
 intro U H ds vs Q zt rs o;rw[hp] at o;obtain⟨z,e⟩:=o.some';obtain⟨i,j,d,rfl,e1,rfl⟩:=Vj e;obtain⟨c,r⟩:=hf i j d e1;obtain⟨v,v',rfl,r1,r2⟩:=rs.two (ds:=[]);rw[r1.int,r2.int];exact⟨_,_,rfl,i,j,rfl,rfl,c,(o.of e).here (r U H)⟩
theorem zA{f:Int->Int->D}(hp:prim p=bR λi j=>some (f i j)){g:Int->Int->V}(hf:∀i j U H,Rep K cA U H (f i j) (g i j)):aQ K cA p (r2 (lK g)):=by
 intro U H ds vs Q zt rs o;obtain⟨x,y,e,i,j,a,b,_,q⟩:=Gi (K:=K) (cA:=cA) (C:=λ_ _=>True) hp (λi j d e=>⟨trivial,λU H=>by cases e;exact hf i j U H⟩) U H ds vs Q zt rs o;exact⟨x,y,e,i,j,a,b,q⟩
theorem Gj{α:Type}{c:Prop}[Decidable c]{x y:α}(h:(if c then some x else none)=some y):c/\y=x:=by
 split at h
 ·rename_i z;cases h;exact⟨z,rfl⟩
 ·cases h
theorem zi9:aQ K cA .ao (r2 (lK λi j=>.int (i-j))):=zA (f:=λi j=>.int (i-j)) rfl λi j _ _=>.int _
theorem zjd:aQ K cA .mul (r2 (rI uh λi j=>.int (i*j))):=Gi rfl λi j d e=>by obtain⟨c,rfl⟩:=Gj e;exact⟨c,λ_ _=>.int _⟩
theorem ziF:aQ K cA .fdiv (r2 (rI ug λi j=>.int (i/j))):=Gi rfl λi j d e=>by obtain⟨c,rfl⟩:=Gj e;exact⟨c,λ_ _=>.int _⟩
theorem zkO:aQ K cA .mod (r2 (rI (λ_ j=>0<j) λi j=>.int (i%j))):=Gi rfl λi j d e=>by obtain⟨c,rfl⟩:=Gj e;exact⟨c,λ_ _=>.int _⟩
theorem zku:aQ K cA .pow (r2 (rI Dy λi j=>.int (i^j.toNat))):=Gi rfl λi j d e=>by obtain⟨c,rfl⟩:=Gj e;exact⟨c,λ_ _=>.int _⟩
theorem zlx:aQ K cA .le (r2 (lK λi j=>.bl (decide (i<=j)))):=zA (f:=λi j=>.bl (decide (i<=j))) rfl λi j _ _=>.bl _
theorem zlD:aQ K cA .gt (r2 (lK λi j=>.bl (decide (j<i)))):=zA (f:=λi j=>.bl (decide (j<i))) rfl λi j _ _=>.bl _
theorem zlz:aQ K cA .ge (r2 (lK λi j=>.bl (decide (j<=i)))):=zA (f:=λi j=>.bl (decide (j<=i))) rfl λi j _ _=>.bl _
theorem zk2:aQ K cA .neg (λvs H Q=>∃x,vs=[x]/\rU (λi=>.int (-i)) x H Q):=by
 intro U H ds vs Q zt rs o;obtain⟨z,e⟩:=o.some';have e:oA (λi=>.int (-i)) ds=some z:=e;cases ds with
 |nil=>cases e
 |cons a t=>
 cases a with
 |int i=>
  cases t with
  |cons _ _=>cases e
  |nil=>
   cases e;obtain⟨v,rfl,r1⟩:=rs.one;exact⟨_,rfl,_,r1.int,aY.here (o.of rfl) (.int _)⟩
 |_=>cases e
theorem zmc:aQ K cA .eq (r2 (uQ K cA id)):=by
 intro U H ds vs Q zt rs o;obtain⟨z,e⟩:=o.some';have e:Bb id ds=some z:=e;unfold Bb at e;split at e
 ·obtain⟨b,e1,e2⟩:=jz.mp e;obtain⟨v,v',rfl,r1,r2⟩:=rs.two (ds:=[]);subst e2;exact⟨_,_,rfl,U,_,_,b,r1,r2,e1,(o.of e).here (.bl _)⟩
 ·cases e
theorem zld:aQ K cA .ne (r2 (uQ K cA not)):=by
 intro U H ds vs Q zt rs o;obtain⟨z,e⟩:=o.some';have e:Bb not ds=some z:=e;unfold Bb at e;split at e
 ·obtain⟨b,e1,e2⟩:=jz.mp e;obtain⟨v,v',rfl,r1,r2⟩:=rs.two (ds:=[]);subst e2;exact⟨_,_,rfl,U,_,_,b,r1,r2,e1,(o.of e).here (.bl _)⟩
 ·cases e
theorem Vk{f:Bool->Bool}{ds:List D}{z:Rz}(h:Bc f ds=some z):∃a b xs k,ds=[a,b]/\iR b=some xs/\memD a xs=some k/\z=.dat (.bl (f k)):=by
 unfold Bc at h;split at h
 ·obtain⟨k,e1,e2⟩:=jz.mp h;obtain⟨xs,e3,e4⟩:=sI.mp e1;exact⟨_,_,xs,k,rfl,e3,e4,e2.symm⟩
 ·cases h
theorem zlg:aQ K cA .inn (r2 (uR K cA id)):=by
 intro U H ds vs Q zt rs o;obtain⟨z,e⟩:=o.some';obtain⟨a,b,xs,k,rfl,e1,e2,rfl⟩:=Vk (show Bc id ds=some z from e);obtain⟨v,v',rfl,r1,r2⟩:=rs.two (ds:=[]);exact⟨_,_,rfl,U,_,_,xs,k,r1,r2,e1,e2,(o.of e).here (.bl _)⟩
theorem zky:aQ K cA .nin (r2 (uR K cA not)):=by
 intro U H ds vs Q zt rs o;obtain⟨z,e⟩:=o.some';obtain⟨a,b,xs,k,rfl,e1,e2,rfl⟩:=Vk (show Bc not ds=some z from e);obtain⟨v,v',rfl,r1,r2⟩:=rs.two (ds:=[]);exact⟨_,_,rfl,U,_,_,xs,k,r1,r2,e1,e2,(o.of e).here (.bl _)⟩
theorem Ou:∀{xs:List D} {ns:List Int} {vs:List V},dI xs=some ns->aA K cA U H xs vs->vs=ns.map V.int
 |[],ns,vs,h,r=>by cases h;cases r;rfl
 |d::xs,ns,vs,h,r=>by
  cases d with
  |int i=>
   simp only[dI,jz] at h;obtain⟨ns',h1,rfl⟩:=h;cases r with
   |cons a r=>cases a;rw[Ou h1 r];rfl
  |_=>simp[dI] at h
theorem Vl:∀(a b:List Int),ltI a b=HT.lexLt a b
 |_,[]=>by cases ‹List Int›<;>rfl
 |[],_::_=>rfl
 |x::xs,y::ys=>by
  unfold ltI;rw[Vl xs ys,HT.iM]
theorem zlm:aQ K cA .lt (r2 λx y H Q=>lK (λi j=>.bl (decide (i<j))) x y H Q\/Ef K x y H Q):=by
 intro U H ds vs Q zt rs o;obtain⟨z,e⟩:=o.some';have e:Fw ds=some z:=e;unfold Fw at e;split at e
 ·cases e;obtain⟨v,v',rfl,r1,r2⟩:=rs.two (ds:=[]);exact⟨_,_,rfl,.inl ⟨_,_,r1.int,r2.int,aY.here (o.of rfl) (.bl _)⟩⟩
 ·split at e
  ·rename_i a b h1 h2;cases e;obtain⟨v,v',rfl,r1,r2⟩:=rs.two (ds:=[]);obtain⟨p,us,rfl,t1,q1⟩:=r1.tup;obtain⟨p',us',rfl,t2,q2⟩:=r2.tup;have o2:aY K cA U H (some (.dat (.bl (ltI a b)))) Q:=by
    have o3:aY K cA U H (Fw [.tup _,.tup _]) Q:=o;unfold Fw at o3;simp only[h1,h2] at o3;exact o3
   refine⟨_,_,rfl,.inr ⟨p,p',a,b,rfl,rfl,by rw[<-Ou h1 q1];exact t1.iC,by rw[<-Ou h2 q2];exact t2.iC,?_⟩⟩;rw[<-Vl];exact o2.here (.bl _)
  ·cases e
 ·cases e
theorem zjU:aQ K cA .add (r2 (oG K)):=by
 intro U H ds vs Q zt rs o;have o:aY K cA U H (yS ds) Q:=o;cases ds with
 |nil=>exact False.elim o
 |cons a t=>
 cases a with
 |int i=>
  cases t with
  |nil=>exact False.elim o
  |cons b t=>
  cases b with
  |int j=>
   cases t with
   |cons _ _=>exact False.elim o
   |nil=>
    obtain⟨v,v',rfl,r1,r2⟩:=rs.two (ds:=[]);exact⟨_,_,rfl,.inl ⟨_,_,r1.int,r2.int,aY.here o (.int _)⟩⟩
  |_=>exact False.elim o
 |tup xs=>
  cases t with
  |nil=>exact False.elim o
  |cons b t=>
  cases b with
  |tup ys=>
   cases t with
   |cons _ _=>exact False.elim o
   |nil=>
    obtain⟨v,v',rfl,r1,r2⟩:=rs.two (ds:=[]);obtain⟨p,us,rfl,t1,q1⟩:=r1.tup;obtain⟨p',us',rfl,t2,q2⟩:=r2.tup;have o:aY K cA U H (if xs.length+ys.length<=sizeLine then some (.dat (.tup (xs++ys))) else none) Q:=o;by_cases hz:xs.length+ys.length<=sizeLine
    ·rw[if_pos hz] at o;refine⟨_,_,rfl,.inr (.inr (.inl ⟨p,p',us,us',rfl,rfl,t1.iC,t2.iC,by rw[<-q1.len,<-q2.len];exact hz,λe=>?_,λe=>?_,λa ha=>o.tup zt (q1.app q2) ha⟩))⟩
     ·subst e;cases q1;exact o.here (.tup t2 q2)
     ·subst e;cases q2;rw[tY] at o;exact o.here (.tup t1 q1)
    ·rw[if_neg hz] at o;exact o.elim
  |_=>exact False.elim o
 |fl xs=>
  cases t with
  |nil=>exact False.elim o
  |cons b t=>
  cases b with
  |fl ys=>
   cases t with
   |cons _ _=>exact False.elim o
   |nil=>
    obtain⟨v,v',rfl,⟨p,us,rfl,t1,q1⟩,⟨p',us',rfl,t2,q2⟩⟩:=rs.two (ds:=[]);have o:aY K cA U H (if xs.length+ys.length<=sizeLine then some (.nw (xs++ys)) else none) Q:=o;by_cases hz:xs.length+ys.length<=sizeLine
    ·rw[if_pos hz] at o;exact⟨_,_,rfl,.inr (.inl ⟨p,p',us,us',rfl,rfl,t1,t2,by rw[<-q1.len,<-q2.len];exact hz,λa ha=>o a _ ha (q1.app q2)⟩)⟩
    ·rw[if_neg hz] at o;exact o.elim
  |_=>exact False.elim o
 |str x=>
  cases t with
  |nil=>exact False.elim o
  |cons b t=>
  cases b with
  |str y=>
   cases t with
   |cons _ _=>exact False.elim o
   |nil=>
    obtain⟨v,v',rfl,r1,r2⟩:=rs.two (ds:=[]);have o:aY K cA U H (if x.length+y.length<=sizeLine then some (.dat (.str (x++y))) else none) Q:=o;by_cases hz:x.length+y.length<=sizeLine
    ·rw[if_pos hz] at o;exact⟨_,_,rfl,.inr (.inr (.inr ⟨_,_,r1.str,r2.str,hz,o.here (.str _)⟩))⟩
    ·rw[if_neg hz] at o;exact o.elim
  |_=>exact False.elim o
 |_=>exact False.elim o
theorem zjr:aQ K cA .len (λxs H Q=>∃p ys,xs=[.ref p]/\(cZ K H p ys\/eZ K H p ys)/\Q (.int ys.length) H):=by
 intro U H ds vs Q zt rs o;have o:aY K cA U H (pN (λxs=>some (.dat (.int xs.length))) ds) Q:=o;unfold pN at o;split at o
 ·obtain⟨v,rfl,r1⟩:=rs.one;obtain⟨z,e⟩:=o.some';obtain⟨xs,e1,e2⟩:=sI.mp e;obtain⟨a,us,rfl,sq,q⟩:=r1.sq e1;cases e2;refine⟨a,us,rfl,sq,?_⟩;rw[<-q.len];exact(o.of e).here (.int _)
 ·exact o.elim
theorem zhT:aQ K cA .list (λxs H Q=>∃p ys,xs=[.ref p]/\(cZ K H p ys\/eZ K H p ys)/\∀l,H l=none->Q (.ref l) (upd H l (.lst ys))):=by
 intro U H ds vs Q zt rs o;have o:aY K cA U H (pN (λxs=>some (.nw xs)) ds) Q:=o;unfold pN at o;split at o
 ·obtain⟨v,rfl,r1⟩:=rs.one;obtain⟨z,e⟩:=o.some';obtain⟨xs,e1,e2⟩:=sI.mp e;obtain⟨a,us,rfl,sq,q⟩:=r1.sq e1;cases e2;exact⟨a,us,rfl,sq,λl hl=>(o.of e) l us hl q⟩
 ·exact o.elim
theorem zga:aQ K cA .tuple (λxs H Q=>∃p ys,xs=[.ref p]/\((cZ K H p ys/\∀l,H l=none->Q (.ref l) (upd H l (.tup ys)))\/(eZ K H p ys/\Q (.ref p) H))):=by
 intro U H ds vs Q zt rs o;have o:aY K cA U H (mZ ds) Q:=o;unfold mZ at o;split at o
 ·rename_i d _;obtain⟨v,rfl,r1⟩:=rs.one;cases d with
  |tup xs=>
   obtain⟨a,us,rfl,t,q⟩:=r1.tup;exact⟨a,us,rfl,.inr ⟨t.iC,aY.here o (.tup t q)⟩⟩
  |fl xs=>
   obtain⟨a,us,rfl,t,q⟩:=r1;exact⟨a,us,rfl,.inl ⟨t,λl hl=>aY.tup o zt q hl⟩⟩
  |_=>exact o.elim
 ·exact o.elim
theorem zjA:aQ K cA .abs (λxs H Q=>∃i,xs=[.int i]/\Q (.int (if i<0 then -i else i)) H):=by
 intro U H ds vs Q zt rs o;have o:aY K cA U H (oA (λi=>.int (if i<0 then -i else i)) ds) Q:=o;cases ds with
 |nil=>exact False.elim o
 |cons a t=>
 cases a with
 |int i=>
  cases t with
  |cons _ _=>exact False.elim o
  |nil=>
   obtain⟨v,rfl,r1⟩:=rs.one;rw[r1.int];exact⟨_,rfl,aY.here o (.int _)⟩
 |_=>exact False.elim o
theorem zhX:aQ K cA .uI (λxs H Q=>(∃i,xs=[.int i]/\Q (.int i) H)\/∃k,xs=[.bl k]/\Q (.int (if k then 1 else 0)) H):=by
 intro U H ds vs Q zt rs o;have o:aY K cA U H (Fx ds) Q:=o;cases ds with
 |nil=>exact False.elim o
 |cons a t=>
 cases a with
 |int i=>
  cases t with
  |cons _ _=>exact False.elim o
  |nil=>
   obtain⟨v,rfl,r1⟩:=rs.one;rw[r1.int];exact .inl ⟨_,rfl,aY.here o (.int _)⟩
 |bl k=>
  cases t with
  |cons _ _=>exact False.elim o
  |nil=>
   obtain⟨v,rfl,r1⟩:=rs.one;rw[r1.bl];exact .inr ⟨_,rfl,aY.here o (.int _)⟩
 |_=>exact False.elim o
theorem zhp:aQ K cA .max2 (λxs H Q=>∃i j,xs=[.int i,.int j]/\Q (.int (if j>i then j else i)) H):=by
 intro U H ds vs Q zt rs o;obtain⟨x,y,e,i,j,rfl,rfl,q⟩:=zA (K:=K) (cA:=cA) (p:=.max2) (f:=λi j=>.int (if j>i then j else i)) rfl (λi j _ _=>.int _) U H ds vs Q zt rs o;exact⟨i,j,e,q⟩
theorem zhm:aQ K cA .min2 (λxs H Q=>∃i j,xs=[.int i,.int j]/\Q (.int (if j<i then j else i)) H):=by
 intro U H ds vs Q zt rs o;obtain⟨x,y,e,i,j,rfl,rfl,q⟩:=zA (K:=K) (cA:=cA) (p:=.min2) (f:=λi j=>.int (if j<i then j else i)) rfl (λi j _ _=>.int _) U H ds vs Q zt rs o;exact⟨i,j,e,q⟩
theorem zfC:aQ K cA .divmod (λxs H Q=>∃i j,xs=[.int i,.int j]/\ug i j/\∀p,H p=none->Q (.ref p) (upd H p (.tup [.int (i/j),.int (i%j)]))):=by
 intro U H ds vs Q zt rs o;have o:aY K cA U H (bR (λi j=>if 0<j/\j<1073741824 then some (.tup [.int (i/j),.int (i%j)]) else none) ds) Q:=o;obtain⟨z,e⟩:=o.some';obtain⟨i,j,d,rfl,e1,rfl⟩:=Vj e;obtain⟨c,rfl⟩:=Gj e1;obtain⟨v,v',rfl,r1,r2⟩:=rs.two (ds:=[]);rw[r1.int,r2.int];exact⟨i,j,rfl,c,λp hp=>(o.of e).tup zt (.cons (.int _) (.cons (.int _) .nil)) hp⟩
theorem Vm:∀{xs:List D} {bs:List Bool} {vs:List V},dB xs=some bs->aA K cA U H xs vs->vs=bs.map V.bl
 |[],bs,vs,h,r=>by cases h;cases r;rfl
 |d::xs,bs,vs,h,r=>by
  cases d with
  |bl b=>
   simp only[dB,jz] at h;obtain⟨bs',h1,rfl⟩:=h;cases r with
   |cons q r=>cases q;rw[Vm h1 r];rfl
  |_=>simp[dB] at h
theorem zlf:aQ K cA .ix (r2 (Mr K)):=by
 intro U H ds vs Q zt rs o;have o:aY K cA U H (NK ds) Q:=o;unfold NK at o;split at o
 ·rename_i d i _;obtain⟨v,v',rfl,r1,r2⟩:=rs.two (ds:=[]);obtain⟨z,e⟩:=o.some';obtain⟨y,e1,e2⟩:=jz.mp e;obtain⟨xs,e3,e4⟩:=sI.mp e1;obtain⟨a,us,rfl,sq,q⟩:=r1.sq e3;have key:∃w,L2.nZ us i=some w/\Rep K cA U H y w:=by
   unfold L2.nZ at *;rw[<-q.len];obtain⟨j,h1,h2⟩:=sI.mp e4;obtain⟨w,h3,h4⟩:=q.get h2;exact⟨w,by rw[h1];exact h3,h4⟩
  obtain⟨w,hw,pI⟩:=key;subst e2;have q':=(o.of e).here pI;rcases sq with sq|sq
  ·exact⟨_,_,rfl,.inl ⟨a,us,i,w,rfl,r2.int,sq,hw,q'⟩⟩
  ·exact⟨_,_,rfl,.inr (.inl ⟨a,us,i,w,rfl,r2.int,sq,hw,q'⟩)⟩
 ·exact o.elim
noncomputable def Vn(K:W.Frag):V->Option Int->Option Int->Hp->VK->Prop:=λx lo hi H Q=>Em K x lo hi H Q\/wM K x lo hi H Q
theorem zjq:uw X (Vn X.K):=uz.or zhz
theorem zho{d:D}{lo hi:Option Int}{v:V}(zt:Zt U H)(r:Rv K cA U H d v)(o:aY K cA U H (cutD d lo hi) Q):Vn K v lo hi H Q:=by
 cases d with
 |tup xs=>
  obtain⟨a,us,rfl,t,q⟩:=r.tup;refine .inr ⟨a,us,rfl,t.iC,λe=>?_,λp hp=>aY.tup o zt q.cut hp⟩;have hc:cut xs lo hi=xs:=by
   unfold cut;rw[q.len,e.1,e.2,List.drop_zero,Nat.sub_zero,<-q.len,Ah]
  have o:aY K cA U H (some (.dat (.tup (cut xs lo hi)))) Q:=o;rw[hc] at o;exact o.here (.tup t q)
 |fl xs=>
  obtain⟨a,us,rfl,t,q⟩:=r;exact .inl ⟨a,us,rfl,t,λp hp=>o p _ hp q.cut⟩
 |_=>exact o.elim
end
end Mi
namespace L2
open PySem PySem.Spec PyProof.Rows
section
variable {κ:Type}[DecidableEq κ]
noncomputable def putK(kvs:List (κ×V))(k:κ)(v:V):List (κ×V):=
 if (kvs.any λkv=>decide (kv.1=k))=true then kvs.map (λkv=>if kv.1=k then (kv.1,v) else kv) else kvs++[(k,v)]
theorem zcZ(kvs:List (κ×V))(k:κ)(v:V):(putK kvs k v).length<=kvs.length+1:=by
 unfold putK
 split
 ·rw[cJ];lia
 ·rw[iI,dR,xY];lia
theorem KV.any(r:KV kvs vs)(k:κ):(kvs.any λkv=>decide (kv.1=k))=vs.any λkv=>decide (kv.1=k):=by
 unfold KV at r
 induction r with
 |nil=>rfl
 |cons h t ih=>rw[List.any_cons,List.any_cons,ih,h.1]
theorem KV.repl(r:KV kvs vs)(k:κ)(ry:RelV y u) :
  KV (kvs.map λkv=>if kv.1=k then (kv.1,y) else kv) (vs.map λkv=>if kv.1=k then (kv.1,u) else kv):=by
 unfold KV at r ⊢
 induction r with
 |nil=>exact .nil
 |@cons p q ps qs h t ih=>
  rw[nM,nM];refine .cons ?_ ih;obtain⟨h1,h2⟩:=h;by_cases e:p.1=k
  ·rw[if_pos e,if_pos (h1.symm.trans e)];exact⟨h1,ry⟩
  ·rw[if_neg e,if_neg (λz=>e (h1.trans z))];exact⟨h1,h2⟩
theorem KV.put(r:KV kvs vs)(k:κ)(ry:RelV y u):KV (putK kvs k y) (stored vs k u):=by
 unfold putK stored;rw[r.any k];by_cases e:(vs.any λkv=>decide (kv.1=k))=true
 ·rw[if_pos e,if_pos e];exact r.repl k ry
 ·rw[if_neg e,if_neg e];exact Paired.snoc r ⟨rfl,ry⟩
end
theorem zlj(r:RelV (kV k) u):(b_ P w).is k u=true:=by
 cases k with
 |inl i=>obtain⟨t,e⟩:=(show ∃t,u=Value.int i t from r);subst e;exact zc3 P w i t
 |inr x=>obtain⟨t,e⟩:=(show ∃t,u=Value.str x t from r);subst e;exact zcT P w x t
section
variable {P:Program}{w:World}{H:Hp}{h:Heap}{a:Addr}
theorem zl4(ok:eY P w H h)(e:Rd H a u):aR P w H h a u:=e.ok ok
theorem zlK(ok:eY P w H h)(e:Rd H a (.dK kvs)):kvs.length<=sizeLine/\(a==sysModules)=false/\∃vs,KV kvs vs/\h.DictOf (b_ P w) a vs:=
 show aR P w H h a (.dK kvs) from zl4 ok e
theorem zlQ(ok:eY P w H h)(e:H a=some (.dK kvs)):kvs.length<=sizeLine/\(a==sysModules)=false/\∃vs,KV kvs vs/\h.DictOf (b_ P w) a vs:=zlK ok (.inl e)
end
section
variable {X:Cx}{ak:List (Addr×Obj)}{Z:St}{H:Hp}{s:Shared}{a:Addr}{y v:V}{u r:Value}{o:Option V}{A:Around}{E:Value->Shared->Prop}
theorem Inv.big(I:Inv X ak Z H s):sysModules<s.heap.objs.size:=by
 have h:mainGlobals<s.heap.objs.size:=(I.mod.glob.keeps I.bk).lt;exact Nat.lt_trans J0 h
theorem zhn(I:Inv X ak Z H s)(mu:Dg (H a))(hs:Heap.SameBut a s.heap h')(he:∃q,h'.get? a=some q)(new:aR X.prog X.w (upd H a ob) h' a ob) :
  Inv X ak Z (upd H a ob) {s with heap:=h',toks:=t'}:=
 I.write (x:=a) (e:=a) mu (.inl rfl) (λb q hb z=>(hs.2 b hb).trans z) he new
theorem zi7(z:kvs.length<=sizeLine)(hd:(a==sysModules)=false)(rel:KV kvs vs)(dd:h'.DictOf (b_ P w) a vs) :
  aR P w H' h' a (.dK kvs):=⟨z,hd,vs,rel,dd⟩
end
theorem zgx(h:Heap)(hb:sysModules<h.objs.size):aR P w H (h.push {cls:=.type "dict",data:=.dict #[]}) h.objs.size (.dK []):=
 ⟨jQ _,Ab.mpr (Ne.symm (fD hb)),[],.nil,Heap.DictOf.new h⟩
noncomputable def m_:List (TE×TE)->St->Hp->(List (V×V)->Hp->Prop)->Prop
 |[],_,H,Q=>Q [] H
 |(tk,tv)::r,Z,H,Q=>tk Z H λx H1=>tv Z H1 λy H2=>m_ r Z H2 λps H3=>Q ((x,y)::ps) H3
noncomputable abbrev VV:List (V×V)->List (Value×Value)->Prop:=Paired λp q=>RelV p.1 q.1/\RelV p.2 q.2
def Je(X:Cx)(pos:Pos)(keys:List (Option Expr))(values:List Expr)(zB:List (TE×TE)):Prop:=
 ∀(ak:List (Addr×Obj)) (s:Shared) (Z:St) (H:Hp) (Q:List (V×V)->Hp->Prop),Inv X ak Z H s->m_ zB Z H Q->
  wpAny (model X.prog X.w) X.A (evalPairs (pairTrees keys values X.env pos)) (λvs s'=>∃ps H',Inv X ak Z H' s'/\VV ps vs/\Q ps H') X.xe s
theorem zhv:Je X pos [] [] []:=λak s Z H Q I h=>pairTrees_nil_walk ⟨[],H,I,.nil,h⟩
theorem zf9(hk:PE X k tk)(hv:PE X v tv)(hr:Je X pos ks vs zB) :
  Je X pos (some k::ks) (v::vs) ((tk,tv)::zB):=λak s Z H Q I h=>
 pairTrees_cons_walk (aW (hk ak s Z H _ I h) λu s1 hx=>dw hx λx H1 I1 rx q1=>aW (hv ak s1 Z H1 _ I1 q1) λw2 s2 hx=>dw hx λy H2 I2 ry q2=>
  aW (hr ak s2 Z H2 _ I2 q2) λws s3 hx=>dw hx λps H3 I3 rel q3=>⟨(x,y)::ps,H3,I3,.cons ⟨rx,ry⟩ rel,q3⟩)
noncomputable def iW(kvs more:List (Key×V)):List (Key×V):=more.foldl (λacc kv=>putK acc kv.1 kv.2) kvs
theorem KV.merge:∀{more:List (Key×V)} {rs:List (Key×Value)} {kvs:List (Key×V)} {vs:List (Key×Value)},KV more rs->KV kvs vs->KV (iW kvs more) (merged vs rs):=by
 intro more rs kvs vs r;unfold KV at r
 induction r generalizing kvs vs with
 |nil=>intro q;exact q
 |@cons p q ps qs h t ih=>
  intro r0;have e:KV (putK kvs p.1 p.2) (stored vs q.1 q.2):=by
   have:=r0.put p.1 h.2;rw[<-h.1];exact this
  exact ih e
theorem Vo:∀(more kvs:List (Key×V)),(iW kvs more).length<=kvs.length+more.length
 |[],kvs=>by show kvs.length<=kvs.length+0;lia
 |p::r,kvs=>by
  have h1:=Vo r (putK kvs p.1 p.2);have h2:=zcZ kvs p.1 p.2;show (iW (putK kvs p.1 p.2) r).length<=_;rw[dR];lia
theorem Vp:∀{kvs:List (Key×V)} {ws:List (Value×Value)},VV (kvs.map λkv=>(kV kv.1,kv.2)) ws->∃rs,Carries (b_ P w) ws rs/\KV kvs rs
 |[],_,r=>by rw[List.map_nil] at r;cases r;exact⟨[],True.intro,.nil⟩
 |p::kvs,_,r=>by
  rw[nM] at r;cases r with
  |@cons a b as bs h t=>
   obtain⟨rs,c,q⟩:=Vp (P:=P) (w:=w) t;obtain⟨b1,b2⟩:=b;exact⟨(p.1,b2)::rs,⟨zlj h.1,rfl,c⟩,.cons ⟨rfl,h.2⟩ q⟩
noncomputable def Gk(zB:List (TE×TE)):TE:=λZ H Q=>∀p,H p=none->m_ zB Z (upd H p (.dK [])) λps H2=>H2 p=some (.dK [])/\∃kvs:List (Key×V),ps=kvs.map (λkv=>(kV kv.1,kv.2))/\kvs.length<=15/\Q (.ref p) (upd H2 p (.dK (iW [] kvs)))
theorem zhE(h:Je X pos keys values zB)(kh:keys.all (·.isSome)=true)(hl:keys.length=values.length)(h0:keys≠[])
  (h15:keys.length<=15):PE X (.Dict keys values pos) (Gk zB):=by
 intro ak s Z H Q I q;have hn:=I.hok.fresh (bU s.heap.objs.size);have I1:=I.laid (a:=s.heap.objs.size) (o:=.dK []) (h':=s.heap.push {cls:=.type "dict",data:=.dict #[]}) (t':=s.toks) (λ_ _ q=>cO _ q) (bU _) (zgx s.heap I.big);refine wpAny_Dict_walk (knd:=b_ X.prog X.w) kh hl h0 h15 (aW (h ak _ Z _ _ I1 (q _ hn)) λws s2 hz=>?_);obtain⟨ps,H2,I2,rel,e,kvs,ep,lk,q2⟩:=hz;subst ep;obtain⟨rs,c,rk⟩:=Vp (P:=X.prog) (w:=X.w) rel;obtain⟨z,hd,vs0,r0,dd⟩:=zlQ I2.hok e;cases r0;refine⟨rs,c,dd,λh' Vq hs=>⟨.ref s.heap.objs.size,_,?_,rfl,q2⟩⟩;have hz:(iW [] kvs).length<=sizeLine:=by
  have h1:=Vo kvs [];rw[xY] at h1;rw[qy];lia
 have he:∃q,h'.get? s.heap.objs.size=some q:=let ⟨q,_,_,hq,_⟩:=Vq;⟨q,hq⟩;exact zhn I2 (by rw[e];exact True.intro) hs he (zi7 hz hd (rk.merge .nil) Vq)
end L2
namespace Mi
open PySem PySem.Spec PyProof.Rows L2
section
variable {X:Cx}{cA:Cl}{ao:Nat->Nat->Bool}{aj:Bool}{F:Fn}{EX:XS}{a b c d e o:Expr}{A B C Dd E' O:E}{pos pp p2 apos cpos:Pos}{es:List Expr}{Xs:Es}{fz:Bool}{p:Pr}{x:Str}{U:Ph}{H:Hp}{s:S}{lo hi:Option Expr}{Lo Hi:Eo}
def Gm(X:Cx)(cA:Cl)(ao:Nat->Nat->Bool)(aj:Bool)(F:Fn)(EX:XS)(oe:Option Expr)(m:Eo):Prop:=
 PO X oe (λZ H Q=>∃U J s,aU X.K cA U H Z J/\aG X.K cA U H s/\Run X.K cA (uK ao aj F m J) U H s (λi _ U' H'=>Q i H') (eX X.K cA EX Z))
theorem PO.weak{oe:Option Expr}{t t':TO}(h:PO X oe t)(f:∀Z H Q,t' Z H Q->t Z H Q):PO X oe t':=by
 intro ak s Z H Q I q;exact h ak s Z H Q I (f Z H Q q)
theorem zl7:Gm X cA ao aj F EX none .no:=PO.weak ziI λZ H Q hh=>un hh λU J s hL hS h=>h.bG hS
theorem zi4(ha:SE X cA ao aj F EX a A):Gm X cA ao aj F EX (some a) (.yes A):=PO.weak (zhI ha) λZ H Q hh=>un hh λU J s hL hS h=>by
 refine bF hL hS h λx H1 U1 d1 s1 x1 hL1 aL r1 h1=>?_;obtain⟨i,_,e,h3⟩:=Gf r1 h1;exact⟨i,e,h3.bG aL⟩
theorem Gn{β:Type}{Z:L2.St}{J:Vs}{m:Eo}{k:Option Int->M β}{P:β->S->Ph->Hp->Prop}(hL:aU X.K cA U H Z J)(hS:aG X.K cA U H s)(h:Run X.K cA (M.bd (uK ao aj F m J) k) U H s P (eX X.K cA EX Z)){Q:Option Int->Hp->Prop}
  (f:∀i H1 U1 s1,Ext U H U1 H1->aU X.K cA U1 H1 Z J->aG X.K cA U1 H1 s1->Run X.K cA (k i) U1 H1 s1 P (eX X.K cA EX Z)->Q i H1) :
  ∃U J s,aU X.K cA U H Z J/\aG X.K cA U H s/\Run X.K cA (uK ao aj F m J) U H s (λi _ U' H'=>Q i H') (eX X.K cA EX Z):=
 ⟨U,J,s,hL,hS,h.bd.imp λi s1 U1 H1 ⟨x1,r1,h1⟩=>f i H1 U1 s1 x1 (hL.mono x1 hS.lz) r1 h1⟩
theorem zlX(ha:SE X cA ao aj F EX a A)(hl:Gm X cA ao aj F EX lo Lo)(hh:Gm X cA ao aj F EX hi Hi):SE X cA ao aj F EX (.Subscript a (.Slice lo hi none p2) pos) (.sl fz A Lo Hi):=PE.weak (zgk zjq ha hl hh) λZ H Q hh=>un hh λU J s hL hS h=>by
 refine bF hL hS h λx H1 U1 d1 s1 x1 hL1 aL r1 h1=>Gn hL1 aL h1 λl H2 U2 s2 x2 hL2 bf h2=>Gn hL2 bf h2 λu H3 U3 s3 x3 zy lV h3=>?_;obtain⟨dd,rv,h4⟩:=Oj lV ((r1.mono x2 aL.lz).mono x3 bf.lz) h3;exact zho lV.zs rv (qj lV h4)
theorem zjp(ha:SE X cA ao aj F EX a A):SE X cA ao aj F EX (.Subscript a (.Slice none none (some (.UnaryOp .USub (.Constant (.int 1) j p3) p4)) p2) pos) (.pr true .rev (.cons A .nil)):=PE.weak (zj9 ha) λZ H Q hh=>un hh λU J s hL hS h=>by
 have h:Run X.K cA (M.bd (M.bd (ev ao aj F A J) λx=>M.bd (M.ret []) λz=>M.ret (x::z)) λvs=>M.bd (eE vs) λds=>bO true (prim .rev ds)) U H s _ _:=h;simp only[iw] at h;refine bF hL hS h λx H1 U1 d1 s1 x1 hL1 aL r1 h1=>?_;obtain⟨ds,rs,h3⟩:=qY aL (.cons r1 .nil) h1;have o:aY X.K cA U1 H1 (yX ds) Q:=qj aL h3;unfold yX at o;split at o
 ·obtain⟨v,e,r⟩:=rs.one;cases e;obtain⟨ad,us,e2,t,q⟩:=r.tup;subst e2;exact⟨ad,us,rfl,t.iC,λp hp=>aY.tup o aL.zs q.rev hp⟩
 ·exact o.elim
theorem Vr:∀bs:List Bool,(List.range bs.length).all (λi=>(bs[i]?).getD false)=bs.all id
 |[]=>rfl
 |b::r=>by
  rw[dR,Kq,vP,CJ,vP];have:=Vr r;simp only[Function.comp_def,List.getElem?_cons_succ,List.getElem?_cons_zero,Option.getD_some,id];rw[this]
theorem zeA(hc:X.aj=true):cC X (.builtin "all") (λxs H Q=>∃(p:Addr) (bs:List Bool),xs=[.ref p]/\cZ X.K H p (bs.map V.bl)/\Q (.bl (bs.all id)) H):=by
 rintro ak s Z H xs us Q I r ⟨p,bs,e,hp,q⟩;subst e;obtain⟨u,rfl,ru⟩:=Vals.one r;cases (show u=Value.ref p from ru);obtain⟨its,rv,pl,hz⟩:=I.list hp;have hl:s.heap.IsList p its.toArray:=pl.isList;have Vt:p≠s.heap.objs.size:=by
  obtain⟨o,hg,_⟩:=hl;exact fD (cj hg)
 refine call_all_walk (wpAny_pyIter_list hl ?_);refine⟨_,_,_,_,_,_,λi=>(bs[i]?).getD false,rfl,Walks.list (A:=X.A.in1) (I.ok.hd hc) _ p Vt its.toArray,⟨⟨_,gw _ rfl,rfl,rfl⟩,hl.push _⟩,?_,λh' tk hk=>?_⟩
 ·intro i v s' Q' E' hP hQ;have hi:its[i]?=some v:=by simpa using hP
  have hb:∃b,bs[i]?=some b:=by
   have gD:i<its.length:=(fB.mp hi).1;have z:=rv.length;rw[cJ] at z;exact⟨_,eO gV⟩
  obtain⟨b,hb⟩:=hb;obtain⟨u,e1,e2⟩:=rv.get (i:=i) (x:=V.bl b) (by rw[iz,hb];rfl);rw[hi] at e1;cases e1;cases (show v=Value.bool b from e2);have hQ:Q' ((bs[i]?).getD false) s':=hQ;rw[hb] at hQ;exact sO hQ
 ·have ez:(List.range its.toArray.size).all (λi=>(bs[i]?).getD false)=bs.all id:=by
   have z:=rv.length;rw[cJ] at z;rw[dO,<-z];exact Vr bs
  rw[ez];refine⟨.bl (bs.all id),H,I.kept (h':=h') (t':=tk) (old_kept hk),rfl,q⟩
theorem zkt{K:W.Frag}:aQ K cA .all (λxs H Q=>∃(p:Addr) (bs:List Bool),xs=[.ref p]/\cZ K H p (bs.map V.bl)/\Q (.bl (bs.all id)) H):=by
 intro U H ds vs Q zt rs o;have o:aY K cA U H (yV ds) Q:=o;unfold yV at o;split at o
 ·obtain⟨v,rfl,⟨ad,us,rfl,l,q⟩⟩:=rs.one;obtain⟨z,e⟩:=o.some';obtain⟨bs,e1,e2⟩:=jz.mp e;subst e2;exact⟨ad,bs,rfl,by rw[<-Vm e1 q];exact l,(o.of e).here (.bl _)⟩
 ·exact o.elim
noncomputable def Jf:Kd->String->Bool
 |.int,"int"=>true
 |.int,"bool"=>true
 |.bool,"bool"=>true
 |.str,"str"=>true
 |.tuple,"tuple"=>true
 |.list,"list"=>true
 |.dict,"dict"=>true
 |_,_=>false
noncomputable def rz:Kd->Option Value
 |.int=>some (.type "int")
 |.bool=>some (.type "bool")
 |.str=>some (.type "str")
 |.tuple=>some (.type "tuple")
 |.list=>some (.type "list")
 |.dict=>some (.type "dict")
 |_=>none
theorem zjo{K:W.Frag}{k:Kd}{cu:Value}(h:rz k=some cu){T:String}(hT:T∈["NoneType","bool","int","str","tuple","list","dict"]):PySem.W.kitOne K (.type T) cu=some (Jf k T):=by
 simp only[fC,List.mem_nil_iff,qz] at hT;cases k<;>simp only[rz] at h<;>cases h<;>rcases hT with rfl|rfl|rfl|rfl|rfl|rfl|rfl<;>rfl
structure Gp(K:W.Frag)(cA:Cl)(ao:Nat->Nat->Bool):Prop where
 xc:∀c,XC K (cA.a c)
 ao:∀c e,PySem.W.kitOne K (.ref (cA.a c)) (.ref (cA.a e))=some (ao c e)
 pL:∀c,PySem.W.kitOne K (.ref (cA.a c)) (.type "ValueError")=some true
noncomputable def Bk(cA:Cl):Kd->V
 |.cls e=>.ref (cA.a e)
 |.pL=>.ty "ValueError"
 |.int=>.ty "int"
 |.bool=>.ty "bool"
 |.str=>.ty "str"
 |.tuple=>.ty "tuple"
 |.list=>.ty "list"
 |.dict=>.ty "dict"
theorem zfS(Cs:rz k=none->Gp X.K cA ao) :
  cC X (.builtin "isinstance") (λxs H Q=>∃U d v bb,xs=[v,Bk cA k]/\Rv X.K cA U H d v/\jF ao d k=some bb/\Q (.bl bb) H):=by
 rintro ak sh Z H xs us Q I r ⟨U,d,v,bb,e,rd,hi,q⟩;subst e;obtain⟨u,w,rfl,ru,Ov⟩:=Vals.two r;have rA:∀tk,EP X ak Z Q (.bool bb) {sh with toks:=tk}:=λtk=>⟨.bl bb,H,I.tok tk,rfl,q⟩;have bt:∀{T:String} {Hh:Heap->Prop},PySem.W.KitX X.K u (.type T) Hh->Hh sh.heap->T∈["NoneType","bool","int","str","tuple","list","dict"]->u≠Value.builtin "__main__.__loader__#opaque"->(∃cu,rz k=some cu/\w=cu/\Jf k T=bb)->wpAny (model X.prog X.w) X.A (PySem.call (.builtin "isinstance") [u,w]) (EP X ak Z Q) X.xe sh:=λ{T Hh} zzZ hh hT hx ⟨cu,h1,h2,h3⟩=>by
  subst h2 h3;exact PySem.W.kia_one zzZ I.lF hh (zjo h1 hT) hx rA
 have wv:∀cu,rz k=some cu->w=cu:=λcu h=>by
  cases k<;>simp only[rz] at h<;>cases h<;>exact Ov
 have fin:∀T,jF ao d k=(match rz k with|some _=>some (Jf k T)|none=>none)->∃cu,rz k=some cu/\w=cu/\Jf k T=bb:=λT h=>by
  rw[hi] at h;cases z:rz k with
  |none=>rw[z] at h;cases h
  |some cu=>rw[z] at h;cases h;exact⟨cu,rfl,wv cu z,rfl⟩
 cases d with
 |non=>
  cases (show Rep X.K cA U H .non v from rd);cases (show u=Value.none from ru);exact bt PySem.W.kitx_none trivial Nj (λz=>nomatch z) (fin "NoneType" (by cases k<;>rfl))
 |bl b=>
  cases rd.bl;cases (show u=Value.bool b from ru);exact bt PySem.W.kitx_bool trivial Nj (λz=>nomatch z) (fin "bool" (by cases k<;>rfl))
 |int i=>
  cases rd.int;obtain⟨t,z⟩:=(show ∃t,u=Value.int i t from ru);cases z;exact bt PySem.W.kitx_int trivial Nj (λz=>nomatch z) (fin "int" (by cases k<;>rfl))
 |str y=>
  cases rd.str;obtain⟨t,z⟩:=(show ∃t,u=Value.str y t from ru);cases z;exact bt PySem.W.kitx_str trivial Nj (λz=>nomatch z) (fin "str" (by cases k<;>rfl))
 |tup xs=>
  obtain⟨ad,vs,rfl,h1,h2⟩:=rd.tup;cases (show u=Value.ref ad from ru);obtain⟨its,_,ht,_⟩:=I.tuple h1.iC;obtain⟨o,q1,q2,_⟩:=ht;exact bt PySem.W.kitx_tuple ⟨o,q1,q2⟩ Nj (λz=>nomatch z) (fin "tuple" (by cases k<;>rfl))
 |fl xs=>
  obtain⟨ad,vs,rfl,h1,h2⟩:=rd;cases (show u=Value.ref ad from ru);obtain⟨its,_,ht,_⟩:=I.list h1;obtain⟨o,q1,q2,_⟩:=ht.isList;exact bt PySem.W.kitx_list ⟨o,q1,q2⟩ Nj (λz=>nomatch z) (fin "list" (by cases k<;>rfl))
 |fd ks vs=>
  cases (show Rep X.K cA U H (.fd ks vs) v from rd) with
  |@fd ad kk ii q1 n=>
   cases (show u=Value.ref ad from ru);obtain⟨_,_,vs,_,o,es',ep,g1,g2,_⟩:=(show aR X.prog X.w H sh.heap ad (.dK [(.inr kk,.int ii)]) from I.hok ad _ q1);exact bt PySem.W.kitx_dict ⟨o,g1,g2.1⟩ Nj (λz=>nomatch z) (fin "dict" (by cases k<;>rfl))
 |ob c fs=>cases k<;>cases hi
 |any=>cases k<;>cases hi
 |exc c fs=>
  cases (show Rep X.K cA U H (.exc c fs) v from rd) with
  |@exc ad _ _ vs hx rs=>
   cases (show u=Value.ref ad from ru);have hI:∃ox od,PySem.W.InstAt sh.heap ad ox (cA.a c) od:=by
    obtain⟨_,⟨_,_,hx⟩|⟨dx,hx,_,hd,_⟩⟩:=hx
    ·obtain⟨⟨oe,vs,g1,g2,g3,g4⟩,_⟩:=(show aR X.prog X.w H sh.heap ad (uE ad (cA.a c) none) from I.hok ad _ hx);exact⟨oe,none,g1,g2,by unfold PySem.W.notCls;rw[g4],by rw[g3];trivial⟩
    ·obtain⟨⟨oe,vs,g1,g2,g3,g4⟩,_⟩:=(show aR X.prog X.w H sh.heap ad (uE ad (cA.a c) (some dx)) from I.hok ad _ hx);obtain⟨mA,⟨od,es,ep,e1,c1⟩,_⟩:=(show aR X.prog X.w H sh.heap dx (.xd _) from I.hok dx _ hd);exact⟨oe,some od,g1,g2,by unfold PySem.W.notCls;rw[g4],by rw[g3];exact e1⟩
   cases k with
   |cls e=>
    cases (show w=Value.ref (cA.a e) from Ov);have z:some (ao c e)=some bb:=hi;cases z;exact PySem.W.kia_one (Ul ((Cs rfl).xc c)) I.lF hI ((Cs rfl).ao c e) (λz=>nomatch z) rA
   |pL=>
    cases (show w=Value.type "ValueError" from Ov);have z:some true=some bb:=hi;cases z;exact PySem.W.kia_one (Ul ((Cs rfl).xc c)) I.lF hI ((Cs rfl).pL c) (λz=>nomatch z) rA
   |_=>cases hi
theorem zjN(Cs:rz k=none->Gp X.K cA ao)(hg:Gl X "isinstance")(hm:X.mg "isinstance"=none)(ha:SE X cA ao aj F EX a A)(hk:PE X kx (tC (Bk cA k)))(h1:starEach [a,kx] X.env=(false,eval a X.env)::starEach [kx] X.env:=by rfl)(h2:starEach [kx] X.env=(false,eval kx X.env)::starEach [] X.env:=by rfl)
  (hpl:(backTo pos (starEach [kx] X.env)).any (·.1)=false:=by rfl):SE X cA ao aj F EX (.Call (.Name "isinstance" pp) [a,kx] [] pos) (.jD A k):=PE.weak (T6 (zfS (cA:=cA) (k:=k) Cs) hg hm PyProof.Rows.boot_isinstance (uo ha (uo hk Aw h2) h1) J0 J0 h1 hpl) λZ H Q hh=>un hh λU J s hL hS h=>
 bF hL hS h λv H1 U1 d s1 x1 hL1 aL r1 h1=>by
  show ∃U d' v' bb,[v,Bk cA k]=[v',Bk cA k]/\_;obtain⟨dd,rv,h2⟩:=Oj aL r1 h1;obtain⟨bb,e,h3⟩:=U9 h2;exact⟨U1,dd,v,bb,rfl,rv,e,h3.bG aL _ (.d (.bl bb))⟩
theorem zig{j p1 j2 p3}:SE X cA ao aj F EX (.Dict [some (.Constant (.str k) j p1)] [.Constant (.int i) j2 p3] pos) (.qT k i):=PE.weak (zhE (zf9 S9 La zhv) rfl rfl Nj (Nat.le_of_ble_eq_true rfl)) λZ H Q hh=>un hh λU J s hL hS h=>by
 intro p hp;refine⟨jB,[(.inr k,.int i)],rfl,Nat.le_of_ble_eq_true rfl,?_⟩;rw[Sy];exact h U _ (bA.new hp).ext (hS.grow (bA.new hp)) _ (.d (.fd jB (hS.nz hp)))
end
section
variable {K:W.Frag}{cA:Cl}{U U':Ph}{H H':Hp}{s:S}
theorem TupAt.iY(e:∀a,U'.z a->U.z a){a:Addr}{vs:List V}(h:TupAt K U H a vs):TupAt K U' H a vs:=h.imp (λ⟨p,n⟩=>⟨p,λz=>n (e a z)⟩) id
theorem LstAt.iY(e:∀a,U'.z a->U.z a){a:Addr}{vs:List V}(h:LstAt K U H a vs):LstAt K U' H a vs:=h.imp (λ⟨p,n⟩=>⟨p,λz=>n (e a z)⟩) id
theorem ExcAt.iY(e:∀a,U'.z a->U.z a){a:Addr}{c:Nat}{vs:List V}(h:ExcAt cA U H a c vs):ExcAt cA U' H a c vs:=
 ⟨λz=>h.1 (e a z),h.2.imp id λ⟨dx,p,n,q,l⟩=>⟨dx,p,λz=>n (e dx z),q,l⟩⟩
theorem m8.iY(e:∀a,U'.z a->U.z a){a:Addr}{c:Nat}{vs:List V}(h:m8 cA U H a c vs):m8 cA U' H a c vs:=⟨λz=>h.1 (e a z),h.2⟩
theorem Rep.iY(e:∀a,U'.z a->U.z a){d:D}{v:V}(h:Rep K cA U H d v):Rep K cA U' H d v:=
 Rep.rec (motive_1:=λd v _=>Rep K cA U' H d v) (motive_2:=λd v _=>aA K cA U' H d v) .non .bl .int .str (λh _ i=>.tup (h.iY e) i) (λh _ i=>.fl (h.iY e) i) (λh n=>.fd h (λz=>n (e _ z))) (λh _ i=>.exc (h.iY e) i) (λh _ i=>.ob (h.iY e) i) .any .nil (λ_ _ i j=>.cons i j) h
theorem aA.iY(e:∀a,U'.z a->U.z a){d:List D}{v:List V}(h:aA K cA U H d v):aA K cA U' H d v:=
 aA.rec (motive_1:=λd v _=>Rep K cA U' H d v) (motive_2:=λd v _=>aA K cA U' H d v) .non .bl .int .str (λh _ i=>.tup (h.iY e) i) (λh _ i=>.fl (h.iY e) i) (λh n=>.fd h (λz=>n (e _ z))) (λh _ i=>.exc (h.iY e) i) (λh _ i=>.ob (h.iY e) i) .any .nil (λ_ _ i j=>.cons i j) h
theorem je.iY(e:∀a,U'.z a->U.z a){a:Addr}{o:SO}(h:je K cA U H a o):je K cA U' H a o:=h.map (λ_ q=>q) λ_ _ r=>r.iY e
theorem Rep.zl{d:D}{v:V}(h:Rep K cA U H d v)(l:List Addr):Rep K cA ⟨U.z,l⟩ H d v:=Rep.iY (U:=U) (U':=⟨U.z,l⟩) (λ_ z=>z) h
theorem aA.zl{d:List D}{v:List V}(h:aA K cA U H d v)(l:List Addr):aA K cA ⟨U.z,l⟩ H d v:=aA.iY (U:=U) (U':=⟨U.z,l⟩) (λ_ z=>z) h
theorem je.zl{a:Addr}{o:SO}(h:je K cA U H a o)(l:List Addr):je K cA ⟨U.z,l⟩ H a o:=je.iY (U:=U) (U':=⟨U.z,l⟩) (λ_ z=>z) h
noncomputable def adr(l:List Addr):List Nat->List Addr
 |[]=>[]
 |n::r=>match l[n]? with
  |some a=>a::adr l r
  |none=>adr l r
theorem Bl{l:List Addr}:∀{ns:List Nat} {a:Addr},a∈adr l ns->∃n∈ns,l[n]?=some a
 |[],a,h=>by cases h
 |n::r,a,h=>by
  unfold adr at h;cases e:l[n]? with
  |none=>
   simp only[e] at h;obtain⟨m,h1,h2⟩:=Bl h;exact⟨m,iy _ h1,h2⟩
  |some b=>
   simp only[e] at h;rcases fC.mp h with rfl|h
   ·exact⟨n,nH,e⟩
   ·obtain⟨m,h1,h2⟩:=Bl h;exact⟨m,iy _ h1,h2⟩
theorem Vu{s:S}:∀{ns:List Nat} {s0:S} {i n:Nat},gH s ns=some s0->ns[i]?=some n->s0[i]?=s[n]?/\∃o,s[n]?=some o
 |[],s0,i,n,h,e=>by simp at e
 |m::r,s0,i,n,h,e=>by
  unfold gH at h;cases e1:s[m]? with
  |none=>simp only[e1] at h;cases h
  |some o=>
   cases e2:gH s r with
   |none=>simp only[e1,e2] at h;cases h
   |some q=>
    simp only[e1,e2] at h;cases h;cases i with
    |zero=>simp at e;subst e;exact⟨by simp[e1],o,e1⟩
    |succ i=>simpa using Vu e2 (by simpa using e)
theorem Vv{s:S}:∀{ns:List Nat} {s0:S},gH s ns=some s0->s0.length=ns.length
 |[],s0,h=>by cases h;rfl
 |m::r,s0,h=>by
  unfold gH at h;cases e1:s[m]? with
  |none=>simp only[e1] at h;cases h
  |some o=>
   cases e2:gH s r with
   |none=>simp only[e1,e2] at h;cases h
   |some q=>
    simp only[e1,e2] at h;cases h;rw[dR,dR,Vv e2]
theorem Gq{l:List Addr}:∀{ns:List Nat} {i n:Nat},(∀n∈ns,∃a,l[n]?=some a)->ns[i]?=some n->(adr l ns)[i]?=l[n]?
 |[],i,n,_,e=>by simp at e
 |m::r,i,n,h,e=>by
  obtain⟨a,ha⟩:=h m nH;unfold adr;simp only[ha];cases i with
  |zero=>simp at e;subst e;simp[ha]
  |succ i=>simpa using Gq (λn hn=>h n (iy _ hn)) (by simpa using e)
theorem Gs{l:List Addr}:∀{ns:List Nat},(∀n∈ns,∃a,l[n]?=some a)->(adr l ns).length=ns.length
 |[],_=>rfl
 |m::r,h=>by
  obtain⟨a,ha⟩:=h m nH;unfold adr;simp only[ha];rw[dR,dR,Gs (λn hn=>h n (iy _ hn))]
theorem Vw{l:List Addr}(hl:l.Nodup):∀{ns:List Nat},ns.Nodup->(∀n∈ns,∃a,l[n]?=some a)->(adr l ns).Nodup
 |[],_,_=>Cy
 |m::r,hn,h=>by
  obtain⟨a,ha⟩:=h m nH;unfold adr;simp only[ha];obtain⟨h1,h2⟩:=vM.mp hn;refine vM.mpr ⟨λz=>?_,Vw hl h2 (λn hn=>h n (iy _ hn))⟩;obtain⟨n,q1,q2⟩:=Bl z;have:m=n:=(KJ (fB.mp ha).1 hl).mp (ha.trans q2.symm);exact h1 (this▸q1)
theorem Bm{s:S}:∀{ns:List Nat} {s1:S},(cG s ns s1).length=s.length
 |[],s1=>by cases s1<;>rfl
 |n::r,[]=>rfl
 |n::r,o::q=>by
  show (cG (s.set n o) r q).length=_;rw[Bm,qd]
theorem Ox{s:S}:∀{ns:List Nat} {s1:S} {m:Nat},m∉ns->(cG s ns s1)[m]?=s[m]?
 |[],s1,m,_=>by cases s1<;>rfl
 |n::r,[],m,_=>rfl
 |n::r,o::q,m,h=>by
  show (cG (s.set n o) r q)[m]?=_;rw[Ox (λz=>h (iy _ z)),tX (λz=>h (by rw[z];exact nH))]
theorem Vx{s:S}:∀{ns:List Nat} {s1:S} {i m:Nat} {o:SO},ns.Nodup->ns[i]?=some m->s1[i]?=some o->m<s.length->(cG s ns s1)[m]?=some o
 |[],s1,i,m,o,_,e,_,_=>by simp at e
 |n::r,[],i,m,o,_,_,e,_=>by simp at e
 |n::r,q::qs,i,m,o,hn,e1,e2,hm=>by
  show (cG (s.set n q) r qs)[m]?=_;obtain⟨h1,h2⟩:=vM.mp hn;cases i with
  |zero=>
   simp at e1 e2;subst e1 e2;rw[Ox h1,zZ hm]
  |succ i=>exact Vx h2 (by simpa using e1) (by simpa using e2) (by rw[qd];exact hm)
theorem zfj:∀{xs:List Xv} {vs:List V} (l0:List Addr) (z:Addr->Prop) (k:Nat),aM K cA U H xs vs->U.z=z->(∀i n,(locs xs)[i]?=some n->l0[k+i]?=U.l[n]?)->aM K cA ⟨z,l0⟩ H (cM k xs) vs
 :=by
 intro xs vs l0 z k r0
 induction r0 generalizing k with
 |nil=>exact λ_ _=>.nil
 |@cons x v xs vs a q ih=>
  intro ez h;cases a with
  |d a=>exact .cons (.d (a.iY λb hb=>by rw[ez];exact hb)) (ih k ez h)
  |@l n a' a=>
   refine .cons (.l ?_) (ih (k+1) ez λi m e=>?_)
   ·have:=h 0 n rfl;rw[Nat.add_zero] at this;show l0[k]?=_;rw[this];exact a
   ·have:=h (i+1) m (by simpa [locs] using e);rw[<-this]
    congr 1
    lia
theorem zd6:∀{xs:List Xv} {vs:List V},aM K cA U H xs vs->∀n∈locs xs,∃a,U.l[n]?=some a
 :=by
 intro xs vs r0
 induction r0 with
 |nil=>exact λn h=>by cases h
 |cons a q ih=>
  intro n h;cases a with
  |d a=>exact ih n h
  |l a=>
   rcases fC.mp h with rfl|h
   ·exact⟨_,a⟩
   ·exact ih n h
theorem Vy{xs:List Xv}{U1:Ph}{s0 s1:S}(hS:aG K cA U H s)(hn:(locs xs).Nodup)(ht:∀n∈locs xs,∃a,U.l[n]?=some a)(x:Ext ⟨U.z,adr U.l (locs xs)⟩ H U1 H')(r1:aG K cA U1 H' s1) :
  Ext U H ⟨U1.z,U.l⟩ H'/\aG K cA ⟨U1.z,U.l⟩ H' (cG s (locs xs) s1):=by
 have ao:∀a∈adr U.l (locs xs),a∈U.l:=λa ha=>by obtain⟨n,_,q⟩:=Bl ha;exact dH q
 obtain⟨r,er,hr⟩:=x.more;have er:U1.l=adr U.l (locs xs)++r:=er;refine⟨⟨⟨[],by simp,by simp⟩,λa h=>x.qg a h,λa h=>x.kY a h,λa o h n=>x.frame a o h λz=>n (ao a z),x.stay⟩,?_⟩;refine⟨by rw[Bm];exact hS.len,λn o a e1 e2=>?_,hS.uniq,λa ha=>x.qg a (hS.lz a ha),r1.zt⟩;have e2:U.l[n]?=some a:=e2;by_cases fV:n∈locs xs
 ·obtain⟨i,hi,ei⟩:=Ky fV;have ei:(locs xs)[i]?=some n:=by rw[eO hi,ei]
  have ha:(adr U.l (locs xs))[i]?=some a:=by rw[Gq ht ei];exact e2
  have Vz:U1.l[i]?=some a:=by rw[er,nG (fB.mp ha).1];exact ha
  have gD:i<s1.length:=by rw[<-r1.len];exact(fB.mp Vz).1
  have hb:=Vx (s:=s) (s1:=s1) hn ei (eO gD) (by rw[<-hS.len];exact(fB.mp e2).1);rw[hb] at e1;cases e1;exact je.zl (r1.obj i _ a (eO gD) Vz) _
 ·rw[Ox fV] at e1;have Oz:a∉adr U.l (locs xs):=λz=>by
   obtain⟨m,q1,q2⟩:=Bl z;have:n=m:=(KJ (fB.mp e2).1 hS.uniq).mp (e2.trans q2.symm);exact fV (this▸q1)
  exact(hS.obj n o a e1 e2).map (λ_ q=>x.frame a _ q Oz) λ_ _ r=>Rep.zl ((Rep.zl r _).mono x λa ha=>hS.lz a (ao a ha)) _
theorem VB{F:List Xv->M Xv}{xs:List Xv}{vs:List V}{Q:VK}{EE:Nat->List D->Ph->Hp->Prop}(hS:aG K cA U H s)(r:aM K cA U H xs vs)
  (hE:∀c fs U1 U2 H',U1.z=U2.z->EE c fs U1 H'->EE c fs U2 H')
  (h:Run K cA (bN F xs) U H s (λx _ U' H'=>∀v,aX K cA U' H' x v->Q v H') (λc fs _ U' H'=>EE c fs U' H')) :
  ∃U0 s0,aM K cA U0 H (cM 0 xs) vs/\aG K cA U0 H s0/\Run K cA (F (cM 0 xs)) U0 H s0 (λx _ U' H'=>∀v,aX K cA U' H' x v->Q v H') (λc fs _ U' H'=>EE c fs U' H'):=by
 unfold Run bN at h;by_cases hn:(locs xs).Nodup
 ·simp only[if_pos hn] at h;have ht:=zd6 r;have ao:∀a∈adr U.l (locs xs),a∈U.l:=λa ha=>by obtain⟨n,_,q⟩:=Bl ha;exact dH q
  cases e0:gH s (locs xs) with
  |none=>simp only[e0] at h
  |some s0=>
   simp only[e0] at h;refine⟨⟨U.z,adr U.l (locs xs)⟩,s0,zfj _ _ 0 r rfl (λi n e=>by rw[Nat.zero_add];exact Gq ht e),?_,?_⟩
   ·refine⟨by rw[Vv e0];exact Gs ht,λi o a e1 e2=>?_,Vw hS.uniq hn ht,λa ha=>hS.lz a (ao a ha),hS.zt⟩;have e2:(adr U.l (locs xs))[i]?=some a:=e2;have hi:i<(locs xs).length:=by rw[<-Gs ht];exact(fB.mp e2).1
    have ei:(locs xs)[i]?=some ((locs xs)[i]):=eO hi;rw[Gq ht ei] at e2;rw[(Vu e0 ei).1] at e1;exact je.zl (hS.obj _ o a e1 e2) _
   ·unfold Run;cases e1:F (cM 0 xs) s0 with
    |none=>simp only[e1] at h
    |some q=>
     obtain⟨q,s1⟩:=q;simp only[e1] at h;cases q with
     |er c fs=>
      intro U1 H' x r1;obtain⟨x2,r2⟩:=Vy (s0:=s0) hS hn ht x r1;exact hE c fs ⟨U1.z,U.l⟩ U1 H' rfl (h ⟨U1.z,U.l⟩ H' x2 r2)
     |ok y=>
      intro U1 H' x r1 v rv;obtain⟨x2,r2⟩:=Vy (s0:=s0) hS hn ht x r1;cases y with
      |d w=>
       cases rv with
       |d rv=>exact h ⟨U1.z,U.l⟩ H' x2 r2 v (.d (Rep.zl rv _))
      |l n=>
       cases rv with
       |@l _ a hl=>
        obtain⟨rr,er,hr⟩:=x.more;have er:U1.l=adr U.l (locs xs)++rr:=er;cases em:(locs xs)[n]? with
        |some m=>
         simp only[em] at h;refine h _ H' x2 r2 _ (.l ?_);show U.l[m]?=some a;have ha:(adr U.l (locs xs))[n]?=U.l[m]?:=Gq ht em;have gD:n<(adr U.l (locs xs)).length:=by rw[Gs ht];exact(fB.mp em).1
         rw[er,nG gD] at hl;rw[<-ha];exact hl
        |none=>
         simp only[em] at h;have hge:(adr U.l (locs xs)).length<=n:=by rw[Gs ht];exact oZ.mp em
         have IV:a∈rr:=by
          rw[er,oY hge] at hl;exact dH hl
         have Oz:a∉U.l:=λz=>by
          obtain⟨o,eo⟩:=hS.zt a (hS.lz a z);rw[hr a IV] at eo;cases eo
         cases eo:s1[n]? with
         |none=>simp only[eo] at h
         |some o=>
          simp only[eo] at h;have ho:=r1.obj n o a eo hl;refine h ⟨U1.z,U.l++[a]⟩ H' ⟨⟨[a],rfl,by simpa using hr a IV⟩,x2.qg,x2.kY,x2.frame,x2.stay⟩ ?_ _ (.l (by show (U.l++[a])[s.length]?=_;rw[<-hS.len];simp));refine⟨by show (U.l++[a]).length=_;rw[iI,iI,Bm,hS.len];rfl,λm o' a' e1 e2=>?_,?_,λb hb=>?_,r1.zt⟩
          ·have e2:(U.l++[a])[m]?=some a':=e2;by_cases hm:m<s.length
           ·rw[nG (by rw[Bm];exact hm)] at e1;rw[nG (by rw[hS.len];exact hm)] at e2;exact je.zl (r2.obj m o' a' e1 e2) _
           ·have Bp:m=s.length:=by
             have z:=(fB.mp e2).1;rw[iI,hS.len] at z;simp at z
             lia
            subst Bp;rw[oY (by rw[Bm];exact bU _)] at e1;rw[oY (by rw[hS.len];exact bU _)] at e2;simp[Bm] at e1;simp[hS.len] at e2;subst e1 e2;exact je.zl ho _
          ·show (U.l++[a]).Nodup;rw[Hy];refine⟨hS.uniq,by simp,λb hb c hc e=>?_⟩;simp at hc;subst hc e;exact Oz hb
          ·have hb:b∈U.l++[a]:=hb;rcases jh.mp hb with z|z
           ·exact x2.qg b (hS.lz b z)
           ·simp at z;subst z;exact r1.lz _ (dH hl)
 ·simp only[if_neg hn] at h
end
section
variable {X:Cx}{cA:Cl}{ao:Nat->Nat->Bool}{aj:Bool}{F:Fn}{EX:XS}{a b c d e o:Expr}{A B C Dd E' O:E}{pos pp p2 apos cpos:Pos}{es:List Expr}{Xs:Es}{fz:Bool}{p:Pr}{x:Str}{U:Ph}{H:Hp}{s:S}
theorem OD{K:W.Frag}{β:Type}{x:Xv}{v:V}{k:Nat×List D->M β}{P:β->S->Ph->Hp->Prop}{Ee:Nat->List D->S->Ph->Hp->Prop}(hS:aG K cA U H s)(r:aX K cA U H x v)(h:Run K cA (M.bd (cF x) k) U H s P Ee) :
  ∃n ad xs vs,x=.l n/\v=.ref ad/\s[n]?=some (.lst xs)/\U.l[n]?=some ad/\H ad=some (.lst vs)/\aA K cA U H xs vs/\Run K cA (k (n,xs)) U H s P Ee:=by
 cases r with
 |d _=>exact h.elim
 |@l n ad hl=>
  unfold Run M.bd cF at h;dsimp only at h;cases e:s[n]? with
  |none=>rw[e] at h;exact h.elim
  |some o=>
   rw[e] at h;cases o with
   |lst xs=>
    obtain⟨vs,q1,q2⟩:=hS.obj n _ _ e hl;exact⟨n,ad,xs,vs,rfl,rfl,e,hl,q1,q2,h⟩
   |_=>exact h.elim
theorem zh7(ho:SE X cA ao aj F EX o O)(ha:SE X cA ao aj F EX a A)
  (lN:attributeBase o "append" X.env (eval o X.env)=eval o X.env:=by rfl)
  (yL:((backTo cpos (starEach [a] X.env)).all (λx=>!x.1)&&(backToKw cpos (keywordEach [] X.env)).all (λx=>x.1.isSome)
  &&decide ([a].length+([]:List Keyword).length+(if ([]:List Keyword).isEmpty then 0 else 1)<30))=true:=by rfl)
  (lO:(apos.endLine==cpos.line)=true:=by rfl) (hs:starEach [a] X.env=(false,eval a X.env)::starEach [] X.env:=by rfl) (mX:(backTo cpos (starEach [] X.env)).any (·.1)=false:=by rfl) :
  SE X cA ao aj F EX (.Call (.Attribute o "append" apos) [a] [] cpos) (.push O A):=PE.weak (zln PySem.F.plainAttrs_list PySem.F.slot_list_append PySem.F.type_list_append Uc ho (uo ha Aw hs) lN yL lO hs mX) λZ H Q hh=>un hh λU J s hL hS h=>by
 refine bF hL hS h λx H1 U1 d1 s1 x1 hL1 aL r1 h1=>?_;obtain⟨n,ad,xs,vs,rfl,rfl,e1,f1,g1,q1,h2⟩:=OD aL r1 h1;refine⟨.inl ⟨rfl,vs,cZ.of g1⟩,bF hL1 aL h2 λy H2 U2 d2 s2 x2 hL2 bf r2 h3=>?_⟩;obtain⟨dd,_,rd,h4⟩:=Oh r2 h3;obtain⟨n',ad',ys,us,en,ea,e2,f2,g2,q2,h5⟩:=OD bf (r1.mono x2 aL.lz) h4;cases en;cases ea;by_cases hz:ys.length<sizeLine
 ·have h5:Run X.K cA (M.bd (putL n (ys++[dd])) λ_=>M.ret (Xv.d .non)) U2 H2 s2 (λd _ U' H'=>∀v,aX X.K cA U' H' d v->Q v H') (eX X.K cA EX Z):=by
   have h6:Run X.K cA (if ys.length<sizeLine then M.bd (putL n (ys++[dd])) λ_=>M.ret (Xv.d .non) else M.no) U2 H2 s2 (λd _ U' H'=>∀v,aX X.K cA U' H' d v->Q v H') (eX X.K cA EX Z):=h5;rw[if_pos hz] at h6;exact h6
  refine⟨ad,us,y,rfl,rfl,g2,by rw[<-q2.len];exact hz,?_⟩;exact h5 U2 _ (Ext.write f2 ⟨_,g2⟩) (bf.write e2 f2 (q2.app (.cons rd .nil))) _ (.d .non)
 ·have h6:Run X.K cA (if ys.length<sizeLine then M.bd (putL n (ys++[dd])) λ_=>M.ret (Xv.d .non) else M.no) U2 H2 s2 (λd _ U' H'=>∀v,aX X.K cA U' H' d v->Q v H') (eX X.K cA EX Z):=h5;rw[if_neg hz] at h6;exact h6.elim
noncomputable def mJ(K:W.Frag)(cA:Cl)(m:List Xv->M Xv):Sp:=λvs H Q E=>∃U xs s,aM K cA U H xs vs/\aG K cA U H s/\Run K cA (m xs) U H s (λd _ U' H'=>∀v,aX K cA U' H' d v->Q v H') (λc fs _ U' H'=>∀dx,iV K cA U' H' c fs dx->E (.ref (cA.a c)) dx H')
theorem zh8{K:W.Frag}{U1 U2:Ph}{c:Nat}{fs:List D}{dx:Option Addr}(e:U1.z=U2.z)(h:iV K cA U2 H c fs dx):iV K cA U1 H c fs dx:=h.imp id λ⟨d,vs,a,b,c,l,r⟩=>⟨d,vs,a,by rw[e];exact b,c,l,r.iY λ_ z=>by rw[<-e];exact z⟩
theorem zhk{cm:Bool}{k f:Nat}{fa:Addr}{fd:FuncData}{ps:List Str}(Fo:bQ X.prog X.w X.K X.mg X.base (dZ X.prog X.w) cm k fa fd ps (mJ X.K cA (F f)))(h_:cm=true->X.aj=true)(hr:bC k X.A)(hg:Gl X x)(hm:X.mg x=some (.ref fa))(hk:PySem.W.keepIn X.K (.ref fa)=true)(hb:Binds X.K fd ps [])(R:Raises X EX)
  (ha:SA X cA ao aj F EX (e::es) Xs) (pF:(x==("__debug__" : Str))=false:=by decide) (he:starEach (e::es) X.env=(false,eval e X.env)::starEach es X.env:=by rfl) (hpl:(backTo pos (starEach es X.env)).any (·.1)=false:=by rfl) :
  SE X cA ao aj F EX (.Call (.Name x pp) (e::es) [] pos) (.call f Xs):=PE.weak (zgf Fo h_ hr hg hm hk hb R ha pF he hpl) λZ H Q hh=>un hh λU J s hL hS h=>
 m9 hL hS h λvs H1 U1 ds s1 x1 hL1 aL r1 h1=>by
  obtain⟨U0,s0,a1,a2,a3⟩:=VB (EE:=λc fs U' H'=>∀dx,iV X.K cA U' H' c fs dx->EX Z (.ref (cA.a c)) dx H') aL r1 (λc fs U1 U2 H' ez z dx q=>z dx (zh8 ez q)) h1;exact⟨U0,_,s0,a1,a2,a3⟩
end
section
variable {K:W.Frag}{cA:Cl}{U U':Ph}{H H':Hp}{s:S}
def cP(U:Ph)(H H':Hp):Prop:=∀a o,H a=some o->¬U.z a->H' a=some o
mutual
theorem Rep.out(x:cP U H H'):∀{d:D} {v:V},Rep K cA U H d v->Rep K cA U H' d v
 |_,_,.non=>.non
 |_,_,.bl b=>.bl b
 |_,_,.int i=>.int i
 |_,_,.str z=>.str z
 |_,_,.tup h r=>.tup (h.imp (λ⟨p,n⟩=>⟨p.imp (λq=>x _ _ q n) λ⟨o,q⟩=>⟨o,x _ _ q n⟩,n⟩) id) (aA.out x r)
 |_,_,.fl h r=>.fl (h.imp (λ⟨p,n⟩=>⟨p.imp (λq=>x _ _ q n) λ⟨o,q⟩=>⟨o,x _ _ q n⟩,n⟩) id) (aA.out x r)
 |_,_,.fd h n=>.fd (x _ _ h n) n
 |_,_,.exc h r=>.exc ⟨h.1,h.2.imp (λ⟨a,b,q⟩=>⟨a,b,x _ _ q h.1⟩) λ⟨dx,p,n,q,l⟩=>⟨dx,x _ _ p h.1,n,x _ _ q n,l⟩⟩ (aA.out x r)
 |_,_,.any v=>.any v
 |_,_,.ob h r=>.ob ⟨h.1,let ⟨dx,p,l⟩:=h.2;⟨dx,x _ _ p h.1,l⟩⟩ (aA.out x r)
theorem aA.out(x:cP U H H'):∀{ds:List D} {vs:List V},aA K cA U H ds vs->aA K cA U H' ds vs
 |_,_,.nil=>.nil
 |_,_,.cons h r=>.cons (Rep.out x h) (aA.out x r)
end
theorem aX.out(x:cP U H H'){d:Xv}{v:V}(h:aX K cA U H d v):aX K cA U H' d v:=by
 cases h with
 |d h=>exact .d (h.out x)
 |l h=>exact .l h
theorem aU.out(x:cP U H H')(h:aU K cA U H Z J):aU K cA U H' Z J:=⟨h.1,λi d e=>let ⟨v,a,b⟩:=h.2 i d e;⟨v,a,b.out x⟩⟩
theorem cP.refl:cP U H H:=λa o e _=>e
structure lW(K:W.Frag)(cA:Cl)(c:Src)(U:Ph)(H:Hp)(bZ:L2.It):Prop where
 stop:∀U' H₁ H' s' i,Ext U H U' H₁->cP U' H₁ H'->aG K cA U' H' s'->c.at i s'=some none->bZ.stop i H'
 go:∀U' H₁ H' s' i x,Ext U H U' H₁->cP U' H₁ H'->aG K cA U' H' s'->c.at i s'=some (some x)->bZ.go i H'
 yD:∀U' H₁ H' s' i x v H2,Ext U H U' H₁->cP U' H₁ H'->aG K cA U' H' s'->c.at i s'=some (some x)->bZ.yD i H' v H2->bA H' H2/\Rep K cA U' H2 x v
theorem LstAt.later(hz:∀a∈U.l,U.z a)(h:LstAt K U H a vs)(x:Ext U H U' H₁)(o:cP U' H₁ H'):LstAt K U' H' a vs:=
 (h.mono x hz).imp (λ⟨p,n⟩=>⟨p.imp (λq=>o _ _ q n) λ⟨w,q⟩=>⟨w,o _ _ q n⟩,n⟩) id
theorem TupAt.later(hz:∀a∈U.l,U.z a)(h:TupAt K U H a vs)(x:Ext U H U' H₁)(o:cP U' H₁ H'):TupAt K U' H' a vs:=
 (h.mono x hz).imp (λ⟨p,n⟩=>⟨p.imp (λq=>o _ _ q n) λ⟨w,q⟩=>⟨w,o _ _ q n⟩,n⟩) id
theorem lW.list(hz:∀a∈U.l,U.z a)(h:LstAt K U H a vs)(r:aA K cA U H xs vs):lW K cA (.fix xs) U H (Ii K a):=by
 refine⟨λU' H₁ H' s' i x o hS e=>⟨vs,(h.later hz x o).tD,?_⟩,λU' H₁ H' s' i d x o hS e=>?_,λU' H₁ H' s' i d v H2 x o hS e y=>?_⟩
 ·have e:xs[i]?=none:=cT e;exact oZ.mp ((r.mono x hz).none e)
 ·have e:xs[i]?=some d:=cT e;obtain⟨v,q,_⟩:=r.get e;exact⟨vs,v,(h.later hz x o).tD,q⟩
 ·have e:xs[i]?=some d:=cT e;obtain⟨rfl,y⟩:=y;obtain⟨w,q,pI⟩:=((r.mono x hz).out o).get e;have:=y vs (h.later hz x o).tD;rw[q] at this;cases this;exact⟨bA.refl,pI⟩
theorem lW.tuple(hz:∀a∈U.l,U.z a)(h:TupAt K U H a vs)(r:aA K cA U H xs vs):lW K cA (.fix xs) U H (Ls K a):=by
 refine⟨λU' H₁ H' s' i x o hS e=>⟨vs,(h.later hz x o).iC,?_⟩,λU' H₁ H' s' i d x o hS e=>?_,λU' H₁ H' s' i d v H2 x o hS e y=>?_⟩
 ·have e:xs[i]?=none:=cT e;exact oZ.mp ((r.mono x hz).none e)
 ·have e:xs[i]?=some d:=cT e;obtain⟨v,q,_⟩:=r.get e;exact⟨vs,v,(h.later hz x o).iC,q⟩
 ·have e:xs[i]?=some d:=cT e;obtain⟨rfl,y⟩:=y;obtain⟨w,q,pI⟩:=((r.mono x hz).out o).get e;have:=y vs (h.later hz x o).iC;rw[q] at this;cases this;exact⟨bA.refl,pI⟩
theorem OJ(h:(Src.live n).at i s=some o):∃xs,s[n]?=some (.lst xs)/\xs[i]?=o:=by
 unfold Src.at at h;dsimp only at h;cases e:s[n]? with
 |none=>rw[e] at h;cases h
 |some ob=>
  rw[e] at h;cases ob with
  |lst xs=>exact⟨xs,rfl,cT h⟩
  |_=>cases h
theorem lW.live(h:U.l[n]?=some a):lW K cA (.live n) U H (Ii K a):=by
 refine⟨λU' H₁ H' s' i x o hS e=>?_,λU' H₁ H' s' i d x o hS e=>?_,λU' H₁ H' s' i d v H2 x o hS e y=>?_⟩
 ·obtain⟨xs,e1,e2⟩:=OJ e;obtain⟨vs,q1,q2⟩:=hS.obj n _ a e1 (x.get h);exact⟨vs,cZ.of q1,oZ.mp (q2.none e2)⟩
 ·obtain⟨xs,e1,e2⟩:=OJ e;obtain⟨vs,q1,q2⟩:=hS.obj n _ a e1 (x.get h);obtain⟨v,q3,_⟩:=q2.get e2;exact⟨vs,v,cZ.of q1,q3⟩
 ·obtain⟨xs,e1,e2⟩:=OJ e;obtain⟨vs,q1,q2⟩:=hS.obj n _ a e1 (x.get h);obtain⟨w,q3,pI⟩:=q2.get e2;obtain⟨rfl,y⟩:=y;have:=y vs (cZ.of q1);rw[q3] at this;cases this;exact⟨bA.refl,pI⟩
theorem O1:(fQ a b)[i]?=if i<(b-a).toNat then some (.int (a+i)) else none:=by
 unfold fQ;rw[iz,List.getElem?_range']
where
 List.getElem?_range' {n i:Nat}:Option.map (λ(i:Nat)=>D.int (a+i)) (List.range n)[i]?=if i<n then some (.int (a+i)) else none:=by
  by_cases h:i<n
  ·rw[if_pos h,xQ h];rfl
  ·rw[if_neg h,List.getElem?_eq_none (by simp;lia)];rfl
theorem lW.range{a b:Int}:lW K cA (.fix (fQ a b)) U H (Dt a (b-a).toNat):=by
 refine⟨λU' H₁ H' s' i x o hS e=>?_,λU' H₁ H' s' i d x o hS e=>?_,λU' H₁ H' s' i d v H2 x o hS e y=>?_⟩
 ·have e:(fQ a b)[i]?=none:=cT e;rw[O1] at e;split at e
  ·cases e
  ·exact HB (by assumption)
 ·have e:(fQ a b)[i]?=some d:=cT e;rw[O1] at e;split at e
  ·assumption
  ·cases e
 ·have e:(fQ a b)[i]?=some d:=cT e;rw[O1] at e;split at e
  ·cases e;obtain⟨rfl,rfl⟩:=y;exact⟨bA.refl,.int _⟩
  ·cases e
end
noncomputable def O2(K:W.Frag)(te:TE):TI:=λZ H R=>te Z H λv H1=>∃a,v=.ref a/\(((∃xs,cZ K H1 a xs)/\R (Ii K a) H1)\/((∃xs,eZ K H1 a xs)/\R (Ls K a) H1))
theorem zjZ(he:PE X l te):PI X tg l (O2 X.K te):=by
 intro ak s Z H R I h;refine aW (he ak s Z H _ I h) λv s1 hx=>HY hx λx H1 I1 r1 a e q=>?_;subst e;cases r1;rcases q with ⟨⟨xs,hq⟩,q⟩|⟨⟨xs,hq⟩,q⟩
 ·obtain⟨its,rv,p,hz⟩:=I1.list hq;refine wpAny_pyIter_list p.isList ?_;refine⟨s1.heap.objs.size,[s1.heap.objs.size],_,_,H1,rfl,I1.kept (t':=s1.toks) λb o e=>cO _ e,zeU a _,⟨_,gw _ rfl,rfl,rfl⟩,λb hb=>?_,q⟩;have e:b=s1.heap.objs.size:=by simpa using hb
  subst e;exact I1.uc (bU _) (I1.hok.fresh (bU _))
 ·obtain⟨its,rv,p,hz⟩:=I1.tuple hq;refine wpAny_pyIter_tuple (show s1.heap.IsTuple a its.toArray from p) ?_;refine⟨s1.heap.objs.size,[s1.heap.objs.size],_,_,H1,rfl,I1.kept (t':=s1.toks) λb o e=>cO _ e,zd9 a _,⟨_,gw _ rfl,rfl,rfl⟩,λb hb=>?_,q⟩;have e:b=s1.heap.objs.size:=by simpa using hb
  subst e;exact I1.uc (bU _) (I1.hok.fresh (bU _))
section
variable {X:Cx}{cA:Cl}{ao:Nat->Nat->Bool}{aj:Bool}{F:Fn}{EX:XS}{a b tg:Expr}{A B:E}{pos pp:Pos}
noncomputable def tI(K:W.Frag)(cA:Cl)(EX:XS)(m:Vs->M (Src×Nat)):TI:=λZ H R=>∃U J s,aU K cA U H Z J/\aG K cA U H s/\Run K cA (m J) U H s (λcn _ U1 H1=>∀bZ,lW K cA cn.1 U1 H1 bZ->R bZ H1) (eX K cA EX Z)
def SI(X:Cx)(cA:Cl)(ao:Nat->Nat->Bool)(aj:Bool)(F:Fn)(EX:XS)(tg iter:Expr)(w:Wk):Prop:=PI X tg iter (tI X.K cA EX (kW ao aj F w))
theorem PI.weak{iter:Expr}{t t':TI}(h:PI X tg iter t)(f:∀Z H Q,t' Z H Q->t Z H Q):PI X tg iter t':=λak s Z H Q I q=>h ak s Z H Q I (f Z H Q q)
theorem zi2(ha:SE X cA ao aj F EX a A):SI X cA ao aj F EX tg a (.seq A):=PI.weak (zjZ ha) λZ H R hh=>un hh λU J s hL hS h=>by
 refine bF hL hS h λv H1 U1 d s1 x1 hL1 aL r1 h1=>?_;cases r1 with
 |@l n ad hl=>
  unfold Run src at h1;dsimp only at h1;cases e:s1[n]? with
  |none=>rw[e] at h1;exact h1.elim
  |some o=>
   rw[e] at h1;cases o with
   |lst xs=>
    obtain⟨vs,q1,q2⟩:=aL.obj n _ _ e hl;exact⟨ad,rfl,.inl ⟨⟨vs,cZ.of q1⟩,h1 U1 H1 Ext.refl aL _ (lW.live hl)⟩⟩
   |_=>exact h1.elim
 |d r1=>
  cases r1 with
  |tup q r=>exact⟨_,rfl,.inr ⟨⟨_,q.iC⟩,h1 U1 H1 Ext.refl aL _ (lW.tuple aL.lz q r)⟩⟩
  |fl q r=>exact⟨_,rfl,.inl ⟨⟨_,q.tD⟩,h1 U1 H1 Ext.refl aL _ (lW.list aL.lz q r)⟩⟩
  |_=>exact h1.elim
theorem VD{i:Int}(h:dJ i=true) : -(2^62)<=i/\i<2^62:=by
 unfold dJ at h;rw[eU,xU,xU] at h;exact⟨by lia,h.2⟩
theorem VF{K:W.Frag}{U:Ph}{H:Hp}{s:S}{i j:Int}{P:Src×Nat->S->Ph->Hp->Prop}{Ee:Nat->List D->S->Ph->Hp->Prop}(hS:aG K cA U H s)(h:Run K cA (if (dJ i&&dJ j)=true then M.ret (Src.fix (fQ i j),(fQ i j).length) else M.no) U H s P Ee):(-(2^62)<=i/\i<2^62/\-(2^62)<=j/\j<2^62)/\P (.fix (fQ i j),(fQ i j).length) s U H:=by
 by_cases hk:(dJ i&&dJ j)=true
 ·rw[if_pos hk] at h;rw[eU] at hk;obtain⟨a,b⟩:=VD hk.1;obtain⟨c,d⟩:=VD hk.2;exact⟨⟨a,b,c,d⟩,h.bG hS⟩
 ·rw[if_neg hk] at h;exact h.elim
theorem zlL(rB:Gl X "range")(hmg:X.mg "range"=none)(ha:SE X cA ao aj F EX a A)(hb:SE X cA ao aj F EX b B)(h1:starEach [a,b] X.env=(false,eval a X.env)::starEach [b] X.env)(h2:starEach [b] X.env=(false,eval b X.env)::starEach [] X.env) :
  SI X cA ao aj F EX tg (.Call (.Name "range" pp) [a,b] [] pos) (.rg A B):=PI.weak (zeO rB hmg (uo ha (uo hb Aw h2) h1) (by rw[h1,h2];rfl) (by rw[h2];rfl)) λZ H R hh=>un hh λU J s hL hS h=>by
 refine bF hL hS h λx H1 U1 d1 s1 x1 hL1 aL r1 h1=>bF hL1 aL h1 λy H2 U2 d2 s2 x2 hL2 bf r2 h2=>?_;obtain⟨i,_,e1,h3⟩:=Gf (r1.mono x2 aL.lz) h2;obtain⟨j,_,e2,h4⟩:=Gf r2 h3;obtain⟨hz,q⟩:=VF bf h4;subst e1 e2;exact⟨i,j,rfl,hz,q _ lW.range⟩
theorem zjT(rB:Gl X "range")(hmg:X.mg "range"=none)(hb:SE X cA ao aj F EX b B)(h2:starEach [b] X.env=(false,eval b X.env)::starEach [] X.env) :
  SI X cA ao aj F EX tg (.Call (.Name "range" pp) [b] [] pos) (.rg (.c (.int 0)) B):=PI.weak (ze8 rB hmg (uo hb Aw h2) (by rw[h2];rfl)) λZ H R hh=>un hh λU J s hL hS h=>by
 have h:Run X.K cA (M.bd (ev ao aj F B J) λy=>M.bd (int (.d (.int 0))) λi=>M.bd (int y) λj=>if (dJ i&&dJ j)=true then M.ret (Src.fix (fQ i j),(fQ i j).length) else M.no) U H s _ _:=h;refine bF hL hS h λy H2 U2 d2 s2 x2 hL2 bf r2 h2=>?_;obtain⟨j,_,e2,h4⟩:=Gf r2 (show Run X.K cA (M.bd (int d2) λj=>if (dJ 0&&dJ j)=true then M.ret (Src.fix (fQ 0 j),(fQ 0 j).length) else M.no) U2 H2 s2 _ _ from h2);obtain⟨hz,q⟩:=VF bf h4;subst e2;refine⟨j,rfl,hz.2.2.1,hz.2.2.2,q _ ?_⟩;have:=lW.range (K:=X.K) (cA:=cA) (U:=U2) (H:=H2) (a:=0) (b:=j);rw[Int.sub_zero] at this;exact this
end
section
variable {K:W.Frag}{cA:Cl}{U U' U0:Ph}{H H' H0:Hp}{s:S}
theorem Run.bd0(x:Ext U0 H0 U H)(h:Run K cA (M.bd m k) U0 H0 s P Ee) :
  Run K cA m U H s (λa s1 U1 H1=>Ext U H U1 H1/\aG K cA U1 H1 s1/\Run K cA (k a) U0 H0 s1 P Ee) Ee:=by
 unfold Run M.bd at *;cases e:m s with
 |none=>rw[e] at h;exact h
 |some r=>
  obtain⟨r,s1⟩:=r;rw[e] at h;cases r with
  |er c f=>exact λU1 H1 x1 r1=>h U1 H1 (x.trans x1) r1
  |ok a=>exact λU1 H1 x1 r1=>⟨x1,r1,h⟩
theorem VG{α β:Type}{m:M α}{k:α->M β}{P:β->S->Ph->Hp->Prop}{Ee Ee':Nat->List D->S->Ph->Hp->Prop}(x:Ext U0 H0 U H)(h:Run K cA (M.bd (M.qt m) k) U0 H0 s P Ee) :
  Run K cA m U H s (λa s1 U1 H1=>Ext U H U1 H1/\aG K cA U1 H1 s1/\Run K cA (k a) U0 H0 s1 P Ee) Ee':=by
 have h2:=h.bd0 x;unfold Run at h2 ⊢;unfold M.qt at h2;cases e:m s with
 |none=>rw[e] at h2;exact h2
 |some r=>
  obtain⟨r,s1⟩:=r;rw[e] at h2;cases r with
  |ok a=>exact h2
  |er c f=>exact h2.elim
theorem zjf{α β:Type}{m m':M α}{k:α->M β}{P:β->S->Ph->Hp->Prop}{Ee:Nat->List D->S->Ph->Hp->Prop}(e:m s=m' s)(h:Run K cA (M.bd m k) U H s P Ee):Run K cA (M.bd m' k) U H s P Ee:=by
 unfold Run M.bd at *;rw[<-e];exact h
end
section
variable {X:Cx}{cA:Cl}{ao:Nat->Nat->Bool}{aj:Bool}{F:Fn}{EX:XS}{elt iter tg:Expr}{A B:E}{pos p:Pos}{ifs:List Expr}{scope:Scope}{N:List Str}{cond:Eo}{fr cQ:List Nat}{many:Nat}{fz:Bool}{w:Wk}
def Gu(X:Cx)(cA:Cl)(ao:Nat->Nat->Bool)(aj:Bool)(F:Fn)(EX:XS)(ifs:List Expr)(m:Eo):Prop:=Iw X ifs (uL X.K cA EX (oF ao aj F m))
theorem zjy:Gu X cA ao aj F EX [] .no:=λak s Z H Q I ⟨U,J,st,hL,hS,h⟩=>zhL ak s Z H Q I (h.bG hS)
theorem ziq(h:ST X cA ao aj F EX c C):Gu X cA ao aj F EX [c] (.yes C):=ziN h
structure kZ(K:W.Frag)(cA:Cl)(g:TG)(cQ:List Nat):Prop where
 run:∀(U:Ph) (H:Hp) (s:S) (Z:L2.St) (J J':Vs) (d:D) (v:V) (Q:L2.St->Hp->Prop),aU K cA U H Z J->aG K cA U H s->Rep K cA U H d v->eF cQ d J=some J'->
  (∀Z',aU K cA U H Z' J'->Z'.length=Z.length->(∀i,i∉cQ->Z'[i]?=Z[i]?)->Q Z' H)->g v Z H Q
theorem lX{K:W.Frag}(i:Nat):kZ K cA (cX i) [i] where
 run:=λU H s Z J J' d v Q hL hS r e k=>by
  cases e;exact k _ (hL.set (.d r)) (qd ..) λj hj=>tX (by simpa using λz=>hj (by simp[z]))
theorem O4{K:W.Frag}(i j:Nat):kZ K cA (qK K 2 (fK (cX i) (fK (cX j) qJ))) [i,j] where
 run:=λU H s Z J J' d v Q hL hS r e k=>by
  have e:(jG d).bind (λds=>fu [i,j] (ds.map Xv.d) J)=some J':=e;obtain⟨ds,e1,e2⟩:=sI.mp e;cases r with
  |@tup ad xs vs h1 h2=>
   have e1:xs=ds:=cT e1;subst e1;cases h2 with
   |nil=>cases e2
   |cons r1 t1=>
    cases t1 with
    |nil=>cases e2
    |cons r2 t2=>
     cases t2 with
     |nil=>
      have e2:=cT e2;subst e2;refine⟨ad,_,rfl,h1.iC,rfl,_,_,rfl,_,_,rfl,rfl,k _ ((hL.set (.d r1)).set (.d r2)) (by rw[qd,qd]) λm hm=>?_⟩;rw[tX (λz=>hm (by simp[z])),tX (λz=>hm (by simp[z]))]
     |cons r3 t3=>cases e2
  |_=>cases e1
noncomputable def cB(many:Nat)(fr:List Nat)(Z:L2.St):L2.St:=List.replicate many none++fr.map λj=>(Z[j]?).join
theorem zie{U:Ph}{H:Hp}{Z:L2.St}{J:Vs}(hL:aU X.K cA U H Z J){Z':L2.St}(hl:Z'.length=many+fr.length)(hf:∀(i:Nat) j v,fr[i]?=some j->Z[j]?=some (some v)->Z'[many+i]?=some (some v)):aU X.K cA U H Z' (blk many fr J):=by
 refine⟨by unfold blk;simp[hl],λi d e=>?_⟩;unfold blk at e;by_cases hi:i<many
 ·rw[nG (by simpa using hi),Hq,if_pos hi] at e;cases e
 ·rw[oY (by simpa using HB hi),Ca,iz] at e;cases z:fr[i-many]? with
  |none=>rw[z] at e;cases e
  |some j=>
   rw[z] at e;have e3:J[j]?.join=some d:=by simpa using e
   obtain⟨v,q1,q2⟩:=hL.2 j d (Ol e3);refine⟨v,?_,q2⟩;have:=hf (i-many) j v z q1;rw[show many+(i-many)=i by omega] at this;exact this
structure dD(U:Ph)(H:Hp)(Dd:Addr)(o:HO):Prop where
 at_:H Dd=some o
 nl:Dd∉U.l
 z:U.z Dd
abbrev Keep(U:Ph)(H:Hp)(Dd:Addr)(vs:List V):Prop:=dD U H Dd (.lst vs)
theorem dD.mono{U U':Ph}{H H':Hp}{Dd:Addr}{o:HO}(x:Ext U H U' H')(k:dD U H Dd o):dD U' H' Dd o:=by
 refine⟨x.frame _ _ k.at_ k.nl,λz=>?_,x.qg _ k.z⟩;obtain⟨r,er,hr⟩:=x.more;rw[er] at z;rcases jh.mp z with z|z
 ·exact k.nl z
 ·have:=hr _ z;rw[k.at_] at this;cases this
theorem dD.ext{U:Ph}{H:Hp}{Dd:Addr}{o u:HO}(k:dD U H Dd o):(∀a o,H a=some o->¬U.z a->(upd H Dd u) a=some o)/\dD U (upd H Dd u) Dd u:=
 ⟨λa o e n=>by rw[dz (λz=>n (by rw[z];exact k.z))];exact e,jB,k.nl,k.z⟩
end
section
variable {K:W.Frag}{cA:Cl}{U U':Ph}{H H':Hp}
theorem aG.keep{s:S}{Dd:Addr}{o u:HO}(h:aG K cA U H s)(k:dD U H Dd o):aG K cA U (upd H Dd u) s:=by
 have x:cP U H (upd H Dd u):=k.ext.1;refine⟨h.len,λn o a e1 e2=>?_,h.uniq,h.lz,λa z=>?_⟩
 ·have na:a≠Dd:=λy=>k.nl (by rw[<-y];exact dH e2);exact(h.obj n o a e1 e2).map (λ_ q=>by rw[dz na];exact q) λ_ _ r=>r.out x
 ·by_cases e:a=Dd
  ·subst e;exact⟨_,jB⟩
  ·obtain⟨o,q⟩:=h.zt a z;exact⟨o,by rw[dz e];exact q⟩
theorem Ext.keep{U1:Ph}{H1:Hp}{Dd:Addr}{vs:List V}{u:HO}(x:Ext U1 H1 U H)(hD:H1 Dd=none):Ext U1 H1 U (upd H Dd u):=by
 refine⟨x.more,x.qg,x.kY,λa o h n=>?_,λa o h=>?_⟩
 ·rw[dz (λz=>by rw[z,hD] at h;cases h)];exact x.frame a o h n
 ·rw[dz (λz=>by rw[z,hD] at h;cases h)];exact x.stay a o h
theorem zeQ{U1:Ph}{H1:Hp}{s':S}{fz:Bool}{acc:List D}{vs:List V}{Dd:Addr}{Q:VK}{Ee:Nat->List D->S->Ph->Hp->Prop}(h:Run K cA (newL fz acc) U1 H1 s' (λd _ U' H'=>∀v,aX K cA U' H' d v->Q v H') Ee)
  (x2:Ext U1 H1 U' H') (hD:H1 Dd=none) (nz:¬U1.z Dd) (bf:aG K cA U' H' s') (k:Keep U' H' Dd vs) (wO:aA K cA U' H' acc vs):Q (.ref Dd) H':=by
 cases fz with
 |true=>
  have zq:∀a,(λa=>U'.z a/\a≠Dd) a->U'.z a:=λa z=>z.1;refine h ⟨λa=>U'.z a/\a≠Dd,U'.l⟩ H' ⟨x2.more,λa z=>⟨x2.qg a z,λe=>nz (by rw[<-e];exact z)⟩,λa z=>x2.kY a z.1,x2.frame,x2.stay⟩ ?_ _ (.d (.fl (.inl ⟨.inl k.at_,λz=>z.2 rfl⟩) (aA.iY (U:=U') zq wO)));refine⟨bf.len,λn o a e1 e2=>je.iY (U:=U') zq (bf.obj n o a e1 e2),bf.uniq,λa ha=>⟨bf.lz a ha,λe=>k.nl (by rw[<-e];exact ha)⟩,λa z=>bf.zt a z.1⟩
 |false=>
  obtain⟨r,er,hr⟩:=x2.more;refine h ⟨U'.z,U'.l++[Dd]⟩ H' ⟨⟨r++[Dd],by show U'.l++[Dd]=_;rw[er,Hw],λb hb=>?_⟩,x2.qg,x2.kY,x2.frame,x2.stay⟩ ?_ _ (.l (by show (U'.l++[Dd])[s'.length]?=_;rw[<-bf.len];simp))
  ·rcases jh.mp hb with z|z
   ·exact hr b z
   ·simp at z;subst z;exact hD
  ·refine⟨by show (U'.l++[Dd]).length=_;rw[iI,iI,bf.len];rfl,λm o' a' e1 e2=>?_,?_,λb hb=>?_,bf.zt⟩
   ·have e2:(U'.l++[Dd])[m]?=some a':=e2;by_cases hm:m<s'.length
    ·rw[nG hm] at e1;rw[nG (by rw[bf.len];exact hm)] at e2;exact je.zl (bf.obj m o' a' e1 e2) _
    ·have Bp:m=s'.length:=by
      have z:=(fB.mp e2).1;rw[iI,bf.len] at z;simp at z;omega
     subst Bp;rw[oY (bU _)] at e1;rw[oY (by rw[bf.len];exact bU _)] at e2;simp at e1;simp[bf.len] at e2;subst e1 e2;exact⟨vs,k.at_,aA.zl wO _⟩
   ·show (U'.l++[Dd]).Nodup;rw[Hy];refine⟨bf.uniq,by simp,λb hb c hc e=>?_⟩;simp at hc;subst hc e;exact k.nl hb
   ·have hb:b∈U'.l++[Dd]:=hb;rcases jh.mp hb with z|z
    ·exact bf.lz b z
    ·simp at z;subst z;exact k.z
noncomputable def Ph.mark(U:Ph)(p:Addr):Ph:=⟨λa=>U.z a\/a=p,U.l⟩
theorem zeh{s:S}{p:Addr}(hS:aG K cA U H s)(hp:H p=none):Ext U H (U.mark p) (upd H p (.lst []))/\aG K cA (U.mark p) (upd H p (.lst [])) s/\Keep (U.mark p) (upd H p (.lst [])) p []:=by
 have g:=bA.new (o:=.lst []) hp;have nz:=hS.nz hp;refine⟨⟨⟨[],by simp[Ph.mark],by simp⟩,λa z=>.inl z,λa z=>z.imp id λe=>by rw[e];exact hp,λa o h _=>g a o h,λa o h=>⟨o,g a o h⟩⟩,⟨hS.len,λn o a e1 e2=>?_,hS.uniq,λa ha=>.inl (hS.lz a ha),λa z=>?_⟩,jB,λz=>nz (hS.lz p z),.inr rfl⟩
 ·have x:Ext U H (U.mark p) (upd H p (.lst [])):=⟨⟨[],by simp[Ph.mark],by simp⟩,λa z=>.inl z,λa z=>z.imp id λe=>by rw[e];exact hp,λa o h _=>g a o h,λa o h=>⟨o,g a o h⟩⟩;exact(hS.obj n o a e1 e2).map (g _) λ_ _ r=>r.mono x hS.lz
 ·rcases z with z|z
  ·obtain⟨o,e⟩:=hS.zt a z;exact⟨o,g _ _ e⟩
  ·subst z;exact⟨_,jB⟩
end
section
variable {X:Cx}{cA:Cl}{ao:Nat->Nat->Bool}{aj:Bool}{F:Fn}{EX:XS}{elt iter tg:Expr}{A B:E}{pos p:Pos}{ifs:List Expr}{scope:Scope}{N:List Str}{cond:Eo}{fr cQ:List Nat}{many:Nat}{fz:Bool}{w:Wk}
noncomputable abbrev eG(ao:Nat->Nat->Bool)(aj:Bool)(F:Fn)(B:E)(cond:Eo)(cQ:List Nat)(Jb:Vs):D->List D->M (List D):=λd acc=>M.bd (M.opt (eF cQ d Jb)) λJ'=>M.bd (M.qt (oF ao aj F cond J')) λok=>
    if ok=true then M.bd (M.qt (ev ao aj F B J')) λy=>M.bd (dat y) λe=>if acc.length<sizeLine then M.ret (acc++[e]) else M.no else M.ret acc
theorem VH{H:Hp}{a:Addr}{o:HO}(h:H a=some o):upd H a o=H:=funext λb=>by
 by_cases z:b=a
 ·subst z;rw[jB,h]
 ·rw[dz z]
theorem zf4{K:W.Frag}{g:TG}{U1 U':Ph}{H1 H2:Hp}{s':S}{Z':L2.St}{Jb:Vs}{Dd:Addr}{acc:List D}{vs:List V}{xi:D}{v:V}{β:Type}{kk:List D->M β}{P:β->S->Ph->Hp->Prop}{Ee:Nat->List D->S->Ph->Hp->Prop}(hT:kZ K cA g cQ)(fV:∀i∈cQ,i<many)
  (hD:H1 Dd=none) (x2:Ext U1 H1 U' H2) (hL2:aU K cA U' H2 Z' Jb) (bf:aG K cA U' H2 s') (kp:Keep U' H2 Dd vs) (wO:aA K cA U' H2 acc vs) (rx:Rep K cA U' H2 xi v)
  (h:Run K cA (M.bd (eG ao aj F B cond cQ Jb xi acc) kk) U1 H1 s' P Ee) {Nn:L2.St->Hp->Prop}
  (hN:∀Z3 H3 U3 s3 uV Jg,Z3.length=Z'.length->(∀i,many<=i->Z3[i]?=Z'[i]?)->Ext U1 H1 U3 H3->Ext U' H2 U3 (upd H3 Dd (.lst vs))->aG K cA U3 H3 s3->Keep U3 H3 Dd Jg->aA K cA U3 H3 uV Jg->Run K cA (kk uV) U1 H1 s3 P Ee->Nn Z3 H3) :
  g v Z' H2 λZ3 H3=>uL K cA (λ_ _ _ _=>False) (oF ao aj F cond) Z3 H3 λok H4=>
   if ok=true then tE K cA (λ_ _ _ _=>False) (ev ao aj F B) Z3 H4 λy H5=>∃ys,H5 Dd=some (.lst ys)/\ys.length<sizeLine/\Nn Z3 (upd H5 Dd (.lst (ys++[y]))) else Nn Z3 H4:=by
 unfold eG at h;rw[iw] at h;obtain⟨J',e1,h1⟩:=U9 h;refine hT.run U' H2 s' Z' Jb J' xi v _ hL2 bf rx e1 λZ3 zy VJ hf3=>?_;rw[iw] at h1;have kf:∀i,many<=i->Z3[i]?=Z'[i]?:=λi hi=>hf3 i λz=>absurd (fV i z) (Nat.not_lt.mpr hi);refine⟨U',J',s',zy,bf,(VG x2 h1).imp λok s4 U4 H4 ⟨x4,wJ,h6⟩=>?_⟩;cases ok with
 |false=>
  refine iF (hN Z3 H4 U4 s4 acc vs VJ kf (x2.trans x4) (by rw[VH (kp.mono x4).at_];exact x4) wJ (kp.mono x4) (wO.mono x4 bf.lz) ?_);rw[if_neg J0] at h6;exact h6
 |true=>
  rw[if_pos rfl,iw] at h6;refine iT ⟨U4,J',s4,zy.mono x4 bf.lz,wJ,(VG (x2.trans x4) h6).imp λy s5 U5 H5 ⟨x5,hS5,h7⟩ u ru=>?_⟩;rw[iw] at h7;have k5:=(kp.mono x4).mono x5;have r5:=(wO.mono x4 bf.lz).mono x5 wJ.lz;have x15:=(x2.trans x4).trans x5;obtain⟨dd,ey,rd,h8⟩ : ∃d,y=.d d/\Rep K cA U5 H5 d u/\Run K cA (M.bd (if acc.length<sizeLine then M.ret (acc++[d]) else M.no) kk) U1 H1 s5 P Ee:=by
   cases ru with
   |l _=>exact h7.elim
   |d r=>exact⟨_,rfl,r,h7⟩
  by_cases hz:acc.length<sizeLine
  ·rw[if_pos hz] at h8;refine⟨vs,k5.at_,by rw[<-r5.len];exact hz,?_⟩;have ox:cP U5 H5 (upd H5 Dd (.lst (vs++[u]))):=k5.ext.1;exact hN Z3 _ U5 s5 (acc++[dd]) (vs++[u]) VJ kf (Ext.keep (vs:=vs) x15 hD) (by rw[Sy,VH k5.at_];exact x4.trans x5) (hS5.keep k5) k5.ext.2 ((r5.app (.cons rd .nil)).out ox) h8
  ·rw[if_neg hz] at h8;exact h8.elim
theorem VL{g:TG}{iter':Expr}(hT:kZ X.K cA g cQ)(fV:∀i∈cQ,i<many){Z:L2.St}{H:Hp}{Q:VK}(hh:tE X.K cA EX (ev ao aj F (.comp fz B cQ w fr many cond)) Z H Q) :
  qM (tI X.K cA EX (kW ao aj F w)) (cB many fr) g (uL X.K cA (λ_ _ _ _=>False) (oF ao aj F cond)) (tE X.K cA (λ_ _ _ _=>False) (ev ao aj F B)) Z H Q:=un hh λU J s hL hS h=>by
 by_cases dX:aj=true
 ·have h:Run X.K cA (if aj=true then M.bd (kW ao aj F w J) λcn=>M.bd (walk cn.1 (eG ao aj F B cond cQ (blk many fr J)) (cn.2+1) 0 []) λxs=>newL fz xs else M.no) U H s (λd _ U' H'=>∀v,aX X.K cA U' H' d v->Q v H') (eX X.K cA EX Z):=h;rw[if_pos dX] at h;refine⟨U,J,s,hL,hS,h.bd.imp λcn s1 U1 H1 ⟨x1,aL,h1⟩ bZ hJ=>?_⟩;have hL1:=hL.mono x1 hS.lz;obtain⟨c,n⟩:=cn;dsimp only at h1 hJ;intro Dd hD;obtain⟨x0,hS0,k0⟩:=zeh aL hD;have O5:∀{Z':L2.St},(Z'.length=many+fr.length/\∀i,many<=i->Z'[i]?=(cB many fr Z)[i]?)->∀{U' H'},Ext U1 H1 U' H'->aU X.K cA U' H' Z' (blk many fr J):=λ{Z'} hZ {U' H'} x=>zie (hL1.mono x aL.lz) hZ.1 λi j v e1 e2=>by
   rw[hZ.2 _ (by omega)];unfold cB;rw[oY Nj,Ca,iz,show many+i-many=i by omega,e1];simp[e2]
  refine⟨λi m Z' H'=>m=n+1-i/\(Z'.length=many+fr.length/\∀i,many<=i->Z'[i]?=(cB many fr Z)[i]?)/\∃U' s' acc vs,Ext U1 H1 U' H'/\aG X.K cA U' H' s'/\Keep U' H' Dd vs/\aA X.K cA U' H' acc vs /\
   Run X.K cA (M.bd (walk c (eG ao aj F B cond cQ (blk many fr J)) (n+1-i) i acc) λxs=>newL fz xs) U1 H1 s' (λd _ U' H'=>∀v,aX X.K cA U' H' d v->Q v H') (eX X.K cA EX Z),⟨n+1,rfl,⟨by simp[cB],λi _=>rfl⟩,U1.mark Dd,s1,[],[],x0,hS0,k0,.nil,h1⟩,?_⟩
  rintro i m Z' H' ⟨rfl,hZ,U',s',acc,vs,x2,bf,kp,wO,h3⟩;have hL2:=O5 hZ x2;cases ek:n+1-i with
  |zero=>rw[ek] at h3;exact h3.elim
  |succ k=>
   rw[ek] at h3;cases ei:c.at i s' with
   |none=>
    exfalso
    unfold Run M.bd walk at h3;simp only[ei] at h3
   |some oi=>
    cases oi with
    |none=>
     refine .inl ⟨hJ.stop U' H' H' s' i x2 cP.refl bf ei,?_⟩;have h4:Run X.K cA (newL fz acc) U1 H1 s' (λd _ U' H'=>∀v,aX X.K cA U' H' d v->Q v H') (eX X.K cA EX Z):=by
      unfold Run M.bd walk at h3;simp only[ei] at h3;exact h3
     exact zeQ h4 x2 hD (aL.nz hD) bf kp wO
    |some xi=>
     refine .inr ⟨hJ.go U' H' H' s' i xi x2 cP.refl bf ei,λZ2 H2=>(Z2.length=many+fr.length/\∀i,many<=i->Z2[i]?=(cB many fr Z)[i]?)/\∃U' s' acc vs,Ext U1 H1 U' H2/\aG X.K cA U' H2 s'/\Keep U' H2 Dd vs/\aA X.K cA U' H2 acc vs /\
      Run X.K cA (M.bd (walk c (eG ao aj F B cond cQ (blk many fr J)) k (i+1) acc) λxs=>newL fz xs) U1 H1 s' (λd _ U' H'=>∀v,aX X.K cA U' H' d v->Q v H') (eX X.K cA EX Z),λZ2 H2 hn=>⟨k,by omega,by omega,hn.1,?_⟩,λv H2 hy=>?_⟩
     ·have:n+1-(i+1)=k:=by omega
      rw[this];exact hn.2
     ·obtain⟨gr,rx⟩:=hJ.yD U' H' H' s' i xi v H2 x2 cP.refl bf ei hy;have h4:Run X.K cA (M.bd (eG ao aj F B cond cQ (blk many fr J) xi acc) λacc'=>M.bd (walk c (eG ao aj F B cond cQ (blk many fr J)) k (i+1) acc') λxs=>newL fz xs) U1 H1 s' (λd _ U' H'=>∀v,aX X.K cA U' H' d v->Q v H') (eX X.K cA EX Z):=by
       have h5:=zjf (m':=M.bd (eG ao aj F B cond cQ (blk many fr J) xi acc) λacc'=>walk c (eG ao aj F B cond cQ (blk many fr J)) k (i+1) acc') (by rw[walk];simp only[ei]) h3;rw[iw] at h5;exact h5
      exact zf4 hT fV hD (x2.trans gr.ext) (hL2.mono gr.ext bf.lz) (bf.grow gr) (kp.mono gr.ext) (wO.mono gr.ext bf.lz) rx h4 λZ3 H3 U3 s3 uV Jg l3 f3 x3 _ lV k3 r3 h6=>⟨⟨l3.trans hZ.1,λi hi=>(f3 i hi).trans (hZ.2 i hi)⟩,U3,s3,uV,Jg,x3,lV,k3,r3,h6⟩
 ·have h:Run X.K cA (if aj=true then M.bd (kW ao aj F w J) λcn=>M.bd (walk cn.1 (eG ao aj F B cond cQ (blk many fr J)) (cn.2+1) 0 []) λxs=>newL fz xs else M.no) U H s (λd _ U' H'=>∀v,aX X.K cA U' H' d v->Q v H') (eX X.K cA EX Z):=h;rw[if_neg dX] at h;exact h.elim
theorem VN{XN:List Str}(qe:∀(i:Nat) (y:Str) (j:Nat),N[many+i]?=some y->fr[i]?=some j->scope.names.lookup y=some .free/\XN[j]?=some y)(Z:L2.St)(i:Nat)(x:Str)(v:V)(e1:N[i]?=some x)(e2:(cB many fr Z)[i]?=some (some v)):scope.names.lookup x=some .free/\∃j:Nat,XN[j]?=some x/\Z[j]?=some (some v):=by
 unfold cB at e2;by_cases hi:i<many
 ·rw[nG (by simpa using hi),Hq,if_pos hi] at e2;cases e2
 ·rw[oY (by simpa using HB hi),Ca,iz] at e2;cases z:fr[i-many]? with
  |none=>rw[z] at e2;cases e2
  |some j=>
   rw[z] at e2;have e3:(Z[j]?).join=some v:=by simpa using e2
   obtain⟨a1,a2⟩:=qe (i-many) x j (by rw[show many+(i-many)=i by omega];exact e1) z;exact⟨a1,j,a2,Ol e3⟩
theorem VP{g:TG}(hc:X.aj=true)(B':cR X.env.scope scope)(hi:SI X cA ao aj F EX tg iter w)(hN:N.length=many+fr.length)
  (qe:∀(i:Nat) (y:Str) (j:Nat),N[many+i]?=some y->fr[i]?=some j->scope.names.lookup y=some .free/\X.N[j]?=some y)
  (hg:∀cl C s3 H3 fp ak,PG (X.blk scope cl N C s3 H3 fp ak) tg g) (hT:kZ X.K cA g cQ) (fV:∀i∈cQ,i<many)
  (ht:∀cl C s3 H3 fp ak,Gu (X.blk scope cl N C s3 H3 fp ak) cA ao aj F (λ_ _ _ _=>False) ifs cond) (he:∀cl C s3 H3 fp ak,SE (X.blk scope cl N C s3 H3 fp ak) cA ao aj F (λ_ _ _ _=>False) elt B)
  (hs:∀x,foldedSetIterable iter X.env x=pure x:=by intro _;rfl):SE X cA ao aj F EX (.ListComp elt [⟨tg,iter,ifs,0⟩] scope pos) (.comp fz B cQ w fr many cond):=
 PE.weak (ziy hc B' hi (⟨hg,ht,he⟩ : Parts X elt tg ifs scope N g (uL X.K cA (λ_ _ _ _=>False) (oF ao aj F cond)) (tE X.K cA (λ_ _ _ _=>False) (ev ao aj F B))) (ZY:=cB many fr) (λZ=>by simp[cB,hN]) (λZ i x v e1 e2=>VN qe Z i x v e1 e2) hs) λZ H Q hh=>VL (iter':=iter) hT fV hh
end
section
variable (K:W.Frag)(cA:Cl)
def aP(m:MS)(U:Ph)(H:Hp)(s:S)(D:Ends)(EX:XS):Prop:=match m s with
 |some (.nx J,s')=>∀U' H' Z',Ext U H U' H'->aG K cA U' H' s'->aU K cA U' H' Z' J->D.nx Z' H'
 |some (.bk J,s')=>∀U' H' Z',Ext U H U' H'->aG K cA U' H' s'->aU K cA U' H' Z' J->D.bk Z' H'
 |some (.ct J,s')=>∀U' H' Z',Ext U H U' H'->aG K cA U' H' s'->aU K cA U' H' Z' J->D.ct Z' H'
 |some (.rt d,s')=>∀U' H' v,Ext U H U' H'->aG K cA U' H' s'->aX K cA U' H' d v->D.rt v H'
 |some (.er c fs J,s')=>∀U' H' Z',Ext U H U' H'->aG K cA U' H' s'->aU K cA U' H' Z' J->∀dx,iV K cA U' H' c fs dx->EX Z' (.ref (cA.a c)) dx H'
 |none=>False
noncomputable def tS(EX:XS)(m:Vs->MS):TS:=λD Z H=>∃U J s,aU K cA U H Z J/\aG K cA U H s/\aP K cA (m J) U H s D EX
end
section
variable {K:W.Frag}{cA:Cl}{U U':Ph}{H H':Hp}{s:S}{Z:L2.St}{J:Vs}{EX:XS}{D:Ends}
theorem aP.ext{m:MS}(x:Ext U H U' H')(h:aP K cA m U H s D EX):aP K cA m U' H' s D EX:=by
 unfold aP at *;split at h<;>first
  |exact λU2 H2 a y r l=>h U2 H2 a (x.trans y) r l
  |exact h.elim
theorem aP.ofM{α:Type}{m:M α}{k:α->MS}(hL:aU K cA U H Z J)(hz:∀a∈U.l,U.z a)(h:aP K cA (ofM m J k) U H s D EX):Run K cA m U H s (λa s1 U1 H1=>Ext U H U1 H1/\aG K cA U1 H1 s1/\aP K cA (k a) U1 H1 s1 D EX) (eX K cA EX Z):=by
 unfold aP Mi.ofM at h;unfold Run;cases e:m s with
 |none=>rw[e] at h;exact h
 |some r=>
  obtain⟨r,s1⟩:=r;rw[e] at h;cases r with
  |er c fs=>exact λU1 H1 x r=>h U1 H1 Z x r (hL.mono x hz)
  |ok a=>
   intro U1 H1 x r;refine⟨x,r,?_⟩;have h2:aP K cA (k a) U H s1 D EX:=h;exact h2.ext x
theorem aP.then_(h:aP K cA (bY m k) U H s D EX):aP K cA m U H s {D with nx:=λZ' H'=>∃U' J' s',aU K cA U' H' Z' J'/\aG K cA U' H' s'/\aP K cA (k J') U' H' s' D EX} EX:=by
 unfold aP bY at h;unfold aP;cases e:m s with
 |none=>rw[e] at h;exact h
 |some r=>
  obtain⟨r,s1⟩:=r;rw[e] at h;cases r with
  |nx J=>
   intro U1 H1 Z1 x r l;have h2:aP K cA (k J) U H s1 D EX:=h;exact⟨U1,J,s1,l,r,h2.ext x⟩
  |bk J=>exact h
  |ct J=>exact h
  |rt d=>exact h
  |er c fs J=>exact h
end
section
variable (X:Cx)(cA:Cl)(ao:Nat->Nat->Bool)(aj:Bool)(F:Bool->Fn)(EX:XS)
def SS(st:Stmt)(m:St):Prop:=PS X st (tS X.K cA EX (ex ao aj F m))
def uW(st:List Stmt)(m:bM):Prop:=nY X st (tS X.K cA EX (exs ao aj F m))
end
section
variable {X:Cx}{cA:Cl}{ao:Nat->Nat->Bool}{aj:Bool}{F:Bool->Fn}{EX:XS}{a b c d e:Expr}{A B C:E}{pos p p2:Pos}{st:Stmt}{sts body orelse:List Stmt}{m:St}{ms mb me mh:bM}{es:List Expr}{Xs:Es}{x y n:Str}{i j:Nat}
theorem PS.weak{t t':TS}(h:PS X st t)(f:∀D Z H,t' D Z H->t D Z H):PS X st t':=λak s Z H D I q=>h ak s Z H D I (f D Z H q)
theorem nY.weak{t t':TS}(h:nY X sts t)(f:∀D Z H,t' D Z H->t D Z H):nY X sts t':=λak s Z H D I q=>h ak s Z H D I (f D Z H q)
theorem zlI:SS X cA ao aj F EX st .no:=λ_ _ _ _ _ _ ⟨_,_,_,_,_,h⟩=>h.elim
theorem zht:uW X cA ao aj F EX [] .nil:=nY.weak Te λD Z H hh=>un hh λU J s hL hS h=>h U H Z Ext.refl hS hL
theorem zf2(h1:SS X cA ao aj F EX st m)(h2:uW X cA ao aj F EX sts ms):uW X cA ao aj F EX (st::sts) (.cons m ms):=nY.weak (Tf h1 h2) λD Z H hh=>un hh λU J s hL hS h=>by
 have h:aP X.K cA (bY (ex ao aj F m J) λJ'=>exs ao aj F ms J') U H s D EX:=h;exact⟨U,J,s,hL,hS,h.then_⟩
theorem zlF(ha:SE X cA ao aj (F aj) EX a A)(hs:swapsWith a none pos.line X.env=pure false:=by rfl):SS X cA ao aj F EX (.Expr a pos) (.ex A):=PS.weak (zh2 ha hs) λD Z H hh=>un hh λU J s hL hS h=>
 ⟨U,J,s,hL,hS,(aP.ofM hL hS.lz h).imp λd s1 U1 H1 ⟨x1,aL,h1⟩ v rv=>h1 U1 H1 Z Ext.refl aL (hL.mono x1 hS.lz)⟩
theorem zj6(ha:SE X cA ao aj (F aj) EX a A):SS X cA ao aj F EX (.Return (some a) pos) (.ret A):=PS.weak (zji ha) λD Z H hh=>un hh λU J s hL hS h=>
 ⟨U,J,s,hL,hS,(aP.ofM hL hS.lz h).imp λd s1 U1 H1 ⟨x1,aL,h1⟩ v rv=>h1 U1 H1 v Ext.refl aL rv⟩
theorem zjn(hN:X.N.Nodup)(hi:X.N[i]?=some x)(hx:Loc X.env.scope x)(ha:SE X cA ao aj (F aj) EX a A)(hs:swapsWith a (some (.Name x p)) pos.line X.env=pure false:=by rfl)(hf:X.fn x=true\/X.env.scope.names.lookup x=some .local:=by first|exact .inl rfl|exact .inr rfl) :
  SS X cA ao aj F EX (.Assign [.Name x p] a pos) (.asg (.nm i) A):=PS.weak (zkc hN hi hx ha hs hf) λD Z H hh=>un hh λU J s hL hS h=>
 ⟨U,J,s,hL,hS,(aP.ofM hL hS.lz h).imp λd s1 U1 H1 ⟨x1,aL,h1⟩ v rv=>h1 U1 H1 _ Ext.refl aL ((hL.mono x1 hS.lz).set rv)⟩
theorem O6{k}(hc:X.aj=true)(hN:X.N.Nodup)(hi:X.N[i]?=some x)(hj:X.N[j]?=some y)(hx:Loc X.env.scope x)(hy:Loc X.env.scope y)(uX:X.fn x=true\/X.env.scope.names.lookup x=some .local)(uY:X.fn y=true\/X.env.scope.names.lookup y=some .local) :
  PG X (.Tuple [.Name x px,.Name y py] k pos) (qK X.K 2 (fK (cX i) (fK (cX j) qJ))):=zi8 hc (Ti (Ih hN hi hx uX) (Ti (Ih hN hj hy uY) zhy))
theorem VR{K:W.Frag}{U:Ph}{H:Hp}{s:S}{J:Vs}{Z:L2.St}{D:Ends}{d:Xv}{v:V}(dX:aj=true)(hL:aU K cA U H Z J)(hS:aG K cA U H s)(rv:aX K cA U H d v)(h:aP K cA (store ao aj (F aj) (.tp [i,j]) d J) U H s D EX):qK K 2 (fK (cX i) (fK (cX j) qJ)) v Z H D.nx:=by
 have h:aP K cA (if aj=true then ofM (M.bd (dat d) λd=>M.opt ((jG d).bind λds=>fu [i,j] (ds.map Xv.d) J)) J (λJ' s=>some (Out.nx J',s)) else λ_=>none) U H s D EX:=h;rw[if_pos dX] at h;obtain⟨dd,e0,rd,h1⟩:=Oh rv (aP.ofM hL hS.lz h);obtain⟨J',e,_,aL,h2⟩:=Run.opt hS h1;refine(O4 i j).run U H s Z J J' dd v _ hL hS rd e λZ' hL' _ _=>h2 U H Z' Ext.refl hS hL'
theorem zh4{k}(hc:X.aj=true)(dX:aj=true)(hN:X.N.Nodup)(hi:X.N[i]?=some x)(hj:X.N[j]?=some y)(hx:Loc X.env.scope x)(hy:Loc X.env.scope y)(uX:X.fn x=true\/X.env.scope.names.lookup x=some .local)(uY:X.fn y=true\/X.env.scope.names.lookup y=some .local)(ha:SE X cA ao aj (F aj) EX a A)
  (hs:swapsWithSole [.Tuple [.Name x px,.Name y py] k pt] a pos.line X.env=pure false:=by rfl) (hw:swappedStores [.Tuple [.Name x px,.Name y py] k pt] a X.env=pure none:=by rfl)
  (h1:(assignEach [.Tuple [.Name x px,.Name y py] k pt] X.env).map (·.2)=[assign (.Tuple [.Name x px,.Name y py] k pt) X.env]:=by rfl) :
  SS X cA ao aj F EX (.Assign [.Tuple [.Name x px,.Name y py] k pt] a pos) (.asg (.tp [i,j]) A):=PS.weak (Tj ha (O6 hc hN hi hj hx hy uX uY) hs hw h1) λD Z H hh=>un hh λU J s hL hS h=>
 ⟨U,J,s,hL,hS,(aP.ofM hL hS.lz h).imp λd s1 U1 H1 ⟨x1,aL,h1⟩ v rv=>VR dX (hL.mono x1 hS.lz) aL rv h1⟩
theorem zjx(hO:SE X cA ao aj (F aj) EX oo O)(hI:SE X cA ao aj (F aj) EX ii I')(ha:SE X cA ao aj (F aj) EX a A)
  (O7:∀v,assign (.Subscript oo ii p) X.env v=(do
   let ov <-holding [v] (eval oo X.env)
   let iv <-holding [v,ov] (eval ii X.env)
   standAt p
   holding [v,ov,iv] (setItem ov iv v)
   release [v,ov,iv] []):=by intro _;rfl) (hs:swapsWithSole [.Subscript oo ii p] a pos.line X.env=pure false:=by rfl) (hw:swappedStores [.Subscript oo ii p] a X.env=pure none:=by rfl)
  (h1:(assignEach [.Subscript oo ii p] X.env).map (·.2)=[assign (.Subscript oo ii p) X.env]:=by rfl) :
  SS X cA ao aj F EX (.Assign [.Subscript oo ii p] a pos) (.asg (.ao O I') A):=PS.weak (Tj ha (zjQ hO hI zgK O7) hs hw h1) λD Z H hh=>un hh λU J s hL hS h=>by
 refine⟨U,J,s,hL,hS,(aP.ofM hL hS.lz h).imp λd s1 U1 H1 ⟨x1,aL,h1⟩ v rv=>?_⟩;obtain⟨dd,e0,rd,h2⟩:=Oh rv (aP.ofM (hL.mono x1 hS.lz) aL.lz h1);refine bF (hL.mono x1 hS.lz) aL h2 λxo H2 U2 d2 s2 x2 hL2 bf r2 h3=>bF hL2 bf h3 λyi H3 U3 d3 s3 x3 zy lV r3 h4=>?_;obtain⟨k,_,ek,h5⟩:=Gf r3 h4;obtain⟨n,ad,xs,vs,_,ea,e1,f1,g1,q1,h6⟩:=OD lV (r2.mono x3 bf.lz) h5;subst ek ea;cases ej:L2.pH xs.length k with
 |none=>simp only[ej] at h6;exact h6.elim
 |some jj=>
  simp only[ej] at h6;refine⟨ad,vs,k,jj,rfl,rfl,g1,by rw[<-q1.len];exact ej,?_⟩;have rv3:=(rd.mono x2 aL.lz).mono x3 bf.lz;have wJ:=lV.write e1 f1 (q1.set rv3 jj);have x4:Ext U3 H3 U3 (upd H3 ad (.lst (vs.set jj v))):=Ext.write f1 ⟨_,g1⟩;obtain⟨_,_,h8⟩:=h6 U3 _ x4 wJ;exact h8 U3 _ Z Ext.refl wJ (zy.mono x4 lV.lz)
theorem zlW(hc:ST X cA ao aj (F aj) EX c C)(ht:uW X cA ao aj F EX body mb)(he:uW X cA ao aj F EX orelse me):SS X cA ao aj F EX (.If c body orelse pos) (.iff C mb me):=PS.weak (zlJ hc ht he) λD Z H hh=>un hh λU J s hL hS h=>by
 refine⟨U,J,s,hL,hS,(aP.ofM hL hS.lz h).imp λk s1 U1 H1 ⟨x1,aL,h1⟩=>?_⟩;cases k with
 |true=>exact iT ⟨U1,J,s1,hL.mono x1 hS.lz,aL,h1⟩
 |false=>exact iF ⟨U1,J,s1,hL.mono x1 hS.lz,aL,h1⟩
theorem zhS{g:TG}{elt iter tg:Expr}{ifs:List Expr}{scope:Scope}{N:List Str}{cond:Eo}{fr cQ:List Nat}{many:Nat}{fz:Bool}{w:Wk}{spos py:Pos}(hc:X.aj=true)(uZ:X.N.Nodup)(E_:X.N[i]?=some y)(hx:Loc X.env.scope y)(hf:X.fn y=true\/X.env.scope.names.lookup y=some .local)(B':cR X.env.scope scope)(hi:SI X cA ao aj (F aj) EX tg iter w)(hN:N.length=many+fr.length)
  (qe:∀(i:Nat) (y:Str) (j:Nat),N[many+i]?=some y->fr[i]?=some j->scope.names.lookup y=some .free/\X.N[j]?=some y)
  (hg:∀cl C s3 H3 fp ak,PG (X.blk scope cl N C s3 H3 fp ak) tg g) (hT:kZ X.K cA g cQ) (fV:∀i∈cQ,i<many)
  (ht:∀cl C s3 H3 fp ak,Gu (X.blk scope cl N C s3 H3 fp ak) cA ao aj (F aj) (λ_ _ _ _=>False) ifs cond) (he:∀cl C s3 H3 fp ak,SE (X.blk scope cl N C s3 H3 fp ak) cA ao aj (F aj) (λ_ _ _ _=>False) elt B)
  (Fb:swapsWith (.ListComp elt [⟨tg,iter,ifs,0⟩] scope pos) (some (.Name y py)) spos.line X.env=pure true) (hs:∀x,foldedSetIterable iter X.env x=pure x:=by intro _;rfl) :
  SS X cA ao aj F EX (.Assign [.Name y py] (.ListComp elt [⟨tg,iter,ifs,0⟩] scope pos) spos) (.asg (.nm i) (.comp fz B cQ w fr many cond)):=
 PS.weak (zea hc uZ E_ hx hf B' hi (⟨hg,ht,he⟩ : Parts X elt tg ifs scope N g (uL X.K cA (λ_ _ _ _=>False) (oF ao aj (F aj) cond)) (tE X.K cA (λ_ _ _ _=>False) (ev ao aj (F aj) B))) (ZY:=cB many fr) (λZ=>by simp[cB,hN]) (λZ i x v e1 e2=>VN qe Z i x v e1 e2) Fb hs) λD Z H hh=>un hh λU J s hL hS h=>
  VL (iter':=iter) hT fV ⟨U,J,s,hL,hS,(aP.ofM hL hS.lz h).imp λd s1 U1 H1 ⟨x1,aL,h1⟩ v rv=>h1 U1 H1 _ Ext.refl aL ((hL.mono x1 hS.lz).set rv)⟩
noncomputable def oH(m:MS)(kN:Vs->MS):MS:=λs=>match m s with
 |some (.nx J',s')=>kN J' s'
 |some (.ct J',s')=>kN J' s'
 |some (.bk J',s')=>some (.nx J',s')
 |r=>r
theorem Kah{K:W.Frag}{U:Ph}{H:Hp}{s:S}{D:Ends}{m:MS}{kN:Vs->MS}{N:L2.St->Hp->Prop}(hN:∀U' J' s' Z' H',Ext U H U' H'->aU K cA U' H' Z' J'->aG K cA U' H' s'->aP K cA (kN J') U' H' s' D EX->N Z' H')(h:aP K cA (oH m kN) U H s D EX) :
  aP K cA m U H s {D with nx:=N,ct:=N,bk:=D.nx} EX:=by
 unfold aP oH at h;unfold aP;cases e:m s with
 |none=>rw[e] at h;exact h
 |some r=>
  obtain⟨r,s1⟩:=r;rw[e] at h;cases r with
  |nx J'=>
   intro U1 H1 Z1 x r l;have h2:aP K cA (kN J') U H s1 D EX:=h;exact hN U1 J' s1 Z1 H1 x l r (h2.ext x)
  |ct J'=>
   intro U1 H1 Z1 x r l;have h2:aP K cA (kN J') U H s1 D EX:=h;exact hN U1 J' s1 Z1 H1 x l r (h2.ext x)
  |bk J'=>exact h
  |rt d=>exact h
  |er c fs J'=>exact h
def SG(X:Cx)(cA:Cl)(ao:Nat->Nat->Bool)(aj:Bool)(F:Bool->Fn)(EX:XS)(tg:Expr)(t:Tg):Prop:=∃g:TG,PG X tg g/\∀(U:Ph) (H:Hp) (s:S) (Z:L2.St) (J:Vs) (d:Xv) (v:V) (D:Ends),aU X.K cA U H Z J->aG X.K cA U H s->aX X.K cA U H d v->
 aP X.K cA (store ao aj (F aj) t d J) U H s D EX->g v Z H D.nx
theorem ziw(hN:X.N.Nodup)(hi:X.N[i]?=some x)(hx:Loc X.env.scope x)(hf:X.fn x=true\/X.env.scope.names.lookup x=some .local:=by first|exact .inl rfl|exact .inr rfl):SG X cA ao aj F EX (.Name x pos) (.nm i):=
 ⟨_,Ih hN hi hx hf,λU H s Z J d v D hL hS r h=>h U H _ Ext.refl hS (hL.set r)⟩
theorem zhC{k}(hc:X.aj=true)(dX:aj=true)(hN:X.N.Nodup)(hi:X.N[i]?=some x)(hj:X.N[j]?=some y)(hx:Loc X.env.scope x)(hy:Loc X.env.scope y)(uX:X.fn x=true\/X.env.scope.names.lookup x=some .local)(uY:X.fn y=true\/X.env.scope.names.lookup y=some .local) :
  SG X cA ao aj F EX (.Tuple [.Name x px,.Name y py] k pos) (.tp [i,j]):=
 ⟨_,O6 hc hN hi hj hx hy uX uY,λU H s Z J d v D hL hS r h=>VR dX hL hS r h⟩
theorem zkz(hp:PassesOwn (model X.prog X.w) X.A X.env X.xe)(hc:X.aj=true)(dX:aj=true)(ha:SI X cA ao aj (F aj) EX tg a w)(hg:SG X cA ao aj F EX tg t)(hb:uW X cA ao aj F EX body mb)
  (hs:∀x,foldedSetIterable a X.env x=pure x:=by intro _;rfl):SS X cA ao aj F EX (.For tg a body [] pos) (.fr t w mb):=by
 obtain⟨g,hG,hg⟩:=hg;refine PS.weak (zkW hp hc ha hG hb hs) λD Z H hh=>un hh λU J s hL hS h=>?_;have h:aP X.K cA (if aj=true then ofM (kW ao aj (F aj) w J) J λcn=>cU cn.1 (λd J=>bY (store ao aj (F aj) t (.d d) J) λJ'=>exs ao aj F mb J') (cn.2+1) 0 J else λ_=>none) U H s D EX:=h;rw[if_pos dX] at h;refine⟨U,J,s,hL,hS,(aP.ofM hL hS.lz h).imp λcn s1 U1 H1 ⟨x1,aL,h1⟩ bZ hJ=>?_⟩;have hL1:=hL.mono x1 hS.lz;obtain⟨c,n⟩:=cn;dsimp only at h1 hJ;refine⟨λi m Z' H'=>∃U' J' s',Ext U1 H1 U' H'/\aU X.K cA U' H' Z' J'/\aG X.K cA U' H' s'/\aP X.K cA (cU c (λd J=>bY (store ao aj (F aj) t (.d d) J) λJ'=>exs ao aj F mb J') m i J') U' H' s' D EX,⟨n+1,U1,J,s1,Ext.refl,hL1,aL,h1⟩,?_⟩;rintro i m Z' H' ⟨U',J',s',x2,hL2,bf,h4⟩;cases m with
 |zero=>exact h4.elim
 |succ m=>
  cases ei:c.at i s' with
  |none=>
   exfalso
   unfold aP cU at h4;simp only[ei] at h4
  |some oi=>
   cases oi with
   |none=>
    refine .inl ⟨hJ.stop U' H' H' s' i x2 cP.refl bf ei,?_⟩;unfold aP cU at h4;simp only[ei] at h4;exact h4 U' H' Z' Ext.refl bf hL2
   |some xi=>
    refine .inr ⟨hJ.go U' H' H' s' i xi x2 cP.refl bf ei,_,λZ3 H3 z=>⟨m,Hz m,z⟩,λv H3 hy=>?_⟩;obtain⟨gr,rx⟩:=hJ.yD U' H' H' s' i xi v H3 x2 cP.refl bf ei hy;have h5:aP X.K cA (oH (bY (store ao aj (F aj) t (.d xi) J') λJ'=>exs ao aj F mb J') (cU c (λd J=>bY (store ao aj (F aj) t (.d d) J) λJ'=>exs ao aj F mb J') m (i+1))) U' H' s' D EX:=by
     unfold aP at h4 ⊢;have e:cU c (λd J=>bY (store ao aj (F aj) t (.d d) J) λJ'=>exs ao aj F mb J') (m+1) i J' s'=oH (bY (store ao aj (F aj) t (.d xi) J') λJ'=>exs ao aj F mb J') (cU c (λd J=>bY (store ao aj (F aj) t (.d d) J) λJ'=>exs ao aj F mb J') m (i+1)) s':=by
      rw[cU];simp only[ei];rfl
     rw[e] at h4;exact h4
    exact hg U' H3 s' Z' J' (.d xi) v _ (hL2.mono gr.ext bf.lz) (bf.grow gr) (.d rx) (aP.then_ (Kah (λU4 J4 s4 Z4 H4 x4 l4 r4 q4=>⟨U4,J4,s4,(x2.trans gr.ext).trans x4,l4,r4,q4⟩) (h5.ext gr.ext)))
end
end Mi
namespace L2
open PySem PySem.Spec PyProof.Rows
structure lY(K:W.Frag)(x qual:Str)(st:Stmt)(f:Addr)(fd:FuncData):Prop where
 ex:∃(oc:Value) (od:Option Addr) (kV doc pm:Value) (an:Option Addr) (cdv ct:Value) (osl:Array (Option Value)),
  fd=PySem.W.fnOf x qual (aN st) (aK st) (au st) .none kV doc pm an cdv ct/\K.lookup f=some ⟨oc,od,.func fd,osl⟩/\PySem.W.codeIn K cdv qual=true
 kp:PySem.W.keepIn K (.ref f)=true
end L2
namespace Mi
open PySem PySem.Spec PyProof.Rows L2
section
variable {P:Program}{w:World}{K:W.Frag}{mg:Str->Option Value}{base:Heap}{cA:Cl}{ao:Nat->Nat->Bool}{T:Nat->Option Df}
theorem V0{U:Ph}{H:Hp}{N:List Str}{ds:List Xv}{vs:List V}{m p:Nat}(r:aM K cA U H ds vs)(hp:p=ds.length)(hm:m=N.length):aU K cA U H (L2.start N vs) (ds.map some++List.replicate (m-p) none):=by
 subst hp hm;unfold L2.start;have hl:=r.len;refine⟨by simp[hl],λi d e=>?_⟩;by_cases hi:i<ds.length
 ·rw[nG (by simpa using hi),iz] at e;cases z:ds[i]? with
  |none=>rw[z] at e;cases e
  |some x=>
   rw[z] at e;cases e;obtain⟨v,a,b⟩:=r.get z;exact⟨v,by rw[nG (by simp;lia),iz,a];rfl,b⟩
 ·rw[oY (by simpa using hi),Hq] at e;split at e<;>cases e
theorem V1{U:Ph}{H:Hp}{s:S}{ds:List Xv}{k n:Nat}{cm:Bool}{df:Df}{Q:VK}{E:XK}(hT:T n=some df)
  (h:Run K cA (call ao T (k+1) cm n ds) U H s (λd _ U' H'=>∀v,aX K cA U' H' d v->Q v H') (λc fs _ U' H'=>∀dx,iV K cA U' H' c fs dx->E (.ref (cA.a c)) dx H')) :
  ds.length=df.fU/\aP K cA (exs ao cm (λc=>call ao T k c) df.body (ds.map some++List.replicate (df.many-df.fU) none)) U H s {nx:=λ_ H'=>Q .non H',rt:=Q} (λ_ C dx H'=>E C dx H'):=by
 unfold call at h;simp only[hT] at h;by_cases hl:ds.length=df.fU
 ·refine⟨hl,?_⟩;rw[if_pos hl] at h;unfold Run at h;unfold aP;cases e:exs ao cm (λc=>call ao T k c) df.body (ds.map some++List.replicate (df.many-df.fU) none) s with
  |none=>simp only[e] at h
  |some r=>
   obtain⟨r,s1⟩:=r;simp only[e] at h;cases r with
   |nx J=>exact λU' H' Z' x r l=>h U' H' x r _ (.d .non)
   |rt d=>exact λU' H' v x r rv=>h U' H' x r v rv
   |er c fs J=>exact λU' H' Z' x r l=>h U' H' x r
   |bk J=>exact h.elim
   |ct J=>exact h.elim
 ·rw[if_neg hl] at h;exact h.elim
theorem dG{cm:Bool}{n:Nat}{f:Addr}{fd:FuncData}{ps:List Str}:bQ P w K mg base (dZ P w) cm 0 f fd ps (mJ K cA (call ao T 0 cm n)):=by
 have no:∀vs H Q E,mJ K cA (call ao T 0 cm n) vs H Q E->False:=by
  rintro vs H Q E ⟨_,_,_,_,_,h⟩;exact h.elim
 exact⟨λvs H Q E h=>(no _ _ _ _ h).elim,λA outer s H args us vs Q E _ _ _ _ _ h=>(no _ _ _ _ h).elim⟩
theorem V2{x qual:Str}{st:Stmt}{f:Addr}{fd:FuncData}{N ps:List Str}{k n:Nat}{cm:Bool}{df:Df}(F:lY K x qual st f fd)(S:cH N ps (au st))(hT:T n=some df)(hp:df.fU=ps.length)(hm:df.many=N.length)
  (hb:∀(cdv:Value) (A:Around) (outer:List Env) (s:Shared) (H:Hp) (E:XK),bC (k+1) A->
   uW (dU (dZ P w) P w K mg base N qual (au st) f cdv A outer s H E cm) cA ao cm (λc=>call ao T k c) (λ_ C dx H'=>E C dx H') (aK st) df.body) :
  bQ P w K mg base (dZ P w) cm (k+1) f fd ps (mJ K cA (call ao T (k+1) cm n)):=by
 obtain⟨oc,od,kV,doc,pm,an,cdv,ct,osl,rfl,lk,jd⟩:=F.ex;refine T5 lk jd S (λvs H Q E hz=>?_) λA outer s H vs Q E hr hz=>?_
 ·obtain⟨U,ds,s,r,hS,h⟩:=hz;rw[<-r.len,(V1 hT h).1,hp]
 ·obtain⟨U,ds,st',r,hS,h⟩:=hz;obtain⟨hl,h2⟩:=V1 hT h;exact⟨_,hb cdv A outer s H E hr,U,_,st',V0 r hl.symm hm,hS,h2⟩
theorem zkQ{x qual:Str}{st:Stmt}{f:Addr}{fd:FuncData}{N ps:List Str}{k n:Nat}{cm:Bool}{df:Df}(F:lY K x qual st f fd)(S:cH N ps (au st))(hT:T n=some df)(hp:df.fU=ps.length)(hm:df.many=N.length)
  (hb:∀(cdv:Value) (A:Around) (outer:List Env) (s:Shared) (H:Hp) (E:XK),bC k (A.deeper (envOfC qual (au st) s.heap.objs.size f cdv))->
   uW (dU (dZ P w) P w K mg base N qual (au st) f cdv A outer s H E cm) cA ao cm (λc=>call ao T k c) (λ_ C dx H'=>E C dx H') (aK st) df.body) :
  bQ P w K mg base (dZ P w) cm (k+1) f fd ps (mJ K cA (call ao T (k+1) cm n)):=V2 F S hT hp hm λcdv A outer s H E hr=>hb cdv A outer s H E (hr.deeper _)
end
theorem zkV{K:W.Frag}{cA:Cl}{m:List Xv->M Xv}{H:Hp}{a:Addr}{ns:List Int}(hq:cZ K H a (ns.map V.int))(hm:∃s',m [.d (.fl (ns.map D.int))] []=some (.ok (.d (.bl true)),s')) :
  mJ K cA m [.ref a] H (λv _=>v=.bl true) λ_ _ _=>False:=by
 have rs:∀(l:List Int) U,aA K cA U H (l.map D.int) (l.map V.int):=λl U=>by
  induction l with
  |nil=>exact .nil
  |cons i l ih=>exact .cons (.int i) ih
 have hl:LstAt K ⟨λ_=>False,[]⟩ H a (ns.map V.int):=by
  rcases hq with h|h
  ·exact .inl ⟨h,λz=>z⟩
  ·exact .inr (.inr h)
 refine⟨⟨λ_=>False,[]⟩,[.d (.fl (ns.map D.int))],[],.cons (.d (.fl hl (rs ns _))) .nil,⟨rfl,(λn o b e1 e2=>by simp at e1),Cy,(λb hb=>by cases hb),(λb z=>False.elim z)⟩,?_⟩;obtain⟨s',e⟩:=hm;unfold Run;rw[e];intro U' H' _ _ v rv;cases rv with
 |d rv=>cases rv;rfl
theorem zev:Raises X (λ_ _ _ _=>False):=λ_ _ _ _ _ _ _ _ _ _ _ _ _ z=>z.elim
theorem rC(r:bC k A):A.units+60<cLine:=by have:=r.un;lia
noncomputable def aD:Expr->Bool
 |.Starred _ _=>false
 |_=>true
theorem bw(h:aD e=true):starEach (e::es) env=(false,eval e env)::starEach es env:=by
 cases e<;>first|rfl|cases h
theorem aV:∀{es:List Expr} {env:Env} {pos:Pos},es.all aD=true->(backTo pos (starEach es env)).any (·.1)=false
 |[],_,_,_=>rfl
 |e::es,env,pos,h=>by
  rw[vP,eU] at h;rw[bw h.1];show (false||(backTo pos (starEach es env)).any (·.1))=false;rw[aV h.2];rfl
theorem oJ:∀{es:List Expr} {env:Env} {pos:Pos},es.all aD=true->(backTo pos (starEach es env)).all (λx=>!x.1)=true
 |[],_,_,_=>rfl
 |e::es,env,pos,h=>by
  rw[vP,eU] at h;rw[bw h.1];show (true&&(backTo pos (starEach es env)).all (λx=>!x.1))=true;rw[oJ h.2];rfl
theorem u0(h1:aD e=true)(h2:es.all aD=true)(h3:decide (es.length<28)=true):((backTo pos (starEach (e::es) env)).all (λx=>!x.1)&&(backToKw pos (keywordEach [] env)).all (λx=>x.1.isSome)&&decide ((e::es).length+([]:List Keyword).length+(if ([]:List Keyword).isEmpty then 0 else 1)<30))=true:=by
 rw[oJ (es:=e::es) (by rw[vP,h1,h2];rfl)];have:=lA h3;have z:(e::es).length+([]:List Keyword).length+(if ([]:List Keyword).isEmpty then 0 else 1)<30:=by
  show es.length+1+0+0<30
  lia
 rw[gA z];rfl
noncomputable def rD(sc scope:Scope):Bool:=(match scope.kind with|.function=>true|_=>false)&&scope.names.all λy=>match y.2 with
 |.cell=>(match scope.names.lookup y.1 with|some .cell=>true|_=>false)
 |.free=>(match sc.names.lookup y.1 with|some .cell=>true|some .free=>true|_=>false)
 |.local=>(match scope.names.lookup y.1 with|some .local=>true|_=>false)
 |_=>true
theorem cR.of(h:rD sc scope=true):cR sc scope:=by
 unfold rD at h;rw[eU,gb] at h;obtain⟨h1,h2⟩:=h;refine⟨?_,λy hy z=>?_,λy hy z=>?_,λy hy z=>?_⟩
 ·split at h1
  ·assumption
  ·cases h1
 ·have:=h2 y hy;rw[z] at this;dsimp only at this;split at this
  ·assumption
  ·cases this
 ·have:=h2 y hy;rw[z] at this;dsimp only at this;split at this
  ·exact .inl (by assumption)
  ·exact .inr (by assumption)
  ·cases this
 ·have:=h2 y hy;rw[z] at this;dsimp only at this;split at this
  ·assumption
  ·cases this
noncomputable def frB(scope:Scope)(XN:List Str):List Str->List Nat->Bool
 |y::N,j::fr=>(match scope.names.lookup y with|some .free=>true|_=>false)&&decide (XN[j]?=some y)&&frB scope XN N fr
 |[],[]=>true
 |_,_=>false
theorem V3:∀{N:List Str} {fr:List Nat},frB scope XN N fr=true->N.length=fr.length/\∀(i:Nat) (y:Str) (j:Nat),N[i]?=some y->fr[i]?=some j->scope.names.lookup y=some .free/\XN[j]?=some y
 |[],[],_=>⟨rfl,λi y j h=>by simp at h⟩
 |[],_::_,h=>by cases h
 |_::_,[],h=>by cases h
 |y::N,j::fr,h=>by
  unfold frB at h;rw[eU,eU,xU] at h;obtain⟨⟨h1,h2⟩,h3⟩:=h;obtain⟨l,q⟩:=V3 h3;refine⟨by simp[l],λi z m e1 e2=>?_⟩;cases i with
  |zero=>
   simp at e1 e2;subst e1 e2;refine⟨?_,h2⟩;split at h1
   ·assumption
   ·cases h1
  |succ i=>exact q i z m (by simpa using e1) (by simpa using e2)
noncomputable def okN(x:Str):Bool:=!(x==("__debug__" : Str)) && !(x==("__classdict__" : Str)) && !decide (x="__name__")
theorem qm(h:okN x=true):(x==("__debug__" : Str))=false/\(x==("__classdict__" : Str))=false/\x≠"__name__":=by
 unfold okN at h;simp only[eU,Bool.not_eq_true',decide_eq_false_iff_not] at h;exact⟨h.1.1,h.1.2,h.2⟩
theorem Jh{env:Env}{k:NameKind}(hk:k≠.free):∀{names:List (Str×NameKind)} {x:Str},names.lookup x=some k->
  (names.map λ(n,k)=>if (k==NameKind.free&&env.scope.kind==.function&&env.kindOf n==some .cell) then (n,NameKind.cell) else (n,k)).lookup x=some k
 |[],x,h=>by simp at h
 |(n,q)::r,x,h=>by
  rw[mO] at h;rw[nM,mO];have hd:∀c:Bool,(if c=true then (n,NameKind.cell) else (n,q)).1=n:=λc=>by cases c<;>rfl
  rw[hd];by_cases z:x=n
  ·subst z;simp only[xW] at h ⊢;cases h
   split
   ·rename_i y;simp only[eU,nP] at y;exact absurd y.1.1 hk
   ·rfl
  ·have z':(x==n)=false:=by simpa using z
   simp only[z'] at h ⊢;exact Jh hk h
noncomputable def rE(K:W.Frag):Sp:=λvs H Q _=>∃(a:Addr) (ns:List Int),vs=[.ref a]/\cZ K H a (ns.map V.int)/\ns.length<=63/\Only H/\∀H',Q (.bl true) H'
theorem ziM{K:W.Frag}{cA:Cl}{m:List Xv->M Xv}(hm:∀ns:List Int,ns.length<=63->∃s',m [.d (.fl (ns.map D.int))] []=some (.ok (.d (.bl true)),s'))(vs:List V)(H:Hp)(Q:VK)(E:XK)(h:rE K vs H Q E):mJ K cA m vs H Q E:=by
 obtain⟨a,ns,rfl,hq,hl,hO,k⟩:=h;obtain⟨U,ds,s,r1,r2,h⟩:=zkV (cA:=cA) (m:=m) hq (hm ns hl);refine⟨U,ds,s,r1,r2,?_⟩;unfold Run at h ⊢;split at h
 ·intro U' H' x r v rv;rw[h U' H' x r v rv];exact k H'
 ·exact λU' H' x r dx q=>(h U' H' x r dx q).elim
 ·exact h
theorem zE{K:W.Frag}{fd:FuncData}{p:Str}(h:∀a,bindArgs fd ⟨[a],[]⟩=pure [(p,a)]):Binds K fd [p] []:=.all λus hl=>by
 cases us with
 |nil=>cases hl
 |cons a r=>cases r with
  |nil=>exact h a
  |cons b r=>cases hl
theorem zF{K:W.Frag}{fd:FuncData}{p q:Str}(h:∀a b,bindArgs fd ⟨[a,b],[]⟩=pure [(p,a),(q,b)]):Binds K fd [p,q] []:=.all λus hl=>by
 cases us with
 |nil=>cases hl
 |cons a r=>cases r with
  |nil=>cases hl
  |cons b r=>cases r with
   |nil=>exact h a b
   |cons c r=>cases hl
theorem rF{K:W.Frag}{fd:FuncData}{p q t:Str}(h:∀a b c,bindArgs fd ⟨[a,b,c],[]⟩=pure [(p,a),(q,b),(t,c)]):Binds K fd [p,q,t] []:=.all λus hl=>by
 cases us with
 |nil=>cases hl
 |cons a r=>cases r with
  |nil=>cases hl
  |cons b r=>cases r with
   |nil=>cases hl
   |cons c r=>cases r with
    |nil=>exact h a b c
    |cons d r=>cases hl
theorem rG{K:W.Frag}{fd:FuncData}{p q t u:Str}(h:∀a b c d,bindArgs fd ⟨[a,b,c,d],[]⟩=pure [(p,a),(q,b),(t,c),(u,d)]):Binds K fd [p,q,t,u] []:=.all λus hl=>by
 cases us with
 |nil=>cases hl
 |cons a r=>cases r with
  |nil=>cases hl
  |cons b r=>cases r with
   |nil=>cases hl
   |cons c r=>cases r with
    |nil=>cases hl
    |cons d r=>cases r with
     |nil=>exact h a b c d
     |cons e r=>cases hl
theorem V4:bootBuiltins "int"=some (.type "int"):=by decide +kernel
theorem O8:bootBuiltins "bool"=some (.type "bool"):=by decide +kernel
theorem zkv:bootBuiltins "str"=some (.type "str"):=by decide +kernel
theorem Bq:bootBuiltins "tuple"=some (.type "tuple"):=by decide +kernel
theorem ziE:bootBuiltins "list"=some (.type "list"):=by decide +kernel
structure JE(X:Cx)(cA:Cl)(ao:Nat->Nat->Bool)(aj:Bool)(F:Fn)(EX:XS)(e:Expr)(m:E):Prop where
 o:SE X cA ao aj F EX e m
structure JA(X:Cx)(cA:Cl)(ao:Nat->Nat->Bool)(aj:Bool)(F:Fn)(EX:XS)(e:List Expr)(m:Es):Prop where
 o:SA X cA ao aj F EX e m
structure JT(X:Cx)(cA:Cl)(ao:Nat->Nat->Bool)(aj:Bool)(F:Fn)(EX:XS)(e:Expr)(m:E):Prop where
 o:ST X cA ao aj F EX e m
structure JW(X:Cx)(cA:Cl)(ao:Nat->Nat->Bool)(aj:Bool)(F:Fn)(EX:XS)(e:Expr)(m:E):Prop where
 o:SW X cA ao aj F EX e m
structure JC(X:Cx)(cA:Cl)(ao:Nat->Nat->Bool)(aj:Bool)(F:Fn)(EX:XS)(e:List Expr)(m:Eo):Prop where
 o:Gu X cA ao aj F EX e m
structure JO(X:Cx)(cA:Cl)(ao:Nat->Nat->Bool)(aj:Bool)(F:Fn)(EX:XS)(e:Option Expr)(m:Eo):Prop where
 o:Gm X cA ao aj F EX e m
structure JI(X:Cx)(cA:Cl)(ao:Nat->Nat->Bool)(aj:Bool)(F:Fn)(EX:XS)(tg e:Expr)(m:Wk):Prop where
 o:SI X cA ao aj F EX tg e m
structure JG(X:Cx)(cA:Cl)(ao:Nat->Nat->Bool)(aj:Bool)(F:Bool->Fn)(EX:XS)(e:Expr)(m:Tg):Prop where
 o:SG X cA ao aj F EX e m
structure JS(X:Cx)(cA:Cl)(ao:Nat->Nat->Bool)(aj:Bool)(F:Bool->Fn)(EX:XS)(e:Stmt)(m:St):Prop where
 o:SS X cA ao aj F EX e m
structure JB(X:Cx)(cA:Cl)(ao:Nat->Nat->Bool)(aj:Bool)(F:Bool->Fn)(EX:XS)(e:List Stmt)(m:bM):Prop where
 o:uW X cA ao aj F EX e m
structure JK(X:Cx)(x:Str)(k:NameKind):Prop where
 o:X.env.scope.names.lookup x=some k
structure JP(X:Cx)(cA:Cl)(op:CmpOp)(p:Pr):Prop where
 o:∃r,dh X (compareOp op) r/\aQ X.K cA p (r2 r)
structure JQ(X:Cx)(cA:Cl)(op:Operator)(p:Pr):Prop where
 o:∃r,dh X (binaryOp op) r/\aQ X.K cA p (r2 r)
structure JN(X:Cx)(cA:Cl)(kx:Expr)(k:Kd):Prop where
 o:PE X kx (tC (Bk cA k))
structure JR(X:Cx)(EX:XS):Prop where
 o:Raises X EX
structure JH(X:Cx):Prop where
 o:PassesOwn (model X.prog X.w) X.A X.env X.xe
structure JY(X:Cx)(tg:Expr)(g:TG):Prop where
 o:PG X tg g
noncomputable def lZ:NameKind->Bool
 |.local=>true
 |.cell=>true
 |_=>false
noncomputable def zG:NameKind->Bool
 |.local=>true
 |.cell=>true
 |.free=>true
 |_=>false
section
variable {X:Cx}{cA:Cl}{ao:Nat->Nat->Bool}{aj:Bool}{F:Fn}{EX:XS}{a b c d e:Expr}{A B C Dd E':E}{pos p p2 apos:Pos}{es:List Expr}{Xs:Es}{x y:Str}{k k':NameKind}{q q1 q2 q3:Pr}{fz:Bool}
theorem V5(h:scope.names.lookup x=some k)(hk:(match k with|.free=>false|_=>true)=true):JK (X.blk scope cl N Cc s3 H3 fp ak) x k:=
 ⟨Jh (by intro z;subst z;cases hk) h⟩
theorem V6(i:Nat)(hN:X.N[i]?=some x)(h:JK X x k)(hv:zG k=true)(hd:okN x=true):JE X cA ao aj F EX (.Name x pos) (.v i):=
 ⟨U_ i hN (by cases k<;>first|exact .inl h.o|exact .inr (.inl h.o)|exact .inr (.inr h.o)|cases hv) (qm hd).1 (qm hd).2.1⟩
theorem zmL(i:Nat)(hN:N[i]?=some x)(h:scope.names.lookup x=some .free)(hd:okN x=true):JE (X.blk scope cl N Cc s3 H3 fp ak) cA ao aj F EX (.Name x pos) (.v i):=
 ⟨U_ i hN (.inr (Iv h)) (qm hd).1 (qm hd).2.1⟩
theorem aH{i j p}:JE X cA ao aj F EX (.Constant (.int i) j p) (.c (.int i)):=⟨zkk⟩
theorem gU{i j p}:JE X cA ao aj F EX (.Constant (.bool i) j p) (.c (.bl i)):=⟨zlB⟩
theorem zJ{j p}:JE X cA ao aj F EX (.Constant .none j p) (.c .non):=⟨zkU⟩
theorem iZ{i j p}:JE X cA ao aj F EX (.Constant (.str i) j p) (.c (.str i)):=⟨zjR⟩
theorem V7(h:∃t,X.mg x=some (.int i t))(hg:JK X x .globalImplicit)(hd:okN x=true):JE X cA ao aj F EX (.Name x pos) (.c (.int i)):=by
 obtain⟨t,h⟩:=h;exact⟨zhV hg.o h (qm hd).1⟩
theorem V8(h:∃t,X.mg x=some (.str i t))(hg:JK X x .globalImplicit)(hd:okN x=true):JE X cA ao aj F EX (.Name x pos) (.c (.str i)):=by
 obtain⟨t,h⟩:=h;exact⟨zhr hg.o h (qm hd).1⟩
theorem gW:JQ X cA .Add .add:=⟨_,zfx,zjU⟩
theorem u5:JQ X cA .Sub .ao:=⟨_,ziY,zi9⟩
theorem O9:JQ X cA .Mult .mul:=⟨_,zkL,zjd⟩
theorem zkn:JQ X cA .FloorDiv .fdiv:=⟨_,zhJ,ziF⟩
theorem Gv:JQ X cA .Mod .mod:=⟨_,zjk,zkO⟩
theorem V9:JQ X cA .Pow .pow:=⟨_,zi3,zku⟩
theorem cN(h:JQ X cA op q)(ha:JE X cA ao aj F EX a A)(hb:JE X cA ao aj F EX b B):JE X cA ao aj F EX (.BinOp a op b pos) (.pr fz q (.cons A (.cons B .nil))):=by
 obtain⟨r,h1,h2⟩:=h.o;exact⟨ziX h1 h2 ha.o hb.o⟩
theorem O_(ha:JE X cA ao aj F EX a A):JE X cA ao aj F EX (.UnaryOp .USub a pos) (.pr true .neg (.cons A .nil)):=⟨zl6 Tv zk2 ha.o⟩
theorem V_(ha:JE X cA ao aj F EX a A):JE X cA ao aj F EX (.UnaryOp .Not a pos) (.not A):=⟨zjz ha.o⟩
theorem tH{op}(ha:JE X cA ao aj F EX a A):JE X cA ao aj F EX (.BoolOp op [a] pos) A:=⟨zk1 ha.o⟩
theorem tK{rest:List Expr}(ha:JE X cA ao aj F EX a A)(hb:JE X cA ao aj F EX (.BoolOp .And (b::rest) pos) B):JE X cA ao aj F EX (.BoolOp .And (a::b::rest) pos) (.and A B):=⟨zkx ha.o hb.o⟩
theorem zmQ{rest:List Expr}(ha:JE X cA ao aj F EX a A)(hb:JE X cA ao aj F EX (.BoolOp .Or (b::rest) pos) B):JE X cA ao aj F EX (.BoolOp .Or (a::b::rest) pos) (.or A B):=⟨zla ha.o hb.o⟩
theorem oK{k:Nat}(hr:bC k X.A):JP X cA .Eq .eq:=⟨_,zjE (rC hr),zmc⟩
theorem Ji{k:Nat}(hr:bC k X.A):JP X cA .NotEq .ne:=⟨_,zjV (rC hr),zld⟩
theorem Br{k:Nat}(hr:bC k X.A):JP X cA .Lt .lt:=⟨_,Dz.or (zkd (by have:=rC hr;lia)),zlm⟩
theorem Wa:JP X cA .LtE .le:=⟨_,zlS,zlx⟩
theorem zmR:JP X cA .Gt .gt:=⟨_,zlA,zlD⟩
theorem Wb:JP X cA .GtE .ge:=⟨_,zlP,zlz⟩
theorem Wc{k:Nat}(hr:bC k X.A):JP X cA .In .inn:=⟨_,zko (rC hr),zlg⟩
theorem Wd{k:Nat}(hr:bC k X.A):JP X cA .NotIn .nin:=⟨_,zhK (rC hr),zky⟩
noncomputable def oM:Expr->Bool
 |.Set _ _ _=>false
 |_=>true
theorem zK(h:oM b=true):behindInMarks op b=false:=by cases b<;>first|rfl|cases h
theorem u6(ho:JP X cA op q)(ha:JE X cA ao aj F EX a A)(hb:JE X cA ao aj F EX b B)(h1:oM b=true:=by rfl):JE X cA ao aj F EX (.Compare a [op] [b] pos) (.pr true q (.cons A (.cons B .nil))):=by
 obtain⟨r,h2,h3⟩:=ho.o;exact⟨zj3 h2 h3 ha.o hb.o (zK h1)⟩
theorem jf(ho:JP X cA op q)(ha:JE X cA ao aj F EX a A)(hb:JE X cA ao aj F EX b B)(h1:oM b=true:=by rfl):JT X cA ao aj F EX (.Compare a [op] [b] pos) (.pr true q (.cons A (.cons B .nil))):=by
 obtain⟨r,h2,h3⟩:=ho.o;exact⟨zjG h2 h3 ha.o hb.o (zK h1)⟩
theorem zlH(h1:JP X cA op q1)(h2:JP X cA op' q2)(ha:JE X cA ao aj F EX a A)(hb:JE X cA ao aj F EX b B)(hc:JE X cA ao aj F EX c C)(hm:oM c=true:=by rfl):JE X cA ao aj F EX (.Compare a [op,op'] [b,c] pos) (.v9 q1 q2 A B C):=by
 obtain⟨r,h3,h4⟩:=h1.o;obtain⟨r',h5,h6⟩:=h2.o;exact⟨zjI h3 h4 h5 h6 ha.o hb.o hc.o (zK hm)⟩
theorem zly{j p}(ha:JE X cA ao aj F EX a A):JE X cA ao aj F EX (.Compare a [.Is] [.Constant .none j p] pos) (.pr true .qQ (.cons A .nil)):=⟨zk5 ha.o⟩
theorem Pa{j p}(ha:JE X cA ao aj F EX a A):JT X cA ao aj F EX (.Compare a [.Is] [.Constant .none j p] pos) (.pr true .qQ (.cons A .nil)):=⟨zk4 ha.o⟩
theorem Jj{j p}(ha:JE X cA ao aj F EX a A):JT X cA ao aj F EX (.Compare a [.IsNot] [.Constant .none j p] pos) (.pr true .v7 (.cons A .nil)):=⟨zia ha.o⟩
noncomputable def Gw:Expr->Bool
 |.Call _ _ _ _=>true
 |.Name _ _=>true
 |.Subscript _ _ _=>true
 |.Attribute _ _ _=>true
 |_=>false
theorem iD(ha:JE X cA ao aj F EX a A)(he:Gw a=true:=by rfl):JT X cA ao aj F EX a A:=⟨zja ha.o (by cases a<;>first|(intro _;rfl)|cases he)⟩
theorem jJ(ha:JT X cA ao aj F EX a A):JT X cA ao aj F EX (.UnaryOp .Not a pos) (.not A):=⟨zkm ha.o⟩
theorem Pb(ha:JT X cA ao aj F EX a A):JW X cA ao aj F EX (.BoolOp .And [a] pos) A:=⟨ziR ha.o⟩
theorem zL(ha:JT X cA ao aj F EX a A):JW X cA ao aj F EX (.BoolOp .Or [a] pos) A:=⟨zkT ha.o⟩
theorem Pg{rest:List Expr}(ha:JT X cA ao aj F EX a A)(hb:JW X cA ao aj F EX (.BoolOp .And (b::rest) pos) B):JW X cA ao aj F EX (.BoolOp .And (a::b::rest) pos) (.and A B):=⟨zjM ha.o hb.o⟩
theorem u9{rest:List Expr}(ha:JT X cA ao aj F EX a A)(hb:JW X cA ao aj F EX (.BoolOp .Or (b::rest) pos) B):JW X cA ao aj F EX (.BoolOp .Or (a::b::rest) pos) (.or A B):=⟨zlU ha.o hb.o⟩
theorem tL(h:JW X cA ao aj F EX a A):JT X cA ao aj F EX a A:=⟨zmS h.o⟩
theorem Jk(hc:JT X cA ao aj F EX c C)(ha:JE X cA ao aj F EX a A)(hb:JE X cA ao aj F EX b B):JE X cA ao aj F EX (.IfExp c a b pos) (.ite C A B):=⟨zjS hc.o ha.o hb.o⟩
theorem aF:JA X cA ao aj F EX [] .nil:=⟨zkZ⟩
theorem aq(ha:JE X cA ao aj F EX a A)(hr:JA X cA ao aj F EX es Xs)(hs:aD a=true:=by rfl):JA X cA ao aj F EX (a::es) (.cons A Xs):=⟨zhF ha.o hr.o (bw hs)⟩
theorem cg{k}(ha:JA X cA ao aj F EX es Xs)(hz:decide (Es.len Xs<=sizeLine)=true:=by rfl):JE X cA ao aj F EX (.Tuple es k pos) (.tup Xs):=⟨zkb ha.o (lA hz)⟩
theorem jg(ha:JA X cA ao aj F EX es Xs)(hz:decide (Es.len Xs<=sizeLine)=true:=by rfl):JE X cA ao aj F EX (.List es pos) (.lst fz Xs):=⟨zkB ha.o (lA hz)⟩
theorem zi6{j p1 j2 p3}{k:Str}{i:Int}:JE X cA ao aj F EX (.Dict [some (.Constant (.str k) j p1)] [.Constant (.int i) j2 p3] pos) (.qT k i):=⟨zig⟩
noncomputable def rH:Expr->Bool
 |.Constant _ _ _=>true
 |.Name _ _=>true
 |.Call _ _ _ _=>true
 |.BinOp _ _ _ _=>true
 |.UnaryOp _ _ _=>true
 |.Subscript _ _ _=>true
 |.IfExp _ _ _ _=>true
 |.Attribute _ _ _=>true
 |.Compare _ _ _ _=>true
 |.BoolOp _ _ _=>true
 |_=>false
theorem bB(ha:JE X cA ao aj F EX a A)(hb:JE X cA ao aj F EX b B)(hs:rH b=true:=by rfl):JE X cA ao aj F EX (.Subscript a b pos) (.pr true .ix (.cons A (.cons B .nil))):=⟨zlM zlf ha.o hb.o (by cases b<;>first|(intro _ _;rfl)|cases hs)⟩
theorem qp:JO X cA ao aj F EX none .no:=⟨zl7⟩
theorem oN(ha:JE X cA ao aj F EX a A):JO X cA ao aj F EX (some a) (.yes A):=⟨zi4 ha.o⟩
theorem pR{lo hi:Option Expr}{Lo Hi:Eo}(ha:JE X cA ao aj F EX a A)(hl:JO X cA ao aj F EX lo Lo)(hh:JO X cA ao aj F EX hi Hi):JE X cA ao aj F EX (.Subscript a (.Slice lo hi none p2) pos) (.sl fz A Lo Hi):=⟨zlX ha.o hl.o hh.o⟩
theorem zlw(ha:JE X cA ao aj F EX a A):JE X cA ao aj F EX (.Subscript a (.Slice none none (some (.UnaryOp .USub (.Constant (.int 1) j p3) p4)) p2) pos) (.pr true .rev (.cons A .nil)):=⟨zjp ha.o⟩
theorem zju(f:Nat){cm:Bool}{k:Nat}{fa:Addr}{fd:FuncData}{ps:List Str}(Fo:bQ X.prog X.w X.K X.mg X.base (dZ X.prog X.w) cm k fa fd ps (mJ X.K cA (F f)))(h_:cm=true->X.aj=true)(hr:bC k X.A)(hm:X.mg x=some (.ref fa))(hk:PySem.W.keepIn X.K (.ref fa)=true)(hb:Binds X.K fd ps [])(R:JR X EX)(hg:JK X x .globalImplicit)
  (ha:JA X cA ao aj F EX (e::es) Xs) (hd:okN x=true) (he:aD e=true:=by rfl) (hpl:es.all aD=true:=by rfl) :
  JE X cA ao aj F EX (.Call (.Name x p) (e::es) [] pos) (.call f Xs):=⟨zhk Fo h_ hr hg.o hm hk hb R.o ha.o (qm hd).1 (bw he) (aV hpl)⟩
theorem tM(hv:Bk cA kd=.ty T)(hm:X.mg x=none)(hb:bootBuiltins x=some (.type T))(hg:JK X x .globalImplicit)(hd:okN x=true):JN X cA (.Name x pos) kd:=⟨λak s Z H Q I h=>by
 rw[hv] at h;exact t_ I hg.o hm hb ⟨.ty T,H,I,rfl,h⟩ (qm hd).2.2 (qm hd).1⟩
theorem tO(h0:(rz kd).isSome=true)(hm:X.mg "isinstance"=none)(hg:JK X "isinstance" .globalImplicit)(ha:JE X cA ao aj F EX a A)(hk:JN X cA kx kd)(h1:aD a=true:=by rfl)(h2:aD kx=true:=by rfl):JE X cA ao aj F EX (.Call (.Name "isinstance" p) [a,kx] [] pos) (.jD A kd):=
 ⟨zjN (λz=>by rw[z] at h0;cases h0) hg.o hm ha.o hk.o (bw h1) (bw h2) (aV (by rw[vP,h2];rfl))⟩
theorem qu(hm:X.mg "len"=none)(hg:JK X "len" .globalImplicit)(ha:JA X cA ao aj F EX (e::es) Xs)(he:aD e=true:=by rfl)(hpl:es.all aD=true:=by rfl):JE X cA ao aj F EX (.Call (.Name "len" p) (e::es) [] pos) (.pr fz .len Xs):=⟨wK zcQ zjr hg.o hm PySem.boot_len ha.o J0 J0 (bw he) (aV hpl)⟩
theorem zll(hm:X.mg "abs"=none)(hg:JK X "abs" .globalImplicit)(ha:JA X cA ao aj F EX (e::es) Xs)(he:aD e=true:=by rfl)(hpl:es.all aD=true:=by rfl):JE X cA ao aj F EX (.Call (.Name "abs" p) (e::es) [] pos) (.pr fz .abs Xs):=⟨wK zf3 zjA hg.o hm PyProof.Rows.boot_abs ha.o J0 J0 (bw he) (aV hpl)⟩
theorem zkq(hc:X.aj=true)(hm:X.mg "max"=none)(hg:JK X "max" .globalImplicit)(ha:JA X cA ao aj F EX (e::es) Xs)(he:aD e=true:=by rfl)(hpl:es.all aD=true:=by rfl):JE X cA ao aj F EX (.Call (.Name "max" p) (e::es) [] pos) (.pr fz .max2 Xs):=⟨wK (zes hc) zhp hg.o hm PyProof.Rows.boot_max ha.o J0 J0 (bw he) (aV hpl)⟩
theorem Wf(hc:X.aj=true)(hm:X.mg "min"=none)(hg:JK X "min" .globalImplicit)(ha:JA X cA ao aj F EX (e::es) Xs)(he:aD e=true:=by rfl)(hpl:es.all aD=true:=by rfl):JE X cA ao aj F EX (.Call (.Name "min" p) (e::es) [] pos) (.pr fz .min2 Xs):=⟨wK (zfn hc) zhm hg.o hm PyProof.Rows.boot_min ha.o J0 J0 (bw he) (aV hpl)⟩
theorem zjg(hm:X.mg "int"=none)(hg:JK X "int" .globalImplicit)(ha:JA X cA ao aj F EX (e::es) Xs)(he:aD e=true:=by rfl)(hpl:es.all aD=true:=by rfl):JE X cA ao aj F EX (.Call (.Name "int" p) (e::es) [] pos) (.pr fz .uI Xs):=⟨Om zeV zhX hg.o hm PyProof.Rows.boot_int ha.o J0 J0 (bw he) (aV hpl)⟩
theorem zgg(hm:X.mg "divmod"=none)(hg:JK X "divmod" .globalImplicit)(ha:JA X cA ao aj F EX (e::es) Xs)(he:aD e=true:=by rfl)(hpl:es.all aD=true:=by rfl):JE X cA ao aj F EX (.Call (.Name "divmod" p) (e::es) [] pos) (.pr fz .divmod Xs):=⟨wK zcS zfC hg.o hm PyProof.Rows.boot_divmod ha.o J0 J0 (bw he) (aV hpl)⟩
theorem Jl(hc:X.aj=true)(hm:X.mg "all"=none)(hg:JK X "all" .globalImplicit)(ha:JA X cA ao aj F EX (e::es) Xs)(he:aD e=true:=by rfl)(hpl:es.all aD=true:=by rfl):JE X cA ao aj F EX (.Call (.Name "all" p) (e::es) [] pos) (.pr fz .all Xs):=⟨wK (zeA hc) zkt hg.o hm PyProof.Rows.boot_all ha.o J0 J0 (bw he) (aV hpl)⟩
theorem Jm(hm:X.mg "list"=none)(hg:JK X "list" .globalImplicit)(ha:JA X cA ao aj F EX (e::es) Xs)(he:aD e=true:=by rfl)(hpl:es.all aD=true:=by rfl):JE X cA ao aj F EX (.Call (.Name "list" p) (e::es) [] pos) (.pr fz .list Xs):=⟨Om zcE zhT hg.o hm ziE ha.o J0 J0 (bw he) (aV hpl)⟩
theorem Gx(hm:X.mg "tuple"=none)(hg:JK X "tuple" .globalImplicit)(ha:JA X cA ao aj F EX (e::es) Xs)(he:aD e=true:=by rfl)(hpl:es.all aD=true:=by rfl):JE X cA ao aj F EX (.Call (.Name "tuple" p) (e::es) [] pos) (.pr fz .tuple Xs):=⟨Om zci zga hg.o hm Bq ha.o J0 J0 (bw he) (aV hpl)⟩
theorem zj0(ho:JE X cA ao aj F EX a A)(hb:JE X cA ao aj F EX b B)(lN:attributeBase a "append" X.env (eval a X.env)=eval a X.env:=by rfl)(lO:(apos.endLine==pos.line)=true:=by rfl)(hs:aD b=true:=by rfl) :
  JE X cA ao aj F EX (.Call (.Attribute a "append" apos) [b] [] pos) (.push A B):=⟨zh7 ho.o hb.o lN (u0 hs rfl rfl) lO (bw hs) rfl⟩
theorem rJ:JC X cA ao aj F EX [] .no:=⟨zjy⟩
theorem wQ(h:JT X cA ao aj F EX c C):JC X cA ao aj F EX [c] (.yes C):=⟨ziq h.o⟩
theorem pU(ha:JE X cA ao aj F EX a A):JI X cA ao aj F EX tg a (.seq A):=⟨zi2 ha.o⟩
theorem zmP(hmg:X.mg "range"=none)(rB:JK X "range" .globalImplicit)(ha:JE X cA ao aj F EX a A)(hb:JE X cA ao aj F EX b B)(h1:aD a=true:=by rfl)(h2:aD b=true:=by rfl):JI X cA ao aj F EX tg (.Call (.Name "range" p) [a,b] [] pos) (.rg A B):=⟨zlL rB.o hmg ha.o hb.o (bw h1) (bw h2)⟩
theorem pW(hmg:X.mg "range"=none)(rB:JK X "range" .globalImplicit)(hb:JE X cA ao aj F EX b B)(h2:aD b=true:=by rfl):JI X cA ao aj F EX tg (.Call (.Name "range" p) [b] [] pos) (.rg (.c (.int 0)) B):=⟨zjT rB.o hmg hb.o (bw h2)⟩
noncomputable def Gy(scope:Scope)(x:Str):Bool:=match scope.names.lookup x with
 |some .local=>true
 |some .cell=>true
 |_=>false
theorem Bs(h:Gy scope x=true):Loc (X.blk scope cl N Cc s3 H3 fp ak).env.scope x/\((X.blk scope cl N Cc s3 H3 fp ak).fn x=true\/(X.blk scope cl N Cc s3 H3 fp ak).env.scope.names.lookup x=some .local):=by
 unfold Gy at h;split at h
 ·rename_i z;exact⟨.inl (lookup_relabel_local z),.inr (lookup_relabel_local z)⟩
 ·rename_i z;exact⟨.inr (Jh (by intro y;cases y) z),.inl (by show (scope.names.lookup x==some NameKind.cell)=true;rw[z];rfl)⟩
 ·cases h
theorem mj(i:Nat)(Pj:N.Nodup)(hi:N[i]?=some x)(hl:Gy scope x=true):JY (X.blk scope cl N Cc s3 H3 fp ak) (.Name x tp) (cX i):=
 ⟨Ih Pj hi (Bs hl).1 (Bs hl).2⟩
theorem Wg(i j:Nat)(hc:X.aj=true)(Pj:N.Nodup)(hi:N[i]?=some x)(hj:N[j]?=some y)(hl:Gy scope x=true)(Bp:Gy scope y=true):JY (X.blk scope cl N Cc s3 H3 fp ak) (.Tuple [.Name x px,.Name y py] kt tp) (qK X.K 2 (fK (cX i) (fK (cX j) qJ))):=
 ⟨O6 (X:=X.blk scope cl N Cc s3 H3 fp ak) hc Pj hi hj (Bs hl).1 (Bs Bp).1 (Bs hl).2 (Bs Bp).2⟩
theorem Bu{scope:Scope}{XN:List Str}{M0 N:List Str}{fr:List Nat}(h:frB scope XN N fr=true):(M0++N).length=M0.length+fr.length/\∀(i:Nat) (y:Str) (j:Nat),(M0++N)[M0.length+i]?=some y->fr[i]?=some j->scope.names.lookup y=some .free/\XN[j]?=some y:=by
 obtain⟨l,q⟩:=V3 h;refine⟨by rw[iI,l],λi y j e1 e2=>q i y j ?_ e2⟩;rw[oY gV] at e1;rw[show M0.length+i-M0.length=i by lia] at e1;exact e1
theorem rK{elt iter tg:Expr}{ifs:List Expr}{scope:Scope}{cond:Eo}{cQ:List Nat}{g:TG}{w:Wk}(sc:Scope)(XN M0 N:List Str)(fr:List Nat)(hc:X.aj=true)(Pk:X.env.scope=sc)(uZ:X.N=XN)(hB:rD sc scope=true)(hf:frB scope XN N fr=true)(hT:kZ X.K cA g cQ)(fV:cQ.all (λi=>decide (i<M0.length))=true)
  (hi:JI X cA ao aj F EX tg iter w) (hg:∀cl C s3 H3 fp ak,JY (X.blk scope cl (M0++N) C s3 H3 fp ak) tg g)
  (ht:∀cl C s3 H3 fp ak,JC (X.blk scope cl (M0++N) C s3 H3 fp ak) cA ao aj F (λ_ _ _ _=>False) ifs cond) (he:∀cl C s3 H3 fp ak,JE (X.blk scope cl (M0++N) C s3 H3 fp ak) cA ao aj F (λ_ _ _ _=>False) elt B)
  (hs:∀x,foldedSetIterable iter X.env x=pure x:=by intro _;rfl):JE X cA ao aj F EX (.ListComp elt [⟨tg,iter,ifs,0⟩] scope pos) (.comp fz B cQ w fr M0.length cond):=
 ⟨VP hc (cR.of (Pk▸hB)) hi.o (Bu (uZ▸hf)).1 (Bu (uZ▸hf)).2 (λa b c d e f=>(hg a b c d e f).o) hT (λi hi=>lA (gb.mp fV i hi)) (λa b c d e f=>(ht a b c d e f).o) (λa b c d e f=>(he a b c d e f).o) hs⟩
theorem Kaa{scope dj:Scope}{env:Env}(h:cR scope dj):cR (relabel scope env) dj:=⟨h.kind,h.Um,λy hy z=>by
 rcases h.free y hy z with q|q
 ·exact .inl (Jh (by intro y;cases y) q)
 ·exact Iv q,h.loc⟩
theorem Wh{elt iter tg:Expr}{ifs:List Expr}{scope dj:Scope}{cond:Eo}{cQ:List Nat}{g:TG}{w:Wk}{cl:List (Str×Addr)}{wR:List Str}{Cc:Addr}{s3:Shared}{H3:Hp}{fp:List Addr}{ak:List (Addr×Obj)}(XN M0 N:List Str)(fr:List Nat)(hc:X.aj=true)(uZ:wR=XN)(hB:rD scope dj=true)(hf:frB dj XN N fr=true)(hT:kZ X.K cA g cQ)(fV:cQ.all (λi=>decide (i<M0.length))=true)
  (hi:JI (X.blk scope cl wR Cc s3 H3 fp ak) cA ao aj F EX tg iter w) (hg:∀cl2 C s3' Gz fp' gQ,JY ((X.blk scope cl wR Cc s3 H3 fp ak).blk dj cl2 (M0++N) C s3' Gz fp' gQ) tg g)
  (ht:∀cl2 C s3' Gz fp' gQ,JC ((X.blk scope cl wR Cc s3 H3 fp ak).blk dj cl2 (M0++N) C s3' Gz fp' gQ) cA ao aj F (λ_ _ _ _=>False) ifs cond) (he:∀cl2 C s3' Gz fp' gQ,JE ((X.blk scope cl wR Cc s3 H3 fp ak).blk dj cl2 (M0++N) C s3' Gz fp' gQ) cA ao aj F (λ_ _ _ _=>False) elt B)
  (hs:∀x,foldedSetIterable iter (X.blk scope cl wR Cc s3 H3 fp ak).env x=pure x:=by intro _;rfl):JE (X.blk scope cl wR Cc s3 H3 fp ak) cA ao aj F EX (.ListComp elt [⟨tg,iter,ifs,0⟩] dj pos) (.comp fz B cQ w fr M0.length cond):=by
 subst uZ;exact⟨VP (X:=X.blk scope cl wR Cc s3 H3 fp ak) hc (Kaa (cR.of hB)) hi.o (Bu hf).1 (Bu hf).2 (λa b c d e f=>(hg a b c d e f).o) hT (λi hi=>lA (gb.mp fV i hi)) (λa b c d e f=>(ht a b c d e f).o) (λa b c d e f=>(he a b c d e f).o) hs⟩
theorem rM:JR X (λ_ _ _ _=>False):=⟨zev⟩
theorem bV{P:Program}{w:World}{K:W.Frag}{mg:Str->Option Value}{base:Heap}{N:List Str}{qual:Str}{scope:Scope}{f:Addr}{cd:Value}{A:Around}{outer:List Env}{s:Shared}{H:Hp}{E:XK}{cm:Bool} :
  JR (dU (dZ P w) P w K mg base N qual scope f cd A outer s H E cm) (λ_ C dx H'=>E C dx H'):=⟨zd4⟩
theorem u_{CX:pD}{P:Program}{w:World}{K:W.Frag}{mg:Str->Option Value}{base:Heap}{N:List Str}{qual:Str}{scope:Scope}{f:Addr}{cd:Value}{A:Around}{outer:List Env}{s:Shared}{H:Hp}{E:XK}{cm:Bool} :
  JH (dU CX P w K mg base N qual scope f cd A outer s H E cm):=⟨PassesOwn.leaving⟩
end
section
variable {X:Cx}{cA:Cl}{ao:Nat->Nat->Bool}{aj:Bool}{F:Bool->Fn}{EX:XS}{a b c d e:Expr}{A B C:E}{pos p p2:Pos}{st:Stmt}{sts body orelse:List Stmt}{m:St}{ms mb me mh:bM}{es:List Expr}{Xs:Es}{x y n:Str}{k k':NameKind}
theorem zM(h:JK X x k)(hv:lZ k=true):Loc X.env.scope x:=by cases k<;>first|exact .inl h.o|exact .inr h.o|cases hv
theorem zN(h:JK X x k)(hv:X.fn x=true\/k=.local):X.fn x=true\/X.env.scope.names.lookup x=some .local:=by
 rcases hv with hv|hv
 ·exact .inl hv
 ·subst hv;exact .inr h.o
theorem aO:JB X cA ao aj F EX [] .nil:=⟨zht⟩
theorem aJ(h1:JS X cA ao aj F EX st m)(h2:JB X cA ao aj F EX sts ms):JB X cA ao aj F EX (st::sts) (.cons m ms):=⟨zf2 h1.o h2.o⟩
theorem Pn:JS X cA ao aj F EX st .no:=⟨zlI⟩
theorem Jo(ha:JE X cA ao aj (F aj) EX a A)(hs:swapsWith a none pos.line X.env=pure false:=by rfl):JS X cA ao aj F EX (.Expr a pos) (.ex A):=⟨zlF ha.o hs⟩
theorem bT(ha:JE X cA ao aj (F aj) EX a A):JS X cA ao aj F EX (.Return (some a) pos) (.ret A):=⟨zj6 ha.o⟩
theorem gj(i:Nat)(hN:X.N.Nodup)(hi:X.N[i]?=some x)(hx:JK X x k)(hl:lZ k=true)(ha:JE X cA ao aj (F aj) EX a A)(hs:swapsWith a (some (.Name x p)) pos.line X.env=pure false:=by rfl)(hf:X.fn x=true\/k=.local:=by first|exact .inl rfl|exact .inr rfl):JS X cA ao aj F EX (.Assign [.Name x p] a pos) (.asg (.nm i) A):=
 ⟨zjn hN hi (zM hx hl) ha.o hs (zN hx hf)⟩
theorem Bv{elt iter tg:Expr}{ifs:List Expr}{scope:Scope}{cond:Eo}{cQ:List Nat}{g:TG}{w:Wk}{fz:Bool}{py spos:Pos}(i:Nat)(sc:Scope)(XN M0 N:List Str)(fr:List Nat)(hN:X.N.Nodup)(E_:X.N[i]?=some y)(hx:JK X y k)(hl:lZ k=true)(hc:X.aj=true)(Pk:X.env.scope=sc)(uZ:X.N=XN)(hB:rD sc scope=true)(hf:frB scope XN N fr=true)(hT:kZ X.K cA g cQ)(fV:cQ.all (λi=>decide (i<M0.length))=true)
  (hi:JI X cA ao aj (F aj) EX tg iter w) (hg:∀cl C s3 H3 fp ak,JY (X.blk scope cl (M0++N) C s3 H3 fp ak) tg g)
  (ht:∀cl C s3 H3 fp ak,JC (X.blk scope cl (M0++N) C s3 H3 fp ak) cA ao aj (F aj) (λ_ _ _ _=>False) ifs cond) (he:∀cl C s3 H3 fp ak,JE (X.blk scope cl (M0++N) C s3 H3 fp ak) cA ao aj (F aj) (λ_ _ _ _=>False) elt B)
  (Fb:swapsWith (.ListComp elt [⟨tg,iter,ifs,0⟩] scope pos) (some (.Name y py)) spos.line X.env=pure true:=by rfl) (hff:X.fn y=true\/k=.local:=by first|exact .inl rfl|exact .inr rfl) (hs:∀x,foldedSetIterable iter X.env x=pure x:=by intro _;rfl) :
  JS X cA ao aj F EX (.Assign [.Name y py] (.ListComp elt [⟨tg,iter,ifs,0⟩] scope pos) spos) (.asg (.nm i) (.comp fz B cQ w fr M0.length cond)):=
 ⟨zhS hc hN E_ (zM hx hl) (zN hx hff) (cR.of (Pk▸hB)) hi.o (Bu (uZ▸hf)).1 (Bu (uZ▸hf)).2 (λa b c d e f=>(hg a b c d e f).o) hT (λi hi=>lA (gb.mp fV i hi)) (λa b c d e f=>(ht a b c d e f).o) (λa b c d e f=>(he a b c d e f).o) Fb hs⟩
theorem GC(i j:Nat){k0}(hc:X.aj=true)(dX:aj=true)(hN:X.N.Nodup)(hi:X.N[i]?=some x)(hj:X.N[j]?=some y)(hx:JK X x k)(hy:JK X y k')(Pq:lZ k=true)(Pu:lZ k'=true)(ha:JE X cA ao aj (F aj) EX a A)
  (uX:X.fn x=true\/k=.local:=by first|exact .inl rfl|exact .inr rfl) (uY:X.fn y=true\/k'=.local:=by first|exact .inl rfl|exact .inr rfl)
  (hs:swapsWithSole [.Tuple [.Name x px,.Name y py] k0 pt] a pos.line X.env=pure false:=by rfl) (hw:swappedStores [.Tuple [.Name x px,.Name y py] k0 pt] a X.env=pure none:=by rfl) (h1:(assignEach [.Tuple [.Name x px,.Name y py] k0 pt] X.env).map (·.2)=[assign (.Tuple [.Name x px,.Name y py] k0 pt) X.env]:=by rfl) :
  JS X cA ao aj F EX (.Assign [.Tuple [.Name x px,.Name y py] k0 pt] a pos) (.asg (.tp [i,j]) A):=⟨zh4 hc dX hN hi hj (zM hx Pq) (zM hy Pu) (zN hx uX) (zN hy uY) ha.o hs hw h1⟩
theorem Px(hO:JE X cA ao aj (F aj) EX oo O)(hI:JE X cA ao aj (F aj) EX ii I')(ha:JE X cA ao aj (F aj) EX a A)
  (O7:∀v,assign (.Subscript oo ii p) X.env v=(do
   let obj <-holding [v] (eval oo X.env)
   let at_ <-holding [v,obj] (eval ii X.env)
   standAt p
   holding [v,obj,at_] (setItem obj at_ v)
   release [v,obj,at_] []):=by intro _;rfl) (hs:swapsWithSole [.Subscript oo ii p] a pos.line X.env=pure false:=by rfl) (hw:swappedStores [.Subscript oo ii p] a X.env=pure none:=by rfl)
  (h1:(assignEach [.Subscript oo ii p] X.env).map (·.2)=[assign (.Subscript oo ii p) X.env]:=by rfl):JS X cA ao aj F EX (.Assign [.Subscript oo ii p] a pos) (.asg (.ao O I') A):=⟨zjx hO.o hI.o ha.o O7 hs hw h1⟩
theorem fH(hc:JT X cA ao aj (F aj) EX c C)(ht:JB X cA ao aj F EX body mb)(he:JB X cA ao aj F EX orelse me):JS X cA ao aj F EX (.If c body orelse pos) (.iff C mb me):=⟨zlW hc.o ht.o he.o⟩
theorem wU(i:Nat)(hN:X.N.Nodup)(hi:X.N[i]?=some x)(hx:JK X x k)(hl:lZ k=true)(hf:X.fn x=true\/k=.local:=by first|exact .inl rfl|exact .inr rfl):JG X cA ao aj F EX (.Name x pos) (.nm i):=⟨ziw hN hi (zM hx hl) (zN hx hf)⟩
theorem zjX(i j:Nat){k0}(hc:X.aj=true)(dX:aj=true)(hN:X.N.Nodup)(hi:X.N[i]?=some x)(hj:X.N[j]?=some y)(hx:JK X x k)(hy:JK X y k')(Pq:lZ k=true)(Pu:lZ k'=true)(uX:X.fn x=true\/k=.local:=by first|exact .inl rfl|exact .inr rfl)(uY:X.fn y=true\/k'=.local:=by first|exact .inl rfl|exact .inr rfl) :
  JG X cA ao aj F EX (.Tuple [.Name x px,.Name y py] k0 pos) (.tp [i,j]):=⟨zhC hc dX hN hi hj (zM hx Pq) (zM hy Pu) (zN hx uX) (zN hy uY)⟩
theorem vd(hp:JH X)(hc:X.aj=true)(dX:aj=true)(ha:JI X cA ao aj (F aj) EX tg a w)(hg:JG X cA ao aj F EX tg t)(hb:JB X cA ao aj F EX body mb)(hs:∀x,foldedSetIterable a X.env x=pure x:=by intro _;rfl):JS X cA ao aj F EX (.For tg a body [] pos) (.fr t w mb):=
 ⟨zkz hp.o hc dX ha.o hg.o hb.o hs⟩
end
theorem Wi{P:Program}{w:World}{K:W.Frag}{mg:Str->Option Value}{base:Heap}{cA:Cl}{ao:Nat->Nat->Bool}{T:Nat->Option Df}{x qual:Str}{st:Stmt}{f:Addr}{fd:FuncData}{N ps:List Str}{k n:Nat}{cm:Bool}{df:Df}(F:lY K x qual st f fd)(S:cH N ps (au st))(hT:T n=some df)(hp:df.fU=ps.length)(hm:df.many=N.length)
  (hb:∀(cdv:Value) (A:Around) (outer:List Env) (s:Shared) (H:Hp) (E:XK),bC k (A.deeper (envOfC qual (au st) s.heap.objs.size f cdv))->
   JB (dU (dZ P w) P w K mg base N qual (au st) f cdv A outer s H E cm) cA ao cm (λc=>call ao T k c) (λ_ C dx H'=>E C dx H') (aK st) df.body) :
  bQ P w K mg base (dZ P w) cm (k+1) f fd ps (mJ K cA (call ao T (k+1) cm n)):=zkQ F S hT hp hm λcdv A outer s H E hr=>(hb cdv A outer s H E hr).o
end Mi
namespace Mi
open PySem PySem.Spec PyProof.Rows L2 PySem.W
theorem zjs{fd:FuncData}{x:Str}{st:Stmt}(h:lC fd=sV x st):fd=fnOf x x (aN st) (aK st) (au st) .none fd.kwdefaults fd.doc fd.pyModule fd.annotations fd.code fd.closureTuple:=by
 cases fd;unfold lC sV at h;cases h;rfl
noncomputable def fX(K:Frag)(x:Str):Addr:=match yc K x with
 |some p=>p.1
 |none=>0
noncomputable def fdOf(K:Frag)(x:Str)(st:Stmt):FuncData:=match yc K x with
 |some p=>p.2
 |none=>sV x st
structure FnAt(K:Frag)(x:Str)(st:Stmt):Prop where
 ns:nsIn K mainGlobals x=some (some (.ref (fX K x)))
 fn:lY K x x st (fX K x) (fdOf K x st)
theorem zlT{K:Frag}{x:Str}{st:Stmt}(h:(yc K x).map (λp=>lC p.2)=some (sV x st)):FnAt K x st:=by
 cases e:yc K x with
 |none=>rw[e] at h;cases h
 |some p=>
  rw[e] at h;have hp:lC p.2=sV x st:=cT h;have h1:fX K x=p.1:=by unfold fX;rw[e]
  have h2:fdOf K x st=p.2:=by unfold fdOf;rw[e]
  unfold yc at e;split at e
  ·rename_i f hf;split at e
   ·rename_i oc od fd sl hl;split at e
    ·rename_i hc;cases e;rw[eU] at hc;refine⟨by rw[h1];exact hf,?_⟩;rw[h1,h2];exact⟨⟨oc,od,_,_,_,_,_,_,sl,zjs hp,hl,hc.1⟩,hc.2⟩
    ·cases e
   ·cases e
  ·cases e
theorem FnAt.m{K:Frag}{x:Str}{st:Stmt}(F:FnAt K x st){h:Heap}{mg:Str->Option Value}(X:K.In h)(G:h.Ns mainGlobals mg):mg x=some (.ref (fX K x)):=mg_of X G F.ns
theorem zlh{K:Frag}{x:Str}(h:qF K x=true){hp:Heap}{mg:Str->Option Value}(X:K.In hp)(G:hp.Ns mainGlobals mg):mg x=some (.ref (cW K x)):=by
 refine mg_of X G ?_;unfold qF at h;unfold cW;split at h
 ·rename_i C e;rw[e]
 ·cases h
theorem Wj{K:Frag}{x:Str}{i:Int}(h:jR K (x,i)=true){hp:Heap}{mg:Str->Option Value}(X:K.In hp)(G:hp.Ns mainGlobals mg):∃t,mg x=some (.int i t):=by
 unfold jR at h;split at h
 ·rename_i j t e;rw[xU] at h;subst h;exact⟨t,mg_of X G e⟩
 ·cases h
theorem Wm{K:Frag}{x y:Str}(h:jT K (x,y)=true){hp:Heap}{mg:Str->Option Value}(X:K.In hp)(G:hp.Ns mainGlobals mg):∃t,mg x=some (.str y t):=by
 unfold jT at h;split at h
 ·rename_i j t e;rw[xU] at h;subst h;exact⟨t,mg_of X G e⟩
 ·cases h
theorem mK{K:Frag}{x:Str}(h:nQ K x=true){hp:Heap}{mg:Str->Option Value}(X:K.In hp)(G:hp.Ns mainGlobals mg):mg x=none:=by
 refine mg_none_of X G ?_;unfold nQ at h;split at h
 ·rename_i e;exact e
 ·cases h
structure wV(l:Lk)(K:Frag):Prop where
 cl:∀x∈l.CT,qF K x=true
 cs:l.CT.isEmpty=true\/vR K (l.L K)=true
 ra:∀k∈l.Sg,CQ K (gB (l.L K) k)=true
 ca:∀k∈l.Sq,subB K (l.L K) k=true
 it:∀p∈l.vU,jR K p=true
 no:∀x∈l.Sd,nQ K x=true
 st:∀p∈l.Ss,jT K p=true
theorem Kab{l:Lk}{K:Frag}(h:l.good K=true):wV l K:=by
 unfold Lk.good at h;simp only[eU,Bool.or_eq_true,gb] at h;obtain⟨⟨⟨⟨⟨⟨h1,h2⟩,h3⟩,h4⟩,h5⟩,h6⟩,h7⟩:=h;exact⟨h1,h2,h3,h4,h5,h6,h7⟩
theorem vf{K:Frag}{x:Str}{st:Stmt}{f:Addr}{fd:FuncData}{p:Str}(F:lY K x x st f fd)(h:∀(kV doc pm:Value) (an:Option Addr) (cdv ct a:Value),bindArgs (fnOf x x (aN st) (aK st) (au st) .none kV doc pm an cdv ct) ⟨[a],[]⟩=pure [(p,a)]):Binds K fd [p] []:=by
 obtain⟨oc,od,kV,doc,pm,an,cdv,ct,osl,rfl,lk,jd⟩:=F.ex;exact zE (h kV doc pm an cdv ct)
theorem vg{K:Frag}{x:Str}{st:Stmt}{f:Addr}{fd:FuncData}{p q:Str}(F:lY K x x st f fd)(h:∀(kV doc pm:Value) (an:Option Addr) (cdv ct a b:Value),bindArgs (fnOf x x (aN st) (aK st) (au st) .none kV doc pm an cdv ct) ⟨[a,b],[]⟩=pure [(p,a),(q,b)]):Binds K fd [p,q] []:=by
 obtain⟨oc,od,kV,doc,pm,an,cdv,ct,osl,rfl,lk,jd⟩:=F.ex;exact zF (h kV doc pm an cdv ct)
theorem vh{K:Frag}{x:Str}{st:Stmt}{f:Addr}{fd:FuncData}{p q t:Str}(F:lY K x x st f fd)(h:∀(kV doc pm:Value) (an:Option Addr) (cdv ct a b c:Value),bindArgs (fnOf x x (aN st) (aK st) (au st) .none kV doc pm an cdv ct) ⟨[a,b,c],[]⟩=pure [(p,a),(q,b),(t,c)]):Binds K fd [p,q,t] []:=by
 obtain⟨oc,od,kV,doc,pm,an,cdv,ct,osl,rfl,lk,jd⟩:=F.ex;exact rF (h kV doc pm an cdv ct)
theorem vm{K:Frag}{x:Str}{st:Stmt}{f:Addr}{fd:FuncData}{p q t u:Str}(F:lY K x x st f fd)(h:∀(kV doc pm:Value) (an:Option Addr) (cdv ct a b c d:Value),bindArgs (fnOf x x (aN st) (aK st) (au st) .none kV doc pm an cdv ct) ⟨[a,b,c,d],[]⟩=pure [(p,a),(q,b),(t,c),(u,d)]):Binds K fd [p,q,t,u] []:=by
 obtain⟨oc,od,kV,doc,pm,an,cdv,ct,osl,rfl,lk,jd⟩:=F.ex;exact rG (h kV doc pm an cdv ct)
theorem zO{K:Frag}{x:Str}{st:Stmt}{f:Addr}{fd:FuncData}{p:Str}(F:lY K x x st f fd)(h:∀(kV doc pm:Value) (an:Option Addr) (cdv ct a:Value),bindArgs (fnOf x x (aN st) (aK st) (au st) .none kV doc pm an cdv ct) ⟨[a],[]⟩=pure [(p,a)]):∀(s:Shared) (u:Value),BindsTo s fd ⟨[u],[]⟩ [(p,u)]:=by
 obtain⟨oc,od,kV,doc,pm,an,cdv,ct,osl,rfl,lk,jd⟩:=F.ex;exact λs u=>.of_eq (h kV doc pm an cdv ct u)
end Mi
namespace Mi
open PySem PySem.Spec PyProof.Rows L2
section
variable {K:W.Frag}{cA:Cl}{U:Ph}{H:Hp}
theorem aA.GD(r:aA K cA U H xs ys):∀l:List Nat,aA K cA U H (l.map λi=>xs.getD i .non) (l.map λi=>ys.getD i .non)
 |[]=>.nil
 |i::l=>by
  refine .cons ?_ (aA.GD r l);show Rep K cA U H (xs.getD i .non) (ys.getD i .non);cases e:xs[i]? with
  |some x=>
   obtain⟨u,e1,e2⟩:=r.get e;rw[nF,nF,e,e1];exact e2
  |none=>
   have e1:ys[i]?=Option.none:=r.none e;rw[nF,nF,e,e1];exact .non
theorem aA.mem(r:aA K cA U H xs ys):∀v∈ys,∃d∈xs,Rep K cA U H d v:=by
 intro v hv;obtain⟨i,hi,e⟩:=Ky hv;have e':ys[i]?=some v:=by rw[eO hi,e]
 cases ex:xs[i]? with
 |none=>rw[r.none ex] at e';cases e'
 |some d=>
  obtain⟨u,e1,e2⟩:=r.get ex;rw[e1] at e';cases e';exact⟨d,dH ex,e2⟩
theorem Wn:∀{us ws:List D} {xs ys:List V},aA K cA U H us xs->aA K cA U H ws ys->∀{b:Bool},pO us ws=some b->jq xs ys=some b
 |[],ws,_,ys,r1,r2,b,h=>by
  cases r1;unfold pO at h;unfold jq;rw[<-r2.len];exact h
 |_::_,[],_,_,r1,r2,b,h=>by
  cases r2;cases r1;unfold pO at h;unfold jq;exact h
 |x::us,y::ws,_,_,r1,r2,b,h=>by
  cases r1 with
  |cons a1 b1=>
   cases r2 with
   |cons a2 b2=>
    unfold pO at h;split at h
    ·rename_i z;cases z
    ·rename_i z;cases z
    ·rename_i p ps q qs e1 e2;cases e1;cases e2;cases a1;cases a2;unfold jq;by_cases e:p=q
     ·rw[if_pos e] at h ⊢;exact Wn b1 b2 h
     ·rw[if_neg e] at h ⊢;exact h
    ·cases h
theorem zf6(r:aA K cA U H xs ys)(h:(xs.all iU||xs.all gG)=true):qO K H ys (wj xs):=by
 rw[Bool.or_eq_true] at h;rcases h with h|h
 ·left
  rw[gb] at h;refine⟨λv hv=>?_,λi j b e=>?_⟩
  ·obtain⟨d,hd,q⟩:=r.mem v hv;have:=h d hd;cases q<;>first|exact⟨_,rfl⟩|cases this
  ·unfold wj at e;cases e1:xs[i]? with
   |none=>rw[e1] at e;cases e
   |some d1=>
    cases e2:xs[j]? with
    |none=>rw[e1,e2] at e;cases d1<;>cases e
    |some d2=>
     have h1:=h d1 (dH e1);have h2:=h d2 (dH e2);rw[e1,e2] at e;obtain⟨v1,a1,b1⟩:=r.get e1;obtain⟨v2,a2,b2⟩:=r.get e2;cases d1<;>first|cases h1|skip
     cases d2<;>first|cases h2|skip
     cases b1;cases b2;cases e;exact⟨_,_,a1,a2,rfl⟩
 ·right
  rw[gb] at h;refine⟨λv hv=>?_,λi j b e=>?_⟩
  ·obtain⟨d,hd,q⟩:=r.mem v hv;have:=h d hd;unfold gG at this;split at this
   ·cases q with
    |tup t r'=>
     cases r' with
     |cons a1 b1=>
      cases a1;exact⟨_,_,_,rfl,t.iC⟩
   ·cases this
  ·unfold wj at e;cases e1:xs[i]? with
   |none=>rw[e1] at e;cases e
   |some d1=>
    cases e2:xs[j]? with
    |none=>rw[e1,e2] at e;cases d1<;>cases e
    |some d2=>
     have h1:=h d1 (dH e1);have h2:=h d2 (dH e2);rw[e1,e2] at e;obtain⟨v1,a1,b1⟩:=r.get e1;obtain⟨v2,a2,b2⟩:=r.get e2;unfold gG at h1 h2;split at h1
     ·split at h2
      ·cases b1 with
       |tup t1 r1=>
        cases b2 with
        |tup t2 r2=>exact⟨_,_,_,_,a1,a2,t1.iC,t2.iC,Wn r1 r2 e⟩
      ·cases h2
     ·cases h1
theorem zeZ:aQ K cA .sorted (λxs H Q=>∃l ys lt p,xs=[.ref l]/\cZ K H l ys/\ys.length<64/\(2<=ys.length->qO K H ys lt/\bJ lt (PySem.W.kas_sort ys.length)=some p/\p.size=ys.length)/\∀r,H r=none->Q (.ref r) (upd H r (.lst (jr ys p)))):=by
 intro U H ds vs Q zt rs o;have o:aY K cA U H (kI ds) Q:=o;unfold kI at o;split at o
 ·rename_i xs _;obtain⟨v,rfl,r1⟩:=rs.one;obtain⟨z,e⟩:=o.some';obtain⟨zs,e1,e2⟩:=jz.mp e;subst e2;obtain⟨a,us,rfl,sq,q⟩ : ∃a us,v=.ref a/\cZ K H a us/\aA K cA U H xs us:=r1;have hl:=q.len;unfold wz at e1;by_cases hk:(xs.all iU||xs.all gG)=true
  ·rw[if_pos hk] at e1;unfold oE at e1;by_cases h2:xs.length<2
   ·rw[if_pos h2] at e1;cases e1;refine⟨a,us,λ_ _=>none,#[],rfl,sq,by lia,λz=>absurd z gV,λr hr=>?_⟩;have:jr us #[]=us:=by unfold jr;rw[if_pos gV]
    rw[this];exact(o.of e) r us hr q
   ·rw[if_neg h2] at e1;by_cases qN:xs.length<64
    ·rw[if_pos qN] at e1;cases ek:bJ (wj xs) (PySem.W.kas_sort xs.length) with
     |none=>rw[ek] at e1;cases e1
     |some p=>
      rw[ek] at e1;dsimp only at e1;by_cases hp:p.size=xs.length
      ·rw[if_pos hp] at e1;cases e1;refine⟨a,us,wj xs,p,rfl,sq,by lia,λ_=>⟨zf6 q hk,by rw[<-hl];exact ek,by lia⟩,λr hr=>?_⟩;have:jr us p=p.toList.map λi=>us.getD i .non:=by unfold jr;rw[if_neg gV]
       rw[this];exact(o.of e) r _ hr (q.GD p.toList)
      ·rw[if_neg hp] at e1;cases e1
    ·rw[if_neg qN] at e1;cases e1
  ·rw[if_neg hk] at e1;cases e1
 ·exact o.elim
end
section
variable {X:Cx}{cA:Cl}{ao:Nat->Nat->Bool}{aj:Bool}{F:Fn}{EX:XS}{e:Expr}{pos p:Pos}{es:List Expr}{Xs:Es}{fz:Bool}
theorem zc6:bootBuiltins "sorted"=some (.builtin "sorted"):=by decide +kernel
theorem zgO(hm:X.mg "sorted"=none)(hg:JK X "sorted" .globalImplicit)(ha:JA X cA ao aj F EX (e::es) Xs)(he:aD e=true:=by rfl)(hpl:es.all aD=true:=by rfl):JE X cA ao aj F EX (.Call (.Name "sorted" p) (e::es) [] pos) (.pr fz .sorted Xs):=⟨wK zda zeZ hg.o hm zc6 ha.o J0 J0 (bw he) (aV hpl)⟩
end
section
variable {X:Cx}{cA:Cl}{ao:Nat->Nat->Bool}{aj:Bool}{F:Fn}{EX:XS}{a b:Expr}{A B:E}{pos pp tpos:Pos}{elts:List Expr}{kk:Nat}
theorem Wo:∀(ns:List Str) (vs:List V),((ns.zip vs).map (·.1)).Sublist ns
 |[],vs=>by simp
 |n::ns,[]=>by simp
 |n::ns,v::vs=>by
  rw[Cg,nM];exact(Wo ns vs).cons₂ n
theorem zeg:∀{ns:List Str} {vs:List V} {i:Nat} {x:Str} {v:V},ns.Nodup->ns[i]?=some x->vs[i]?=some v->(ns.zip vs).lookup x=some v
 |ns,vs,i,x,v,hn,h1,h2=>by
  refine Ux ?_ (zhQ h1 h2);exact List.Sublist.nodup (Wo ns vs) hn
end
end Mi
namespace Mi
open PySem PySem.Spec PyProof.Rows L2 PySem.W
theorem zhW{fd:FuncData}{q:Str}{st:Stmt}(h:lC fd=yd q st):fd=fnOf "__init__" q (aN st) (aK st) (au st) .none fd.kwdefaults fd.doc fd.pyModule fd.annotations fd.code fd.closureTuple:=by
 cases fd;unfold lC yd at h;cases h;rfl
structure GF(K:Frag)(C:Addr)(q:Str)(st:Stmt):Prop where
 ex:∃(fI:Addr) (od:Option Addr) (kV doc pm:Value) (an:Option Addr) (cdv ct:Value) (osl:Array (Option Value)) (cd:ClassData),
  K.lookup fI=some ⟨.type "function",od,.func (fnOf "__init__" q (aN st) (aK st) (au st) .none kV doc pm an cdv ct),osl⟩/\codeIn K cdv q=true/\qD K C fI=true/\clsIn K C=some cd/\qC cd.mro=true/\cd.hasDict=true
theorem zlY{K:Frag}{C:Addr}{q:Str}{st:Stmt}(h:(CV K C).map lC=some (yd q st)):GF K C q st:=by
 cases e:CV K C with
 |none=>rw[e] at h;cases h
 |some fd=>
  rw[e] at h;have hp:lC fd=yd q st:=cT h;unfold CV at e;split at e
  ·rename_i cd jd;split at e
   ·rename_i f hf;split at e
    ·rename_i od fd' sl hl;split at e
     ·rename_i hc;cases e;simp only[eU] at hc;obtain⟨⟨⟨c1,c2⟩,c3⟩,c4⟩:=hc;have eq:=zhW hp;have qn:fd.qualname=q:=by rw[eq]
      refine⟨⟨f,od,fd.kwdefaults,fd.doc,fd.pyModule,fd.annotations,fd.code,fd.closureTuple,sl,cd,?_,by rw[<-qn];exact c1,c2,jd,c3,c4⟩⟩;rw[<-eq];exact hl
     ·cases e
    ·cases e
   ·cases e
  ·cases e
theorem zlG{K:Frag}{C:Addr}{f:Str}(h:HS K C f=true):XF K C f:=by
 unfold HS at h;simp only[eU,nP] at h;obtain⟨⟨⟨⟨h1,h2⟩,h3⟩,h4⟩,h5⟩:=h;exact⟨h1,h2,h3,h4,h5⟩
structure jK(fs:List (Str×Stmt))(ms:List qG)(xs:List (Nat×Str))(l:Lk)(K:Frag):Prop where
 fn:∀p∈fs,FnAt K p.1 p.2
 gd:wV l K
 mi:∀m∈ms,GF K (gB (l.L K) m.c) m.q m.st
 se:∀m∈ms,setB K (gB (l.L K) m.c) m.fs=true
 xf:∀x∈xs,XF K (gB (l.L K) x.1) x.2
theorem Py{a:Nat}{o:Obj}:∀{l:List Obj} {i:Nat},((a:Addr),o)∈CW i l->i<=a/\l[a-i]?=some o/\o.isFreed=false
 |[],i,h=>by cases h
 |p::r,i,h=>by
  unfold CW at h;split at h
  ·obtain⟨h1,h2,h3⟩:=Py h;refine⟨by lia,?_,h3⟩;rw[show a-i=(a-(i+1))+1 by lia];exact h2
  ·rename_i hf;rcases fC.mp h with e|h
   ·cases e;exact⟨bU _,by simp,hf⟩
   ·obtain⟨h1,h2,h3⟩:=Py h;refine⟨by lia,?_,h3⟩;rw[show a-i=(a-(i+1))+1 by lia];exact h2
theorem Wq:∀{K:Frag},K.lookup a=some o->(a,o)∈K
 |[],h=>by cases h
 |(b,p)::r,h=>by
  rw[mO] at h;by_cases e:a=b
  ·subst e;simp only[xW] at h;cases h;exact nH
  ·rw[show (a==b)=false by simpa using e] at h;exact iy _ (Wq h)
theorem zgF:(bH h).In h:=λa o e=>by
 have hm:=Wq e;unfold bH at hm;rcases jh.mp hm with z|z
 ·unfold nR at z;split at z
  ·rename_i p hp;rcases fC.mp z with e|z
   ·cases e;exact hp
   ·cases z
  ·cases z
 ·obtain⟨_,h2,h3⟩:=Py (List.mem_reverse.mp z);rw[Heap.get?_some_iff];refine⟨?_,h3⟩;have:h.objs.toList[a]?=some o:=by simpa using h2
  simpa using this
end Mi
namespace Mi
open PySem PySem.Spec PyProof.Rows L2
section
variable {K:W.Frag}{cA:Cl}{U:Ph}{H:Hp}
noncomputable def gY(K:W.Frag)(U:Ph)(H:Hp):Bool->Addr->List V->Prop
 |true,a,vs=>LstAt K U H a vs
 |false,a,vs=>TupAt K U H a vs
theorem gY.sk{kd:Bool}{a:Addr}{vs:List V}(h:gY K U H kd a vs):Sk kd K H a vs:=by
 cases kd
 ·exact TupAt.iC h
 ·exact LstAt.tD h
theorem gY.later{kd:Bool}{a:Addr}{vs:List V}{U':Ph}{H₁ H':Hp}(hz:∀a∈U.l,U.z a)(h:gY K U H kd a vs)(x:Ext U H U' H₁)(o:cP U' H₁ H'):gY K U' H' kd a vs:=by
 cases kd
 ·exact TupAt.later hz h x o
 ·exact LstAt.later hz h x o
theorem Pz{xs ys:List D}{i:Nat}:(List.zipWith (λp q=>D.tup [p,q]) xs ys)[i]?=match xs[i]?,ys[i]? with
  |some p,some q=>some (.tup [p,q])
  |_,_=>none:=by
 rw[List.getElem?_zipWith];cases xs[i]?<;>cases ys[i]?<;>rfl
theorem lW.zip{k1 k2:Bool}{l1 l2:Addr}{xs ys:List D}{us vs:List V}(hz:∀a∈U.l,U.z a)(h1:gY K U H k1 l1 us)(h2:gY K U H k2 l2 vs)(r1:aA K cA U H xs us)(r2:aA K cA U H ys vs):lW K cA (.fix (List.zipWith (λp q=>D.tup [p,q]) xs ys)) U H (Np K k1 k2 l1 l2):=by
 refine⟨λU' H₁ H' s' i x o hS e=>?_,λU' H₁ H' s' i d x o hS e=>?_,λU' H₁ H' s' i d v H2 x o hS e y=>?_⟩
 ·have e:(List.zipWith (λp q=>D.tup [p,q]) xs ys)[i]?=none:=cT e;rw[Pz] at e;refine⟨us,vs,(h1.later hz x o).sk,(h2.later hz x o).sk,?_⟩;cases ex:xs[i]? with
  |none=>exact .inl (oZ.mp (r1.none ex))
  |some p=>
   cases ey:ys[i]? with
   |none=>exact .inr (oZ.mp (r2.none ey))
   |some q=>rw[ex,ey] at e;cases e
 ·have e:(List.zipWith (λp q=>D.tup [p,q]) xs ys)[i]?=some d:=cT e;rw[Pz] at e;cases ex:xs[i]? with
  |none=>rw[ex] at e;cases e
  |some p=>
   cases ey:ys[i]? with
   |none=>rw[ex,ey] at e;cases e
   |some q=>
    obtain⟨u,q1,_⟩:=r1.get ex;obtain⟨v,q2,_⟩:=r2.get ey;exact⟨us,vs,u,v,(h1.later hz x o).sk,(h2.later hz x o).sk,q1,q2⟩
 ·have e:(List.zipWith (λp q=>D.tup [p,q]) xs ys)[i]?=some d:=cT e;rw[Pz] at e;cases ex:xs[i]? with
  |none=>rw[ex] at e;cases e
  |some p=>
   cases ey:ys[i]? with
   |none=>rw[ex,ey] at e;cases e
   |some q=>
    rw[ex,ey] at e;cases e;obtain⟨a,u,w,hn,rfl,rfl,hu,hw⟩:=y;obtain⟨u',q1,ru⟩:=((r1.mono x hz).out o).get ex;obtain⟨w',q2,pI⟩:=((r2.mono x hz).out o).get ey;have e1:=hu us (h1.later hz x o).sk;have e2:=hw vs (h2.later hz x o).sk;rw[q1] at e1;rw[q2] at e2;cases e1;cases e2;have g:bA H' (upd H' a (.tup [u,w])):=bA.new hn;exact⟨g,.tup (.inl ⟨.inl jB,hS.nz hn⟩) (.cons (ru.mono g.ext hS.lz) (.cons (pI.mono g.ext hS.lz) .nil))⟩
theorem Wr(r:aX K cA U H x v)(h:Run K cA (M.bd (m6 x) k) U H s P Ee) :
  ∃xs kd a vs,v=.ref a/\gY K U H kd a vs/\aA K cA U H xs vs/\Run K cA (k xs) U H s P Ee:=by
 cases r with
 |l _=>exact h.elim
 |d r=>
  cases r with
  |tup q r=>exact⟨_,false,_,_,rfl,q,r,h⟩
  |fl q r=>exact⟨_,true,_,_,rfl,q,r,h⟩
  |_=>exact h.elim
end
section
variable {X:Cx}{cA:Cl}{ao:Nat->Nat->Bool}{aj:Bool}{F:Fn}{EX:XS}{a b:Expr}{A B:E}{pos pp tpos:Pos}{elts:List Expr}{kk:Nat}
theorem zjW(rB:Gl X "zip")(hmg:X.mg "zip"=none)(ha:SE X cA ao aj F EX a A)(hb:SE X cA ao aj F EX b B)(h1:starEach [a,b] X.env=(false,eval a X.env)::starEach [b] X.env)(h2:starEach [b] X.env=(false,eval b X.env)::starEach [] X.env) :
  SI X cA ao aj F EX (.Tuple elts kk tpos) (.Call (.Name "zip" pp) [a,b] [] pos) (.zip A B):=PI.weak (zjH rB hmg (uo ha (uo hb Aw h2) h1) (by rw[h1,h2];rfl) (by rw[h2];rfl)) λZ H R hh=>un hh λU J s hL hS h=>by
 refine bF hL hS h λx H1 U1 d1 s1 x1 hL1 aL r1 h1=>bF hL1 aL h1 λy H2 U2 d2 s2 x2 hL2 bf r2 h2=>?_;obtain⟨xs,k1,l1,us,e1,q1,p1,h3⟩:=Wr (r1.mono x2 aL.lz) h2;obtain⟨ys,k2,l2,vs,e2,q2,p2,h4⟩:=Wr r2 h3;subst e1 e2;exact⟨k1,k2,l1,l2,us,vs,rfl,q1.sk,q2.sk,(h4.bG bf) _ (lW.zip bf.lz q1 q2 p1 p2)⟩
theorem zlq(hmg:X.mg "zip"=none)(rB:JK X "zip" .globalImplicit)(ha:JE X cA ao aj F EX a A)(hb:JE X cA ao aj F EX b B)(h1:aD a=true:=by rfl)(h2:aD b=true:=by rfl):JI X cA ao aj F EX (.Tuple elts kk tpos) (.Call (.Name "zip" p) [a,b] [] pos) (.zip A B):=⟨zjW rB.o hmg ha.o hb.o (bw h1) (bw h2)⟩
end
noncomputable def Bw(i:Int)(n:Nat):List V:=(List.range n).map λk=>.int (i+(k:Nat))
theorem zit{i:Int}{acc:Array Value}:∀{n m:Nat},(∀k v,acc.toList[k]?=some (v:Value)->∃t,v=Value.int (i+((m+k:Nat):Int)) t)->acc.toList.length=n->Vals ((List.range n).map λk=>V.int (i+((m+k:Nat):Int))) acc.toList:=by
 generalize acc.toList=l
 induction l with
 |nil=>intro n m _ e;subst e;exact .nil
 |cons v l ih=>
  intro n m h e;subst e;rw[dR,Kq,nM,List.map_map];refine .cons (h 0 v rfl) ?_;have:=ih (n:=l.length) (m:=m+1) (λk v e=>by
   have:=h (k+1) v e;rw[show m+1+k=m+(k+1) by lia];exact this) rfl
  have e:((λk=>V.int (i+((m+k:Nat):Int)))∘Nat.succ)=λk=>V.int (i+((m+1+k:Nat):Int)):=by
   funext k
   show V.int (i+((m+(k+1):Nat):Int))=_;rw[show m+(k+1)=m+1+k by lia]
  rw[e];exact this
section
variable {K:W.Frag}{cA:Cl}{U:Ph}{H:Hp}
theorem Ws:∀l:List Nat,aA K cA U H (l.map λk=>D.int (i+(k:Nat))) (l.map λk=>V.int (i+(k:Nat)))
 |[]=>.nil
 |_::l=>.cons (.int _) (Ws l)
end
end Mi
namespace Mi
open PySem PySem.Spec PyProof.Rows L2 PySem.W
theorem zP{K:W.Frag}{fd:FuncData}{p q t u v:Str}(h:∀a b c d e,bindArgs fd ⟨[a,b,c,d,e],[]⟩=pure [(p,a),(q,b),(t,c),(u,d),(v,e)]):Binds K fd [p,q,t,u,v] []:=.all λus hl=>by
 match us,hl with
 |[a,b,c,d,e],_=>exact h a b c d e
theorem vo{K:Frag}{x:Str}{st:Stmt}{f:Addr}{fd:FuncData}{p q t u v:Str}(F:lY K x x st f fd)(h:∀(kV doc pm:Value) (an:Option Addr) (cdv ct a b c d e:Value),bindArgs (fnOf x x (aN st) (aK st) (au st) .none kV doc pm an cdv ct) ⟨[a,b,c,d,e],[]⟩=pure [(p,a),(q,b),(t,c),(u,d),(v,e)]):Binds K fd [p,q,t,u,v] []:=by
 obtain⟨oc,od,kV,doc,pm,an,cdv,ct,osl,rfl,lk,jd⟩:=F.ex;exact zP (h kV doc pm an cdv ct)
structure D3(K:Frag)(mg:Str->Option Value)(x:Str)(st:Stmt)(ps:List Str):Prop where
 f:lY K x x st (fX K x) (fdOf K x st)
 m:mg x=some (.ref (fX K x))
 b:Binds K (fdOf K x st) ps []
theorem dk{p:Prop}(h:p:=by decide +kernel):p:=h
section
variable {fs:List (Str×Stmt)}{ms:List qG}{xs:List (Nat×Str)}{lk:Lk}{K:Frag}{h:Heap}{mg:Str->Option Value}{x:Str}{st:Stmt}
theorem rN(S:jK fs ms xs lk K)(X:K.In h)(G:h.Ns mainGlobals mg)(j:Nat)(hj:fs[j]?=some (x,st):=by rfl)(hb:∀(kV doc pm:Value) (an:Option Addr) (cdv ct a:Value),bindArgs (fnOf x x (aN st) (aK st) (au st) .none kV doc pm an cdv ct) ⟨[a],[]⟩=pure [(p,a)]:=by intros;rfl):D3 K mg x st [p]:=have F:=S.fn (x,st) (dH hj);⟨F.fn,F.m X G,vf F.fn hb⟩
theorem vp(S:jK fs ms xs lk K)(X:K.In h)(G:h.Ns mainGlobals mg)(j:Nat)(hj:fs[j]?=some (x,st):=by rfl)(hb:∀(kV doc pm:Value) (an:Option Addr) (cdv ct a b:Value),bindArgs (fnOf x x (aN st) (aK st) (au st) .none kV doc pm an cdv ct) ⟨[a,b],[]⟩=pure [(p,a),(q,b)]:=by intros;rfl):D3 K mg x st [p,q]:=have F:=S.fn (x,st) (dH hj);⟨F.fn,F.m X G,vg F.fn hb⟩
theorem vq(S:jK fs ms xs lk K)(X:K.In h)(G:h.Ns mainGlobals mg)(j:Nat)(hj:fs[j]?=some (x,st):=by rfl)(hb:∀(kV doc pm:Value) (an:Option Addr) (cdv ct a b c:Value),bindArgs (fnOf x x (aN st) (aK st) (au st) .none kV doc pm an cdv ct) ⟨[a,b,c],[]⟩=pure [(p,a),(q,b),(t,c)]:=by intros;rfl):D3 K mg x st [p,q,t]:=have F:=S.fn (x,st) (dH hj);⟨F.fn,F.m X G,vh F.fn hb⟩
theorem GJ(S:jK fs ms xs lk K)(X:K.In h)(G:h.Ns mainGlobals mg)(j:Nat)(hj:fs[j]?=some (x,st):=by rfl)(hb:∀(kV doc pm:Value) (an:Option Addr) (cdv ct a b c d:Value),bindArgs (fnOf x x (aN st) (aK st) (au st) .none kV doc pm an cdv ct) ⟨[a,b,c,d],[]⟩=pure [(p,a),(q,b),(t,c),(u,d)]:=by intros;rfl):D3 K mg x st [p,q,t,u]:=have F:=S.fn (x,st) (dH hj);⟨F.fn,F.m X G,vm F.fn hb⟩
theorem zmV{p q t u v:Str}(S:jK fs ms xs lk K)(X:K.In h)(G:h.Ns mainGlobals mg)(j:Nat)(hj:fs[j]?=some (x,st):=by rfl)(hb:∀(kV doc pm:Value) (an:Option Addr) (cdv ct a b c d e:Value),bindArgs (fnOf x x (aN st) (aK st) (au st) .none kV doc pm an cdv ct) ⟨[a,b,c,d,e],[]⟩=pure [(p,a),(q,b),(t,c),(u,d),(v,e)]:=by intros;rfl):D3 K mg x st [p,q,t,u,v]:=have F:=S.fn (x,st) (dH hj);⟨F.fn,F.m X G,vo F.fn hb⟩
theorem mG{α:Type}{l:List α}{a:α}(j:Nat)(h:l[j]?=some a:=by rfl):a∈l:=dH h
end
end Mi
namespace Mi
open PySem PySem.Spec PyProof.Rows L2
theorem zgi:∀(n:Nat) {x:D} {d:PyData},pd n x=some d->d.depth<=n/\d.hasDict=false:=by
 have hs:∀(n:Nat),(∀{x:D} {d:PyData},pd n x=some d->d.depth<=n/\d.hasDict=false)->∀(xs:List D) {ds:List PyData},kJ (pd n) xs=some ds->PyData.depthAll ds<=n/\PyData.hasDictAll ds=false:=by
  intro n ih xs
  induction xs with
  |nil=>intro ds h;cases h;exact⟨jQ _,rfl⟩
  |cons x r ihr=>
   intro ds h;unfold kJ at h;split at h
   ·rename_i a b e1 e2;cases h;obtain⟨p1,p2⟩:=ih e1;obtain⟨q1,q2⟩:=ihr e2;refine⟨?_,?_⟩
    ·simp only[PyData.depthAll];lia
    ·simp only[PyData.hasDictAll,p2,q2,Bool.or_self]
   ·cases h
 intro n
 induction n with
 |zero=>intro x d h;cases x<;>simp only[pd] at h<;>first|(cases h;done)|(cases h;exact⟨bU _,rfl⟩)
 |succ n ih=>
  intro x d h;cases x with
  |tup xs=>
   simp only[pd,jz] at h;obtain⟨ds,e,rfl⟩:=h;obtain⟨p,q⟩:=hs n ih xs e;exact⟨by simp only[PyData.depth];lia,by simp only[PyData.hasDict];exact q⟩
  |fl xs=>
   simp only[pd,jz] at h;obtain⟨ds,e,rfl⟩:=h;obtain⟨p,q⟩:=hs n ih xs e;exact⟨by simp only[PyData.depth];lia,by simp only[PyData.hasDict];exact q⟩
  |non=>simp only[pd] at h;cases h;exact⟨jQ _,rfl⟩
  |bl _=>simp only[pd] at h;cases h;exact⟨jQ _,rfl⟩
  |int _=>simp only[pd] at h;cases h;exact⟨jQ _,rfl⟩
  |str _=>simp only[pd] at h;cases h;exact⟨jQ _,rfl⟩
  |_=>simp only[pd] at h;cases h
theorem zgl:∀(n:Nat) {x:D} {u:Value} {d:PyData},Is h x u->pd n x=some d->∃as,Reads h u d as:=by
 have hs:∀(n:Nat),(∀{x:D} {u:Value} {d:PyData},Is h x u->pd n x=some d->∃as,Reads h u d as)->∀(xs:List D) {us:List Value} {ds:List PyData},gR h xs us->kJ (pd n) xs=some ds->∃as,ReadsAll h us ds as:=by
  intro n ih xs
  induction xs with
  |nil=>intro us ds i h;cases h;cases i;exact⟨_,.nil⟩
  |cons x r ihr=>
   intro us ds i h;unfold kJ at h;split at h
   ·rename_i a b e1 e2;cases h;cases i with
    |cons i1 i2=>
     obtain⟨as,p1⟩:=ih i1 e1;obtain⟨bs,q1⟩:=ihr i2 e2;exact⟨_,.cons p1 q1⟩
   ·cases h
 intro n
 induction n with
 |zero=>
  intro x u d i h;cases x<;>simp only[pd] at h<;>first
   |(cases h;done)
   | (cases h
      cases i<;>first
        |exact⟨_,.none⟩
        |exact⟨_,.bool _⟩
        |exact⟨_,.int _ _⟩
        |exact⟨_,.str _ _⟩
        |contradiction)
 |succ n ih=>
  intro x u d i h;cases x with
  |tup xs=>
   simp only[pd,jz] at h;obtain⟨ds,e,rfl⟩:=h;cases i with
   |tup p r=>
    obtain⟨as,q⟩:=hs n ih xs r e;obtain⟨o,h1,h2,m,h3⟩:=p;exact⟨_,.tuple h1 h2 h3 q⟩
   |oth k=>cases k
  |fl xs=>
   simp only[pd,jz] at h;obtain⟨ds,e,rfl⟩:=h;cases i with
   |fl p r=>
    obtain⟨as,q⟩:=hs n ih xs r e;obtain⟨o,h1,h2,m,h3⟩:=p;exact⟨_,.list h1 h2 h3 q⟩
   |oth k=>cases k
  |non=>simp only[pd] at h;cases h;cases i with|non=>exact⟨_,.none⟩|oth k=>cases k
  |bl _=>simp only[pd] at h;cases h;cases i with|bl=>exact⟨_,.bool _⟩|oth k=>cases k
  |int _=>simp only[pd] at h;cases h;cases i with|int=>exact⟨_,.int _ _⟩|oth k=>cases k
  |str _=>simp only[pd] at h;cases h;cases i with|str=>exact⟨_,.str _ _⟩|oth k=>cases k
  |_=>simp only[pd] at h;cases h
theorem zeo(h:gO (.inr k) v=true):∃t,v=.str k t:=by
 rcases sW h with ⟨i,u,e,_⟩|⟨x,u,e,e2⟩
 ·cases e
 ·cases e;exact⟨u,e2⟩
theorem Wt{X:Cx}{cA:Cl}{ak:List (Addr×Obj)}{Z:L2.St}{H:Hp}{s:Shared}{a:Addr}{kk:Str}{ii:Int}(I:Inv X ak Z H s)(q1:H a=some (.dK [(.inr kk,.int ii)])):Reads s.heap (.ref a) (.dict [(.str kk,.int ii)]) [a]/\sysModules∉[a]:=by
 obtain⟨_,qP,kv,rel,o,es,ep,g1,g2,g3,g4,g5,_⟩:=(show aR X.prog X.w H s.heap a (.dK [(.inr kk,.int ii)]) from I.hok a _ q1);refine⟨?_,λhm=>by simp at hm;rw[hm] at qP;simp at qP⟩;cases rel with
 |cons rl rr=>
  cases rr;obtain⟨l⟩:=es;cases g5 with
  |cons p1 p2 p3=>
   cases p3;rename_i q e;obtain⟨e1,tt,e2⟩:=rl;have hk:gO (.inr kk) e.key=true:=by rw[show (Sum.inr kk:Key)=_ from e1];exact p1
   obtain⟨tk,hk⟩:=zeo hk;refine .dict (as:=[]) (bs:=[]) g1 g2.1 g3 ?_ ?_
   ·show ReadsAll s.heap [e.key] [.str kk] [];rw[hk];exact .cons (.str kk tk) .nil
   ·show ReadsAll s.heap [e.val] [.int ii] [];rw[p2,e2];exact .cons (.int ii tt) .nil
theorem zgd{X:Cx}{cA:Cl}{ak:List (Addr×Obj)}{Z:L2.St}{H:Hp}{s:Shared}{U:Ph}(I:Inv X ak Z H s):∀(n:Nat) {x:D} {v:V} {u:Value} {d:PyData},Rep X.K cA U H x v->RelV v u->pe n x=some d->∃as,Reads s.heap u d as/\sysModules∉as/\d.depth<=n:=by
 have hs:∀(n:Nat),(∀{x:D} {v:V} {u:Value} {d:PyData},Rep X.K cA U H x v->RelV v u->pe n x=some d->∃as,Reads s.heap u d as/\sysModules∉as/\d.depth<=n)->∀(xs:List D) {vs:List V} {us:List Value} {ds:List PyData},aA X.K cA U H xs vs->Vals vs us->kJ (pe n) xs=some ds->∃as,ReadsAll s.heap us ds as/\sysModules∉as/\PyData.depthAll ds<=n:=by
  intro n ih xs
  induction xs with
  |nil=>intro vs us ds i rv h;cases h;cases i;cases rv;exact⟨_,.nil,by simp,jQ _⟩
  |cons x r ihr=>
   intro vs us ds i rv h;unfold kJ at h;split at h
   ·rename_i a b e1 e2;cases h;cases i with
    |cons i1 i2=>
     cases rv with
     |cons r1 r2=>
      obtain⟨as,p1,p2,p3⟩:=ih i1 r1 e1;obtain⟨bs,q1,q2,q3⟩:=ihr i2 r2 e2;refine⟨_,.cons p1 q1,λz=>?_,?_⟩
      ·rcases jh.mp z with z|z
       ·exact p2 z
       ·exact q2 z
      ·simp only[PyData.depthAll];lia
   ·cases h
 intro n
 induction n with
 |zero=>
  intro x v u d i rv h;cases i<;>simp only[pe] at h<;>first
   |(cases h;done)
   |(cases h;obtain⟨t,rfl⟩:=rv;first|exact⟨_,.int _ _,by simp,bU _⟩|exact⟨_,.str _ _,by simp,bU _⟩)
   |(cases h;cases rv;first|exact⟨_,.none,by simp,bU _⟩|exact⟨_,.bool _,by simp,bU _⟩)
 |succ n ih=>
  intro x v u d i rv h;cases i with
  |tup t r=>
   simp only[pe,jz] at h;obtain⟨ds,e,rfl⟩:=h;cases rv;obtain⟨its,rv,ht,_⟩:=I.tuple t.iC;obtain⟨as,q1,q2,q3⟩:=hs n ih _ r rv e;obtain⟨o,h1,h2,m,h3⟩:=ht;exact⟨_,.tuple h1 h2 h3 q1,q2,by simp only[PyData.depth];lia⟩
  |fd q1 nz=>
   simp only[pe] at h;cases h;cases rv;obtain⟨rd,hn⟩:=Wt (cA:=cA) I q1;exact⟨_,rd,hn,by simp only[PyData.depth,PyData.depthKv];lia⟩
  |non=>simp only[pe] at h;cases h;cases rv;exact⟨_,.none,by simp,jQ _⟩
  |bl _=>simp only[pe] at h;cases h;cases rv;exact⟨_,.bool _,by simp,jQ _⟩
  |int _=>simp only[pe] at h;cases h;obtain⟨t,rfl⟩:=rv;exact⟨_,.int _ _,by simp,jQ _⟩
  |str _=>simp only[pe] at h;cases h;obtain⟨t,rfl⟩:=rv;exact⟨_,.str _ _,by simp,jQ _⟩
  |_=>simp only[pe] at h;cases h
section
variable {X:Cx}{cA:Cl}
theorem zfU(h:Bg d=some z):d.showable=true/\d.shown.length<=sizeLine/\z=.dat (.str d.shown):=by
 unfold Bg at h;split at h
 ·rename_i q;cases h;exact⟨q.1,q.2,rfl⟩
 ·cases h
noncomputable def wW(K:W.Frag)(cA:Cl):List V->Hp->VK->Prop:=λxs H Q=>∃U x v d,xs=[v]/\Rv K cA U H x v/\Bf x=some d/\d.showable=true/\d.shown.length<=sizeLine/\Q (.str d.shown) H
theorem zeR(hr:bC k X.A):cC X (.builtin "repr") (wW X.K cA):=by
 rintro ak s Z H xs us Q I r ⟨U,x,v,d,e,rv,hp,hs,hz,q⟩;subst e;obtain⟨u,rfl,ru⟩:=vals1 r;have hu:=hr.un;have hg:=hr.gd;have fin:∀h' t tk,(∀b o,s.heap.get? b=some o->h'.get? b=some o)->EP X ak Z Q (.str d.shown t) {s with heap:=h',toks:=tk}:=λh' t tk hk=>⟨.str d.shown,H,I.kept (h':=h') (t':=tk) hk,⟨t,rfl⟩,q⟩;have leaf:EP X ak Z Q (.str d.shown s.toks) {s with toks:=s.toks+1}:=fin s.heap _ _ λ_ _ e=>e;by_cases PB:∃ks vs,x=.fd ks vs
 ·obtain⟨ks,vs,rfl⟩:=PB;cases (show Rep X.K cA U H (.fd ks vs) v from rv) with
  |@fd a kk ii q1 n=>
   cases (show u=Value.ref a from ru);cases hp;obtain⟨rd,hn⟩:=Wt (cA:=cA) I q1;exact repr_of_reads' rd hs (λ_=>hn) hg (by simp only[PyData.depth,PyData.depthKv];lia) (λ_ _ e=>e) (λh' t tk hk=>fin h' t tk hk) hz
 ·have hp:NQ (pd 40 x) (pe 40 x)=some d:=by
   cases x with
   |fd ks vs=>exact absurd ⟨ks,vs,rfl⟩ PB
   |_=>exact hp
  by_cases tG:pd 40 x=none
  ·rw[tG] at hp;have hp:pe 40 x=some d:=hp;cases x with
   |tup xs=>
    have rv:Rep X.K cA U H (.tup xs) v:=rv;obtain⟨as,rd,hn,dp⟩:=zgd I 40 rv ru hp;cases rv;cases ru;exact repr_of_reads' rd hs (λ_=>hn) hg gV (λ_ _ e=>e) (λh' t tk hk=>fin h' t tk hk) hz
   |fd ks vs=>exact absurd ⟨ks,vs,rfl⟩ PB
   |fl _=>cases hp
   |exc _ _=>cases hp
   |ob _ _=>cases hp
   |any=>cases hp
   |_=>cases tG
  have tG:pd 40 x=some d:=by
   cases e:pd 40 x with
   |none=>exact absurd e tG
   |some d'=>rw[e] at hp;exact hp
  have i:Is s.heap x u:=uP I rv ru;obtain⟨as,rd⟩:=zgl 40 i tG;obtain⟨dp,nd⟩:=zgi 40 tG;cases rd with
  |none=>exact P.repr_of_none leaf
  |bool b=>exact P.repr_of_bool (by cases b<;>exact leaf)
  |int j t=>exact P.repr_of_int (by simpa [PyData.showable] using hs) leaf
  |str y t=>exact P.repr_of_str leaf hz
  |list h1 h2 h3 h4=>exact repr_of_reads' (.list h1 h2 h3 h4) hs (PyData.noDict_hsm nd) hg gV (λ_ _ e=>e) (λh' t tk hk=>fin h' t tk hk) hz
  |tuple h1 h2 h3 h4=>exact repr_of_reads' (.tuple h1 h2 h3 h4) hs (PyData.noDict_hsm nd) hg gV (λ_ _ e=>e) (λh' t tk hk=>fin h' t tk hk) hz
  |dict h1 h2 h3 h4 h5=>cases nd
theorem zij:aQ X.K cA .repr (wW X.K cA):=by
 intro U H ds vs Q zt rs o;have o:aY X.K cA U H (qU ds) Q:=o;unfold qU at o;split at o
 ·rename_i x _;obtain⟨v,rfl,r1⟩:=rs.one;obtain⟨z,e⟩:=o.some';obtain⟨d,e1,e2⟩:=sI.mp e;obtain⟨q1,q2,rfl⟩:=zfU e2;exact⟨U,x,v,d,rfl,r1,e1,q1,q2,(o.of e).here (.str _)⟩
 ·exact o.elim
end
section
variable {X:Cx}{cA:Cl}{ao:Nat->Nat->Bool}{aj:Bool}{F:Fn}{EX:XS}{e:Expr}{pos p:Pos}{es:List Expr}{Xs:Es}{fz:Bool}
theorem Wu(hr:bC k X.A)(hm:X.mg "repr"=none)(hg:JK X "repr" .globalImplicit)(ha:JA X cA ao aj F EX (e::es) Xs)(he:aD e=true:=by rfl)(hpl:es.all aD=true:=by rfl):JE X cA ao aj F EX (.Call (.Name "repr" p) (e::es) [] pos) (.pr fz .repr Xs):=⟨wK (zeR hr) zij hg.o hm PyProof.Rows.boot_repr ha.o J0 J0 (bw he) (aV hpl)⟩
end
end Mi
namespace L2
open PySem PySem.Spec PyProof.Rows
section
variable {prog:Program}{w:World}{A:Around}{E:Value->Shared->Prop}{s:Shared}
theorem zfr(r:Addr)(x b:Int)(k t u v:Tok) :
  Meets (Builtin.«range.__contains__» ⟨[.ref r,.int x k],[]⟩) (λ_ R s=>s.heap.get? r=some {cls:=.type "range",dict:=none,data:=.fields #[.int 0 t,.int b u,.int 1 v],slots:=#[]} /\
   R (.ok (.ret (Value.bool (Builtin.Range.rangePlace? 0 b 1 x).isSome))) s):=
 .of_wp λprog w A R s h=>by
  obtain⟨hp,g,d,tk,os⟩:=s;obtain⟨hl,h⟩:=h
  wp_walk
  exact⟨_,rfl,h⟩
theorem zfa{x b:Int}:(Builtin.Range.rangePlace? 0 b 1 x).isSome=decide (0<=x/\x<b):=by
 unfold Builtin.Range.rangePlace?;by_cases h:0<=x/\x<b
 ·simp[h.1,h.2]
 ·by_cases h0:0<=x
  ·have:¬x<b:=λz=>h ⟨h0,z⟩;simp[this]
  ·simp[h0]
theorem zgb{r:Addr}{x b:Int}{k t u v:Tok}{Q:Value->Shared->Prop}(hr:IsRange s.heap r 0 b 1 t u v)
  (h:Q (.bool (decide (0<=x/\x<b))) s):wpAny (model prog w) A (call (.builtin "range.__contains__") [.ref r,.int x k]) Q E s:=by
 refine call_meets F.slot_range_contains ⟨_,hr,rfl⟩ F.entry_range_contains (F.args_range_contains_2 _ _) (zfr r x b k t u v) ⟨hr,?_⟩;rw[zfa];exact h
end
section
variable {X:Cx}{a b:Expr}{ta tb:TE}{pos pos' p':Pos}
def Jp(X:Cx)(op:CmpOp)(r:R2):Prop:=
 ∀(ak:List (Addr×Obj)) (s:Shared) (Z:St) (H:Hp) (x y:V) (v u:Value) (Q:VK),Inv X ak Z H s->RelV x v->RelV y u->r x y H Q->
  wpAny (model X.prog X.w) X.A (call (.type "range") [u]) (λz s'=>wpAny (model X.prog X.w) X.A (compareOp op v z) (EP X ak Z Q) X.xe s') X.xe s
theorem zkj:Jp X .NotIn (lK λi j=>.bl (!decide (0<=i/\i<j))):=by
 rintro ak s Z H x y v u Q I rx ry ⟨i,j,rfl,rfl,q⟩;obtain⟨t,rfl⟩:=rx;obtain⟨t',rfl⟩:=ry;refine call_range_1 (NotIn_slot (T:="range") ⟨_,IsRange.new ..,rfl⟩ F.slot_range_contains (zgb (IsRange.new ..) (sO ?_)));exact⟨.bl _,H,I.kept λb u q=>cO _ q,rfl,q⟩
theorem zlb{op:CmpOp}{r:R2}(ho:Jp X op r)(hg:Gl X "range")(hm:X.mg "range"=none)(ha:PE X a ta)(hb:PE X b tb)(he:starEach [b] X.env=(false,eval b X.env)::starEach [] X.env)(hpl:(backTo pos' (starEach [] X.env)).any (·.1)=false)
  {ak:List (Addr×Obj)} {s:Shared} {Z:St} {H:Hp} {Q:VK} (I:Inv X ak Z H s) (h:Av r ta tb Z H Q):wpAny (model X.prog X.w) X.A (eval a X.env) (λv s₁=>wpAny (model X.prog X.w) X.A (eval (.Call (.Name "range" p') [b] [] pos') X.env) (λu s₂=>wpAny (model X.prog X.w) X.A (compareOp op v u) (EP X ak Z Q) X.xe s₂) X.xe s₁) X.xe s:=by
 refine aW (ha ak s Z H _ I h) λv s1 hx=>dw hx λx H1 I1 r1 q1=>?_;refine xR (t_ I1 hg hm boot_range ?_);refine xM ?_ he hpl;rw[he];show wpAny _ _ (spliced ((false,eval b X.env)::backTo pos' (starEach [] X.env))) _ _ s1;refine Calls.spliced_cons (aW (hb ak s1 Z H1 _ I1 q1) λu s2 hx=>dw hx λy H2 I2 r2 q2=>Calls.spliced_nil ?_);exact ho ak s2 Z H2 x y v u Q I2 r1 r2 q2
theorem zkH{op:CmpOp}{r:R2}(ho:Jp X op r)(hg:Gl X "range")(hm:X.mg "range"=none)(ha:PE X a ta)(hb:PE X b tb)(he:starEach [b] X.env=(false,eval b X.env)::starEach [] X.env)(hpl:(backTo pos' (starEach [] X.env)).any (·.1)=false):PT X (.Compare a [op] [.Call (.Name "range" p') [b] [] pos'] pos) (vZ (Av r ta tb)):=by
 intro ak s Z H Q I h;refine Kr (aW (zlb ho hg hm ha hb he hpl I h) λv s1 hx=>aW hx λu s2 hx=>aW hx λc s3 hx=>HY hx λz H3 I3 r3 k e q3=>?_) (by cases op<;>rfl);subst e;cases r3;exact sO ⟨H3,I3,q3⟩
end
end L2
namespace Mi
open PySem PySem.Spec PyProof.Rows L2
theorem zkM{K:W.Frag}{cA:Cl}:aQ K cA .Ja (r2 (lK λi j=>.bl (!decide (0<=i/\i<j)))):=zA (f:=λi j=>.bl (!decide (0<=i/\i<j))) rfl λi j _ _=>.bl _
section
variable {X:Cx}{cA:Cl}{ao:Nat->Nat->Bool}{aj:Bool}{F:Fn}{EX:XS}{a b:Expr}{A B:E}{pos pos' p p':Pos}
theorem ziW{op:CmpOp}{r:R2}{p:Pr}(ho:Jp X op r)(hp:aQ X.K cA p (r2 r))(hg:Gl X "range")(hm:X.mg "range"=none)(ha:SE X cA ao aj F EX a A)(hb:SE X cA ao aj F EX b B)(he:starEach [b] X.env=(false,eval b X.env)::starEach [] X.env)(hpl:(backTo pos' (starEach [] X.env)).any (·.1)=false):ST X cA ao aj F EX (.Compare a [op] [.Call (.Name "range" p') [b] [] pos'] pos) (.pr true p (.cons A (.cons B .nil))):=PT.weak (zkH ho hg hm ha hb he hpl) λZ H Q hh=>un hh λU J s hL hS h=>by
 have h:Run X.K cA (M.bd (M.bd (M.bd (ev ao aj F A J) λx=>M.bd (M.bd (ev ao aj F B J) λy=>M.bd (M.ret []) λz=>M.ret (y::z)) λys=>M.ret (x::ys)) λvs=>M.bd (eE vs) λds=>bO true (prim p ds)) bool) U H s _ _:=h;simp only[iw] at h;refine bF hL hS h λx H1 U1 d1 s1 x1 hL1 aL r1 h1=>bF hL1 aL h1 λy H2 U2 d2 s2 x2 hL2 bf r2' h2=>?_;obtain⟨ds,rs,h3⟩:=qY bf (.cons (r1.mono x2 aL.lz) (.cons r2' .nil)) h2;refine zx (hp U2 H2 ds _ _ bf.zs rs (qj (Ee:=eX X.K cA EX Z) bf (h3.bd.imp λt s3 U3 H3 ⟨x3,lV,h4⟩ v rv=>?_)));cases rv with
 |l _=>exact h4.elim
 |d rv=>cases rv with
  |bl k=>exact⟨k,rfl,h4 U3 H3 Ext.refl lV⟩
  |_=>exact h4.elim
theorem zls(hm:X.mg "range"=none)(hg:JK X "range" .globalImplicit)(ha:JE X cA ao aj F EX a A)(hb:JE X cA ao aj F EX b B)(he:aD b=true:=by rfl):JT X cA ao aj F EX (.Compare a [.NotIn] [.Call (.Name "range" p') [b] [] pos'] pos) (.pr true .Ja (.cons A (.cons B .nil))):=⟨ziW zkj zkM hg.o hm ha.o hb.o (bw he) (aV rfl)⟩
end
end Mi
namespace Mi
open PySem
def W{α:Type}(m:M α)(s:S)(P:α->S->Prop):Prop:=∃a s',m s=some (.ok a,s')/\P a s'
def WS(m:MS)(s:S)(Q:Out->S->Prop):Prop:=∃o s',m s=some (o,s')/\Q o s'
section
variable {α β:Type}{m:M α}{k:α->M β}{s:S}{P:α->S->Prop}{R:β->S->Prop}
theorem W.bd(h:W m s λa s'=>W (k a) s' R):W (M.bd m k) s R:=by
 obtain⟨a,s',e,b,s2,e2,r⟩:=h;exact⟨b,s2,by unfold M.bd;rw[e];exact e2,r⟩
theorem W.ret{a:α}(h:P a s):W (M.ret a) s P:=⟨a,s,rfl,h⟩
theorem W.qt(h:W m s P):W (M.qt m) s P:=by
 obtain⟨a,s',e,p⟩:=h;exact⟨a,s',by unfold M.qt;rw[e],p⟩
theorem W.opt(e:o=some a)(h:P a s):W (M.opt o) s P:=by subst e;exact⟨a,s,rfl,h⟩
theorem W.imp{P':α->S->Prop}(h:W m s P)(f:∀a s',P a s'->P' a s'):W m s P':=let ⟨a,s',e,p⟩:=h;⟨a,s',e,f a s' p⟩
theorem W.eq(e:m s=some (.ok a,s'))(p:P a s'):W m s P:=⟨a,s',e,p⟩
theorem Ka4{d:D}{P:D->S->Prop}(h:P d s):W (rd (.d d)) s P:=⟨d,s,rfl,h⟩
theorem Wv{n:Nat}{xs:List D}{P:D->S->Prop}(e:s[n]?=some (.lst xs))(h:P (.fl xs) s):W (rd (.l n)) s P:=⟨.fl xs,s,by unfold rd;simp only[e],h⟩
theorem Ka7{P:List D->S->Prop}(h:P [] s):W (eE []) s P:=⟨[],s,rfl,h⟩
theorem Ka6{x:Xv}{r:List Xv}{P:List D->S->Prop}(h:W (rd x) s λd s1=>W (eE r) s1 λds s2=>P (d::ds) s2):W (eE (x::r)) s P:=W.bd (h.imp λd s1 h1=>W.bd (h1.imp λds s2 h2=>W.ret h2))
theorem KaA{P:List D->S->Prop}(h:P [] s):W (bW []) s P:=⟨[],s,rfl,h⟩
theorem Kaz{d:D}{r:List Xv}{P:List D->S->Prop}(h:W (bW r) s λds s2=>P (d::ds) s2):W (bW (.d d::r)) s P:=W.bd (W.ret (W.bd (h.imp λds s2 h2=>W.ret h2)))
theorem W.dat{x:D}{P:D->S->Prop}(h:P x s):W (dat (.d x)) s P:=⟨x,s,rfl,h⟩
theorem W.bool{b:Bool}{P:Bool->S->Prop}(h:P b s):W (bool (.d (.bl b))) s P:=⟨b,s,rfl,h⟩
theorem W.int{b:Int}{P:Int->S->Prop}(h:P b s):W (int (.d (.int b))) s P:=⟨b,s,rfl,h⟩
theorem cL{fz:Bool}{o:Option Rz}{d:D}{P:Xv->S->Prop}(e:o=some (.dat d))(h:P (.d d) s):W (bO fz o) s P:=by subst e;exact⟨_,s,rfl,h⟩
theorem GK{o:Option Rz}{xs:List D}{P:Xv->S->Prop}(e:o=some (.nw xs))(h:P (.d (.fl xs)) s):W (bO true o) s P:=by subst e;exact⟨_,s,rfl,h⟩
theorem KaU{xs:List D}{P:Xv->S->Prop}(h:P (.d (.fl xs)) s):W (newL true xs) s P:=⟨_,s,rfl,h⟩
theorem Ww{xs:List D}{P:Xv->S->Prop}(h:P (.l s.length) (s++[.lst xs])):W (newL false xs) s P:=⟨_,_,rfl,h⟩
theorem vA{F:List Xv->M Xv}{xs:List Xv}{P:Xv->S->Prop}(hl:locs xs=[])(h:W (F (cM 0 xs)) [] λv _=>∃d,v=.d d/\P (.d d) s):W (bN F xs) s P:=by
 obtain⟨v,s1,e,d,rfl,p⟩:=h;refine⟨.d d,s,?_,p⟩;unfold bN;rw[hl,if_pos Cy];simp only[gH,e,cG]
theorem Kap{F:List Xv->M Xv}{xs:List Xv}{P:Xv->S->Prop}(hl:locs xs=[])(h:W (F (cM 0 xs)) [] λv s1=>∃n o,v=.l n/\s1[n]?=some o/\P (.l s.length) (s++[o])):W (bN F xs) s P:=by
 obtain⟨v,s1,e,n,o,rfl,eo,p⟩:=h;refine⟨.l s.length,s++[o],?_,p⟩;unfold bN;rw[hl,if_pos Cy];simp only[gH,e,cG,List.getElem?_nil,eo]
theorem Wx{F:List Xv->M Xv}{xs:List Xv}{n:Nat}{o:SO}{P:Xv->S->Prop}(hl:locs xs=[n])(ho:s[n]?=some o)(h:W (F (cM 0 xs)) [o] λv s1=>∃d o',v=.d d/\s1=[o']/\P (.d d) (s.set n o')):W (bN F xs) s P:=by
 obtain⟨v,s1,e,d,o',rfl,rfl,p⟩:=h;refine⟨.d d,s.set n o',?_,p⟩;unfold bN;rw[hl,if_pos Nj];simp only[gH,ho,e,cG]
end
section
variable {s:S}{Q:Out->S->Prop}
theorem WS.ofM(h:W m s λa s'=>WS (k a) s' Q):WS (Mi.ofM m J k) s Q:=by
 obtain⟨a,s',e,o,s2,e2,q⟩:=h;exact⟨o,s2,by unfold Mi.ofM;rw[e];exact e2,q⟩
theorem WS.nx(h:Q (.nx J) s):WS (λs=>some (.nx J,s)) s Q:=⟨_,s,rfl,h⟩
theorem WS.rt(h:Q (.rt x) s):WS (λs=>some (.rt x,s)) s Q:=⟨_,s,rfl,h⟩
end
theorem W.call(hT:T f=some d)(hl:xs.length=d.fU)
  (h:WS (exs ao aj (λc=>Mi.call ao T k c) d.body (xs.map some++List.replicate (d.many-d.fU) none)) s λo s'=>match o with|.nx _=>P (.d .non) s'|.rt v=>P v s'|_=>False):W (Mi.call ao T (k+1) aj f xs) s P:=by
 obtain⟨o,s',e,q⟩:=h;unfold Mi.call;simp only[hT,if_pos hl];unfold W;simp only[e];cases o with
 |nx J=>exact⟨_,_,rfl,q⟩
 |rt v=>exact⟨_,_,rfl,q⟩
 |bk J=>exact q.elim
 |ct J=>exact q.elim
 |er c fs J=>exact q.elim
theorem BJ(I:Nat->Vs->S->Prop)(h0:I 0 J s)(hb:∀i x J s,c[i]?=some x->I i J s->WS (b x J) s λo s'=>∃J',o=.nx J'/\I (i+1) J' s')
  (he:∀J s,I c.length J s->Q (.nx J) s):WS (cU (.fix c) b (c.length+1) 0 J) s Q:=by
 have key:∀n i J s,i+n=c.length->I i J s->WS (cU (.fix c) b (n+1) i J) s Q:=by
  intro n
  induction n with
  |zero=>
   intro i J s hi hI;have e:c[i]?=none:=by rw[oZ];lia
   have:i=c.length:=by lia
   subst this;refine⟨_,s,?_,he J s hI⟩;unfold cU;simp only[Src.at,e]
  |succ n ih=>
   intro i J s hi hI;have gD:i<c.length:=by lia
   have e:c[i]?=some c[i]:=eO gD;obtain⟨o,s',eb,J',rfl,zQ⟩:=hb i c[i] J s e hI;obtain⟨o2,s2,e2,q⟩:=ih (i+1) J' s' gV zQ;refine⟨o2,s2,?_,q⟩;unfold cU;simp only[Src.at,e,eb];exact e2
 exact key c.length 0 J s gV h0
theorem zlV{i j:Int}(h:(-(2^64)<i/\i<2^64)\/(-(2^64)<j/\j<2^64)):prim .mul [.int i,.int j]=some (.dat (.int (i*j))):=by
 show Option.map _ (if _ then _ else _)=_;rw[if_pos h];rfl
theorem zlt{i j:Int}(h:0<j):prim .mod [.int i,.int j]=some (.dat (.int (i%j))):=by
 show Option.map _ (if _ then _ else _)=_;rw[if_pos h];rfl
theorem zj2{i j:Int}(h:0<j/\j<1073741824):prim .fdiv [.int i,.int j]=some (.dat (.int (i/j))):=by
 show Option.map _ (if _ then _ else _)=_;rw[if_pos h];rfl
theorem zgs{i j:Int}(h:0<j/\j<1073741824):prim .divmod [.int i,.int j]=some (.dat (.tup [.int (i/j),.int (i%j)])):=by
 show Option.map _ (if _ then _ else _)=_;rw[if_pos h];rfl
theorem zl1{i j:Int}(h:0<=j/\j<=1000000/\i.natAbs<2^64):prim .pow [.int i,.int j]=some (.dat (.int (i^j.toNat))):=by
 show Option.map _ (if _ then _ else _)=_;rw[if_pos h];rfl
theorem zR{xs:List D}{i:Nat}{x:D}(h:xs[i]?=some x):prim .ix [.fl xs,.int i]=some (.dat x):=by
 show Option.map Rz.dat (L2.nZ xs i)=_;have:L2.nZ xs (i:Int)=some x:=by
  unfold L2.nZ L2.pH;have hl:i<xs.length:=(fB.mp h).1;simp[hl];exact(fB.mp h).2
 rw[this];rfl
theorem PJ(h:xs.length+ys.length<=sizeLine):prim .add [.fl xs,.fl ys]=some (.nw (xs++ys)):=by
 show (if _ then _ else _)=_;rw[if_pos h]
theorem W.ite[Decidable c](h1:c->W m1 s P)(h2:¬c->W m2 s P):W (if c then m1 else m2) s P:=by
 by_cases h:c
 ·rw[if_pos h];exact h1 h
 ·rw[if_neg h];exact h2 h
theorem WS.ite[Decidable c](h1:c->WS m1 s P)(h2:¬c->WS m2 s P):WS (if c then m1 else m2) s P:=by
 by_cases h:c
 ·rw[if_pos h];exact h1 h
 ·rw[if_neg h];exact h2 h
theorem PK{n:Nat}{xs:List D}{s:S}{P:Unit->S->Prop}(h:P () (s.set n (.lst xs))):W (putL n xs) s P:=⟨_,_,rfl,h⟩
theorem W.cF{n:Nat}{xs:List D}{s:S}{P:Nat×List D->S->Prop}(e:s[n]?=some (.lst xs))(h:P (n,xs) s):W (cF (.l n)) s P:=⟨_,s,by unfold Mi.cF;simp only[e],h⟩
theorem Ka9{xs:List D}{s:S}{P:Src×Nat->S->Prop}(h:P (.fix xs,xs.length) s):W (src (.d (.tup xs))) s P:=⟨_,s,rfl,h⟩
theorem Ka8{xs:List D}{s:S}{P:Src×Nat->S->Prop}(h:P (.fix xs,xs.length) s):W (src (.d (.fl xs))) s P:=⟨_,s,rfl,h⟩
theorem WS.nil{ao:Nat->Nat->Bool}{aj:Bool}{F:Bool->Fn}{J:Vs}{s:S}{Q:Out->S->Prop}(h:Q (.nx J) s):WS (exs ao aj F .nil J) s Q:=⟨_,s,rfl,h⟩
theorem WS.cons{ao:Nat->Nat->Bool}{aj:Bool}{F:Bool->Fn}{a:St}{r:bM}{J:Vs}{s:S}{Q:Out->S->Prop}(h:WS (ex ao aj F a J) s λo s'=>match o with|.nx J'=>WS (exs ao aj F r J') s' Q|.rt x=>Q (.rt x) s'|_=>False):WS (exs ao aj F (.cons a r) J) s Q:=by
 obtain⟨o,s',e,q⟩:=h;unfold WS exs Mi.bY;rw[e];cases o with
 |nx J'=>exact q
 |rt x=>exact⟨_,_,rfl,q⟩
 |bk _=>exact q.elim
 |ct _=>exact q.elim
 |er _ _ _=>exact q.elim
def rO{α:Type}(o:Option α)(P:α->Prop):Prop:=∃a,o=some a/\P a
theorem rO.mk{α:Type}{o:Option α}{P:α->Prop}{a:α}(e:o=some a)(h:P a):rO o P:=⟨a,e,h⟩
section
variable {ao:Nat->Nat->Bool}{aj:Bool}{F:Fn}{J:Vs}{s:S}{P:Xv->S->Prop}
theorem W.eC{d:D}(h:P (.d d) s):W (ev ao aj F (.c d) J) s P:=W.ret h
theorem W.eV{i:Nat}{x:Xv}(e:J[i]?.join=some x)(h:P x s):W (ev ao aj F (.v i) J) s P:=W.opt e h
theorem Wy{fz:Bool}{p:Pr}{xs:Es}(h:W (evs ao aj F xs J) s λvs s1=>W (eE vs) s1 λds s2=>W (bO fz (prim p ds)) s2 P):W (ev ao aj F (.pr fz p xs) J) s P:=W.bd (h.imp λ_ _ h=>W.bd h)
theorem KaC{a b:E}(h:W (ev ao aj F a J) s λx s1=>W (Mi.bool x) s1 λk s2=>W (if k=true then ev ao aj F b J else M.ret (.d (.bl false))) s2 P):W (ev ao aj F (.and a b) J) s P:=W.bd (h.imp λ_ _ h=>W.bd h)
theorem KaK{a b:E}(h:W (ev ao aj F a J) s λx s1=>W (Mi.bool x) s1 λk s2=>W (if k=true then M.ret (.d (.bl true)) else ev ao aj F b J) s2 P):W (ev ao aj F (.or a b) J) s P:=W.bd (h.imp λ_ _ h=>W.bd h)
theorem KaJ{a:E}(h:W (ev ao aj F a J) s λx s1=>W (Mi.bool x) s1 λk s2=>P (.d (.bl (!k))) s2):W (ev ao aj F (.not a) J) s P:=W.bd (h.imp λ_ _ h=>W.bd (h.imp λ_ _ h=>W.ret h))
theorem KaN{xs:Es}(h:W (evs ao aj F xs J) s λvs s1=>W (bW vs) s1 λds s2=>P (.d (.tup ds)) s2):W (ev ao aj F (.tup xs) J) s P:=W.bd (h.imp λ_ _ h=>W.bd (h.imp λ_ _ h=>W.ret h))
theorem KaI{fz:Bool}{xs:Es}(h:W (evs ao aj F xs J) s λvs s1=>W (bW vs) s1 λds s2=>W (newL fz ds) s2 P):W (ev ao aj F (.lst fz xs) J) s P:=W.bd (h.imp λ_ _ h=>W.bd h)
theorem KaF{k:Str}{i:Int}(h:P (.d (.fd [.str k] [.int i])) s):W (ev ao aj F (.qT k i) J) s P:=W.ret h
theorem Wz{f:Nat}{xs:Es}(h:W (evs ao aj F xs J) s λvs s1=>W (bN (F f) vs) s1 P):W (ev ao aj F (.call f xs) J) s P:=W.bd h
theorem KaM{fz:Bool}{a:E}{lo hi:Eo}(h:W (ev ao aj F a J) s λx s1=>W (uK ao aj F lo J) s1 λl s2=>W (uK ao aj F hi J) s2 λu s3=>W (rd x) s3 λd s4=>W (bO fz (cutD d l u)) s4 P):W (ev ao aj F (.sl fz a lo hi) J) s P:=W.bd (h.imp λ_ _ h=>W.bd (h.imp λ_ _ h=>W.bd (h.imp λ_ _ h=>W.bd h)))
theorem KaV{P:Option Int->S->Prop}(h:P none s):W (uK ao aj F .no J) s P:=W.ret h
theorem KaW{a:E}{P:Option Int->S->Prop}(h:W (ev ao aj F a J) s λx s1=>W (Mi.int x) s1 λi s2=>P (some i) s2):W (uK ao aj F (.yes a) J) s P:=W.bd (h.imp λ_ _ h=>W.bd (h.imp λ_ _ h=>W.ret h))
theorem Kal{P:List Xv->S->Prop}(h:P [] s):W (evs ao aj F .nil J) s P:=W.ret h
theorem WD{a:E}{r:Es}{P:List Xv->S->Prop}(h:W (ev ao aj F a J) s λx s1=>W (evs ao aj F r J) s1 λxs s2=>P (x::xs) s2):W (evs ao aj F (.cons a r) J) s P:=W.bd (h.imp λ_ _ h=>W.bd (h.imp λ_ _ h=>W.ret h))
theorem KaR{a:E}{P:Src×Nat->S->Prop}(h:W (ev ao aj F a J) s λx s1=>W (src x) s1 P):W (kW ao aj F (.seq a) J) s P:=W.bd h
end
section
variable {ao:Nat->Nat->Bool}{aj:Bool}{F:Bool->Fn}{J:Vs}{s:S}{Q:Out->S->Prop}
theorem WS.PL{b:Bool}{m1 m2:MS}(e:b=true)(h:WS m1 s Q):WS (if b=true then m1 else m2) s Q:=by rw[if_pos e];exact h
theorem WS.PN{b:Bool}{m1 m2:MS}(e:b=false)(h:WS m2 s Q):WS (if b=true then m1 else m2) s Q:=by rw[if_neg (by rw[e];decide)];exact h
theorem WS.wX{m1 m2:MS}(h:WS m1 s Q):WS (if true=true then m1 else m2) s Q:=by rw[if_pos rfl];exact h
theorem WS.PX{m1 m2:MS}(h:WS m2 s Q):WS (if false=true then m1 else m2) s Q:=by rw[if_neg J0];exact h
theorem Kbh{e:E}(h:W (ev ao aj (F aj) e J) s λ_ s1=>Q (.nx J) s1):WS (ex ao aj F (.ex e) J) s Q:=WS.ofM (h.imp λ_ _ h=>WS.nx h)
theorem WK{i:Nat}{e:E}(h:W (ev ao aj (F aj) e J) s λx s1=>Q (.nx (J.set i (some x))) s1):WS (ex ao aj F (.asg (.nm i) e) J) s Q:=WS.ofM (h.imp λ_ _ h=>WS.nx h)
theorem Kbp{is:List Nat}{e:E}(h:W (ev ao true (F true) e J) s λx s1=>W (dat x) s1 λd s2=>rO ((jG d).bind λds=>fu is (ds.map .d) J) λJ'=>Q (.nx J') s2):WS (ex ao true F (.asg (.tp is) e) J) s Q:=by
 refine WS.ofM (h.imp λx s1 h=>?_);exact WS.wX (m2:=λ_=>none) (WS.ofM (W.bd (h.imp λd s2 ⟨J',e,q⟩=>W.opt e (WS.nx q))))
theorem Kbo{o i e:E}(h:W (ev ao aj (F aj) e J) s λx s1=>W (dat x) s1 λd s2=>W (ev ao aj (F aj) o J) s2 λy s3=>W (ev ao aj (F aj) i J) s3 λz s4=>W (Mi.int z) s4 λj s5=>W (cF y) s5 λnx s6=>rO (L2.pH nx.2.length j) λq=>Q (.nx J) (s6.set nx.1 (.lst (nx.2.set q d)))):WS (ex ao aj F (.asg (.ao o i) e) J) s Q:=by
 refine WS.ofM (h.imp λx s1 h=>WS.ofM (W.bd (h.imp λd s2 h=>W.bd (h.imp λy s3 h=>W.bd (h.imp λz s4 h=>W.bd (h.imp λj s5 h=>W.bd (h.imp λnx s6 h=>?_)))))));obtain⟨q,e,h⟩:=h;simp only[e];exact PK (WS.nx h)
theorem Kbl{i j:Nat}{a b:E}(h:W (ev ao true (F true) a J) s λx s1=>W (ev ao true (F true) b J) s1 λy s2=>Q (.nx ((J.set i (some x)).set j (some y))) s2):WS (ex ao true F (.par i j a b) J) s Q:=by
 exact WS.wX (m2:=λ_=>none) (WS.ofM (W.bd (h.imp λx s1 h=>W.bd (h.imp λy s2 h=>W.ret (WS.nx h)))))
theorem WL{e:E}(h:W (ev ao aj (F aj) e J) s λx s1=>Q (.rt x) s1):WS (ex ao aj F (.ret e) J) s Q:=WS.ofM (h.imp λ_ _ h=>WS.rt h)
theorem WM{c:E}{t e:bM}(h:W (ev ao aj (F aj) c J) s λx s1=>W (Mi.bool x) s1 λb s2=>WS (if b=true then exs ao aj F t J else exs ao aj F e J) s2 Q):WS (ex ao aj F (.iff c t e) J) s Q:=WS.ofM (W.bd h)
theorem Kbi{t:Tg}{w:Wk}{b:bM}(h:W (kW ao true (F true) w J) s λcn s1=>WS (cU cn.1 (λd J=>Mi.bY (store ao true (F true) t (.d d) J) λJ'=>exs ao true F b J') (cn.2+1) 0 J) s1 Q):WS (ex ao true F (.fr t w b) J) s Q:=by
 exact WS.wX (m2:=λ_=>none) (WS.ofM h)
end
theorem W.PL{α:Type}{b:Bool}{m1 m2:M α}{s:S}{P:α->S->Prop}(e:b=true)(h:W m1 s P):W (if b=true then m1 else m2) s P:=by rw[if_pos e];exact h
theorem W.PN{α:Type}{b:Bool}{m1 m2:M α}{s:S}{P:α->S->Prop}(e:b=false)(h:W m2 s P):W (if b=true then m1 else m2) s P:=by rw[if_neg (by rw[e];decide)];exact h
theorem W.wX{α:Type}{m1 m2:M α}{s:S}{P:α->S->Prop}(h:W m1 s P):W (if true=true then m1 else m2) s P:=by rw[if_pos rfl];exact h
theorem W.PX{α:Type}{m1 m2:M α}{s:S}{P:α->S->Prop}(h:W m2 s P):W (if false=true then m1 else m2) s P:=by rw[if_neg J0];exact h
structure Bx(R:Prop):Prop where
 o:R
end Mi
namespace Mi
open PySem PySem.W PyProof.Rows L2
def pX{α:Type}(lt:Nat->Nat->Option Bool)(t:KasT α)(P:α->Prop):Prop:=∃a,bJ lt t=some a/\P a
section
variable {α β:Type}{lt:Nat->Nat->Option Bool}{n:Nat}
theorem pX.ret(h:P a):pX lt (.ret a) P:=⟨a,rfl,h⟩
theorem pX.bind(hf:∀a,P a->pX lt (f a) R):∀{t:KasT α},pX lt t P->pX lt (t.bind f) R
 |.ret a,⟨a',e,h⟩=>by cases e;exact hf _ h
 |.ask i j k,⟨a',e,h⟩=>by
  unfold bJ at e;cases el:lt i j with
  |none=>rw[el] at e;cases e
  |some b=>
   rw[el] at e;obtain⟨c,e1,h1⟩:=pX.bind hf (t:=k b) ⟨a',e,h⟩;refine⟨c,?_,h1⟩;show bJ lt (.ask i j λb=>(k b).bind f)=some c;unfold bJ;rw[el];exact e1
def Tot(n:Nat)(lt:Nat->Nat->Option Bool):Prop:=∀i j,i<n->j<n->∃b,lt i j=some b
variable (ht:Tot n lt)(hn:0<n)
include ht hn
end
section
variable {lt:Nat->Nat->Option Bool}{n:Nat}
theorem WQ(h:∀k,1<=k->k<n->lt (p.getD k 0) (p.getD (k-1) 0)=some false):∀f k,1<=k->k+f=n->pX lt (kas_asc p f k) λr=>r=n
 |0,k,h1,e=>.ret gV
 |f+1,k,h1,e=>by
  obtain⟨a,e1,e2⟩:=WQ h f (k+1) gV gV;refine⟨a,?_,e2⟩;unfold kas_asc bJ;rw[h k h1 gV];exact e1
theorem WR(hk:k<n):(List.range n).toArray.getD k 0=k:=by
 simp[Array.getD,hk]
theorem zfe(hn:0<n)(h:∀k,k+1<n->lt (k+1) k=some false):bJ lt (kas_sort n)=some (List.range n).toArray:=by
 have h1:pX lt (kas_asc (List.range n).toArray (n-1) 1) λr=>r=n:=WQ (λk a b=>by
  rw[WR b,WR gV];have:=h (k-1) gV
  rwa [show k-1+1=k by lia] at this) _ _ (bU _) gV
 have h2:pX lt (kas_count n (List.range n).toArray) λr=>r=(n,(List.range n).toArray):=by
  refine pX.bind (λr hr=>?_) h1;subst hr;rw[if_pos Nj];exact .ret rfl
 have h3:pX lt (kas_sort n) λr=>r=(List.range n).toArray:=by
  refine pX.bind (λr hr=>?_) h2;subst hr;rw[if_neg (pA _)];exact .ret rfl
 obtain⟨a,e,rfl⟩:=h3;exact e
end
theorem zgp(hk:(xs.all iU||xs.all gG)=true)(qN:xs.length<64)(h:∀k,k+1<xs.length->wj xs (k+1) k=some false):wz xs=some xs:=by
 unfold wz;rw[if_pos hk];unfold oE;by_cases h2:xs.length<2
 ·rw[if_pos h2]
 ·rw[if_neg h2,if_pos qN,zfe gV h];dsimp only;rw[if_pos Nj]
  congr 1
  apply List.ext_getElem
  ·simp
  ·intro i a b;simp[nF,b]
noncomputable def gq(p:Int×Int):D:=.tup [.int p.1,.int p.2]
end Mi
namespace Mi
open PySem
theorem W.walk{c:List D}{f:D->List D->M (List D)}{s:S}{acc:List D}{P:List D->S->Prop}(I:Nat->List D->S->Prop)(h0:I 0 acc s)(hb:∀i x acc s,c[i]?=some x->I i acc s->W (f x acc) s λa s'=>I (i+1) a s')
  (he:∀acc s,I c.length acc s->P acc s):W (Mi.walk (.fix c) f (c.length+1) 0 acc) s P:=by
 have key:∀n i acc s,i+n=c.length->I i acc s->W (Mi.walk (.fix c) f (n+1) i acc) s P:=by
  intro n
  induction n with
  |zero=>
   intro i acc s hi hI;have e:c[i]?=none:=by rw[oZ];lia
   have:i=c.length:=by lia
   subst this;refine⟨acc,s,?_,he acc s hI⟩;unfold Mi.walk;simp only[Src.at,e]
  |succ n ih=>
   intro i acc s hi hI;have gD:i<c.length:=by lia
   have e:c[i]?=some c[i]:=eO gD;obtain⟨a,s',eb,zQ⟩:=hb i c[i] acc s e hI;obtain⟨a2,s2,e2,q⟩:=ih (i+1) a s' gV zQ;refine⟨a2,s2,?_,q⟩;unfold Mi.walk;simp only[Src.at,e,M.bd,eb];exact e2
 exact key c.length 0 acc s gV h0
section
variable {ao:Nat->Nat->Bool}{F:Fn}{J:Vs}{s:S}{P:Xv->S->Prop}
theorem Kau{fz:Bool}{elt:E}{tg:List Nat}{it:Wk}{fr:List Nat}{many:Nat}{cond:Eo}{c:List D}(g:D->Option D)(hc:c.length<=sizeLine)
  (hw:W (kW ao true F it J) s λcn s1=>cn=(.fix c,c.length)/\s1=s)
  (hb:∀x∈c,∃J',eF tg x (blk many fr J)=some J'/\W (oF ao true F cond J') s λb s1=>s1=s/\(if b=true then W (ev ao true F elt J') s λy s2=>s2=s/\∃d,y=.d d/\g x=some d else g x=none))
  (h:W (newL fz (c.filterMap g)) s P):W (ev ao true F (.comp fz elt tg it fr many cond) J) s P:=by
 change W (_root_.ite (true=true) _ _) s P
 rw[if_pos rfl];refine W.bd (hw.imp λcn s1=>?_);rintro⟨rfl,rfl⟩;refine W.bd ?_;refine W.walk (c:=c) (λi acc s'=>s'=s1/\acc=(c.take i).filterMap g) ⟨rfl,rfl⟩ (λi x acc s' e hI=>?_) (λacc s' hI=>?_)
 ·obtain⟨rfl,rfl⟩:=hI;have hi:i<c.length:=(fB.mp e).1;have ht:c.take (i+1)=c.take i++[x]:=by rw[Cz,e];rfl
  have hl:((c.take i).filterMap g).length<sizeLine:=KD (sH _ _) (by rw[pq];lia);obtain⟨J',e1,h1⟩:=hb x (dH e);refine W.bd (W.opt e1 ?_);refine W.bd (W.qt (h1.imp λb s2=>?_));rintro⟨rfl,h2⟩;rw[ht,Aa];cases b
  ·rw[if_neg J0] at h2 ⊢;refine W.ret ⟨rfl,?_⟩;simp[h2]
  ·rw[if_pos rfl] at h2 ⊢;refine W.bd (W.qt (h2.imp λy s3=>?_));rintro⟨rfl,d,rfl,eg⟩;refine W.bd (W.dat ?_);rw[if_pos hl];refine W.ret ⟨rfl,?_⟩;simp[eg]
 ·obtain⟨rfl,rfl⟩:=hI;rw[Ah];exact h
end
section
variable {ao:Nat->Nat->Bool}{aj:Bool}{F:Fn}{J:Vs}{s:S}{P:Xv->S->Prop}
theorem KaG(h:W (ev ao aj F a J) s λx s1=>W (rd x) s1 λd s2=>∃b,jF ao d k=some b/\P (.d (.bl b)) s2):W (ev ao aj F (.jD a k) J) s P:=
 W.bd (h.imp λ_ _ h=>W.bd (h.imp λ_ _ ⟨_,e,h⟩=>W.bd (W.opt e (W.ret h))))
theorem KaE(h:W (ev ao aj F a J) s λx s1=>W (ev ao aj F b J) s1 λy s2=>W (eE [x,y]) s2 λds s3=>W (bO true (prim p ds)) s3 λt s4=>W (Mi.bool t) s4 λk s5=>
  W (if k=true then M.bd (ev ao aj F c J) λz=>M.bd (eE [y,z]) λds=>bO true (prim q ds) else M.ret (.d (.bl false))) s5 P):W (ev ao aj F (.v9 p q a b c) J) s P:=
 W.bd (h.imp λ_ _ h=>W.bd (h.imp λ_ _ h=>W.bd (h.imp λ_ _ h=>W.bd (h.imp λ_ _ h=>W.bd h))))
end
noncomputable def GP(fz:Bool):Option Rz->Option Xv
 |some (.dat d)=>some (.d d)
 |some (.nw ys)=>match fz with
  |true=>some (.d (.fl ys))
  |false=>none
 |none=>none
noncomputable def addQ:D->D->Option Rz
 |.int i,.int j=>some (.dat (.int (i+j)))
 |_,_=>none
noncomputable def wY:List D->Option Rz
 |a::r=>match r with
  |b::r=>match r with
   |[]=>addQ a b
   |_::_=>none
  |[]=>none
 |[]=>none
noncomputable def quick:Pr->Bool
 |.Fj=>false|.Ba=>false|.mul=>false|.fdiv=>false|.mod=>false|.pow=>false|.divmod=>false|.sorted=>false|.ou=>false|.Fl=>false|.mult=>false|.v8=>false|.repr=>false|.str1=>false|.UL=>false|.Fg=>false|.Fi=>false|.shl=>false|.shr=>false|.band=>false|.qR=>false
 |_=>true
noncomputable def oO(p:Pr)(ds:List D):Option Rz:=match p with
 |.add=>wY ds
 |p=>match quick p with
  |true=>prim p ds
  |false=>none
theorem GQ{ds:List D}{r:Rz}(h:wY ds=some r):yS ds=some r:=by
 cases ds with
 |nil=>cases h
 |cons a t=>cases t with
  |nil=>cases h
  |cons b t=>cases t with
   |cons _ _=>cases h
   |nil=>cases a with
    |int i=>cases b with
     |int j=>exact h
     |_=>cases h
    |_=>cases h
theorem zT{p:Pr}{ds:List D}{r:Rz}(h:oO p ds=some r):prim p ds=some r:=by
 cases p with
 |add=>exact GQ h
 |_=>first|exact h|cases h
noncomputable def P0(fz:Bool)(ds:List D):Option Xv:=match fz with
 |true=>some (.d (.fl ds))
 |false=>none
noncomputable def GR:Xv->Option D
 |.d x=>some x
 |.l _=>none
noncomputable def obP(c:Nat):Xv->Option (List D)
 |.d (.ob e fs)=>if e=c then some fs else none
 |_=>none
noncomputable def notP:Xv->Option Xv
 |.d (.bl b)=>some (.d (.bl (!b)))
 |_=>none
noncomputable def P_(r:Option Xv):Xv->Option Xv
 |.d (.bl true)=>r
 |.d (.bl false)=>some (.d (.bl false))
 |_=>none
noncomputable def orP(r:Option Xv):Xv->Option Xv
 |.d (.bl true)=>some (.d (.bl true))
 |.d (.bl false)=>r
 |_=>none
section
variable (ao:Nat->Nat->Bool)
mutual
noncomputable def dY:E->Vs->Option Xv
 |.c d,_=>some (.d d)
 |.v i,J=>J[i]?.join
 |.pr fz p xs,J=>(ni xs J).bind λds=>GP fz (oO p ds)
 |.tup xs,J=>(ni xs J).bind λds=>some (.d (.tup ds))
 |.lst fz xs,J=>(ni xs J).bind λds=>P0 fz ds
 |.not a,J=>(dY a J).bind notP
 |.and a b,J=>(dY a J).bind (P_ (dY b J))
 |.or a b,J=>(dY a J).bind (orP (dY b J))
 |.jD a k,J=>(dY a J).bind λx=>(GR x).bind λd=>(jF ao d k).bind λb=>some (.d (.bl b))
 |.of o c i,J=>(dY o J).bind λx=>(obP c x).bind λfs=>fs[i]?.map .d
 |_,_=>none
noncomputable def ni:Es->Vs->Option (List D)
 |.nil,_=>some []
 |.cons a r,J=>(dY a J).bind λx=>(GR x).bind λd=>(ni r J).bind λds=>some (d::ds)
end
noncomputable def mz:Es->Vs->Option (List Xv)
 |.nil,_=>some []
 |.cons a r,J=>(dY ao a J).bind λx=>(mz r J).bind λxs=>some (x::xs)
end
theorem k_{α β:Type}{o:Option α}{f:α->Option β}{b:β}(h:o.bind f=some b):∃a,o=some a/\f a=some b:=sI.mp h
theorem gZ{α β:Type}{m:M α}{k:α->M β}{s s':S}{a:α}(e:m s=some (.ok a,s')):M.bd m k s=k a s':=by
 show (match m s with|some (.ok a,s')=>k a s'|some (.er c f,s')=>some (.er c f,s')|none=>none)=_;rw[e]
theorem zU(s:S):∀ds:List D,eE (ds.map .d) s=some (.ok ds,s)
 |[]=>rfl
 |d::r=>(gZ (s':=s) (a:=d) rfl).trans ((gZ (zU s r)).trans rfl)
theorem rP(s:S):∀ds:List D,bW (ds.map .d) s=some (.ok ds,s)
 |[]=>rfl
 |d::r=>(gZ (s':=s) (a:=d) rfl).trans ((gZ (rP s r)).trans rfl)
theorem Qa{fz:Bool}{p:Pr}{ds:List D}{x:Xv}{s:S}(h:GP fz (oO p ds)=some x):bO fz (prim p ds) s=some (.ok x,s):=by
 cases o:oO p ds with
 |none=>rw[o] at h;cases h
 |some r=>
  rw[o] at h;rw[zT o];cases r with
  |dat d=>cases h;rfl
  |nw ys=>cases fz with
   |true=>cases h;rfl
   |false=>cases h
section
variable {ao:Nat->Nat->Bool}{aj:Bool}{F:Fn}{J:Vs}{s:S}
theorem oR(e:E):∀x:Xv,dY ao e J=some x->ev ao aj F e J s=some (.ok x,s):=by
 refine E.rec (motive_1:=λe=>∀x:Xv,dY ao e J=some x->ev ao aj F e J s=some (.ok x,s)) (motive_2:=λ_=>True) (motive_3:=λxs=>∀ds:List D,ni ao xs J=some ds->evs ao aj F xs J s=some (.ok (ds.map .d),s)) (motive_4:=λ_=>True)
  ?c ?v ?pr (λ_ _ _ _ _ _ _ _ _ h=>nomatch h) (λ_ _ _ _ _ _ _ _ _ _ _ _ h=>nomatch h) ?and ?or ?not (λ_ _ _ _ _ _ _ h=>nomatch h) ?tup ?lst (λ_ _ _ h=>nomatch h) (λ_ _ _ _ h=>nomatch h) ?jD (λ_ _ _ _ _ _ _ _ h=>nomatch h) (λ_ _ _ _ _ _ _ _ h=>nomatch h) (λ_ _ _ _ _ h=>nomatch h) (λ_ _ _ h=>nomatch h)
  (λ_ _ _ _ _ _ _ _ _ _ _ h=>nomatch h) (λ_ _ _ _ _ _ _ _ _ _ _ _ _ _ h=>nomatch h) (λ_ _ _ _ _ h=>nomatch h) ?of (λ_ _ _ _ _ h=>nomatch h) (λ_ _ _ _ _ _ _ h=>nomatch h) (λ_ h=>nomatch h) (λ_ _ _ _ _ _ h=>nomatch h) (λ_ _ _ _ _ h=>nomatch h) (λ_ _ _ h=>nomatch h) (λ_ _ _ _ _ _ h=>nomatch h) (λ_ _ _ _ _ h=>nomatch h) (λ_ _ _ _ _ _ _ h=>nomatch h) (λ_ h=>nomatch h)
  (λ_ _=>trivial) (λ_ _ _ _=>trivial) (λ_ _ _ _=>trivial) (λ_ _=>trivial) (λ_ _=>trivial) ?nil ?cons trivial (λ_ _=>trivial) e
 case c=>intro d x h;cases h;rfl
 case v=>intro i x h;exact(show M.opt (J[i]?.join) s=_ from by rw[show J[i]?.join=some x from h];rfl)
 case pr=>
  intro fz p xs ih x h;obtain⟨ds,e1,e2⟩:=k_ h;exact(gZ (ih _ e1)).trans ((gZ (zU s ds)).trans (Qa e2))
 case tup=>
  intro xs ih x h;obtain⟨ds,e1,e2⟩:=k_ h;cases e2;exact(gZ (ih _ e1)).trans ((gZ (rP s ds)).trans rfl)
 case lst=>
  intro fz xs ih x h;obtain⟨ds,e1,e2⟩:=k_ h;cases fz with
  |false=>cases e2
  |true=>cases e2;exact(gZ (ih _ e1)).trans ((gZ (rP s ds)).trans rfl)
 case not=>
  intro a ih x h;obtain⟨y,e1,e2⟩:=k_ h;cases y with
  |l n=>cases e2
  |d y=>cases y with
   |bl b=>cases e2;exact(gZ (ih _ e1)).trans rfl
   |_=>cases e2
 case and=>
  intro a b ih ih2 x h;obtain⟨y,e1,e2⟩:=k_ h;cases y with
  |l n=>cases e2
  |d y=>cases y with
   |bl b=>cases b with
    |true=>exact(gZ (ih _ e1)).trans (ih2 _ e2)
    |false=>cases e2;exact(gZ (ih _ e1)).trans rfl
   |_=>cases e2
 case or=>
  intro a b ih ih2 x h;obtain⟨y,e1,e2⟩:=k_ h;cases y with
  |l n=>cases e2
  |d y=>cases y with
   |bl b=>cases b with
    |true=>cases e2;exact(gZ (ih _ e1)).trans rfl
    |false=>exact(gZ (ih _ e1)).trans (ih2 _ e2)
   |_=>cases e2
 case jD=>
  intro a k ih x h;obtain⟨y,e1,e2⟩:=k_ h;cases y with
  |l n=>cases e2
  |d y=>
   obtain⟨d,e3,e4⟩:=k_ e2;cases e3;obtain⟨b,e5,e6⟩:=k_ e4;cases e6;refine(gZ (ih _ e1)).trans ((gZ (s':=s) (a:=y) rfl).trans ((gZ (s':=s) (a:=b) ?_).trans rfl));rw[e5];rfl
 case of=>
  intro o c i ih x h;obtain⟨y,e1,e2⟩:=k_ h;obtain⟨fs,e3,e4⟩:=k_ e2;refine(gZ (ih _ e1)).trans ((gZ (s':=s) (a:=fs) ?_).trans ?_)
  ·cases y with
   |l n=>cases e3
   |d y=>cases y with
    |ob e gs=>
     have e3:(if e=c then some gs else none)=some fs:=e3;show (if e=c then M.ret gs else M.no) s=_;split at e3
     ·rename_i h;cases e3;rw[if_pos h];rfl
     ·cases e3
    |_=>cases e3
  ·show M.opt (fs[i]?.map Xv.d) s=_;rw[e4];rfl
 case nil=>intro ds h;cases h;rfl
 case cons=>
  intro a r ih ih2 ds h;obtain⟨y,e1,e2⟩:=k_ h;cases y with
  |l n=>cases e2
  |d y=>
   obtain⟨d,e3,e4⟩:=k_ e2;cases e3;obtain⟨rs,e5,e6⟩:=k_ e4;cases e6;exact(gZ (ih _ e1)).trans ((gZ (ih2 _ e5)).trans rfl)
theorem rQ:∀(xs:Es) (ds:List D),ni ao xs J=some ds->evs ao aj F xs J s=some (.ok (ds.map .d),s)
 |.nil,ds,h=>by cases h;rfl
 |.cons a r,ds,h=>by
  obtain⟨y,e1,e2⟩:=k_ h;cases y with
  |l n=>cases e2
  |d y=>
   obtain⟨d,e3,e4⟩:=k_ e2;cases e3;obtain⟨rs,e5,e6⟩:=k_ e4;cases e6;exact(gZ (oR a _ e1)).trans ((gZ (rQ r _ e5)).trans rfl)
theorem iG:∀(xs:Es) {vs:List Xv},mz ao xs J=some vs->evs ao aj F xs J s=some (.ok vs,s)
 |.nil,vs,h=>by cases h;rfl
 |.cons a r,vs,h=>by
  obtain⟨y,e1,e2⟩:=k_ h;obtain⟨ys,e3,e4⟩:=k_ e2;cases e4;exact(gZ (oR a _ e1)).trans ((gZ (iG r e3)).trans rfl)
variable {P:Xv->S->Prop}
theorem W.pv{e:E}{x:Xv}(h:dY ao e J=some x)(k:P x s):W (ev ao aj F e J) s P:=W.eq (oR e _ h) k
theorem Ka2{f:Nat}{xs:Es}{vs:List Xv}(h:mz ao xs J=some vs)(k:W (bN (F f) vs) s P):W (ev ao aj F (.call f xs) J) s P:=Wz (W.eq (iG xs h) k)
theorem WT{fz:Bool}{p:Pr}{xs:Es}{ds:List D}(h:ni ao xs J=some ds)(k:W (bO fz (prim p ds)) s P):W (ev ao aj F (.pr fz p xs) J) s P:=Wy (W.eq (rQ xs _ h) (W.eq (zU s ds) k))
theorem Ka1{xs:Es}{vs:List Xv}{P:List Xv->S->Prop}(h:mz ao xs J=some vs)(k:P vs s):W (evs ao aj F xs J) s P:=W.eq (iG xs h) k
end
section
variable {ao:Nat->Nat->Bool}{aj:Bool}{F:Bool->Fn}{J:Vs}{s:S}{Q:Out->S->Prop}{e:E}{r:bM}
theorem Kbf{i:Nat}{x:Xv}(h:dY ao e J=some x)(k:WS (exs ao aj F r (J.set i (some x))) s Q):WS (exs ao aj F (.cons (.asg (.nm i) e) r) J) s Q:=WS.cons (WK (W.pv h k))
theorem Kbg{x:Xv}(h:dY ao e J=some x)(k:Q (.rt x) s):WS (exs ao aj F (.cons (.ret e) r) J) s Q:=WS.cons (WL (W.pv h k))
theorem Kbe{b:Bool}{t u:bM}(h:dY ao e J=some (.d (.bl b)))(k:WS (if b=true then exs ao aj F t J else exs ao aj F u J) s λo s'=>match o with|.nx J'=>WS (exs ao aj F r J') s' Q|.rt x=>Q (.rt x) s'|_=>False):WS (exs ao aj F (.cons (.iff e t u) r) J) s Q:=WS.cons (WM (W.pv h (W.bool k)))
end
section
variable {ao:Nat->Nat->Bool}{aj:Bool}{F:Bool->Fn}{J:Vs}{s:S}{Q:Out->S->Prop}{c:Nat}{fs:List D}
theorem Kbn{c:Nat}{kp:Bool}{xs:Es}(h:W (evs ao true (F true) xs J) s λvs s1=>W (bW vs) s1 λds s2=>Q (.er c (if kp=true then ds else []) J) s2):WS (ex ao true F (.rise c kp xs) J) s Q:=by
 refine WS.wX (m2:=λ_=>none) (WS.ofM (W.bd (h.imp λvs s1 h=>h.imp λds s2 h=>?_)));exact⟨_,s2,rfl,h⟩
theorem Kbs{m:MS}{k:Vs->MS}(h:WS m s λo s'=>match o with|.nx J'=>WS (k J') s' Q|.rt x=>Q (.rt x) s'|_=>False):WS (Mi.bY m k) s Q:=by
 obtain⟨o,s',e,q⟩:=h;unfold WS Mi.bY;rw[e];cases o with
 |nx J'=>exact q
 |rt x=>exact⟨_,_,rfl,q⟩
 |bk _=>exact q.elim
 |ct _=>exact q.elim
 |er _ _ _=>exact q.elim
theorem Kbq{F:Fn}{i:Nat}{x:Xv}(h:Q (.nx (J.set i (some x))) s):WS (store ao aj F (.nm i) x J) s Q:=⟨_,s,rfl,h⟩
theorem Kbr{F:Fn}{is:List Nat}{d:D}(h:rO ((jG d).bind λds=>fu is (ds.map .d) J) λJ'=>Q (.nx J') s):WS (store ao true F (.tp is) (.d d) J) s Q:=by
 obtain⟨J',e,q⟩:=h;exact WS.wX (m2:=λ_=>none) (WS.ofM (W.bd (W.dat (W.opt e (WS.nx q)))))
end
section
variable {ao:Nat->Nat->Bool}{aj:Bool}{F:Fn}{J:Vs}{s:S}{P:Xv->S->Prop}
theorem W.jD{a:E}{k:Kd}(h:W (ev ao aj F a J) s λx s1=>W (rd x) s1 λd s2=>rO (jF ao d k) λb=>P (.d (.bl b)) s2):W (ev ao aj F (.jD a k) J) s P:=KaG h
theorem W.v9{p q:Pr}{a b c:E}(h:W (ev ao aj F a J) s λx s1=>W (ev ao aj F b J) s1 λy s2=>W (eE [x,y]) s2 λds s3=>W (bO true (prim p ds)) s3 λt s4=>W (Mi.bool t) s4 λk s5=>
  W (if k=true then M.bd (ev ao aj F c J) λz=>M.bd (eE [y,z]) λds=>bO true (prim q ds) else M.ret (.d (.bl false))) s5 P):W (ev ao aj F (.v9 p q a b c) J) s P:=KaE h
theorem KaH{c a b:E}(h:W (ev ao aj F c J) s λx s1=>W (Mi.bool x) s1 λk s2=>W (if k=true then ev ao aj F a J else ev ao aj F b J) s2 P):W (ev ao aj F (.ite c a b) J) s P:=W.bd (h.imp λ_ _ h=>W.bd h)
theorem KaP{a:E}{P:Src×Nat->S->Prop}(h:W (ev ao aj F a J) s λx s1=>W (qX x) s1 P):W (kW ao aj F (.enum a) J) s P:=W.bd h
theorem KaO{xs:List D}{P:Src×Nat->S->Prop}(h:P (.fix (enumFrom 0 xs),(enumFrom 0 xs).length) s):W (qX (.d (.fl xs))) s P:=⟨_,s,rfl,h⟩
theorem KaQ{a b:E}{P:Src×Nat->S->Prop}(h:W (ev ao aj F a J) s λx s1=>W (ev ao aj F b J) s1 λy s2=>W (Mi.int x) s2 λi s3=>W (Mi.int y) s3 λj s4=>(dJ i&&dJ j)=true/\P (.fix (fQ i j),(fQ i j).length) s4):W (kW ao aj F (.rg a b) J) s P:=by
 refine W.bd (h.imp λx s1 h=>W.bd (h.imp λy s2 h=>W.bd (h.imp λi s3 h=>W.bd (h.imp λj s4 h=>?_))));rw[if_pos h.1];exact W.ret h.2
theorem KaS{a b:E}{P:Src×Nat->S->Prop}(h:W (ev ao aj F a J) s λx s1=>W (ev ao aj F b J) s1 λy s2=>W (m6 x) s2 λxs s3=>W (m6 y) s3 λys s4=>P (.fix (List.zipWith (λp q=>.tup [p,q]) xs ys),(List.zipWith (λ(p q:D)=>D.tup [p,q]) xs ys).length) s4):W (kW ao aj F (.zip a b) J) s P:=
 W.bd (h.imp λx s1 h=>W.bd (h.imp λy s2 h=>W.bd (h.imp λxs s3 h=>W.bd (h.imp λys s4 h=>W.ret h))))
theorem W.iC{xs:List D}{P:List D->S->Prop}(h:P xs s):W (m6 (.d (.tup xs))) s P:=W.ret h
theorem W.tD{xs:List D}{P:List D->S->Prop}(h:P xs s):W (m6 (.d (.fl xs))) s P:=W.ret h
theorem Kam{P:Bool->S->Prop}(h:P true s):W (oF ao aj F .no J) s P:=W.ret h
theorem Kan{a:E}{P:Bool->S->Prop}(h:W (ev ao aj F a J) s λx s1=>W (Mi.bool x) s1 P):W (oF ao aj F (.yes a) J) s P:=W.bd h
theorem WW(g:D->D)(hc:c.length<=sizeLine)
  (hw:W (kW ao true F it J) s λcn s1=>cn=(.fix c,c.length)/\s1=s)
  (hb:∀x∈c,rO (eF tg x (blk many fr J)) λJ'=>W (ev ao true F elt J') s λy s2=>s2=s/\y=.d (g x))
  (h:W (newL fz (c.map g)) s P):W (ev ao true F (.comp fz elt tg it fr many .no) J) s P:=by
 refine Kau (c:=c) (λx=>some (g x)) hc hw (λx hx=>?_) ?_
 ·obtain⟨J',e,h1⟩:=hb x hx;refine⟨J',e,W.ret ⟨rfl,?_⟩⟩;rw[if_pos rfl];exact h1.imp λy s2 ⟨a,b⟩=>⟨a,_,b,rfl⟩
 ·rw[show c.filterMap (λx=>some (g x))=c.map g by rw[<-List.filterMap_eq_map];rfl];exact h
theorem rR{α:Type}{f:α->D}{l:List α}{fz:Bool}{elt:E}{tg:List Nat}{it:Wk}{fr:List Nat}{many:Nat}{cond:Eo}(g:α->Option D)(hc:l.length<=sizeLine)
  (hw:W (kW ao true F it J) s λcn s1=>cn=(.fix (l.map f),(l.map f).length)/\s1=s)
  (hb:∀x∈l,rO (eF tg (f x) (blk many fr J)) λJ'=>W (oF ao true F cond J') s λb s1=>s1=s/\(b=true->W (ev ao true F elt J') s λy s2=>s2=s/\∃d,y=.d d/\g x=some d)/\(b=false->g x=none))
  (h:W (newL fz (l.filterMap g)) s P):W (ev ao true F (.comp fz elt tg it fr many cond) J) s P:=by
 change W (_root_.ite (true=true) _ _) s P
 rw[if_pos rfl];refine W.bd (hw.imp λcn s1=>?_);rintro⟨rfl,rfl⟩;refine W.bd ?_;refine W.walk (c:=l.map f) (λi acc s'=>s'=s1/\acc=(l.take i).filterMap g) ⟨rfl,rfl⟩ (λi x acc s' e hI=>?_) (λacc s' hI=>?_)
 ·obtain⟨rfl,rfl⟩:=hI;rw[iz] at e;cases el:l[i]? with
  |none=>rw[el] at e;cases e
  |some y=>
   rw[el] at e;cases e;have hi:i<l.length:=(fB.mp el).1;have ht:l.take (i+1)=l.take i++[y]:=by rw[Cz,el];rfl
   have hl:((l.take i).filterMap g).length<sizeLine:=KD (sH _ _) (by rw[pq];lia);obtain⟨J',e1,h1⟩:=hb y (dH el);refine W.bd (W.opt e1 ?_);refine W.bd (W.qt (h1.imp λb s2=>?_));rintro⟨rfl,h2,h3⟩;rw[ht,Aa];cases b
   ·rw[if_neg J0];refine W.ret ⟨rfl,?_⟩;simp[h3 rfl]
   ·rw[if_pos rfl];refine W.bd (W.qt ((h2 rfl).imp λy s3=>?_));rintro⟨rfl,d,rfl,eg⟩;refine W.bd (W.dat ?_);rw[if_pos hl];refine W.ret ⟨rfl,?_⟩;simp[eg]
 ·obtain⟨rfl,rfl⟩:=hI;rw[cJ,Ah];exact h
theorem Jq{c:List D}{fz:Bool}{elt:E}{tg:List Nat}{it:Wk}{fr:List Nat}{many:Nat}{cond:Eo}(I:Nat->List D->S->Prop)
  (hw:W (kW ao true F it J) s λcn s1=>cn=(.fix c,c.length)/\I 0 [] s1)
  (hb:∀i x acc s,c[i]?=some x->I i acc s->rO (eF tg x (blk many fr J)) λJ'=>W (oF ao true F cond J') s λb s1=>(b=true->W (ev ao true F elt J') s1 λy s2=>∃d,y=.d d/\acc.length<sizeLine/\I (i+1) (acc++[d]) s2)/\(b=false->I (i+1) acc s1))
  (h:∀acc s,I c.length acc s->W (newL fz acc) s P):W (ev ao true F (.comp fz elt tg it fr many cond) J) s P:=by
 change W (_root_.ite (true=true) _ _) s P
 rw[if_pos rfl];refine W.bd (hw.imp λcn s1=>?_);rintro⟨rfl,h0⟩;refine W.bd ?_;refine W.walk (c:=c) I h0 (λi x acc s' e hI=>?_) (λacc s' hI=>h acc s' hI);obtain⟨J',e1,h1⟩:=hb i x acc s' e hI;refine W.bd (W.opt e1 ?_);refine W.bd (W.qt (h1.imp λb s2=>?_));rintro⟨h2,h3⟩;cases b
 ·rw[if_neg J0];exact W.ret (h3 rfl)
 ·rw[if_pos rfl];refine W.bd (W.qt ((h2 rfl).imp λy s3=>?_));rintro⟨d,rfl,hl,hi⟩;refine W.bd (W.dat ?_);rw[if_pos hl];exact W.ret hi
theorem W.push{o a:E}(h:W (ev ao aj F o J) s λx s1=>W (Mi.cF x) s1 λ_ s2=>W (ev ao aj F a J) s2 λy s3=>W (Mi.dat y) s3 λd s4=>W (Mi.cF x) s4 λnx s5=>nx.2.length<sizeLine/\P (.d .non) (s5.set nx.1 (.lst (nx.2++[d])))):W (ev ao aj F (.push o a) J) s P:=by
 refine W.bd (h.imp λx s1 h=>W.bd (h.imp λ_ s2 h=>W.bd (h.imp λy s3 h=>W.bd (h.imp λd s4 h=>W.bd (h.imp λnx s5 h=>?_)))));rw[if_pos h.1];exact W.bd (PK (W.ret h.2))
end
theorem WX{s:S}{o:SO}:(s++[o])[s.length]?=some o:=by simp
theorem Y{P R:Prop}(k:R)(h:Bx R->P:=by
 intro k
 repeat (first|with_reducible first
   |refine Kbf (by with_unfolding_all rfl) ?_|refine Kbg (by with_unfolding_all rfl) ?_|refine Kbe (by with_unfolding_all rfl) ?_|refine W.pv (by with_unfolding_all rfl) ?_|refine WT (by with_unfolding_all rfl) ?_|refine Ka2 (by with_unfolding_all rfl) ?_|refine Ka1 (by with_unfolding_all rfl) ?_
   |refine WS.cons ?_|refine WS.nil ?_|refine Kbs ?_|refine Kbq ?_|refine Kbr ?_|refine WK ?_|refine WL ?_|refine WM ?_|refine Kbp ?_|refine Kbo ?_|refine Kbl ?_|refine Kbh ?_|refine Kbi ?_|refine Kbn ?_|refine WS.wX ?_|refine WS.PX ?_|refine WS.PL (by with_unfolding_all rfl) ?_|refine WS.PN (by with_unfolding_all rfl) ?_|refine rO.mk (by with_unfolding_all rfl) ?_
   |refine WD ?_|refine Kal ?_|refine W.eC ?_|refine W.eV (by with_unfolding_all rfl) ?_|refine Wy ?_|refine Wz ?_|refine KaN ?_|refine KaI ?_|refine KaJ ?_|refine KaC ?_|refine KaK ?_|refine KaH ?_|refine W.jD ?_|refine W.v9 ?_|refine W.push ?_|refine KaM ?_|refine KaF ?_|refine KaV ?_|refine KaW ?_|refine KaR ?_|refine KaQ ?_|refine KaS ?_|refine KaP ?_|refine Kam ?_|refine Kan ?_|refine W.wX ?_|refine W.PX ?_|refine W.PL (by with_unfolding_all rfl) ?_|refine W.PN (by with_unfolding_all rfl) ?_
   |refine Ka6 ?_|refine Ka7 ?_|refine Ka4 ?_|refine Wv (by with_unfolding_all rfl) ?_|refine Wv WX ?_|refine Kaz ?_|refine KaA ?_|refine W.dat ?_|refine W.bool ?_|refine W.int ?_|refine W.cF (by with_unfolding_all rfl) ?_|refine W.cF WX ?_|refine PK ?_|refine Ka9 ?_|refine KaO ?_|refine W.iC ?_|refine W.tD ?_|refine Ka8 ?_|refine KaU ?_|refine Ww ?_
   |refine cL (by first|(with_unfolding_all rfl)|exact zlV (by first|(left;constructor<;>lia)|(right;constructor<;>lia))|exact zlt gV|exact zj2 gV|exact zgs gV|exact zl1 J0) ?_|refine GK (by with_unfolding_all rfl) ?_
   |refine W.ret ?_|refine W.bd ?_
   | (dsimp only))
 all_goals exact k.o):P:=h ⟨k⟩
def lx(p q:Int×Int):Prop:=p.1<q.1\/p.1=q.1/\p.2<q.2
noncomputable def bL(n:Int)(ps:List (Int×Int)):D:=.tup [.int n,.tup (ps.map gq)]
structure Web(n:Int)(ps:List (Int×Int)):Prop where
 h1:1<=n
 h8:n<=8
 tie:∀p∈ps,0<=p.1/\p.1<p.2/\p.2<n
 inc:ps.Pairwise lx
 len:(ps.length:Int)<=7*n
theorem zhB(h:∀x∈xs,x=.bl true):dB xs=some (List.replicate xs.length true):=by
 induction xs with
 |nil=>rfl
 |cons x r ih=>
  rw[h x Nj];show Option.map _ (dB r)=_;rw[ih λy hy=>h y (by simp[hy])];rfl
theorem WY(h:∀x∈xs,x=.bl true):prim .all [.fl xs]=some (.dat (.bl true)):=by
 show Option.map _ (dB xs)=_;rw[zhB h];simp
theorem zlC(h:lx p q):ltI [p.1,p.2] [q.1,q.2]=true:=by
 simp only[ltI];rcases h with h|⟨h,h2⟩
 ·rw[if_neg gV];simp[h]
 ·rw[if_pos h,if_neg gV];simp[h2]
theorem Qc(xs:List D):cut xs (some 1) none=xs.drop 1:=by
 unfold cut;rw[HT.iQ];rw[show (some 1:Option Int)=some ((1:Nat):Int) from rfl,HT.j8];cases xs with
 |nil=>rfl
 |cons x r=>simp
theorem W0:∀{ps:List (Int×Int)},ps.Pairwise lx->∀x∈List.zipWith (λ(p q:D)=>D.tup [p,q]) (ps.map gq) ((ps.map gq).drop 1),∃p q,x=.tup [gq p,gq q]/\lx p q
 |[],_,x,hx=>by simp at hx
 |[p],_,x,hx=>by simp at hx
 |p::q::r,h,x,hx=>by
  rw[show (List.map gq (p::q::r)).drop 1=List.map gq (q::r) from rfl] at hx;have e:List.zipWith (λ(p q:D)=>D.tup [p,q]) (List.map gq (p::q::r)) (List.map gq (q::r))=.tup [gq p,gq q]::List.zipWith (λ(p q:D)=>D.tup [p,q]) (List.map gq (q::r)) (List.map gq r):=rfl;rw[e,fC] at hx;rcases hx with rfl|hx
  ·exact⟨p,q,rfl,(Af.mp h).1 q Nj⟩
  ·exact W0 (ps:=q::r) (Af.mp h).2 x hx
theorem zfN(h:wz xs=some ys):prim .sorted [.fl xs]=some (.nw ys):=by
 show Option.map Rz.nw (wz xs)=_;rw[h];rfl
theorem zfY{es:List Int}(qN:es.length<64)(h:es.Pairwise (·<·)):wz (es.map D.int)=some (es.map D.int):=by
 refine zgp ?_ (by rw[cJ];exact qN) λk hk=>?_
 ·rw[Bool.or_eq_true]
  left
  rw[CJ,gb];intro x _;rfl
 ·rw[cJ] at hk;unfold wj;rw[iz,iz,eO hk,eO (show k<es.length by lia)];have:=List.pairwise_iff_getElem.mp h k (k+1) gV hk gV;simp only[Option.map_some]
  congr 1
  apply g_
  lia
noncomputable def endOf(i:Int)(p:Int×Int):Option Int:=if p.1=i then some p.2 else if p.2=i then some p.1 else none
noncomputable def aB(i:Int)(ps:List (Int×Int)):List Int:=ps.filterMap (endOf i)
theorem W2(h:Web n ps)(i:Int):(aB i ps).Pairwise (·<·):=by
 have ht:=h.tie;have hi:=h.inc;clear h;unfold aB
 induction ps with
 |nil=>simp
 |cons p r ih=>
  obtain⟨hp,hr⟩:=Af.mp hi;have ih:=ih (λq hq=>ht q (by simp[hq])) hr;rw[xP]
  split
  ·exact ih
  ·rename_i b eb;refine Af.mpr ⟨λc hc=>?_,ih⟩;obtain⟨q,hq,eq⟩:=qw.mp hc;have l:=hp q hq;have tp:=ht p Nj;have tq:=ht q (by simp[hq]);unfold endOf at eb eq;unfold lx at l;split at eb
   ·cases eb;split at eq
    ·cases eq;lia
    ·split at eq
     ·cases eq;lia
     ·cases eq
   ·split at eb
    ·cases eb;split at eq
     ·cases eq;lia
     ·split at eq
      ·cases eq;lia
      ·cases eq
    ·cases eb
theorem Qd(h:Web n ps)(he:e∈aB i ps):0<=e/\e<n:=by
 obtain⟨q,hq,eq⟩:=qw.mp he;have tq:=h.tie q hq;unfold endOf at eq;split at eq
 ·cases eq;lia
 ·split at eq
  ·cases eq;lia
  ·cases eq
theorem Qe:∀{es:List Int} {a n:Int},es.Pairwise (·<·)->(∀e∈es,a<=e/\e<n)->a<=n->(es.length:Int)<=n-a
 |[],a,n,_,_,h=>by simp;lia
 |e::r,a,n,h,hb,ha=>by
  obtain⟨h1,h2⟩:=Af.mp h;have he:=hb e Nj;have:=Qe (es:=r) (a:=e+1) (n:=n) h2 (λx hx=>⟨by have:=h1 x hx;lia,(hb x (by simp[hx])).2⟩) gV;rw[dR]
  lia
theorem W3{a b:Int}{i:Nat}{x:D}(h:(fQ a b)[i]?=some x):x=.int (a+i)/\a+i<b:=by
 unfold fQ at h;rw[iz] at h;cases e:(List.range (b-a).toNat)[i]? with
 |none=>rw[e] at h;cases h
 |some j=>
  rw[e] at h;cases h;obtain⟨hl,rfl⟩:=fB.mp e;rw[jO] at hl;rw[List.getElem_range];exact⟨rfl,by lia⟩
theorem W4:(fQ a b).length=(b-a).toNat:=by unfold fQ;simp
theorem iH(h1 : -1000<=a)(h2:a<=1000):dJ a=true:=by
 unfold dJ;rw[gA gV,gA gV];rfl
theorem wZ(hl:locs xs=[s.length])(h:W (F (cM 0 xs)) [o] λv s1=>∃d o',v=.d d/\s1=[o']/\P (.d d) (s++[o'])):W (bN F xs) (s++[o]) P:=by
 refine Wx (n:=s.length) (o:=o) hl Nj (h.imp λv s1=>?_);rintro⟨d,o',rfl,rfl,hp⟩;exact⟨d,o',rfl,rfl,by rw[show (s++[o]).set s.length o'=s++[o'] by simp];exact hp⟩
theorem zim{ns:List Int}{lo hi:Option Int}{x:D}(h:x∈cut (ns.map D.int) lo hi):∃n,x=.int n:=by
 have:=List.mem_of_mem_drop (List.mem_of_mem_take h);obtain⟨n,_,rfl⟩:=sU.mp this;exact⟨n,rfl⟩
theorem zhH{ns:List Int}{lo hi:Option Int}:(cut (ns.map D.int) lo hi).length<=ns.length:=by
 unfold cut;rw[pq,xV,cJ]
 lia
theorem GX(h0:0<=j)(h:xs[j.toNat]?=some x):prim .ix [.fl xs,.int j]=some (.dat x):=by
 obtain⟨k,rfl⟩:=Hr h0;exact zR h
theorem pY(h0:0<=j)(h:xs[j.toNat]?=some x):prim .ix [.tup xs,.int j]=some (.dat x):=GX h0 h
noncomputable def gJ(k a b:Int):Int:=if k-(if a-b<0 then -(a-b) else a-b)<(if a-b<0 then -(a-b) else a-b) then k-(if a-b<0 then -(a-b) else a-b) else (if a-b<0 then -(a-b) else a-b)
theorem Jr(hd:1<=d):d<=gJ k a b↔(d<=a-b/\a-b<=k-d)\/(d<=b-a/\b-a<=k-d):=by
 unfold gJ
 split<;>split<;>lia
theorem ziQ(j:Int)(ls:List Int):memD (.int j) (ls.map .int)=some (decide (j∈ls)):=by
 induction ls with
 |nil=>rfl
 |cons q r ih=>
  have hi:c7 50 (.int q) (.int j)=some (q==j):=rfl;simp only[nM,memD,ih,hi]
  congr 1
  by_cases h:q=j
  ·subst h;simp
  ·have h2:¬j=q:=λe=>h e.symm;simp[h,h2]
noncomputable def bx(k d:Int):D:=.tup [.int k,.int d]
theorem Kbb{c:Src}{xs:List D}{f:D->List D->M (List D)}{s1:S}{acc:List D}{P:List D->S->Prop}(hc:∀i,c.at i s1=some xs[i]?)(I:Nat->List D->Prop)(h0:I 0 acc)(hb:∀i x acc,xs[i]?=some x->I i acc->W (f x acc) s1 λa s'=>s'=s1/\I (i+1) a)
  (he:∀acc,I xs.length acc->P acc s1):W (Mi.walk c f (xs.length+1) 0 acc) s1 P:=by
 have key:∀n i acc,i+n=xs.length->I i acc->W (Mi.walk c f (n+1) i acc) s1 P:=by
  intro n
  induction n with
  |zero=>
   intro i acc hi hI;have e:xs[i]?=none:=by rw[oZ];lia
   have:i=xs.length:=by lia
   subst this;refine⟨acc,s1,?_,he acc hI⟩;unfold Mi.walk;simp only[hc,e]
  |succ n ih=>
   intro i acc hi hI;have gD:i<xs.length:=by lia
   have e:xs[i]?=some xs[i]:=eO gD;obtain⟨a,s',eb,rfl,zQ⟩:=hb i xs[i] acc e hI;obtain⟨a2,s2,e2,q⟩:=ih (i+1) a gV zQ;refine⟨a2,s2,?_,q⟩;unfold Mi.walk;simp only[hc,e,M.bd,eb];exact e2
 exact key xs.length 0 acc gV h0
section
variable {ao:Nat->Nat->Bool}{F:Fn}{J:Vs}{s:S}{P:Xv->S->Prop}
theorem W5{α:Type}{f:α->D}{l:List α}{fz:Bool}{elt:E}{tg:List Nat}{it:Wk}{fr:List Nat}{many:Nat}{cond:Eo}(s1:S)(g:α->Option D)(hc:l.length<=sizeLine)
  (hw:W (kW ao true F it J) s λcn s'=>s'=s1/\cn.2=(l.map f).length/\∀i,cn.1.at i s1=some (l.map f)[i]?)
  (hb:∀x∈l,rO (eF tg (f x) (blk many fr J)) λJ'=>W (oF ao true F cond J') s1 λb s'=>s'=s1/\(b=true->W (ev ao true F elt J') s1 λy s2=>s2=s1/\∃d,y=.d d/\g x=some d)/\(b=false->g x=none))
  (h:W (newL fz (l.filterMap g)) s1 P):W (ev ao true F (.comp fz elt tg it fr many cond) J) s P:=by
 change W (_root_.ite (true=true) _ _) s P
 rw[if_pos rfl];refine W.bd (hw.imp λcn s'=>?_);rintro⟨rfl,h2,h3⟩;refine W.bd ?_;rw[h2];refine Kbb h3 (λi acc=>acc=(l.take i).filterMap g) rfl (λi x acc e hI=>?_) (λacc hI=>?_)
 ·subst hI;rw[iz] at e;cases el:l[i]? with
  |none=>rw[el] at e;cases e
  |some y=>
   rw[el] at e;cases e;have hi:i<l.length:=(fB.mp el).1;have ht:l.take (i+1)=l.take i++[y]:=by rw[Cz,el];rfl
   have hl:((l.take i).filterMap g).length<sizeLine:=KD (sH _ _) (by rw[pq];lia);obtain⟨J',e1,h1⟩:=hb y (dH el);refine W.bd (W.opt e1 ?_);refine W.bd (W.qt (h1.imp λb s2=>?_));rintro⟨rfl,h2,h3⟩;rw[ht,Aa];cases b
   ·rw[if_neg J0];refine W.ret ⟨rfl,?_⟩;simp[h3 rfl]
   ·rw[if_pos rfl];refine W.bd (W.qt ((h2 rfl).imp λy s3=>?_));rintro⟨rfl,d,rfl,eg⟩;refine W.bd (W.dat ?_);rw[if_pos hl];refine W.ret ⟨rfl,?_⟩;simp[eg]
 ·subst hI;rw[cJ,Ah];exact h
end
theorem BK{α:Type}{l:List α}{f:α->D}:l.filterMap (λx=>some (f x))=l.map f:=by
 rw[<-List.filterMap_eq_map];rfl
theorem Qf(I:Nat->Vs->S->Prop)(h0:I 0 J s)(hb:∀i x J s,c[i]?=some x->I i J s->WS (b x J) s λo s'=>(∃J',o=.nx J'/\I (i+1) J' s')\/(∃x,o=.rt x/\Q (.rt x) s'))
  (he:∀J s,I c.length J s->Q (.nx J) s):WS (cU (.fix c) b (c.length+1) 0 J) s Q:=by
 have key:∀n i J s,i+n=c.length->I i J s->WS (cU (.fix c) b (n+1) i J) s Q:=by
  intro n
  induction n with
  |zero=>
   intro i J s hi hI;have e:c[i]?=none:=by rw[oZ];lia
   have:i=c.length:=by lia
   subst this;refine⟨_,s,?_,he J s hI⟩;unfold cU;simp only[Src.at,e]
  |succ n ih=>
   intro i J s hi hI;have gD:i<c.length:=by lia
   have e:c[i]?=some c[i]:=eO gD;obtain⟨o,s',eb,hr⟩:=hb i c[i] J s e hI;rcases hr with ⟨J',rfl,zQ⟩|⟨x,rfl,hq⟩
   ·obtain⟨o2,s2,e2,q⟩:=ih (i+1) J' s' gV zQ;refine⟨o2,s2,?_,q⟩;unfold cU;simp only[Src.at,e,eb];exact e2
   ·refine⟨_,s',?_,hq⟩;unfold cU;simp only[Src.at,e,eb]
 exact key c.length 0 J s gV h0
theorem w6{xs:List D}{i:Nat}(h:i<=xs.length):cut xs none (some (i:Int))=xs.take i:=by
 unfold cut;rw[HT.iQ,HT.j8,Nat.min_eq_left h];simp
theorem oU{xs:List D}{i:Nat}(h:i<=xs.length):cut xs (some (i:Int)) none=xs.drop i:=by
 unfold cut;rw[HT.iQ,HT.j8,Nat.min_eq_left h];rw[List.take_of_length_le];rw[xV]
 lia
theorem Js(h:xs.length+ys.length<=sizeLine):prim .add [.tup xs,.tup ys]=some (.dat (.tup (xs++ys))):=by
 show (if _ then _ else _)=_;rw[if_pos h]
noncomputable def ju:D->Bool
 |.exc _ _=>false
 |.ob _ _=>false
 |.any=>false
 |_=>true
noncomputable def whB:D->Bool
 |.int _=>true
 |_=>false
noncomputable def Jt:D->Bool
 |.tup xs=>xs.all ju
 |d=>ju d
theorem zeM{α:Type}(l:List α)(f:α->Bool):dB (l.map λx=>D.bl (f x))=some (l.map f):=by
 induction l with
 |nil=>rfl
 |cons x r ih=>
  show Option.map _ (dB (r.map λx=>D.bl (f x)))=_;rw[ih];rfl
theorem W6{α:Type}{l:List α}{f:α->Bool}:prim .all [.fl (l.map λx=>D.bl (f x))]=some (.dat (.bl (l.all f))):=by
 show Option.map _ (dB (l.map λx=>D.bl (f x)))=_;rw[zeM];show some (Rz.dat (.bl ((l.map f).all id)))=_;rw[CJ];rfl
theorem zh5(h:x∈cut xs lo hi):x∈xs:=List.mem_of_mem_drop (List.mem_of_mem_take h)
theorem ziG:(cut xs lo hi).length<=xs.length:=by
 unfold cut;rw[pq,xV]
 lia
end Mi
namespace Mi
open PySem PySem.W PyProof.Rows L2
structure Ord(n:Nat)(lt:Nat->Nat->Option Bool)(le:Nat->Nat->Prop):Prop where
 ans:∀i j,i<n->j<n->(lt i j=some true/\le i j)\/(lt i j=some false/\le j i)
 tr:∀i j k,i<n->j<n->k<n->le i j->le j k->le i k
end Mi
namespace Mi
open PySem PySem.Spec PyProof.Rows L2 PySem.W
section
variable {X:Cx}{cA:Cl}{ao:Nat->Nat->Bool}{aj:Bool}{F:Fn}{EX:XS}{a b:Expr}{A B:E}{pos p:Pos}{x:Str}{e:Expr}{es:List Expr}{Xs:Es}
noncomputable def rT(sc:Scope)(x:Str):Bool:=match sc.names.lookup x with
 |some k=>zG k
 |none=>false
noncomputable def Ju(sc:Scope)(x:Str):Bool:=match sc.names.lookup x with
 |some .globalImplicit=>true
 |_=>false
theorem Qg{sc:Scope}{x:Str}(h:rT sc x=true):∃k,sc.names.lookup x=some k/\zG k=true:=by
 unfold rT at h;split at h
 ·rename_i k e;exact⟨k,e,h⟩
 ·cases h
theorem W7{sc:Scope}{x:Str}(h:Ju sc x=true):sc.names.lookup x=some .globalImplicit:=by
 unfold Ju at h;split at h
 ·assumption
 ·cases h
theorem gk(h:Ju X.env.scope x=true:=by kernel_rfl):JK X x .globalImplicit:=⟨W7 h⟩
theorem jl(h:(match X.env.scope.names.lookup x with|some .local=>true|_=>false)=true:=by kernel_rfl):JK X x .local:=by
 split at h
 ·exact⟨by assumption⟩
 ·cases h
theorem jc(h:(match X.env.scope.names.lookup x with|some .cell=>true|_=>false)=true:=by kernel_rfl):JK X x .cell:=by
 split at h
 ·exact⟨by assumption⟩
 ·cases h
theorem pZ{scope:Scope}{cl:List (Str×Addr)}{N:List Str}{Cc:Addr}{s3:Shared}{H3:Hp}{fp:List Addr}{ak:List (Addr×Obj)}(h:Ju scope x=true:=by kernel_rfl):JK (X.blk scope cl N Cc s3 H3 fp ak) x .globalImplicit:=V5 (W7 h) rfl
theorem gv(i:Nat)(h:(decide (X.N[i]?=some x)&&rT X.env.scope x&&okN x)=true:=by kernel_rfl):JE X cA ao aj F EX (.Name x pos) (.v i):=by
 rw[eU,eU] at h;obtain⟨k,e,hv⟩:=Qg h.1.2;exact V6 i (lA h.1.1) ⟨e⟩ hv h.2
theorem bK(i:Nat){scope:Scope}{cl:List (Str×Addr)}{N:List Str}{Cc:Addr}{s3:Shared}{H3:Hp}{fp:List Addr}{ak:List (Addr×Obj)}(h:(decide (N[i]?=some x)&&rT scope x&&okN x)=true:=by kernel_rfl):JE (X.blk scope cl N Cc s3 H3 fp ak) cA ao aj F EX (.Name x pos) (.v i):=by
 rw[eU,eU] at h;obtain⟨k,e,hv⟩:=Qg h.1.2;by_cases hk:k=.free
 ·subst hk;exact zmL i (lA h.1.1) e h.2
 ·exact V6 i (lA h.1.1) (V5 e (by cases k<;>first|rfl|exact absurd rfl hk)) hv h.2
theorem gc{f k:Nat}{cm:Bool}{st:Stmt}{ps:List Str}(Fo:bQ X.prog X.w X.K X.mg X.base (dZ X.prog X.w) cm k (fX X.K x) (fdOf X.K x st) ps (mJ X.K cA (F f)))(D:D3 X.K X.mg x st ps)(hr:bC k X.A)(R:JR X EX)(g:JK X x .globalImplicit)(ha:JA X cA ao aj F EX (e::es) Xs)(h:okN x=true:=by kernel_rfl)
  (h_:cm=true->X.aj=true:=by first|exact λ_=>rfl|exact λz=>nomatch z) (he:aD e=true:=by rfl) (hpl:es.all aD=true:=by rfl):JE X cA ao aj F EX (.Call (.Name x p) (e::es) [] pos) (.call f Xs):=
 zju f Fo h_ hr D.m D.f.kp D.b R g ha h he hpl
theorem nd(h:decide X.N.Nodup=true:=by kernel_rfl):X.N.Nodup:=lA h
end
theorem fJ{P:Program}{w:World}{K:W.Frag}{mg:Str->Option Value}{base:Heap}{cA:Cl}{ao:Nat->Nat->Bool}{T:Nat->Option Df}{x:Str}{st:Stmt}{ps:List Str}{k n:Nat}{cm:Bool}{df:Df}(D:D3 K mg x st ps)(N:List Str)(hT:T n=some df)
  (hb:∀(cdv:Value) (A:Around) (outer:List Env) (s:Shared) (H:Hp) (E:XK),bC k (A.deeper (envOfC x (au st) s.heap.objs.size (fX K x) cdv))->
   JB (dU (dZ P w) P w K mg base N x (au st) (fX K x) cdv A outer s H E cm) cA ao cm (λc=>call ao T k c) (λ_ C dx H'=>E C dx H') (aK st) df.body) (S:cH N ps (au st):=by exact⟨rfl,rfl,rfl,dk,rfl,dk,dk⟩) (hp:df.fU=ps.length:=by rfl) (hm:df.many=N.length:=by rfl) :
  bQ P w K mg base (dZ P w) cm (k+1) (fX K x) (fdOf K x st) ps (mJ K cA (call ao T (k+1) cm n)):=Wi D.f S hT hp hm hb
end Mi
namespace Mi
open PySem PySem.Spec PyProof.Rows L2
section
variable {K:W.Frag}{cA:Cl}{U:Ph}{H:Hp}{s:S}
theorem W8{β:Type}{c:Nat}{x:Xv}{v:V}{k:List D->M β}{P:β->S->Ph->Hp->Prop}{Ee:Nat->List D->S->Ph->Hp->Prop}(r:aX K cA U H x v)(h:Run K cA (M.bd (pP c x) k) U H s P Ee) :
  ∃fs ad dx vs,v=.ref ad/\H ad=some (.ins (cA.b c) dx ((cA.g c).zip vs))/\aA K cA U H fs vs/\Run K cA (k fs) U H s P Ee:=by
 cases r with
 |l _=>exact h.elim
 |d r=>cases r with
  |@ob ad e fs vs q r=>
   have h2:Run K cA (M.bd (if e=c then M.ret fs else M.no) k) U H s P Ee:=h;clear h;by_cases z:e=c
   ·rw[if_pos z] at h2;subst z;obtain⟨_,dx,q1,_⟩:=q;exact⟨fs,ad,dx,vs,rfl,q1,r,h2⟩
   ·rw[if_neg z] at h2;exact h2.elim
  |_=>exact h.elim
theorem Run.qt'{α:Type}{m:M α}{P:α->S->Ph->Hp->Prop}{Ee Ee':Nat->List D->S->Ph->Hp->Prop}(h:Run K cA (M.qt m) U H s P Ee):Run K cA m U H s P Ee':=by
 unfold Run M.qt at *;cases e:m s with
 |none=>rw[e] at h;exact h
 |some r=>
  obtain⟨r,s1⟩:=r;rw[e] at h;cases r with
  |ok a=>exact h
  |er c f=>exact h.elim
theorem W9:∀{ns:List Str} {vs:List V} {m:Str},m∉ns->(ns.zip vs).lookup m=none
 |[],vs,m,_=>by simp
 |n::ns,[],m,_=>by simp
 |n::ns,v::vs,m,h=>by
  rw[Cg,mO,show (m==n)=false from Ab.mpr λe=>h (by simp[e])];exact W9 λz=>h (iy _ z)
end
structure Ow(K:W.Frag)(cA:Cl)(c:Nat):Prop where
 cl:Cls K (cA.b c)
 nf:∀f∈cA.g c,fj K (cA.b c) f
 nd:(cA.g c).Nodup
section
variable {X:Cx}{cA:Cl}{ao:Nat->Nat->Bool}{aj:Bool}{F:Fn}{EX:XS}{a e:Expr}{es:List Expr}{A:E}{Xs:Es}{pos apos p:Pos}{x:Str}
theorem GZ{c i:Nat}(o:Ow X.K cA c)(ha:JE X cA ao aj F EX a A)(hi:((cA.g c)[i]?==some x)=true:=by kernel_rfl)(hb:attributeBase a x X.env (eval a X.env)=eval a X.env:=by rfl):JE X cA ao aj F EX (.Attribute a x pos) (.of A c i):=⟨PE.weak (zjC ha.o hb) λZ H Q hh=>un hh λU J s hL hS h=>by
 refine bF hL hS h λy H1 U1 d1 s1 x1 hL1 aL r1 h1=>?_;obtain⟨fs,ad,dx,vs,rfl,q1,q2,h2⟩:=W8 r1 h1;have hi:(cA.g c)[i]?=some x:=nP.mp hi;cases ef:fs[i]? with
 |none=>rw[ef] at h2;exact h2.elim
 |some d=>
  rw[ef] at h2;obtain⟨v,e1,rv⟩:=q2.get ef;exact⟨ad,_,dx,_,v,rfl,q1,o.cl,o.nf x (dH hi),zeg o.nd hi e1,h2.bG aL v (.d rv)⟩⟩
theorem W_:Passes (dZ X.prog X.w) X λ_ _ _=>False:=λak Z H s e s' I h=>by
 obtain⟨_,_,_,_,_,_,_,_,_,_,z⟩:=h;exact z.elim
structure Mt(K:W.Frag)(C:Addr)(m q:Str)(st:Stmt)(ps:List Str)(f:Addr)(fd:FuncData):Prop where
 fn:lY K m q st f fd
 mt:Meth K C m f
 bd:Binds K fd ps []
theorem zmN{c f k:Nat}{cm:Bool}{m q:Str}{st:Stmt}{ps:List Str}{fa:Addr}{fd:FuncData}{pl:Sem Bool}(o:Ow X.K cA c)(D:Mt X.K (cA.b c) m q st ps fa fd)(Fo:bQ X.prog X.w X.K X.mg X.base (dZ X.prog X.w) cm k fa fd ps (mJ X.K cA (F f)))(hr:bC k X.A)(ha:JE X cA ao aj F EX a A)(hb:JA X cA ao aj F EX (e::es) Xs)
  (hm:decide (m∉cA.g c)=true:=by kernel_rfl) (h_:cm=true->X.aj=true:=by first|exact λ_=>rfl|exact λz=>nomatch z) (he:aD e=true:=by rfl) (hpl:es.all aD=true:=by rfl)
  (ht:eval (.Call (.Attribute a m apos) (e::es) [] pos) X.env=(do
   let ov <-eval a X.env
   standAt apos.atName
   let (f,first) <-holding [ov] (getMethod ov m pl)
   callWith pos f first (backTo pos (starEach (e::es) X.env)) (backToKw pos (keywordEach [] X.env))):=by rfl):JE X cA ao aj F EX (.Call (.Attribute a m apos) (e::es) [] pos) (.cm c f A Xs):=⟨PE.weak (zhq (pl:=pl) (lM:=[]) ha.o o.cl D.mt Fo h_ hr D.bd .nil W_ hb.o (bw he) (aV hpl) ht) λZ H Q hh=>un hh λU J s hL hS h=>by
 refine bF hL hS h λy H1 U1 d1 s1 x1 hL1 aL r1 h1=>?_;obtain⟨fs,ad,dx,vs,rfl,q1,q2,h2⟩:=W8 r1 h1;refine⟨ad,dx,_,rfl,q1,W9 (lA hm),m9 hL1 aL h2 λus H2 U2 ds s2 x2 hL2 bf r2 h3=>?_⟩;rw[tY];obtain⟨U0,s0,a1,a2,a3⟩:=VB (EE:=λ_ _ _ _=>False) bf (.cons (r1.mono x2 aL.lz) r2) (λ_ _ _ _ _ _ z=>z) (h3.qt');refine⟨U0,_,s0,a1,a2,?_⟩;unfold Run at a3 ⊢;split at a3
 ·exact a3
 ·exact λU' H' x r=>(a3 U' H' x r).elim
 ·exact a3⟩
end
noncomputable def G3(K:W.Frag)(cA:Cl)(c:Nat)(m:List Xv->M Xv):Sp:=λvs H Q _=>∃x dx us U H0 xs s,vs=.ref x::us/\H0 x=none/\H0 dx=none/\dx≠x/\H=upd (upd H0 dx (.own x)) x (.ins (cA.b c) dx [])/\aM K cA U H0 xs us/\aG K cA U H0 s /\
 Run K cA (m (.d .any::xs)) U H0 s (λr _ U' H'=>∀ds ws,r=.d (.tup ds)->aA K cA U' H' ds ws->dD U' H' x (.ins (cA.b c) dx ((cA.g c).zip ws))->(cA.g c).length=ws.length->Q .non H') (λ_ _ _ _ _=>False)
section
variable {K:W.Frag}{cA:Cl}{U:Ph}{H:Hp}{s:S}
theorem zgH{xs:List Xv}{vs:List V}(h:locs xs=[])(r:aM K cA U H xs vs)(l:List Addr):aM K cA ⟨U.z,l⟩ H xs vs:=by
 induction r with
 |nil=>exact .nil
 |cons a r ih=>cases a with
  |d a=>exact .cons (.d (Rep.zl a l)) (ih h)
  |l a=>cases h
theorem Ext.made{x dx:Addr}{C:Addr}(hx:H x=none)(hd:H dx=none)(hn:dx≠x):Ext U H (U.mark x) (upd (upd H dx (.own x)) x (.ins C dx [])):=by
 have g:bA H (upd (upd H dx (.own x)) x (.ins C dx [])):=(bA.new hd).trans (bA.new (by rw[dz hn.symm];exact hx));exact⟨⟨[],by simp[Ph.mark],by simp⟩,λa z=>.inl z,λa z=>z.imp id λe=>by rw[e];exact hx,λa o h _=>g a o h,λa o h=>⟨o,g a o h⟩⟩
theorem aG.made{x dx:Addr}{C:Addr}(hS:aG K cA U H s)(hx:H x=none)(hd:H dx=none)(hn:dx≠x):aG K cA (U.mark x) (upd (upd H dx (.own x)) x (.ins C dx [])) s:=by
 have xt:=Ext.made (U:=U) (C:=C) hx hd hn;refine⟨hS.len,λn o a e1 e2=>(hS.obj n o a e1 e2).map (λu q=>?_) λ_ _ r=>r.mono xt hS.lz,hS.uniq,λa ha=>.inl (hS.lz a ha),λa z=>?_⟩
 ·have n1:a≠x:=λy=>by rw[y,hx] at q;cases q
  have n2:a≠dx:=λy=>by rw[y,hd] at q;cases q
  rw[dz n1,dz n2];exact q
 ·rcases z with z|z
  ·obtain⟨o,e⟩:=hS.zt a z;exact xt.stay a o e
  ·subst z;exact⟨_,jB⟩
end
section
variable {X:Cx}{cA:Cl}{ao:Nat->Nat->Bool}{aj:Bool}{F:Fn}{EX:XS}{e:Expr}{es:List Expr}{Xs:Es}{pos p:Pos}{x:Str}
theorem zmM{c f k:Nat}{cm:Bool}{ps:List Str}{fa:Addr}{fd:FuncData}(M:Mk X.K (cA.b c) fa)(Fo:bQ X.prog X.w X.K X.mg X.base (dZ X.prog X.w) cm k fa fd ps (G3 X.K cA c (F f)))(hr:∀us,bC k (X.A.under (.builtin "type.__call__" ⟨.ref (cA.b c)::us,[]⟩)))(hb:Binds X.K fd ps [])(hm:X.mg x=some (.ref (cA.b c)))(hg:JK X x .globalImplicit)
  (ha:JA X cA ao aj F EX (e::es) Xs) (h:okN x=true:=by kernel_rfl) (h_:cm=true->X.aj=true:=by first|exact λ_=>rfl|exact λz=>nomatch z) (he:aD e=true:=by rfl) (hpl:es.all aD=true:=by rfl):JE X cA ao aj F EX (.Call (.Name x p) (e::es) [] pos) (.mk c f Xs):=⟨PE.weak (zih (lM:=[]) M Fo h_ hr hg.o hm hb .nil W_ ha.o (qm h).1 (bw he) (aV hpl)) λZ H Q hh=>un hh λU J s hL hS h=>
 m9 hL hS h λus H1 U1 ds s1 x1 hL1 aL r1 h1 x dx hx hd hn=>by
  rw[tY];unfold Run Oa at h1;by_cases hl:locs ds=[]
  ·simp only[if_pos hl] at h1;refine⟨x,dx,us,⟨U1.z,[]⟩,H1,ds,[],rfl,hx,hd,hn,rfl,zgH hl r1 [],⟨rfl,(λn o a e=>by simp at e),Cy,(λa ha=>by cases ha),aL.zt⟩,?_⟩;unfold Run;cases e:F f (.d .any::ds) [] with
   |none=>simp only[e] at h1
   |some r=>
    obtain⟨r,s2⟩:=r;simp only[e] at h1;cases r with
    |er c f=>exact h1.elim
    |ok r=>
     intro U' H' xt bf ts ws er rs kp hlen;subst er;have nx:¬U1.z x:=aL.nz hx;have ne:∀a o,H1 a=some o->a≠x:=λa o q y=>by rw[y,hx] at q;cases q
     have Xa:Ext U1 H1 ⟨λa=>U'.z a/\a≠x,U1.l⟩ H':=by
      refine⟨⟨[],by simp,by simp⟩,λa z=>⟨xt.qg a z,λy=>nx (y▸z)⟩,λa z=>xt.kY a z.1,λa o q _=>xt.frame a o q Nj,xt.stay⟩
     refine⟨rfl,h1 _ H' Xa ⟨aL.len,λn o a e1 e2=>(aL.obj n o a e1 e2).map (λu q=>xt.frame a u q Nj) λ_ _ r=>r.mono Xa aL.lz,aL.uniq,λa ha=>⟨xt.qg a (aL.lz a ha),λy=>nx (y▸aL.lz a ha)⟩,λa z=>bf.zt a z.1⟩ _ (.d (.ob ⟨λz=>z.2 rfl,dx,kp.at_,hlen⟩ (rs.iY (U':=⟨λa=>U'.z a/\a≠x,U1.l⟩) λ_ z=>z.1)))⟩
  ·simp only[if_neg hl] at h1⟩
end
structure vB(X:Cx)(cA:Cl)(ao:Nat->Nat->Bool)(aj:Bool)(F:Fn)(EX:XS)(c:Nat)(body:List Stmt)(is:Es)(ns:List Str):Prop where
 o:nY X body λD Z H=>∃U0 H0 U J s x dx done vs ys,Ext U0 H0 U H/\aU X.K cA U H Z J/\aG X.K cA U H s/\H0 x=none/\Z[0]?=some (some (.ref x))/\dD U H x (.ins (cA.b c) dx (done.zip vs))/\aM X.K cA U H ys vs/\done.length=vs.length/\done++ns=cA.g c/\done.length+ns.length<=900 /\
  Run X.K cA (M.bd (evs ao aj F is J) λzs=>bW (ys++zs)) U0 H0 s (λes _ U' H'=>∀ws,aA X.K cA U' H' es ws->dD U' H' x (.ins (cA.b c) dx ((cA.g c).zip ws))->(cA.g c).length=ws.length->D.nx Z H') (eX X.K cA EX Z)
theorem Xb{f:Str}{v:V}:∀{fs:List (Str×V)},f∉fs.map (·.1)->dF f v fs=fs++[(f,v)]
 |[],_=>rfl
 |(g,x)::r,h=>by
  unfold dF;rw[if_neg λe=>h (by simp[e]),Xb λz=>h (iy _ z)];rfl
theorem aM.out{K:W.Frag}{cA:Cl}{U:Ph}{H H':Hp}(x:cP U H H'):∀{ds:List Xv} {vs:List V},aM K cA U H ds vs->aM K cA U H' ds vs
 |_,_,.nil=>.nil
 |_,_,.cons h r=>.cons (h.out x) (aM.out x r)
theorem aM.app{K:W.Frag}{cA:Cl}{U:Ph}{H:Hp}:∀{ds es:List Xv} {vs us:List V},aM K cA U H ds vs->aM K cA U H es us->aM K cA U H (ds++es) (vs++us)
 |_,_,_,_,.nil,s=>s
 |_,_,_,_,.cons h r,s=>.cons h (aM.app r s)
theorem Run.er{K:W.Frag}{cA:Cl}{U:Ph}{H:Hp}{s:S}{α:Type}{m:M α}{P:α->S->Ph->Hp->Prop}{Ee:Nat->List D->S->Ph->Hp->Prop}(h:Run K cA m U H s P λ_ _ _ _ _=>False):Run K cA m U H s P Ee:=by
 unfold Run at *;split at h
 ·exact h
 ·exact λU' H' x r=>(h U' H' x r).elim
 ·exact h
section
variable {X:Cx}{cA:Cl}{ao:Nat->Nat->Bool}{aj:Bool}{F:Fn}{EX:XS}{c:Nat}{a:Expr}{A:E}{is:Es}{ns:List Str}{body:List Stmt}{f:Str}{pos p p2:Pos}
theorem zkw:vB X cA ao aj F EX c [] .nil []:=⟨λak s Z H D I hh=>Te ak s Z H D I (by
 obtain⟨U0,H0,U,J,st,x,dx,done,vs,ys,xt,hL,hS,hx,h0,kp,rs,hl,hg,hz,h⟩:=hh;rw[tY] at hg;subst hg;have h2:Run X.K cA (M.bd (bW ys) M.ret) U H st (λes _ U' H'=>∀ws,aA X.K cA U' H' es ws->dD U' H' x (.ins (cA.b c) dx ((cA.g c).zip ws))->(cA.g c).length=ws.length->D.nx Z H') (eX X.K cA EX Z):=by
  have h3:=h.ext xt;unfold Run at h3 ⊢;have e0:M.bd (evs ao aj F .nil J) (λzs=>bW (ys++zs)) st=bW ys st:=by show bW (ys++[]) st=_;rw[tY]
  rw[e0] at h3;unfold M.bd;cases e1:bW ys st with
  |none=>rw[e1] at h3;exact h3
  |some r=>
   obtain⟨r,s2⟩:=r;rw[e1] at h3;cases r with
   |er c f=>exact h3
   |ok ds=>exact h3
 obtain⟨ds,_,rs2,h4⟩:=Oi rs h2;exact h4.bG hS vs rs2 kp hl)⟩
theorem Jv{j:Nat}(ow:Ow X.K cA c)(ha:JE X cA ao aj F EX a A)(hr:vB X cA ao aj F EX c body is ns)(h0:(decide (X.N[0]?=some ("self" : Str))&&rT X.env.scope "self"&&okN "self")=true:=by kernel_rfl)
  (hs:swapsWith a (some (.Attribute (.Name "self" p) f p2)) pos.line X.env=pure false:=by rfl):vB X cA ao aj F EX c (.Assign [.Attribute (.Name "self" p) f p2] a pos::body) (.cons A is) (f::ns):=by
 rw[eU,eU] at h0;obtain⟨k,e,hv⟩:=Qg h0.1.2;refine⟨λak s Z H D I hh=>Tf (zkE (S8 (i:=0) (lA h0.1.1) (by cases k<;>first|exact .inl e|exact .inr (.inl e)|exact .inr (.inr e)|cases hv) (qm h0.2).1 (qm h0.2).2.1) ha.o hs) hr.o ak s Z H D I ?_⟩;obtain⟨U0,H0,U,J,st,x,dx,done,vs,ys,xt,hL,hS,hx,Jw,kp,rs,hl,hg,hz,h⟩:=hh;have h:Run X.K cA (M.bd (M.bd (ev ao aj F A J) λy=>M.bd (evs ao aj F is J) λzs=>M.ret (y::zs)) λzs=>bW (ys++zs)) U0 H0 st _ _:=h;simp only[iw] at h;refine⟨U,J,st,hL,hS,(h.bd0 xt).imp λy s1 U1 H1 ⟨x1,aL,h1⟩ v rv=>?_⟩;have Jx:=kp.mono x1;have nf:f∈cA.g c:=by rw[<-hg];simp
 have nd:f∉done:=λz=>by
  have:=ow.nd;rw[<-hg,Hy] at this;exact this.2.2 f z f Nj rfl
 have hk:(done.zip vs).map (·.1)=done:=by rw[List.map_fst_zip];lia
 refine⟨.ref x,Jw,x,_,dx,_,rfl,Jx.at_,ow.cl,ow.nf f nf,?_,?_⟩
 ·have:(done.zip vs).length<=done.length:=by rw[List.length_zip];lia
  simp at hz
  lia
 rw[Xb (by rw[hk];exact nd)];have ez:done.zip vs++[(f,v)]=(done++[f]).zip (vs++[v]):=by rw[List.zip_append hl];rfl
 rw[ez];have ox:cP U1 H1 (upd H1 x (.ins (cA.b c) dx ((done++[f]).zip (vs++[v])))):=Jx.ext.1;refine⟨U0,H0,U1,J,s1,x,dx,done++[f],vs++[v],ys++[y],Ext.keep (vs:=[]) (xt.trans x1) hx,(hL.mono x1 hS.lz).out ox,aL.keep Jx,hx,Jw,Jx.ext.2,((rs.mono x1 hS.lz).app (.cons rv .nil)).out ox,by simp[hl],by rw[<-hg,Hw];rfl,by simp at hz ⊢;lia,?_⟩;have h1:Run X.K cA (M.bd (evs ao aj F is J) λzs=>M.bd (M.ret (y::zs)) λzs=>bW (ys++zs)) U0 H0 s1 _ _:=h1;have e2:(λzs=>bW (ys++[y]++zs))=λzs=>M.bd (M.ret (y::zs)) λzs=>bW (ys++zs):=by
  funext zs
  rw[Hw];rfl
 rw[e2];exact h1
end
theorem zgc{K:W.Frag}{cA:Cl}{U:Ph}{H:Hp}{s:S}{α:Type}{m m':M α}{P:α->S->Ph->Hp->Prop}{Ee:Nat->List D->S->Ph->Hp->Prop}(e:m s=m' s)(h:Run K cA m U H s P Ee):Run K cA m' U H s P Ee:=by
 unfold Run at *;rw[<-e];exact h
theorem zfi{ao:Nat->Nat->Bool}{T:Nat->Option Df}{k n m p:Nat}{cm:Bool}{is:Es}{xs:List Xv}{s:S}(hT:T n=some ⟨m,p,.cons (.ret (.tup is)) .nil⟩)(hl:xs.length=p) :
  call ao T (k+1) cm n xs s=M.bd (M.bd (evs ao cm (call ao T k cm) is (xs.map some++List.replicate (m-p) none)) bW) (λds=>M.ret (.d (.tup ds))) s:=by
 unfold call;simp only[hT,if_pos hl];show (match bY (ofM (M.bd (evs ao cm (call ao T k cm) is _) λvs=>M.bd (bW vs) λds=>M.ret (.d (.tup ds))) _ λx s=>some (.rt x,s)) _ s with|some (.nx _,s')=>_|some (.rt v,s')=>_|some (.er c fs _,s')=>_|_=>none)=_;rw[iw];unfold bY ofM;cases e:M.bd (evs ao cm (call ao T k cm) is (xs.map some++List.replicate (m-p) none)) (λvs=>M.bd (bW vs) λds=>M.ret (Xv.d (.tup ds))) s with
 |none=>rfl
 |some r=>
  obtain⟨r,s1⟩:=r;cases r<;>rfl
theorem ziL{P:Program}{w:World}{K:W.Frag}{mg:Str->Option Value}{base:Heap}{cA:Cl}{ao:Nat->Nat->Bool}{T:Nat->Option Df}{x qual:Str}{st:Stmt}{f:Addr}{fd:FuncData}{N ps:List Str}{k n c m p:Nat}{cm:Bool}{is:Es}(F:lY K x qual st f fd)(hT:T n=some ⟨m,p,.cons (.ret (.tup is)) .nil⟩)
  (hb:∀(cdv:Value) (A:Around) (outer:List Env) (s:Shared) (H:Hp) (E:XK),bC k (A.deeper (envOfC qual (au st) s.heap.objs.size f cdv))->
   vB (dU (dZ P w) P w K mg base N qual (au st) f cdv A outer s H E cm) cA ao cm (call ao T k cm) (λ_ C dx H'=>E C dx H') c (aK st) is (cA.g c)) (hg:(cA.g c).length<=900) (S:cH N ps (au st):=by exact⟨rfl,rfl,rfl,dk,rfl,dk,dk⟩) (hp:p=ps.length:=by rfl) (hm:m=N.length:=by rfl) (h0:0<p:=by decide) :
  bQ P w K mg base (dZ P w) cm (k+1) f fd ps (G3 K cA c (call ao T (k+1) cm n)):=by
 obtain⟨oc,od,kV,doc,pm,an,cdv,ct,osl,rfl,lk,jd⟩:=F.ex;have hlen:∀{U:Ph} {H:Hp} {s:Mi.S} {xs:List Xv} {P:Xv->Mi.S->Ph->Hp->Prop},Run K cA (call ao T (k+1) cm n (.d .any::xs)) U H s P (λ_ _ _ _ _=>False)->xs.length+1=p:=λ{U H s xs P} h=>by
  unfold call at h;simp only[hT] at h;by_cases hl:(Xv.d D.any::xs).length=p
  ·simpa using hl
  ·rw[if_neg hl] at h;exact h.elim
 refine T5 lk jd S (λvs H Q E hz=>?_) λA outer s H vs Q E hr hz=>?_
 ·obtain⟨x,dx,us,U,H0,xs,s,e,_,_,_,_,r,_,h⟩:=hz;have:=hlen h;rw[e,dR,<-r.len,<-hp]
  lia
 ·obtain⟨x,dx,us,U,H0,xs,st',e,hx,hd,hn,eH,r,hS,h⟩:=hz;refine⟨_,(hb cdv A outer s H E (hr.deeper _)).o,?_⟩;subst e eH;have hl:=hlen h;have xt:=Ext.made (U:=U) (C:=cA.b c) hx hd hn;refine⟨U,H0,U.mark x,(Xv.d .any::xs).map some++List.replicate (m-p) none,st',x,dx,[],[],[],xt,V0 (.cons (.d (.any x)) (r.mono xt hS.lz)) (by simp;lia) hm,hS.made hx hd hn,hx,rfl,⟨jB,λz=>hS.nz hx (hS.lz x z),.inr rfl⟩,.nil,rfl,rfl,by simpa using hg,?_⟩;have h2:=(zgc (zfi hT (by simpa using hl)) h).bd0 Ext.refl;exact Run.er (Run.imp h2 λds s1 U1 H1 ⟨x1,aL,h4⟩ ws rs kp hl=>h4 U1 H1 x1 aL ds ws rfl rs kp hl)
section
variable {prog:Program}{w:World}{A:Around}{E:Value->Shared->Prop}{s:Shared}
theorem zdd{r:Addr}{n:Nat}{lo hi:Int}{t u v:Tok}{Q:List Value->Shared->Prop}(hh:A.handled=none)(hr:IsRange s.heap r lo hi 1 t u v)(hs:Builtin.Range.small lo hi 1=true)(hn:Builtin.Range.rangeSize lo hi 1=n)(hl:n<=65536)
  (q:∀(h':Heap) (tk:Nat) (acc:Array Value),(∀b o,s.heap.get? b=some o->h'.get? b=some o)->ItemsOf (λi v=>∃t,v=.int (lo+i*1) t) acc n->Q acc.toList {s with heap:=h',toks:=tk}):wpAny (model prog w) A (collect (.ref r)) Q E s:=by
 unfold collect;refine aC (wpAny_runValue (codeAny_builtin F.entry_proto_collect ?_));rw[Around.under_plainId F.plain_proto_collect _];refine aC (m:=newList []) (wpAny_newList (aZ ⟨plainId_quiet F.plain_list_iadd _,codeAny_builtin F.entry_list_iadd ?_⟩));rw[Around.under_plainId F.plain_list_iadd _];have fin:∀{r':Result} {s':Shared},(∃h' tk acc c,r'=.ok (.ret (.ref s.heap.objs.size))/\s'={s with heap:=h',toks:=tk}/\h'.get? s.heap.objs.size=some (seqObj "list" acc c)/\(∀b o,s.heap.get? b=some o->h'.get? b=some o)/\ItemsOf (λi v=>∃t,v=.int (lo+i*1) t) acc n)->(match r' with
   |.ok (.ret v)=>wpAny (model prog w) A (match v with
    |.ref a=>do
     match (<-load a).data with
      |.seq xs _=>pure xs.toList
      |_=>unsupported "internal:collect"
    |_=>unsupported "internal:collect") Q E s'
   |.ok _=>False
   |.error e=>E e s'):=λ{r' s'} z=>by
  obtain⟨h',tk,acc,c,rfl,rfl,hS,kp,p7⟩:=z;exact aC (wpAny_load hS (aZ (q h' tk acc kp p7)))
 refine nO (wpAny_extend_range (A:=A) (s:={s with heap:=s.heap.push (seqObj "list" #[] 0)}) (R:=λr' s'=>∃h' tk acc c,r'=.ok (.ret (.ref s.heap.objs.size))/\s'={s with heap:=h',toks:=tk}/\h'.get? s.heap.objs.size=some (seqObj "list" acc c)/\(∀b o,s.heap.get? b=some o->h'.get? b=some o)/\ItemsOf (λi v=>∃t,v=.int (lo+i*1) t) acc n)
  hh (cO _ hr) hs hn gV s.heap.objs.size (.ref s.heap.objs.size) 0 (gw _ rfl) λh' tk acc c kp hS p7=>⟨h',tk,acc,c,rfl,rfl,hS,λb o e=>kp b o (fD (cj e)) (cO _ e),p7⟩) (λf s' z=>?_) λe s' z=>?_
 ·cases f with
  |done f=>exact fin z
  |again c'=>exact⟨z.1,Ak z.2 λr s'' hr=>fin hr⟩
 ·obtain⟨_,_,_,_,e,_⟩:=z;cases e
end
theorem zec(r:Addr)(lo hi:Int)(t u v:Tok)(n:Nat)(hs:Builtin.Range.small lo hi 1=true)(hn:Builtin.Range.rangeSize lo hi 1=n)(hl:n<=65536):Meets (Builtin.«tuple.__new__» ⟨[.type "tuple",.ref r],[]⟩)
   (λA R s=>A.handled=none/\IsRange s.heap r lo hi 1 t u v/\∀(h':Heap) (tk:Nat) (acc:Array Value),(∀b o,s.heap.get? b=some o->h'.get? b=some o)->ItemsOf (λi v=>∃t,v=.int (lo+i*1) t) acc n->R (.ok (.ret (.ref h'.objs.size))) {s with heap:=h'.push {cls:=.type "tuple",data:=.seq acc},toks:=tk}):=
 .of_wp λprog w A R s h=>by
  obtain⟨hh,hr,h⟩:=h;have hsub:=sub_tuple_self;have hinit:=init_tuple_lookup;have hmh:=madeHere_tuple;have hT:s.TypeIs (.ref r) "range":=⟨_,hr,rfl⟩;have hh1:A.in1.handled=none:=hh
  wp_walk using CG hT,AutoSeq1.wpAny_loadPart' hr,zdd hh1 hr hs hn hl
  intro h' tk acc hk p7;show wpAny _ _ (Builtin.Tuple.tupleExact acc.toList.toArray >>= λv=>ret v) _ _ _;unfold Builtin.Tuple.tupleExact;have e:acc.toList.toArray=acc:=by simp
  rw[e];exact aC (o_ (aZ ⟨_,rfl,h h' tk acc hk p7⟩) (show acc.size<=sizeLine by rw[p7.1];exact jP hl J0))
section
variable {X:Cx}
theorem zbO{ak:List (Addr×Obj)}{Z:L2.St}{H:Hp}{s:Shared}{Q:VK}{hi:Int}{t u v:Tok}{tk:Nat}(hc:X.aj=true)(I:Inv X ak Z H s)(hk:okR 0 hi=true)
  (q:∀l,H l=none->Q (.ref l) (upd H l (.tup (Bw 0 (hi-0).toNat)))) :
  wpAny (model X.prog X.w) X.A (PySem.call (.type "tuple") [.ref s.heap.objs.size]) (EP X ak Z Q) X.xe {s with heap:=s.heap.push {cls:=.type "range",data:=.fields #[.int 0 t,.int hi u,.int 1 v]},toks:=tk}:=by
 obtain⟨h1,h2,h3,h4,h5⟩:=lA hk;have en:Builtin.Range.rangeSize 0 hi 1=((hi-0).toNat:Nat):=by rw[rangeSize_one];split<;>lia
 refine callType_new F.called_tuple J0 (F.typeCall_tuple_1 _) (F.newCall_tuple_1 _) (λobj=>F.args_object_init_2 obj _) F.entry_tuple_new (zec _ 0 hi t u v _ (small_one h1 h2 h3 h4) en h5) ⟨I.ok.hd hc,IsRange.new ..,λh' tk' acc kp ⟨z1,z2⟩=>?_⟩;have hv:Vals (Bw 0 (hi-0).toNat) acc.toList:=by
  have:=zit (i:=0) (acc:=acc) (n:=(hi-0).toNat) (m:=0) (λk v e=>by
   obtain⟨t,e⟩:=z2 k v (by simpa using e);exact⟨t,by rw[e,Int.mul_one,Nat.zero_add]⟩) (by rw[vJ];exact z1)
  simpa [Bw] using this
 have hz:s.heap.objs.size<=h'.objs.size:=vQ (cj (kp _ _ (gw s.heap rfl)));have I':=I.laid (a:=h'.objs.size) (o:=.tup (Bw 0 (hi-0).toNat)) (h':=h'.push {cls:=.type "tuple",data:=.seq acc}) (t':=tk') (λb u q=>cO _ (kp b u (cO _ q))) hz (show aR X.prog X.w _ _ _ (.tup (Bw 0 (hi-0).toNat)) from ⟨by
  rw[hv.length,vJ,z1];exact jP h5 J0,acc.toList,hv,⟨_,gw _ rfl,rfl,0,by simp⟩⟩)
 exact⟨⟨_,gw _ rfl,rfl⟩,.ref h'.objs.size,_,I',rfl,q _ (I.hok.fresh hz)⟩
def G4(vs:List V)(H:Hp)(Q:VK):Prop:=∃j:Int,vs=[.int j]/\okR 0 j=true/\∀l,H l=none->Q (.ref l) (upd H l (.tup (Bw 0 (j-0).toNat)))
theorem zkC{e:Expr}{t:TA}{p p' pos pos':Pos}(hc:X.aj=true)(hg:Gl X "tuple")(hm:X.mg "tuple"=none)(Qi:Gl X "range")(Qj:X.mg "range"=none)(ha:PA X [e] t)(he:starEach [e] X.env=(false,eval e X.env)::starEach [] X.env:=by rfl) :
  PE X (.Call (.Name "tuple" p) [.Call (.Name "range" p') [e] [] pos'] [] pos) (Mf G4 t):=by
 intro ak s Z H Q I h;refine xR (t_ I hg hm Bq ?_);refine xM ?_ rfl rfl;show wpAny _ _ (spliced ((false,eval (.Call (.Name "range" p') [e] [] pos') X.env)::backTo pos (starEach [] X.env))) _ _ s;refine Calls.spliced_cons ?_;refine xR (t_ I Qi Qj boot_range ?_);refine xM (aW (ha pos' ak s Z H _ I h) λus s1 hz=>?_) he rfl;obtain⟨vs,H1,I1,r1,q1⟩:=hz;obtain⟨j,rfl,hk,q⟩:=q1;cases r1 with
 |cons r rr=>
  cases rr;obtain⟨t,rfl⟩:=r;exact call_range_1 (Calls.spliced_nil (zbO hc I1 hk q))
end
section
variable {K:W.Frag}{cA:Cl}{U:Ph}{H:Hp}
theorem zks:aQ K cA .Ba G4:=by
 intro U H ds vs Q zt rs o;have o:aY K cA U H (yW ds) Q:=o;unfold yW at o;split at o
 ·rename_i j _;obtain⟨v,rfl,r1⟩:=rs.one;cases (show Rep K cA U H (.int j) v from r1);by_cases hk:okR 0 j=true
  ·rw[if_pos hk] at o;exact⟨j,rfl,hk,λl hl=>o.tup zt (Ws _) hl⟩
  ·rw[if_neg hk] at o;exact o.elim
 ·exact o.elim
end
section
variable {X:Cx}{cA:Cl}{ao:Nat->Nat->Bool}{aj:Bool}{F:Fn}{EX:XS}{a e:Expr}{A:E}{pos pos' p p':Pos}{Xs:Es}{fz:Bool}
theorem zl2(hc:X.aj=true)(hm:X.mg "tuple"=none)(hg:JK X "tuple" .globalImplicit)(Qj:X.mg "range"=none)(Qi:JK X "range" .globalImplicit)(ha:JA X cA ao aj F EX [e] Xs)(he:aD e=true:=by rfl):JE X cA ao aj F EX (.Call (.Name "tuple" p) [.Call (.Name "range" p') [e] [] pos'] [] pos) (.pr fz .Ba Xs):=⟨PE.weak (zkC hc hg.o hm Qi.o Qj ha.o (bw he)) λZ H Q hh=>un hh λU J s hL hS h=>
 m9 hL hS h λvs H1 U1 ds s1 x1 hL1 aL r1 h1=>by
  obtain⟨ds,rs,h3⟩:=qY aL r1 h1;exact zks U1 H1 ds _ _ aL.zs rs (qj aL h3)⟩
end
end Mi
namespace Mi
open PySem PySem.Spec PyProof.Rows L2 PySem.W
theorem gK(its:List Value):∀(n:Nat) (acc:Array Value),(List.replicate n its.toArray).foldl (λx y=>x++y) acc=acc++(rep its n).toArray
 |0,acc=>by simp[rep]
 |n+1,acc=>by
  rw[Ad,List.foldl_cons,gK its n];simp[rep,Ad]
theorem oV{α:Type}(xs:List α)(n:Nat):(rep xs n).length=n*xs.length:=by
 unfold rep
 induction n with
 |zero=>simp
 |succ n ih=>rw[Ad,KN,iI,ih,Nat.succ_mul];lia
theorem G5{α:Type}(xs:List α)(n:Nat):rep xs (n+1)=xs++rep xs n:=by
 unfold rep;rw[Ad,KN]
theorem Xc{ys:List V}{its:List Value}(r:Vals ys its):∀n,Vals (rep ys n) (rep its n)
 |0=>.nil
 |n+1=>by
  rw[G5,G5];have key:∀{as:List V} {bs:List Value},Vals as bs->∀{cs:List V} {ds:List Value},Vals cs ds->Vals (as++cs) (bs++ds):=by
   intro as bs h
   induction h with
   |nil=>intro cs ds h2;exact h2
   |cons a _ ih=>intro cs ds h2;exact .cons a (ih h2)
  exact key r (Xc r n)
section
variable {K:W.Frag}{cA:Cl}{U:Ph}{H:Hp}
theorem Xd{as:List D}{bs:List V}(h:aA K cA U H as bs){cs:List D}{ds:List V}(h2:aA K cA U H cs ds):aA K cA U H (as++cs) (bs++ds):=by
 match as,bs,h with
 |_,_,.nil=>exact h2
 |_,_,.cons a r=>exact .cons a (Xd r h2)
theorem Xe{xs:List D}{ys:List V}(r:aA K cA U H xs ys):∀n,aA K cA U H (rep xs n) (rep ys n)
 |0=>.nil
 |n+1=>by
  rw[G5,G5];exact Xd r (Xe r n)
end
end Mi
end Lake
namespace PySem
open Lake
open Builtin
theorem zbq:fillsNumberSlot (.type "tuple") "mul"=pure false:=
 fillsNumberSlot_seq (id:="tuple.__mul__") (r:=some (.builtin "tuple.__rmul__")) HD.lookup Dc F.slot_tuple_rmul.lookup Dc
theorem zcH:seqRepeat? (.type "tuple")=pure (some (.builtin "tuple.__mul__")):=by
 unfold seqRepeat?;rw[seqSlot_of (T:="tuple") (name:="__mul__") (id:="tuple.__mul__") HD.lookup Dc,seqSlot_of (T:="tuple") (name:="__rmul__") (id:="tuple.__rmul__") F.slot_tuple_rmul.lookup Dc];rfl
theorem zbD(a:Int)(t:Tok)(l:Addr)(items:Array Value)(n:Nat)(d:Option Addr)(sl:Array (Option Value)) :
  Meets (Builtin.«int.__rmul__» ⟨[.int a t,.ref l],[]⟩) (λ_ R s=>s.heap.get? l=some {cls:=.type "tuple",dict:=d,data:=.seq items n,slots:=sl}/\R (.ok (.ret Value.notImplemented)) s):=
 .of_wp λprog w A R s h=>by obtain⟨hp,g,d,tk,os⟩:=s;obtain⟨hl,h⟩:=h;wp_walk;exact⟨_,rfl,h⟩
theorem zb9(l:Addr)(items:Array Value)(n:Nat)(d:Option Addr)(sl:Array (Option Value))(u:Tok) :
  Meets (Builtin.«tuple.__mul__» ⟨[.ref l,.int 1 u],[]⟩) (λ_ R s=>s.heap.get? l=some {cls:=.type "tuple",dict:=d,data:=.seq items n,slots:=sl}/\R (.ok (.ret (Value.ref l))) s):=
 .of_wp λprog w A R s h=>by
  obtain⟨hp,g,d,tk,os⟩:=s;obtain⟨hl,h⟩:=h
  wp_walk
  exact⟨_,rfl,h⟩
theorem zcj(l:Addr)(items:Array Value)(n:Nat)(d:Option Addr)(sl:Array (Option Value))(x:Int)(u:Tok)(h2:2<=x)(h3:x<=1000)(he:items.isEmpty=false)(hs:items.size<=1000) :
  Meets (Builtin.«tuple.__mul__» ⟨[.ref l,.int x u],[]⟩) (λ_ R s=>s.heap.get? l=some {cls:=.type "tuple",dict:=d,data:=.seq items n,slots:=sl}/\R (.ok (.ret (Value.ref s.heap.objs.size))) {s with heap:=s.heap.push {cls:=Value.type "tuple",data:=Data.seq (List.foldl (λx1 x2=>x1++x2) #[] (List.replicate x.toNat items))},toks:=s.toks}):=
 .of_wp λprog w A R s h=>by
  obtain⟨hp,g,d,tk,os⟩:=s;obtain⟨hl,h⟩:=h;have h1:(x==1)=false:=by simpa using show ¬x=1 by lia
  have hb:(decide (x < -(2^63))||decide (x>=2^63))=false:=by rw[g_ gV,g_ gV];rfl
  have hm:(items.size:Int)*x<=1000000:=Int.le_trans (Int.mul_le_mul (show (items.size:Int)<=1000 by lia) h3 gV gV) J0;have ud:(1000000:Int)<=(sizeLine:Int):=by decide
  have hz:(List.foldl (λx1 x2=>x1++x2) #[] (List.replicate x.toNat items)).size<=1000000:=by
   have:=Mi.gK items.toList x.toNat #[];simp only[Array.toArray_toList] at this;rw[this];simp only[Array.size_append,dO,Mi.oV,vJ];have:=Nat.mul_le_mul (show x.toNat<=1000 by lia) hs;simp
   lia
  have M8:(1000000:Nat)<=sizeLine:=by decide
  have nt:∀{b:Bool},b=false->decide (b=true)=false:=λ{b} e=>by rw[e];rfl
  wp_walk
  refine Cu (nt hb) ?_
  wp_walk
  refine Cu (nt (b:=decide (x<=0)||items.isEmpty) (by rw[he,g_ gV];rfl)) ?_
  wp_walk
  refine Cu (g_ gV) ?_
  wp_walk
  refine Cu (nt (b:=Builtin.Tuple.tupleTooMany (items.size*x)) (g_ gV)) ?_
  wp_walk
  refine Cu (g_ gV) ?_
  wp_walk
  exact⟨_,rfl,h⟩
end PySem
namespace Lake
namespace Mi
open PySem PySem.Spec PyProof.Rows L2 PySem.W
noncomputable def xg(K:W.Frag):R2:=λx y H Q=>∃l ys n,x=.ref l/\eZ K H l ys/\y=.int n/\(1<=n/\n<=1000/\1<=ys.length/\ys.length<=1000)/\(n=1->Q (.ref l) H)/\∀p,H p=none->Q (.ref p) (upd H p (.tup (rep ys n.toNat)))
theorem zh3{X:Cx}:dh X (binaryOp .Mult) (xg X.K):=by
 intro ak s Z H x y v u Q I rx ry h;obtain⟨l,ys,n,rfl,hq,rfl,⟨h0,h1,hl1,hl⟩,q1,q⟩:=h;cases (show v=Value.ref l from rx);obtain⟨t,rfl⟩:=ry;obtain⟨its,rv,⟨o,e,hc,c,pJ⟩,hz⟩:=I.tuple hq;obtain⟨ocls,odict,odata,oslots⟩:=o;simp only at hc pJ;subst hc pJ;have hlen:=rv.length;refine wpAny_binaryOp_repeat_ref (T:="tuple") («U»:="int") J0 ⟨_,e,rfl⟩ (λ_=>rfl) zbq F.fills_int_mul F.slot_int_rmul zcH int_index ?_;refine call_meets F.slot_int_rmul rfl F.entry_int_rmul (F.args_int_rmul_2 _ _) (zbD n t l its.toArray c odict oslots) ⟨e,rfl,⟨_,e,rfl⟩,?_⟩;by_cases hn:n=1
 ·subst hn;exact call_meets HD ⟨_,e,rfl⟩ F.entry_tuple_mul (F.args_tuple_mul_2 _ _) (zb9 l its.toArray c odict oslots t) ⟨e,⟨.ref l,H,I,rfl,q1 rfl⟩⟩
 ·have qP:its≠[]:=λz=>by rw[z] at hlen;have:ys.length=0:=hlen;lia
  refine call_meets HD ⟨_,e,rfl⟩ F.entry_tuple_mul (F.args_tuple_mul_2 _ _) (zcj l its.toArray c odict oslots n t gV h1 (by simpa using qP) (by rw[dO,<-hlen];exact hl)) ⟨e,?_⟩;have hn:H s.heap.objs.size=none:=I.hok.fresh (bU _);have ea:(List.replicate n.toNat its.toArray).foldl (λx y=>x++y) #[]=(rep its n.toNat).toArray:=by
   rw[gK];simp
  refine⟨.ref s.heap.objs.size,_,I.laid (a:=s.heap.objs.size) (o:=.tup (rep ys n.toNat)) (t':=s.toks) (λb w q=>cO _ q) (bU _) ?_,rfl,q _ hn⟩;refine⟨?_,_,Xc rv n.toNat,?_⟩
  ·rw[oV];have:=Nat.mul_le_mul (show n.toNat<=1000 by lia) hl;have M8:(1000000:Nat)<=sizeLine:=by decide
   lia
  ·rw[ea];exact IsTup.new _ _
section
variable {K:W.Frag}{cA:Cl}{U:Ph}{H:Hp}
theorem zhD:aQ K cA .mult (r2 (xg K)):=by
 intro U H ds vs Q zt rs o;have o:aY K cA U H (wF ds) Q:=o;cases ds with
 |nil=>exact False.elim o
 |cons a t=>cases a with
  |tup xs=>cases t with
   |nil=>exact False.elim o
   |cons b t=>cases b with
    |int n=>cases t with
     |cons _ _=>exact False.elim o
     |nil=>
      obtain⟨v,v',rfl,r1,r2⟩:=rs.two (ds:=[]);rw[r2.int];obtain⟨a,us,rfl,ta,q⟩:=r1.tup;have hl:=q.len;have o:aY K cA U H (if 1<=n/\n<=1000/\1<=xs.length/\xs.length<=1000 then some (.dat (.tup (rep xs n.toNat))) else none) Q:=o;by_cases hk:1<=n/\n<=1000/\1<=xs.length/\xs.length<=1000
      ·rw[if_pos hk] at o;refine⟨_,_,rfl,a,us,n,rfl,ta.iC,rfl,⟨hk.1,hk.2.1,by lia,by lia⟩,λe=>?_,λp hp=>o.tup zt (Xe q _) hp⟩;subst e;have e1:rep xs (1:Int).toNat=xs:=by show rep xs (0+1)=xs;rw[G5];simp[rep]
       rw[e1] at o;exact o.here (.tup ta q)
      ·rw[if_neg hk] at o;exact o.elim
    |_=>exact False.elim o
  |_=>exact False.elim o
end
theorem zkY{X:Cx}{cA:Cl}:JQ X cA .Mult .mult:=⟨_,zh3,zhD⟩
noncomputable def jw(K:Frag)(C:Addr)(m:Str):Addr:=match jA K C m with
 |some p=>p.1
 |none=>0
noncomputable def nj(K:Frag)(C:Addr)(m:Str)(st:Stmt):FuncData:=match jA K C m with
 |some p=>p.2
 |none=>Al m m st
theorem ziK{fd:FuncData}{m q:Str}{st:Stmt}(h:lC fd=Al m q st):fd=fnOf m q (aN st) (aK st) (au st) .none fd.kwdefaults fd.doc fd.pyModule fd.annotations fd.code fd.closureTuple:=by
 cases fd;unfold lC Al at h;cases h;rfl
theorem zma{K:Frag}{C:Addr}{m q:Str}{st:Stmt}(h:(jA K C m).map (λp=>lC p.2)=some (Al m q st)):lY K m q st (jw K C m) (nj K C m st)/\Meth K C m (jw K C m):=by
 cases e:jA K C m with
 |none=>rw[e] at h;cases h
 |some p=>
  rw[e] at h;have hp:lC p.2=Al m q st:=cT h;have h1:jw K C m=p.1:=by unfold jw;rw[e]
  have h2:nj K C m st=p.2:=by unfold nj;rw[e]
  rw[h1,h2];unfold jA at e;split at e
  ·rename_i f hf;split at e
   ·rename_i oc od fd sl hl;split at e
    ·rename_i hc;cases e;simp only[eU] at hc;have eq:fd=_:=ziK hp;have qn:fd.qualname=q:=by rw[eq]
     exact⟨⟨⟨oc,od,_,_,_,_,_,_,sl,eq,hl,by rw[<-qn];exact hc.1.1⟩,hc.1.2⟩,hf,hc.2,hc.1.2⟩
    ·cases e
   ·cases e
  ·cases e
structure oW(fs:List (Str×Stmt))(ms:List qG)(xs:List (Nat×Str))(l:Lk)(b:Bd)(K:Frag):Prop where
 i:jK fs ms xs l K
 m:∀p∈b.ms,lY K p.1 p.2.1 p.2.2 (jw K (cW K b.n) p.1) (nj K (cW K b.n) p.1 p.2.2)/\Meth K (cW K b.n) p.1 (jw K (cW K b.n) p.1)
 b:vW K b=true
noncomputable def jL(fs:List (Str×Stmt))(ms:List qG)(xs:List (Nat×Str))(l:Lk)(b:Bd):Hook where
 α:=(List (Option FuncData)×List (Option FuncData)×Bool)×(List (Option FuncData)×Bool)
 obs:=λs=>(jU fs ms xs l s,yh b s)
 val:=λw=>(lD fs ms w,yj b)
 says:=λ_ h=>∃K:Frag,K.In h/\oW fs ms xs l b K
 of:=λw s e=>by
  have e0:jU fs ms xs l s=lD fs ms w:=lB Prod.fst e;have e4:yh b s=yj b:=lB Prod.snd e;have e3:(_&&_&&_)=true:=lB (λx=>x.2.2) e0;rw[eU,eU,gb,gb] at e3;refine⟨bH s.heap,zgF,⟨λp hp=>?_,Kab e3.1.1,λm hm=>?_,e3.1.2,λx hx=>zlG (e3.2 x hx)⟩,λp hp=>?_,lB Prod.snd e4⟩
  ·exact zlT (KQ.mp (lB Prod.fst e0) p hp)
  ·exact zlY (KQ.mp (lB (λx=>x.2.1) e0) m hm)
  ·exact zma (KQ.mp (lB Prod.fst e4) p hp)
 keeps:=λw h h' ⟨K,X,Y⟩ k=>⟨K,X.keeps k,Y⟩
theorem G6{l:OpenLaw}{k:Nat}{q:Program}{loose:List Str}{XP:(Str->Option Value)->Heap->Prop}{fs:List (Str×Stmt)}{ms:List qG}{xs:List (Nat×Str)}{lk:Lk}{b:Bd}{d:DefRec}{x:Str}(hn:l.most=some 63)(Mx:d.params.defaults=[])(hr:bC k callerA)
  (F:∀(w:World) (K:Frag) (mg:Str->Option Value) (fa:Addr) (h:Heap),oW fs ms xs lk b K->K.In h->h.Ns mainGlobals mg->mg d.name=some (.ref fa)->
   ∃fd:FuncData,(∀(s:Shared) (u:Value),BindsTo s fd ⟨[u],[]⟩ [(x,u)])/\∀base:Heap,K.In base->base.Ns mainGlobals mg->bQ l.prog w K mg base (dZ l.prog w) true k fa fd [x] (rE K)) :
  WalkO q loose XP (jL fs ms xs lk b).says l.row.toRowW d [] (λf vs=>PySem.call f vs):=by
 refine Ud.lQ hn Mx λw s₀ s₁ mg mb fa o pm cd doc a vs ns G Y ho hd jd hmg yM hints hlen hg=>?_;obtain⟨K,KX,SY⟩:=Y;obtain⟨fd,hb,hF⟩:=F w K mg fa _ SY KX G.T.g hmg;exact zfZ KX G.T.g G.T.b G.T.builtins G.T.nolimit hg yM hints (jP hlen J0) hr hF hb (λH hO hS=>⟨a,ns,rfl,hS,hlen,hO,λ_=>rfl⟩) λH e s' h=>by
  obtain⟨_,_,_,_,_,_,_,_,_,_,z⟩:=h;exact z
section
variable {K:Frag}{b:Bd}
theorem zlr{cA:Cl}(h:vW K b=true)(hb:cA.b 0=cW K b.n)(hg:cA.g 0=b.fs)(nd:b.fs.Nodup):Ow K cA 0:=by
 unfold vW at h;simp only[eU,nP,gb] at h;obtain⟨⟨⟨⟨⟨⟨⟨h1,h2⟩,h3⟩,h4⟩,h5⟩,h6⟩,h7⟩,h8⟩:=h;exact⟨by rw[hb];exact⟨h2,h3,h4,h5⟩,λf hf=>by rw[hb];rw[hg] at hf;exact h8 f hf,by rw[hg];exact nd⟩
theorem zlv{f:Addr}(h:vW K b=true)(m:Meth K (cW K b.n) "__init__" f):Mk K (cW K b.n) f:=by
 unfold vW at h;simp only[eU,nP,gb] at h;exact⟨h.1.1.2,m.at_,m.fn,h.1.2⟩
theorem zl8{h:Heap}{mg:Str->Option Value}(z:vW K b=true)(X:K.In h)(G:h.Ns mainGlobals mg):mg b.n=some (.ref (cW K b.n)):=by
 unfold vW at z;simp only[eU] at z;exact zlh z.1.1.1.1.1.1.1 X G
end
theorem bC.made{k:Nat}{A:Around}(r:bC (k+1) A)(env:Env)(C:Addr)(us:List Value):bC k ((A.deeper env).under (.builtin "type.__call__" ⟨.ref C::us,[]⟩)):=
 ⟨by have:=r.dp;rw[zdX];show A.depth+1+1+3*k+5<_;lia,by have:=r.un;rw[zeb];show A.units+3+1+16*k+200<_;lia,by
  have e:(A.deeper env).guards=some []:=r.gd;rw[<-e];cases h:(A.deeper env).guards<;>simp[Around.under,pushGuards,Code.guards,Code.isGuard,guardIds,h]⟩
section
variable {P:Program}{w:World}{K:Frag}{mg:Str->Option Value}{base:Heap}{cA:Cl}{ao:Nat->Nat->Bool}{T:Nat->Option Df}{x m q:Str}{st:Stmt}{ps:List Str}{k n:Nat}{cm:Bool}{df:Df}{C fa:Addr}{fd:FuncData}
theorem fM(D:Mt K C m q st ps fa fd)(N:List Str)(hT:T n=some df)
  (hb:∀(cdv:Value) (A:Around) (outer:List Env) (s:Shared) (H:Hp) (E:XK),bC k (A.deeper (envOfC q (au st) s.heap.objs.size fa cdv))->
   JB (dU (dZ P w) P w K mg base N q (au st) fa cdv A outer s H E cm) cA ao cm (λc=>call ao T k c) (λ_ C dx H'=>E C dx H') (aK st) df.body) (S:cH N ps (au st):=by exact⟨rfl,rfl,rfl,dk,rfl,dk,dk⟩) (hp:df.fU=ps.length:=by rfl) (hm:df.many=N.length:=by rfl) :
  bQ P w K mg base (dZ P w) cm (k+1) fa fd ps (mJ K cA (call ao T (k+1) cm n)):=Wi D.fn S hT hp hm hb
theorem zgM{c:Nat}:bQ P w K mg base (dZ P w) cm 0 fa fd ps (G3 K cA c (call ao T 0 cm n)):=by
 have no:∀vs H Q E,G3 K cA c (call ao T 0 cm n) vs H Q E->False:=by
  rintro vs H Q E ⟨_,_,_,_,_,_,_,_,_,_,_,_,_,_,h⟩;exact h.elim
 exact⟨λvs H Q E h=>(no _ _ _ _ h).elim,λA outer s H args us vs Q E _ _ _ _ _ h=>(no _ _ _ _ h).elim⟩
theorem fR(D:D3 K mg x st ps)(N:List Str)(hT:T n=some df)
  (hb:∀(cdv:Value) (A:Around) (outer:List Env) (s:Shared) (H:Hp) (E:XK),bC (k+1) A->
   JB (dU (dZ P w) P w K mg base N x (au st) (fX K x) cdv A outer s H E cm) cA ao cm (λc=>call ao T k c) (λ_ C dx H'=>E C dx H') (aK st) df.body) (S:cH N ps (au st):=by exact⟨rfl,rfl,rfl,dk,rfl,dk,dk⟩) (hp:df.fU=ps.length:=by rfl) (hm:df.many=N.length:=by rfl) :
  bQ P w K mg base (dZ P w) cm (k+1) (fX K x) (fdOf K x st) ps (mJ K cA (call ao T (k+1) cm n)):=V2 D.f S hT hp hm λcdv A outer s H E hr=>(hb cdv A outer s H E hr).o
theorem zmW{p p2 p3:Str}(h:lY K m q st fa fd/\Meth K C m fa)(hb:∀(kV doc pm:Value) (an:Option Addr) (cdv ct a b c:Value),bindArgs (fnOf m q (aN st) (aK st) (au st) .none kV doc pm an cdv ct) ⟨[a,b,c],[]⟩=pure [(p,a),(p2,b),(p3,c)]:=by intros;rfl):Mt K C m q st [p,p2,p3] fa fd:=⟨h.1,h.2,by
 obtain⟨oc,od,kV,doc,pm,an,cdv,ct,osl,rfl,lk,jd⟩:=h.1.ex;exact rF (hb kV doc pm an cdv ct)⟩
theorem zmU{p p2 p3 p4:Str}(h:lY K m q st fa fd/\Meth K C m fa)(hb:∀(kV doc pm:Value) (an:Option Addr) (cdv ct a b c d:Value),bindArgs (fnOf m q (aN st) (aK st) (au st) .none kV doc pm an cdv ct) ⟨[a,b,c,d],[]⟩=pure [(p,a),(p2,b),(p3,c),(p4,d)]:=by intros;rfl):Mt K C m q st [p,p2,p3,p4] fa fd:=⟨h.1,h.2,by
 obtain⟨oc,od,kV,doc,pm,an,cdv,ct,osl,rfl,lk,jd⟩:=h.1.ex;exact rG (hb kV doc pm an cdv ct)⟩
end
end Mi
namespace Mi
open PySem
def Rp(d:D):Prop:=∃t,prim .repr [d]=some (.dat (.str t))
def rpN(n:Nat)(x:D):Prop:=∃p,pd n x=some p/\p.showable=true/\p.leavesShort 40=true/\p.weight<=1000
theorem Xf{d:D}{p:PyData}(h:Bf d=some p)(hs:p.showable=true)(hl:p.leavesShort 40=true)(hw:p.weight<=200000):Rp d:=by
 refine⟨p.shown,?_⟩;show (Bf d).bind Bg=_;rw[h];show Bg p=_;unfold Bg;have h1:=PyData.shown_le 40 J0 p hl;have h2:sizeLine=16777216:=qy;rw[if_pos ⟨hs,by lia⟩]
theorem zdt{n k:Nat}(hk:0<k)(h:n<2^k):n.log2<k:=by
 by_cases z:n=0
 ·subst z;simpa using hk
 ·exact(Nat.log2_lt z).mpr h
theorem zhj{n:Nat}{i:Int}(h:i.natAbs<10^38):rpN n (.int i):=by
 have h2:i.natAbs<2^127:=Nat.lt_trans h J0;have h3:=zdt J0 h2;refine⟨.int i,by cases n<;>rfl,?_,?_,?_⟩
 ·simp only[PyData.showable];exact gA gV
 ·have e:=int_text_length_le10 (k:=38) J0 h;simp only[PyData.leavesShort];refine gA ?_;show (Str.ofString (toString i)).length<=40;rw[ofString_length]
  lia
 ·simp only[PyData.weight]
  split<;>lia
noncomputable def lg(n:Int):D->Bool
 |.tup xs=>decide ((xs.length:Int)=n)
 |_=>false
noncomputable def vC(a b:Int):D->Bool
 |.int i=>decide (a<=i/\i<=b)
 |_=>false
theorem zkN{d:D}(h:Jt d=true):ju d=true:=by cases d<;>first|rfl|cases h
theorem Xg{n:Nat}{c:List D}{s:S}{P:Src×Nat->S->Prop}(e:s[n]?=some (.lst c))(h:P (.live n,c.length) s):W (src (.l n)) s P:=⟨_,s,by unfold src;simp only[e],h⟩
theorem W.c0{F:List Xv->M Xv}{xs:List Xv}{s:S}{e:D}{P:Xv->S->Prop}(h:W (F (cM 0 xs)) [] λv _=>v=.d e)(k:P (.d e) s)(hl:locs xs=[]:=by rfl):W (bN F xs) s P:=vA hl (h.imp λ_ _ q=>⟨_,q,k⟩)
theorem W.c1{F:List Xv->M Xv}{xs:List Xv}{s:S}{P:Xv->S->Prop}(h:W (F (cM 0 xs)) [] λv _=>∃d,v=.d d)(k:∀d,P (.d d) s)(hl:locs xs=[]:=by rfl):W (bN F xs) s P:=vA hl (h.imp λ_ _ ⟨d,q⟩=>⟨d,q,k d⟩)
structure Bo(n k:Nat)(es:Nat->List Int)(A:Int->Int->Bool):Prop where
 hn:n<=8
 hk:k<=24
 mem:∀i,i<n->∀e∈es i,0<=e/\e<n/\e≠i
 sym:∀i e:Nat,i<n->e<n->(e:Int)∈es i->(i:Int)∈es e
 len:∀i,i<n->(es i).length<=8
 asy:∀a b:Int,0<=a->a<k->0<=b->b<k->A a b=A b a
section
variable {n k:Nat}{es:Nat->List Int}{A:Int->Int->Bool}{F:Fr}{p:Nat}{x:Int}{g:Nat->Int}
noncomputable def jx(k:Nat):List Int:=(List.range k).map λ(i:Nat)=>(i:Int)
theorem rW{k:Nat}{y:Int}:y∈jx k↔0<=y/\y<k:=by
 unfold jx;rw[sU]
 constructor
 ·rintro⟨i,hi,rfl⟩;have:=nJ.mp hi;lia
 ·intro h;exact⟨y.toNat,nJ.mpr gV,by lia⟩
end
section
variable {ao:Nat->Nat->Bool}{aj:Bool}{F:Fn}{J:Vs}{s:S}{P:Xv->S->Prop}
theorem W.pP{c:Nat}{fs:List D}{P:List D->S->Prop}(h:P fs s):W (Mi.pP c (.d (.ob c fs))) s P:=by
 show W (if c=c then M.ret fs else M.no) s P;rw[if_pos rfl];exact W.ret h
theorem W.cm{c f:Nat}{o:E}{xs:Es}{fs:List D}{vs:List Xv}(h1:dY ao o J=some (.d (.ob c fs)))(h2:mz ao xs J=some vs)(k:W (bN (F f) (.d (.ob c fs)::vs)) s P):W (ev ao aj F (.cm c f o xs) J) s P:=
 W.bd (W.eq (oR o _ h1) (W.bd (W.pP (W.bd (W.eq (iG xs h2) (W.qt k))))))
theorem W.mk{c f:Nat}{xs:Es}{vs:List Xv}{ds:List D}(h:W (evs ao aj F xs J) s λus s1=>us=vs/\P (.d (.ob c ds)) s1)(hl:locs vs=[])(k:W (F f (.d .any::vs)) [] λv _=>v=.d (.tup ds)):W (ev ao aj F (.mk c f xs) J) s P:=by
 refine W.bd (h.imp λus s1 ⟨e,hp⟩=>?_);subst e;obtain⟨v,s2,e1,rfl⟩:=k;refine⟨_,s1,?_,hp⟩;unfold Oa;rw[if_pos hl];simp only[e1]
end
theorem KaZ{o:Option Rz}{xs:List D}{s:S}{P:Xv->S->Prop}(e:o=some (.nw xs))(h:P (.l s.length) (s++[.lst xs])):W (bO false o) s P:=by subst e;exact⟨_,_,rfl,h⟩
theorem zkp{n:Nat}{j:Int}(h0:0<=j)(h:j<n):L2.pH n j=some j.toNat:=by
 unfold L2.pH;rw[if_pos h0,if_pos h]
theorem zid{n:Nat}{j:Int}(h0:j<0)(h : -(n:Int)<=j):L2.pH n j=some (j+n).toNat:=by
 unfold L2.pH;rw[if_neg gV,if_pos h]
theorem zl9{xs:List D}{j:Int}{x:D}(h0:j<0)(h1 : -(xs.length:Int)<=j)(h:xs[(j+xs.length).toNat]?=some x):prim .ix [.fl xs,.int j]=some (.dat x):=by
 show Option.map Rz.dat (L2.nZ xs j)=_;have:L2.nZ xs j=some x:=by
  unfold L2.nZ;rw[zid h0 h1];exact h
 rw[this];rfl
theorem zmb{n:Nat}(h:n<=65536):prim .Ba [.int n]=some (.dat (.tup ((jx n).map .int))):=by
 show (if okR 0 (n:Int)=true then some (Rz.dat (.tup (Fz 0 ((n:Int)-0).toNat))) else none)=_;rw[if_pos (show okR 0 (n:Int)=true from gA gV)];unfold Fz jx;rw[List.map_map,show ((n:Int)-0).toNat=n by lia]
 congr 4
 funext i
 simp
noncomputable def xq(n:Nat)(es:Nat->List Int):List D:=(List.range n).map λi=>.tup ((es i).map .int)
noncomputable def rY(k:Nat)(A:Int->Int->Bool):List D:=(List.range k).map λ(a:Nat)=>.fl ((List.range k).map λ(b:Nat)=>.bl (A a b))
noncomputable def Qk(al:Bool)(n k:Nat)(es:Nat->List Int)(A:Int->Int->Bool):D:=.ob 0 [.fl (xq n es),.tup ((jx k).map .int),.fl (rY k A),.bl al]
noncomputable abbrev tQ(n k:Nat)(es:Nat->List Int)(A:Int->Int->Bool):D:=Qk true n k es A
theorem zl5{n:Nat}{es:Nat->List Int}{i:Nat}(h:i<n):(xq n es)[i]?=some (.tup ((es i).map .int)):=by
 unfold xq;rw[iz,xQ h];rfl
theorem zli{k:Nat}{A:Int->Int->Bool}{a:Int}(h0:0<=a)(h:a<k):(rY k A)[a.toNat]?=some (.fl ((List.range k).map λ(b:Nat)=>.bl (A a b))):=by
 unfold rY;rw[iz,xQ gV];have:((a.toNat:Nat):Int)=a:=by lia
 simp[this]
theorem Ql{k:Nat}{f:Int->Bool}{b:Int}(h0:0<=b)(h:b<k):((List.range k).map λ(b:Nat)=>D.bl (f b))[b.toNat]?=some (.bl (f b)):=by
 rw[iz,xQ gV];have:((b.toNat:Nat):Int)=b:=by lia
 simp[this]
theorem zfE{α:Type}{p:Int->Bool}(l:List Int):l.filterMap (λy=>if p y=true then some (D.int y) else none)=(l.filter p).map .int:=by
 induction l with
 |nil=>rfl
 |cons a l ih=>
  rw[xP,List.filter_cons];by_cases q:p a=true
  ·simp[q,ih]
  ·simp[q,ih]
theorem zjY{k:Nat}{L:List Int}(h:L.Pairwise (·<·))(hb:∀x∈L,0<=x/\x<k):L.length<=k:=by
 have key:∀(L:List Int) (a:Int),L.Pairwise (·<·)->(∀x∈L,a<=x/\x<k)->a<=k->(L.length:Int)<=k-a:=by
  intro L
  induction L with
  |nil=>intro a _ _ ha;simp;lia
  |cons x r ih=>
   intro a h hb ha;rw[Af] at h;have hx:=hb x Nj;have:=ih (x+1) h.2 (λy hy=>by have:=h.1 y hy;have:=hb y (by simp[hy]);lia) gV;rw[dR]
   lia
 have:=key L 0 h hb gV
 lia
noncomputable def cI(k d:Int)(a b:Int):Bool:=decide (d<=gJ k a b)
section
variable {n k d:Int}{ps:List (Int×Int)}{ls:List Int}
theorem Qm(hd:1<=d){a b:Int}:cI k d a b=cI k d b a:=by
 unfold cI;rw[Cp,Jr hd,Jr hd]
 lia
theorem BL(w:Web n ps){i e:Int}:e∈aB i ps↔(i,e)∈ps\/(e,i)∈ps:=by
 unfold aB;rw[qw]
 constructor
 ·rintro⟨p,hp,h⟩;obtain⟨a,b⟩:=p;unfold endOf at h;dsimp only at h;split at h
  ·cases h;subst_vars;exact .inl hp
  ·split at h
   ·cases h;subst_vars;exact .inr hp
   ·cases h
 ·rintro(hp|hp)
  ·exact⟨_,hp,by simp[endOf]⟩
  ·have:=w.tie _ hp;dsimp only at this;exact⟨_,hp,by unfold endOf;dsimp only;rw[if_neg gV,if_pos rfl]⟩
theorem zke(w:Web n ps)(hd:1<=d)(hk:k<=24):Bo n.toNat k.toNat (λi=>aB i ps) (cI k d) where
 hn:=by have:=w.h8;lia
 hk:=by lia
 mem:=λi hi e he=>by
  have:=Qd w he;refine⟨this.1,by lia,λz=>?_⟩;subst z;rcases(BL w).mp he with h|h<;>have:=w.tie _ h<;>dsimp only at this<;>lia
 sym:=λi e _ _ he=>(BL w).mpr ((BL w).mp he).symm
 len:=λi hi=>by
  have:=zjY (k:=n.toNat) (W2 w i) (λx hx=>by have:=Qd w hx;have:=w.h1;lia);have:=w.h8
  lia
 asy:=λa b _ _ _ _=>Qm hd
end
noncomputable def cD:Option Int->D
 |none=>.non
 |some i=>.int i
noncomputable def BP(k:Int)(t:D):Bool:=t.jE||vC 0 (k-1) t
noncomputable def G7(n k:Int):D->Bool
 |.tup xs=>decide ((xs.length:Int)=n)&&xs.all (BP k)
 |_=>false
structure Kn(n k:Int)(ks:List (Option Int)):Prop where
 len:(ks.length:Int)=n
 lo:∀i,some i∈ks->0<=i/\i<k
section
variable {n k d:Int}{ps:List (Int×Int)}{ks:List (Option Int)}{r:List Int}{x y:Int}
noncomputable def jM(k:Int):Option Int->List Int
 |none=>jx k.toNat
 |some i=>[i]
end
theorem tR{ks:List (Option Int)}{j:Nat}{c:Option Int}(h:ks[j]?=some c):(ks.map cD)[j]?=some (cD c):=by rw[iz,h];rfl
theorem Jy{c:Option Int}:(cD c).jE=c.isNone:=by cases c<;>rfl
noncomputable def gM(ks:List (Option Int))(es:List Int):List Int:=es.filterMap λe=>(ks[e.toNat]?).join
noncomputable def lu(k d:Int)(ns:List Int)(x:Int):Bool:=ns.all λo=>cI k d x o
noncomputable def p8(k d:Int)(ps:List (Int×Int))(ks:List (Option Int))(p:Int):Bool:=match (ks[p.toNat]?).join with
 |none=>(jx k.toNat).all λx=>!(lu k d (gM ks (aB p ps)) x)
 |some i=>!(lu k d (gM ks (aB p ps)) i)
noncomputable def jN(ks:List (Option Int))(p:Int)(ps:List (Int×Int)):List (Option Int):=ps.filterMap λq=>if p=q.1\/p=q.2 then some (ks[(q.1+q.2-p).toNat]?).join else none
theorem zjK{n:Int}{ps:List (Int×Int)}(w:Web n ps){ks:List (Option Int)}{p o:Int}:some o∈jN ks p ps↔o∈gM ks (aB p ps):=by
 unfold jN gM;rw[qw,qw]
 constructor
 ·rintro⟨⟨a,b⟩,hq,h⟩;dsimp only at h;split at h
  ·rename_i hc;have h:=cT h;rcases hc with hc|hc
   ·refine⟨b,(BL w).mpr (.inl (by rw[hc];exact hq)),?_⟩;rw[<-h,show a+b-p=b by lia]
   ·refine⟨a,(BL w).mpr (.inr (by rw[hc];exact hq)),?_⟩;rw[<-h,show a+b-p=a by lia]
  ·cases h
 ·rintro⟨e,he,h⟩;rcases(BL w).mp he with hq|hq
  ·exact⟨_,hq,by dsimp only;rw[if_pos (.inl rfl),show p+e-p=e by lia,h]⟩
  ·exact⟨_,hq,by dsimp only;rw[if_pos (.inr rfl),show e+p-p=e by lia,h]⟩
noncomputable def vD(cs:List (Option Int)):List Int:=cs.filterMap id
theorem zkK{n k d:Int}{ps:List (Int×Int)}(w:Web n ps)(hd:1<=d){ks:List (Option Int)}{p x:Int}:((vD (jN ks p ps)).all λo=>decide (d<=gJ k o x))=lu k d (gM ks (aB p ps)) x:=by
 have key:∀o,o∈vD (jN ks p ps)↔o∈gM ks (aB p ps):=λo=>by
  rw[<-zjK w];unfold vD;rw[qw];exact⟨λ⟨c,hc,e⟩=>by cases (show c=some o from e);exact hc,λh=>⟨_,h,rfl⟩⟩
 rw[Bool.eq_iff_iff,gb];unfold lu;rw[gb]
 constructor
 ·intro h o ho;rw[Qm hd];exact h o ((key o).mpr ho)
 ·intro h o ho;have:=h o ((key o).mp ho);rw[Qm hd] at this;exact this
noncomputable def rZ(w:Str):D->Bool
 |.str x=>x==w
 |_=>false
noncomputable def BR(a:D):Bool:=(kq a).isSome
theorem Xh{a:D}{w:Str}(h:BR a=true):prim .eq [a,.str w]=some (.dat (.bl (rZ w a))):=by
 cases a<;>first|rfl|cases h
noncomputable def Sh:Nat->D->Prop
 |0,_=>False
 |m+1,x=>ju x=true/\∀xs,x=.tup xs->(∀a r,xs=a::r->BR a=true)/\(∀y∈xs,ju y=true)/\∀a b ys,xs=[a,b,.tup ys]->∀y∈ys,Sh m y
noncomputable def nq(n k d:Int)(ps:List (Int×Int))(ks:List (Option Int)):D->Bool
 |.int p=>decide (0<=p/\p<n)&&p8 k d ps ks p
 |_=>false
noncomputable def jy(P:List (Option Int)->D->Bool)(n k:Int)(ks:List (Option Int)):D->D->Bool
 |.int p,.tup xs=>decide (0<=p/\p<n)&&((ks[p.toNat]?).join).isNone&&decide ((xs.length:Int)=k)&&(List.range k.toNat).all λj=>P (ks.set p.toNat (some (j:Int))) (xs.getD j .non)
 |_,_=>false
noncomputable def pap(n k d:Int)(ps:List (Int×Int)):Nat->List (Option Int)->D->Bool
 |m+1,ks,.tup [a,b]=>rZ "end" a&&nq n k d ps ks b
 |m+1,ks,.tup [a,b,c]=>rZ "case" a&&jy (pap n k d ps m) n k ks b c
 |_,_,_=>false
theorem Qn{n k:Int}{ks:List (Option Int)}(q:Kn n k ks){p:Nat}{j:Int}(h:0<=j/\j<k):Kn n k (ks.set p (some j)) where
 len:=by rw[qd];exact q.len
 lo:=λi hi=>by
  rcases Kf hi with z|z
  ·exact q.lo i z
  ·cases z;exact h
theorem Xi{ks:List (Option Int)}{i:Nat}{x:Int}(hi:i<ks.length):(ks.map cD).take i++[D.int x]++(ks.map cD).drop (i+1)=(ks.set i (some x)).map cD:=by
 rw[List.map_set,List.set_eq_take_append_cons_drop,if_pos (by rw[cJ];exact hi)];simp[cD]
theorem BW{n k:Int}{ks:List (Option Int)}(q:Kn n k ks){p:Int}(h0:0<=p)(h:p<n):∃c,ks[p.toNat]?=some c:=⟨_,eO (by have:=q.len;lia)⟩
theorem zhw{xs:List D}:prim .ne [.fl xs,.fl []]=some (.dat (.bl (!xs.isEmpty))):=by cases xs<;>rfl
theorem zh1{xs:List D}:prim .eq [.fl xs,.fl []]=some (.dat (.bl xs.isEmpty)):=by cases xs<;>rfl
noncomputable def Mk(n k:Int):Nat->D->Prop
 |0,x=>∃p:Int,(0<=p/\p<n)/\x=.tup [.str "end",.int p]
 |m+1,x=>(∃p:Int,(0<=p/\p<n)/\x=.tup [.str "end",.int p])\/∃(p:Int) (xs:List D),(0<=p/\p<n)/\(xs.length:Int)=k/\(∀y∈xs,Mk n k m y)/\x=.tup [.str "case",.int p,.tup xs]
theorem Qo{n k:Int}{m:Nat}{p:Int}(h:0<=p/\p<n):Mk n k m (.tup [.str "end",.int p]):=by
 cases m with
 |zero=>exact⟨p,h,rfl⟩
 |succ m=>exact .inl ⟨p,h,rfl⟩
theorem BX:∀{m:Nat} {x:D},Sh m x->Sh (m+1) x
 |0,_,h=>h.elim
 |m+1,x,h=>⟨h.1,λxs e=>⟨(h.2 xs e).1,(h.2 xs e).2.1,λa b ys e2 y hy=>BX ((h.2 xs e).2.2 a b ys e2 y hy)⟩⟩
theorem Jz{m:Nat}{a b:D}{ys:List D}(ha:BR a=true)(hb:ju b=true)(h:∀y∈ys,Sh m y):Sh (m+1) (.tup [a,b,.tup ys]):=by
 refine⟨rfl,λxs e=>?_⟩;cases e;refine⟨λa' r e=>by cases e;exact ha,λy hy=>?_,λa' b' zs e=>by cases e;exact h⟩;simp only[fC,sS,qz] at hy;rcases hy with rfl|rfl|rfl
 ·cases y<;>first|rfl|cases ha
 ·exact hb
 ·rfl
theorem zV{m:Nat}{xs:List D}(ha:∀a r,xs=a::r->BR a=true)(hb:∀y∈xs,ju y=true)(hc:∀a b ys,xs≠[a,b,.tup ys]):Sh (m+1) (.tup xs):=⟨rfl,λys e=>by cases e;exact⟨ha,hb,λa b ys e=>absurd e (hc a b ys)⟩⟩
theorem nu{m:Nat}{a b:D}(ha:BR a=true)(hb:ju b=true):Sh (m+1) (.tup [a,b]):=zV (λa' r e=>by cases e;exact ha) (λy hy=>by
 simp only[fC,sS,qz] at hy;rcases hy with rfl|rfl
 ·cases y<;>first|rfl|cases ha
 ·exact hb) (λa b ys e=>by cases e)
theorem qb{m:Nat}{x:D}(h:ju x=true)(hn:∀xs,x≠.tup xs):Sh (m+1) x:=⟨h,λxs e=>absurd e (hn xs)⟩
theorem JD{n k:Int}:∀{m:Nat} {x:D},Mk n k m x->Sh (m+1) x
 |0,_,⟨p,_,e⟩=>by subst e;exact nu rfl rfl
 |m+1,x,h=>by
  rcases h with ⟨p,_,e⟩|⟨p,xs,_,_,hx,e⟩
  ·subst e;exact nu rfl rfl
  ·subst e;exact Jz rfl rfl λy hy=>JD (hx y hy)
structure Fd(f:Nat->D->Option PyData):Prop where
 tup:∀j xs,f (j+1) (.tup xs)=(kJ (f j) xs).map .tuple
 str:∀j s,f j (.str s)=some (.str s)
 int:∀j i,f j (.int i)=some (.int i)
 bl:∀j b,f j (.bl b)=some (.bool b)
 non:∀j,f j .non=some .none
theorem cV:Fd pd:=⟨λ_ _=>rfl,λj _=>by cases j<;>rfl,λj _=>by cases j<;>rfl,λj _=>by cases j<;>rfl,λj=>by cases j<;>rfl⟩
theorem zlk:Fd pe:=⟨λ_ _=>rfl,λj _=>by cases j<;>rfl,λj _=>by cases j<;>rfl,λj _=>by cases j<;>rfl,λj=>by cases j<;>rfl⟩
def RG(f:Nat->D->Option PyData)(j B:Nat)(x:D):Prop:=∃p,f j x=some p/\p.showable=true/\p.leavesShort 40=true/\p.weight<=B
def su(f:Nat->D->Option PyData)(j B:Nat)(xs:List D):Prop:=∃ps,kJ (f j) xs=some ps/\PyData.showableAll ps=true/\PyData.leavesShortAll 40 ps=true/\PyData.weightAll ps<=B
section
variable {f:Nat->D->Option PyData}{j A B:Nat}{x:D}{xs:List D}
theorem RG.mono(h:RG f j A x)(hb:A<=B):RG f j B x:=let ⟨p,a,b,c,d⟩:=h;⟨p,a,b,c,jP d hb⟩
theorem su.mono(h:su f j A xs)(hb:A<=B):su f j B xs:=let ⟨p,a,b,c,d⟩:=h;⟨p,a,b,c,jP d hb⟩
theorem bD:su f j 0 []:=⟨[],rfl,rfl,rfl,bU _⟩
theorem dN(h:RG f j A x)(r:su f j B xs):su f j (A+1+B) (x::xs):=by
 obtain⟨p,e1,e2,e3,e4⟩:=h;obtain⟨ps,f1,f2,f3,f4⟩:=r;refine⟨p::ps,?_,?_,?_,?_⟩
 ·unfold kJ;rw[e1,f1]
 ·simp only[PyData.showableAll,e2,f2,Bool.and_self]
 ·simp only[PyData.leavesShortAll,e3,f3,Bool.and_self]
 ·simp only[PyData.weightAll];lia
theorem JF:∀{xs:List D},(∀x∈xs,RG f j A x)->su f j (xs.length*(A+1)) xs
 |[],_=>bD.mono (jQ _)
 |x::r,h=>(dN (h x Nj) (JF λy hy=>h y (iy _ hy))).mono (by rw[dR,Nat.succ_mul];lia)
theorem nA(hf:Fd f)(h:su f j A xs):RG f (j+1) A (.tup xs):=by
 obtain⟨ps,f1,f2,f3,f4⟩:=h;exact⟨.tuple ps,by rw[hf.tup,f1];rfl,by simp only[PyData.showable];exact f2,by simp only[PyData.leavesShort];exact f3,by simp only[PyData.weight];exact f4⟩
theorem Qp(h:su pd j A xs):RG pd (j+1) A (.fl xs):=by
 obtain⟨ps,f1,f2,f3,f4⟩:=h;exact⟨.list ps,by show Option.map _ (kJ (pd j) xs)=_;rw[f1];rfl,by simp only[PyData.showable];exact f2,by simp only[PyData.leavesShort];exact f3,by simp only[PyData.weight];exact f4⟩
theorem sy(hf:Fd f){i:Int}(h:i.natAbs<16):RG f j 10 (.int i):=by
 obtain⟨p,e,h1,h2,h3⟩:=zhj (n:=0) (i:=i) (Nat.lt_trans h J0);cases (show PyData.int i=p from cT e);have h4:=zdt (k:=4) J0 h;refine⟨.int i,hf.int _ _,h1,h2,?_⟩;simp only[PyData.weight]
 split<;>lia
theorem Qq(hf:Fd f){w:Str}(h:(PyData.str w).leavesShort 40=true/\w.cps.size<=10):RG f j 10 (.str w):=⟨.str w,hf.str _ _,rfl,h.1,h.2⟩
end
noncomputable def wB:Nat->Nat
 |0=>30
 |m+1=>5*(wB m+1)+30
theorem Qs{f:Nat->D->Option PyData}(hf:Fd f){n k:Int}(hn:n<=8)(hk:k<=5):∀{m:Nat} {x:D},Mk n k m x->∀j,RG f (j+(2*m+1)) (wB m) x:=by
 have he:∀(p:Int) (j:Nat),(0<=p/\p<n)->RG f (j+1) 30 (.tup [.str "end",.int p]):=λp j hp=>(nA hf (dN (Qq hf Dc) (dN (sy hf gV) bD))).mono J0;intro m
 induction m with
 |zero=>rintro x ⟨p,hp,rfl⟩ j;exact he p j hp
 |succ m ih=>
  rintro x (⟨p,hp,rfl⟩|⟨p,xs,hp,hl,hx,rfl⟩) j
  ·exact(he p (j+(2*m+2)) hp).mono (by simp only[wB];lia)
  ·have h1:RG f (j+(2*m+2)) (5*(wB m+1)) (.tup xs):=(nA hf (JF λy hy=>ih (hx y hy) j)).mono (Kv _ gV);exact(nA (j:=j+(2*m+2)) hf (dN (Qq hf Dc) (dN (sy hf gV) (dN h1 bD)))).mono (by simp only[wB];lia)
theorem zlo:∀(j:Nat) {x:D} {a b:PyData},pd j x=some a->pe j x=some b->a=b:=by
 have hs:∀j,(∀{x:D} {a b:PyData},pd j x=some a->pe j x=some b->a=b)->∀(xs:List D) {a b:List PyData},kJ (pd j) xs=some a->kJ (pe j) xs=some b->a=b:=by
  intro j ih xs
  induction xs with
  |nil=>intro a b h1 h2;cases h1;cases h2;rfl
  |cons x r ihr=>
   intro a b h1 h2;unfold kJ at h1 h2;split at h1
   ·rename_i a1 a2 e1 e2;split at h2
    ·rename_i b1 b2 e3 e4;cases h1;cases h2;rw[ih e1 e3,ihr e2 e4]
    ·cases h2
   ·cases h1
 intro j
 induction j with
 |zero=>
  intro x a b h1 h2;cases x<;>first|(cases h1;done)|(cases h1;cases h2;rfl)
 |succ j ih=>
  intro x a b h1 h2;cases x with
  |tup xs=>
   obtain⟨p,e1,rfl⟩:=jz.mp (show (kJ (pd j) xs).map PyData.tuple=some a from h1);obtain⟨q,e2,rfl⟩:=jz.mp (show (kJ (pe j) xs).map PyData.tuple=some b from h2);rw[hs j ih xs e1 e2]
  |fl xs=>cases h2
  |_=>first|(cases h1;done)|(cases h1;cases h2;rfl)
theorem vG{f:Nat->D->Option PyData}(hf:f=pd\/f=pe){x:D}{B:Nat}(h:RG f 40 B x)(hb:B<=200000):Rp x:=by
 obtain⟨p,e,h1,h2,h3⟩:=h;have h3:p.weight<=200000:=jP h3 hb;by_cases hx:∃k i,x=.fd [.str k] [.int i]
 ·obtain⟨k,i,rfl⟩:=hx;refine Xf (p:=p) ?_ h1 h2 h3;rcases hf with rfl|rfl
  ·cases e
  ·exact e
 ·refine Xf (p:=p) ?_ h1 h2 h3;have ep:Bf x=NQ (pd 40 x) (pe 40 x):=by
   unfold Bf
   split
   ·exact absurd ⟨_,_,rfl⟩ hx
   ·rfl
  rw[ep];rcases hf with rfl|rfl
  ·rw[e];rfl
  ·cases e2:pd 40 x with
   |none=>exact e
   |some q=>rw[zlo 40 e2 e];rfl
theorem Xj{F:List Xv->M Xv}{xs:List Xv}{n:Nat}{o:SO}{s:S}{P:Xv->S->Prop}(hl:locs xs=[n])(ho:s[n]?=some o)(h:W (F (cM 0 xs)) [o] λv s1=>∃d o' r,v=.d d/\s1=o'::r/\P (.d d) (s.set n o')):W (bN F xs) s P:=by
 obtain⟨v,s1,e,d,o',r,rfl,rfl,p⟩:=h;refine⟨.d d,s.set n o',?_,p⟩;unfold bN;rw[hl,if_pos Nj];simp only[gH,ho,e,cG]
theorem Kat{F:List Xv->M Xv}{s:S}{o:SO}{xs:List Xv}{P:Xv->S->Prop}(hl:locs xs=[s.length])(h:W (F (cM 0 xs)) [o] λv s1=>∃d o' r,v=.d d/\s1=o'::r/\P (.d d) (s++[o'])):W (bN F xs) (s++[o]) P:=by
 refine Xj (n:=s.length) (o:=o) hl Nj (h.imp λv s1=>?_);rintro⟨d,o',r,rfl,rfl,hp⟩;exact⟨d,o',r,rfl,rfl,by rw[show (s++[o]).set s.length o'=s++[o'] by simp];exact hp⟩
end Mi
namespace cY
open PySem Mi
noncomputable def b0:bM:=.nil
noncomputable def b1:bM:=(.cons (.ret (.and (.jD (.v 0) .int) (.not (.jD (.v 0) .bool)))) .nil)
noncomputable def b2:bM:=(.cons (.ret (.and (.call 1 (Ea (.v 0))) (.v9 .le .le (.v 1) (.v 0) (.v 2)))) .nil)
noncomputable def b3:bM:=(.cons (.ret (.and (.jD (.v 0) .tuple) (.pr true .eq (Eb (.pr true .len (Ea (.v 0))) (.v 1))))) .nil)
noncomputable def b4:bM:=(.cons (.iff (.not (.call 3 (Eb (.v 0) (Ci 2)))) (.cons (.ret (.c (.bl false))) .nil) .nil) (.cons (.asg (.tp [1,2]) (.v 0)) (.cons (.iff (.or (.not (.call 5 (Ea (.v 1)))) (.not (.jD (.v 2) .tuple))) (.cons (.ret (.c (.bl false))) .nil) .nil) (.cons (.iff (.not (.pr true .all (Ea (.comp true (.call 7 (Eb (.v 1) (.v 0))) [0] (.seq (.v 2)) [1] 1 .no)))) (.cons (.ret (.c (.bl false))) .nil) .nil) (.cons (.ret (.pr true .all (Ea (.comp true (.pr true .lt (Eb (.v 0) (.v 1))) [0,1] (.zip (.v 2) (.sl true (.v 2) (.yes (Ci 1)) .no)) [] 2 .no)))) .nil)))))
noncomputable def b5:bM:=(.cons (.ret (.call 2 (Ec (.v 0) (Ci 1) (Ci 8)))) .nil)
noncomputable def b6:bM:=(.cons (.ret (.call 2 (Ec (.v 1) (Ci 0) (.pr true .ao (Eb (.v 0) (Ci 1)))))) .nil)
noncomputable def b7:bM:=(.cons (.iff (.not (.call 3 (Eb (.v 1) (Ci 2)))) (.cons (.ret (.c (.bl false))) .nil) .nil) (.cons (.asg (.tp [2,3]) (.v 1)) (.cons (.ret (.and (.call 6 (Eb (.v 0) (.v 2))) (.and (.call 6 (Eb (.v 0) (.v 3))) (.pr true .lt (Eb (.v 2) (.v 3)))))) .nil)))
noncomputable def b8:bM:=(.cons (.iff (.not (.call 4 (Ea (.v 0)))) (.cons .no .nil) .nil) .nil)
noncomputable def b9:bM:=(.cons (.asg (.nm 2) (.comp true (.ite (.pr true .eq (Eb (.v 0) (.v 2))) (.v 1) (.v 0)) [0,1] (.seq (Ei (.v 0) (Ci 1))) [1] 2 (.yes (.pr true .inn (Eb (.v 2) (.tup (Eb (.v 0) (.v 1)))))))) (.cons (.ret (.pr true .tuple (Ea (.pr true .sorted (Ea (.v 2)))))) .nil))
noncomputable def b10:bM:=(.cons (.ret (.comp true (.call 9 (Eb (.v 1) (.v 0))) [0] (.rg (Ci 0) (Ei (.v 0) (Ci 0))) [0] 1 .no)) .nil)
noncomputable def Qt:bM:=(.cons (.ret (.tup (.cons (.call 10 (Ea (.v 1))) (Ec (.pr true .Ba (Ea (.pr true .len (Ea (.v 2))))) (.v 2) (.v 3))))) .nil)
noncomputable def Qu:bM:=(.cons (.ret (Ei (Ei (.of (.v 0) 0 2) (.v 1)) (.v 2))) .nil)
noncomputable def Xk:bM:=.nil
noncomputable def Xl:bM:=.nil
noncomputable def Xm:bM:=.nil
noncomputable def Xn:bM:=.nil
noncomputable def Xo:bM:=.nil
noncomputable def Qv:bM:=(.cons (.asg (.tp [2,3]) (.v 1)) (.cons (.asg (.nm 4) (.comp true (.pr true .ge (Eb (.pr true .min2 (Eb (.v 0) (.pr true .ao (Eb (.v 1) (.v 0))))) (.v 2))) [0] (.rg (Ci 0) (.v 2)) [2,3] 1 .no)) (.cons (.ret (.mk 0 11 (Ec (.v 0) (.comp true (.comp true (Ei (.v 1) (.pr true .ao (Eb (.v 2) (.v 0)))) [0] (.rg (Ci 0) (.v 1)) [2,0] 1 .no) [0] (.rg (Ci 0) (.v 2)) [2,4] 1 .no) (.c (.bl true))))) .nil)))
noncomputable def Qw:bM:=(.cons (.iff (.not (.call 3 (Eb (.v 0) (Ci 2)))) (.cons (.ret (.c (.bl false))) .nil) .nil) (.cons (.asg (.tp [1,2]) (.v 0)) (.cons (.ret (.and (.call 2 (Ec (.v 1) (Ci 1) (Ci 24))) (.call 2 (Ec (.v 2) (Ci 1) (.v 1))))) .nil)))
noncomputable def Qx:bM:=(.cons (.ret (.call 2 (Ec (.v 1) (Ci 0) (.pr true .ao (Eb (Ei (.v 0) (Ci 0)) (Ci 1)))))) .nil)
noncomputable def Qy:bM:=(.cons (.iff (.not (.call 19 (Ea (.v 0)))) (.cons .no .nil) .nil) .nil)
noncomputable def Qz:bM:=(.cons (.ret (.and (.call 3 (Eb (.v 2) (Ei (.v 0) (Ci 0)))) (.pr true .all (Ea (.comp true (.or (.pr true .qQ (Ea (.v 0))) (.call 20 (Eb (.v 1) (.v 0)))) [0] (.seq (.v 2)) [1] 1 .no))))) .nil)
noncomputable def QB:bM:=(.cons (.ex (.call 8 (Ea (.v 0)))) (.cons (.ex (.call 21 (Ea (.v 1)))) (.cons (.iff (.not (.call 22 (Ec (.v 0) (.v 1) (.v 2)))) (.cons .no .nil) .nil) .nil)))
noncomputable def QC:bM:=(.cons (.ex (.call 23 (Ec (.v 0) (.v 1) (.v 2)))) (.cons (.ret (.call 25 (Ec (.call 18 (Eb (.v 0) (.v 1))) (.v 2) (.v 3)))) .nil))
noncomputable def QD:bM:=(.cons (.iff (.and (.call 3 (Eb (.v 2) (Ci 2))) (.pr true .eq (Eb (Ei (.v 2) (Ci 0)) (.c (.str "end"))))) (.cons (.ret (.and (.call 6 (Eb (.pr true .len (Ea (.v 1))) (Ei (.v 2) (Ci 1)))) (.call 27 (Ec (.v 0) (.v 1) (Ei (.v 2) (Ci 1)))))) .nil) .nil) (.cons (.iff (.and (.call 3 (Eb (.v 2) (Ci 3))) (.pr true .eq (Eb (Ei (.v 2) (Ci 0)) (.c (.str "case"))))) (.cons (.ret (.call 26 (.cons (.v 0) (Ec (.v 1) (Ei (.v 2) (Ci 1)) (Ei (.v 2) (Ci 2)))))) .nil) .nil) (.cons (.ret (.c (.bl false))) .nil)))
noncomputable def QF:bM:=(.cons (.iff (.or (.not (.call 6 (Eb (.pr true .len (Ea (.v 1))) (.v 2)))) (.pr true .v7 (Ea (Ei (.v 1) (.v 2))))) (.cons (.ret (.c (.bl false))) .nil) .nil) (.cons (.iff (.not (.call 3 (Eb (.v 3) (.pr true .len (Ea (.of (.v 0) 0 1)))))) (.cons (.ret (.c (.bl false))) .nil) .nil) (.cons (.fr (.nm 4) (.seq (.of (.v 0) 0 1)) (.cons (.iff (.not (.call 25 (Ec (.v 0) (.pr true .add (Eb (.pr true .add (Eb (.sl true (.v 1) .no (.yes (.v 2))) (.tup (Ea (.v 4))))) (.sl true (.v 1) (.yes (.pr true .add (Eb (.v 2) (Ci 1)))) .no))) (Ei (.v 3) (.v 4))))) (.cons (.ret (.c (.bl false))) .nil) .nil) .nil)) (.cons (.ret (.c (.bl true))) .nil))))
noncomputable def QG:bM:=(.cons (.asg (.nm 3) (.comp true (Ei (.v 1) (.v 0)) [0] (.seq (Ei (.of (.v 0) 0 0) (.v 2))) [1] 1 (.yes (.pr true .v7 (Ea (Ei (.v 1) (.v 0))))))) (.cons (.asg (.nm 4) (.ite (.pr true .qQ (Ea (Ei (.v 1) (.v 2)))) (.of (.v 0) 0 1) (.tup (Ea (Ei (.v 1) (.v 2)))))) (.cons (.fr (.nm 5) (.seq (.v 4)) (.cons (.iff (.pr true .all (Ea (.comp true (.cm 0 12 (.v 1) (Eb (.v 2) (.v 0))) [0] (.seq (.v 3)) [0,5] 1 .no))) (.cons (.ret (.c (.bl false))) .nil) .nil) .nil)) (.cons (.ret (.c (.bl true))) .nil))))
noncomputable def QJ:bM:=(.cons (.iff (.pr true .lt (Eb (.v 1) (.pr true .len (Ea (.v 0))))) (.cons (.ret (Ei (.v 0) (.v 1))) .nil) .nil) (.cons (.ret (Ci 0)) .nil))
noncomputable def QK:bM:=(.cons (.asg (.nm 1) (.pr true .max2 (Eb (.v 0) (.pr true .ao (Eb (Ci 0) (.v 0)))))) (.cons (.ret (.lst false (Eb (.v 1) (.pr true .uI (Ea (.pr true .ge (Eb (.v 1) (.pr true .pow (Eb (Ci 10) (Ci 18)))))))))) .nil))
noncomputable def QL:bM:=(.cons (.iff (.pr true .eq (Eb (Ei (.v 0) (Ci 1)) (Ci 1))) (.cons (.asg (.tp [2,3]) (.pr true .divmod (Eb (Ei (.v 0) (Ci 0)) (.v 1)))) (.cons (.asg (.ao (.v 0) (Ci 0)) (.v 2)) (.cons (.ret (.v 3)) .nil))) .nil) (.cons (.asg (.nm 4) (.pr true .mod (Eb (.pr true .mul (Eb (.pr true .add (Eb (.pr true .mod (Eb (Ei (.v 0) (Ci 0)) (Ci 2147483647))) (Ci 40503))) (Ci 69621))) (Ci 2147483629)))) (.cons (.asg (.nm 4) (.pr true .mod (Eb (.pr true .add (Eb (.pr true .mul (Eb (.v 4) (.v 4))) (Ci 7817))) (Ci 2147483587)))) (.cons (.asg (.ao (.v 0) (Ci 0)) (.pr true .mod (Eb (.pr true .add (Eb (.pr true .mul (Eb (.v 4) (Ci 48271))) (Ci 11))) (Ci 2147483629)))) (.cons (.ret (.pr true .mod (Eb (.pr true .fdiv (Eb (Ei (.v 0) (Ci 0)) (Ci 32))) (.v 1)))) .nil)))))
noncomputable def Xp:bM:=(.cons (.ret (.and (.jD (.v 0) .int) (.not (.jD (.v 0) .bool)))) .nil)
noncomputable def QM:bM:=(.cons (.asg (.nm 1) (.lst true (.cons (.c .non) (.cons (.c (.bl true)) (.cons (.c (.bl false)) (.cons (.pr true .neg (Ea (Ci 1))) (.cons (.c (.str "1")) (.cons (.c (.str "")) (.cons (.tup .nil) (.cons (.lst true .nil) (.cons (.tup (Ea (Ci 0))) (.cons (.lst true (Ea (Ci 0))) (.cons (.qT "a" 1) (.cons (.tup (Eb (Ci 0) (Ci 1))) (Ec (.pr true .pow (Eb (Ci 10) (Ci 30))) (.tup (Eb (Ci 0) (.tup .nil))) (.tup (Ea (.c (.str "ab"))))))))))))))))))) (.cons (.ret (Ei (.pr true .add (Eb (.v 1) (.lst true (Ea (.tup (Eb (Ci 1) (.tup (Ea (.tup (Eb (Ci 0) (Ci 0))))))))))) (.call 30 (Eb (.v 0) (Ci 16))))) .nil))
noncomputable def QS:bM:=(.cons (.asg (.nm 2) (Ei (.lst true (Ec (Ci 2) (Ci 4) (Ci 6))) (.call 30 (Eb (.v 0) (Ci 3))))) (.cons (.asg (.nm 3) (.lst true .nil)) (.cons (.fr (.nm 4) (.rg (Ci 0) (.v 1)) (.cons (.asg (.nm 3) (.pr true .add (Eb (.v 3) (.comp true (.tup (Eb (.v 1) (.v 0))) [0] (.rg (.pr true .add (Eb (.v 4) (Ci 1))) (.v 1)) [4,0,2] 1 (.yes (.pr true .lt (Eb (.call 30 (Eb (.v 2) (Ci 8))) (.v 3)))))))) .nil)) (.cons (.ret (.tup (Eb (.v 1) (.pr true .tuple (Ea (.v 3)))))) .nil))))
noncomputable def Xq:bM:=(.cons (.asg (.nm 3) (.pr true .abs (Ea (.pr true .ao (Eb (.v 1) (.v 2)))))) (.cons (.ret (.pr true .min2 (Eb (.v 3) (.pr true .ao (Eb (.v 0) (.v 3)))))) .nil))
noncomputable def QT:bM:=(.cons (.asg (.nm 3) (Ei (.lst true (Ec (Ci 1) (Ci 2) (Ci 4))) (.call 30 (Eb (.v 0) (Ci 3))))) (.cons (.ret (.pr true .tuple (Ea (.comp true (.ite (.pr true .lt (Eb (.call 30 (Eb (.v 1) (Ci 5))) (.v 2))) (.call 30 (Eb (.v 1) (Ei (.v 3) (Ci 0)))) (.c .non)) [0] (.rg (Ci 0) (Ei (.v 1) (Ci 0))) [0,3,2] 1 .no)))) .nil))
noncomputable def QV:bM:=(.cons (.asg (.nm 4) (.lst false .nil)) (.cons (.fr (.tp [5,6]) (.seq (Ei (.v 0) (Ci 1))) (.cons (.iff (.pr true .inn (Eb (.v 3) (.tup (Eb (.v 5) (.v 6))))) (.cons (.ex (.push (.v 4) (Ei (.v 2) (.pr true .ao (Eb (.pr true .add (Eb (.v 5) (.v 6))) (.v 3)))))) .nil) .nil) .nil)) (.cons (.asg (.nm 4) (.comp false (.v 0) [0] (.seq (.v 4)) [] 1 (.yes (.pr true .v7 (Ea (.v 0)))))) (.cons (.asg (.nm 7) (.comp true (.v 0) [0] (.rg (Ci 0) (Ei (.v 1) (Ci 0))) [4,1] 1 (.yes (.pr true .eq (Eb (.comp true (.v 0) [0] (.seq (.v 1)) [2,0] 1 (.yes (.pr true .lt (Eb (.call 34 (Ec (Ei (.v 1) (Ci 0)) (.v 0) (.v 2))) (Ei (.v 1) (Ci 1)))))) (.lst true .nil)))))) (.cons (.ret (.ite (.pr true .qQ (Ea (Ei (.v 2) (.v 3)))) (.pr true .eq (Eb (.v 7) (.lst true .nil))) (.pr true .nin (Eb (Ei (.v 2) (.v 3)) (.v 7))))) .nil)))))
noncomputable def QW:bM:=(.cons (.ret (.pr true .add (Eb (.pr true .add (Eb (.sl true (.v 0) .no (.yes (.v 1))) (.tup (Ea (.v 2))))) (.sl true (.v 0) (.yes (.pr true .add (Eb (.v 1) (Ci 1)))) .no)))) .nil)
noncomputable def QX:bM:=(.cons (.iff (.or (.not (.jD (.v 3) .tuple)) (.or (.pr true .nin (Eb (.pr true .len (Ea (.v 3))) (.tup (Eb (Ci 2) (Ci 3))))) (.not (.jD (Ei (.v 3) (Ci 0)) .str)))) (.cons (.ret (.c (.bl false))) .nil) .nil) (.cons (.iff (.or (.not (.call 31 (Ea (Ei (.v 3) (Ci 1))))) (.pr true .Ja (Eb (Ei (.v 3) (Ci 1)) (Ei (.v 0) (Ci 0))))) (.cons (.ret (.c (.bl false))) .nil) .nil) (.cons (.iff (.pr true .eq (Eb (.pr true .len (Ea (.v 3))) (Ci 2))) (.cons (.ret (.and (.pr true .eq (Eb (Ei (.v 3) (Ci 0)) (.c (.str "end")))) (.call 36 (.cons (.v 0) (Ec (.v 1) (.v 2) (Ei (.v 3) (Ci 1))))))) .nil) .nil) (.cons (.iff (.or (.pr true .ne (Eb (Ei (.v 3) (Ci 0)) (.c (.str "case")))) (.or (.pr true .v7 (Ea (Ei (.v 2) (Ei (.v 3) (Ci 1))))) (.not (.jD (Ei (.v 3) (Ci 2)) .tuple)))) (.cons (.ret (.c (.bl false))) .nil) .nil) (.cons (.iff (.pr true .ne (Eb (.pr true .len (Ea (Ei (.v 3) (Ci 2)))) (Ei (.v 1) (Ci 0)))) (.cons (.ret (.c (.bl false))) .nil) .nil) (.cons (.fr (.nm 4) (.rg (Ci 0) (Ei (.v 1) (Ci 0))) (.cons (.iff (.not (.call 38 (.cons (.v 0) (Ec (.v 1) (.call 37 (Ec (.v 2) (Ei (.v 3) (Ci 1)) (.v 4))) (Ei (Ei (.v 3) (Ci 2)) (.v 4)))))) (.cons (.ret (.c (.bl false))) .nil) .nil) .nil)) (.cons (.ret (.c (.bl true))) .nil)))))))
noncomputable def QZ:bM:=(.cons (.asg (.nm 5) (.comp true (.v 0) [0] (.rg (Ci 0) (Ei (.v 1) (Ci 0))) [1,2,3] 1 (.yes (.call 36 (.cons (.v 1) (Ec (.v 2) (.v 3) (.v 0))))))) (.cons (.asg (.nm 6) (.comp true (.v 0) [0] (.rg (Ci 0) (Ei (.v 1) (Ci 0))) [3] 1 (.yes (.pr true .qQ (Ea (Ei (.v 1) (.v 0))))))) (.cons (.iff (.pr true .ne (Eb (.v 5) (.lst true .nil))) (.cons (.ret (.tup (Eb (.c (.str "end")) (Ei (.v 5) (.call 30 (Eb (.v 0) (.pr true .len (Ea (.v 5))))))))) .nil) .nil) (.cons (.iff (.or (.pr true .eq (Eb (.v 6) (.lst true .nil))) (.pr true .eq (Eb (.v 4) (Ci 0)))) (.cons (.ret (.tup (Eb (.c (.str "end")) (.call 30 (Eb (.v 0) (Ei (.v 1) (Ci 0))))))) .nil) .nil) (.cons (.asg (.nm 7) (Ei (.v 6) (.call 30 (Eb (.v 0) (.pr true .len (Ea (.v 6))))))) (.cons (.asg (.nm 8) (.comp true (.call 39 (.cons (.v 1) (.cons (.v 2) (Ec (.v 3) (.call 37 (Ec (.v 4) (.v 5) (.v 0))) (.pr true .ao (Eb (.v 6) (Ci 1))))))) [0] (.rg (Ci 0) (Ei (.v 2) (Ci 0))) [0,1,2,3,7,4] 1 .no)) (.cons (.ret (.tup (Ec (.c (.str "case")) (.v 7) (.pr true .tuple (Ea (.v 8)))))) .nil)))))))
noncomputable def JL:bM:=(.cons (.iff (.and (.pr true .eq (Eb (Ei (.v 1) (Ci 0)) (.c (.str "case")))) (.pr true .gt (Eb (.call 30 (Eb (.v 0) (Ci 3))) (Ci 0)))) (.cons (.asg (.nm 3) (.call 30 (Eb (.v 0) (.pr true .len (Ea (Ei (.v 1) (Ci 2))))))) (.cons (.asg (.nm 4) (.pr false .list (Ea (Ei (.v 1) (Ci 2))))) (.cons (.asg (.ao (.v 4) (.v 3)) (.call 40 (Ec (.v 0) (Ei (.v 4) (.v 3)) (.v 2)))) (.cons (.ret (.pr true .add (Eb (.sl true (.v 1) .no (.yes (Ci 2))) (.tup (Ea (.pr true .tuple (Ea (.v 4)))))))) .nil)))) .nil) (.cons (.iff (.pr true .eq (Eb (Ei (.v 1) (Ci 0)) (.c (.str "case")))) (.cons (.asg (.nm 5) (.lst true (.cons (.tup (Ec (Ei (.v 1) (Ci 0)) (.v 2) (Ei (.v 1) (Ci 2)))) (Ec (.pr true .add (Eb (.sl true (.v 1) .no (.yes (Ci 2))) (.tup (Ea (.sl true (Ei (.v 1) (Ci 2)) .no (.yes (.pr true .neg (Ea (Ci 1))))))))) (.pr true .add (Eb (.sl true (.v 1) .no (.yes (Ci 2))) (.tup (Ea (.pr true .rev (Ea (Ei (.v 1) (Ci 2)))))))) (.pr true .list (Ea (.v 1))))))) (.cons (.asg (.nm 5) (.pr true .add (Eb (.v 5) (.lst true (.cons (.pr true .add (Eb (.tup (Ea (.c (.str "cases")))) (.sl true (.v 1) (.yes (Ci 1)) .no))) (Ec (.pr true .add (Eb (.sl true (.v 1) .no (.yes (Ci 2))) (.tup (Ea (.pr true .list (Ea (Ei (.v 1) (Ci 2)))))))) (Ei (Ei (.v 1) (Ci 2)) (Ci 0)) (.sl true (.v 1) .no (.yes (Ci 2))))))))) (.cons (.ret (Ei (.v 5) (.call 30 (Eb (.v 0) (Ci 8))))) .nil))) .nil) (.cons (.asg (.nm 5) (.lst true (.cons (.tup (Eb (.c (.str "end")) (.pr true .add (Eb (Ei (.v 1) (Ci 1)) (Ci 1))))) (.cons (.tup (Eb (.c (.str "end")) (.c (.bl true)))) (.cons (.tup (Eb (.c (.str "end")) (.c .non))) (.cons (.tup (Eb (.c (.str "ends")) (Ei (.v 1) (Ci 1)))) (Ec (.pr true .list (Ea (.v 1))) (.v 2) (.pr true .add (Eb (.v 1) (.tup (Ea (Ci 0)))))))))))) (.cons (.ret (Ei (.pr true .add (Eb (.v 5) (.lst true (Eb (.tup (Ec (.c (.str "case")) (Ei (.v 1) (Ci 1)) (.tup (Ea (.v 1))))) (.tup (Eb (.c (.str "end")) (.pr true .neg (Ea (Ci 1))))))))) (.call 30 (Eb (.v 0) (Ci 9))))) .nil))))
noncomputable def Q0:bM:=(.cons (.asg (.nm 4) (.pr true .repr (Ea (.v 3)))) (.cons (.asg (.nm 5) (.call 38 (.cons (.v 0) (Ec (.v 1) (.v 2) (.v 3))))) (.cons (.fr (.nm 6) (.rg (Ci 0) (Ci 2)) (.cons (.asg (.nm 7) (.call 24 (.cons (.v 0) (Ec (.v 1) (.v 2) (.v 3))))) (.cons (.iff (.or (.not (.jD (.v 7) .bool)) (.pr true .ne (Eb (.v 7) (.v 5)))) (.cons (.ret (.c (.bl false))) .nil) .nil) .nil))) (.cons (.ret (.pr true .eq (Eb (.pr true .repr (Ea (.v 3))) (.v 4)))) .nil))))
noncomputable def Q5:bM:=(.cons (.fr (.nm 1) (.seq (.lst true (.cons (.tup (Eb (.c (.str "end")) (Ci 0))) (.cons (.tup (Eb (.c (.str "end")) (Ci 1))) (Ec (.tup (Ec (.c (.str "case")) (Ci 0) (.tup (Eb (.tup (Eb (.c (.str "end")) (Ci 1))) (.tup (Eb (.c (.str "end")) (Ci 1))))))) (.c .non) (.tup (Ea (.c (.str "end"))))))))) (.cons (.iff (.not (.call 41 (.cons (.tup (Eb (Ci 2) (.tup (Ea (.tup (Eb (Ci 0) (Ci 1))))))) (Ec (.tup (Eb (Ci 2) (Ci 2))) (.tup (Eb (.c .non) (.c .non))) (.v 1))))) (.cons (.ret (.c (.bl false))) .nil) .nil) .nil)) (.cons (.fr (.nm 2) (.seq (.pr true .add (Eb (.lst true (Ea (.call 28 (Eb (.v 0) (Ci 0))))) (.sl true (.v 0) (.yes (Ci 1)) (.yes (Ci 3)))))) (.cons (.asg (.nm 3) (.call 29 (Ea (.v 2)))) (.cons (.asg (.nm 4) (.call 33 (Eb (.v 3) (.pr true .add (Eb (Ci 1) (.call 30 (Eb (.v 3) (Ci 4)))))))) (.cons (.asg (.nm 5) (Ei (.lst true (.cons (.tup (Eb (Ci 2) (Ci 1))) (.cons (.tup (Eb (Ci 3) (Ci 1))) (.cons (.tup (Eb (Ci 5) (Ci 2))) (.cons (.tup (Eb (Ci 4) (Ci 1))) (Ec (.tup (Eb (Ci 4) (Ci 2))) (.tup (Eb (Ci 3) (Ci 2))) (.tup (Eb (Ci 2) (Ci 2))))))))) (.call 30 (Eb (.v 3) (Ci 7))))) (.cons (.asg (.nm 6) (.call 35 (Ec (.v 3) (.v 4) (.v 5)))) (.cons (.asg (.nm 7) (.lst true (Eb (.call 39 (.cons (.v 3) (.cons (.v 4) (Ec (.v 5) (.v 6) (Ci 3))))) (.call 39 (.cons (.v 3) (.cons (.v 4) (Ec (.v 5) (.pr true .mult (Eb (.tup (Ea (.c .non))) (Ei (.v 4) (Ci 0)))) (Ci 2)))))))) (.cons (.asg (.nm 8) (.call 32 (Ea (.v 3)))) (.cons (.fr (.nm 1) (.seq (.pr true .add (Eb (.pr true .add (Eb (.v 7) (.lst true (Ea (.v 8))))) (.comp true (.call 40 (Ec (.v 1) (Ei (.v 2) (Ci 0)) (.v 3))) [0] (.rg (Ci 0) (Ci 4)) [3,7,8] 1 .no)))) (.cons (.iff (.not (.call 41 (.cons (.v 4) (Ec (.v 5) (.v 6) (.v 1))))) (.cons (.ret (.c (.bl false))) .nil) .nil) .nil)) .nil)))))))) (.cons (.ret (.c (.bl true))) .nil)))
noncomputable def T(n:Nat):Option Df:=([⟨1,1,b0⟩,⟨1,1,b1⟩,⟨3,3,b2⟩,⟨2,2,b3⟩,⟨3,1,b4⟩,⟨1,1,b5⟩,⟨2,2,b6⟩,⟨4,2,b7⟩,⟨1,1,b8⟩,⟨3,2,b9⟩,⟨1,1,b10⟩,⟨4,4,Qt⟩,⟨3,3,Qu⟩,⟨4,4,Xk⟩,⟨3,3,Xl⟩,⟨2,2,Xm⟩,⟨2,2,Xn⟩,⟨2,2,Xo⟩,⟨5,2,Qv⟩,⟨3,1,Qw⟩,⟨2,2,Qx⟩,⟨1,1,Qy⟩,⟨3,3,Qz⟩,⟨3,3,QB⟩,⟨4,4,QC⟩,⟨3,3,QD⟩,⟨5,4,QF⟩,⟨6,3,QG⟩,⟨2,2,QJ⟩,⟨2,1,QK⟩,⟨5,2,QL⟩,⟨1,1,Xp⟩,⟨2,1,QM⟩,⟨5,2,QS⟩,⟨4,3,Xq⟩,⟨4,3,QT⟩,⟨8,4,QV⟩,⟨3,3,QW⟩,⟨5,4,QX⟩,⟨9,5,QZ⟩,⟨6,3,JL⟩,⟨8,4,Q0⟩,⟨9,1,Q5⟩]:List Df)[n]?
theorem T_0:T 0=some ⟨1,1,b0⟩:=rfl
theorem T_1:T 1=some ⟨1,1,b1⟩:=rfl
theorem Xr:T 2=some ⟨3,3,b2⟩:=rfl
theorem Xu:T 3=some ⟨2,2,b3⟩:=rfl
theorem Xw:T 4=some ⟨3,1,b4⟩:=rfl
theorem Xx:T 5=some ⟨1,1,b5⟩:=rfl
theorem Q6:T 6=some ⟨2,2,b6⟩:=rfl
theorem Xy:T 7=some ⟨4,2,b7⟩:=rfl
theorem Xz:T 8=some ⟨1,1,b8⟩:=rfl
theorem XD:T 9=some ⟨3,2,b9⟩:=rfl
theorem XH:T 10=some ⟨1,1,b10⟩:=rfl
theorem XJ:T 11=some ⟨4,4,Qt⟩:=rfl
theorem XM:T 12=some ⟨3,3,Qu⟩:=rfl
theorem zm0:T 13=some ⟨4,4,Xk⟩:=rfl
theorem zm1:T 14=some ⟨3,3,Xl⟩:=rfl
theorem zmZ:T 15=some ⟨2,2,Xm⟩:=rfl
theorem zmY:T 16=some ⟨2,2,Xn⟩:=rfl
theorem zmX:T 17=some ⟨2,2,Xo⟩:=rfl
theorem XQ:T 18=some ⟨5,2,Qv⟩:=rfl
theorem XR:T 19=some ⟨3,1,Qw⟩:=rfl
theorem X3:T 20=some ⟨2,2,Qx⟩:=rfl
theorem X4:T 21=some ⟨1,1,Qy⟩:=rfl
theorem X5:T 22=some ⟨3,3,Qz⟩:=rfl
theorem X6:T 23=some ⟨3,3,QB⟩:=rfl
theorem X7:T 24=some ⟨4,4,QC⟩:=rfl
theorem X8:T 25=some ⟨3,3,QD⟩:=rfl
theorem X_:T 26=some ⟨5,4,QF⟩:=rfl
theorem Yb:T 27=some ⟨6,3,QG⟩:=rfl
theorem Yc:T 28=some ⟨2,2,QJ⟩:=rfl
theorem Yd:T 29=some ⟨2,1,QK⟩:=rfl
theorem Ye:T 30=some ⟨5,2,QL⟩:=rfl
theorem zmO:T 31=some ⟨1,1,Xp⟩:=rfl
theorem Yg:T 32=some ⟨2,1,QM⟩:=rfl
theorem Yh:T 33=some ⟨5,2,QS⟩:=rfl
theorem zmT:T 34=some ⟨4,3,Xq⟩:=rfl
theorem Yi:T 35=some ⟨4,3,QT⟩:=rfl
theorem Yj:T 36=some ⟨8,4,QV⟩:=rfl
theorem Yk:T 37=some ⟨3,3,QW⟩:=rfl
theorem Yl:T 38=some ⟨5,4,QX⟩:=rfl
theorem Ym:T 39=some ⟨9,5,QZ⟩:=rfl
theorem Q7:T 40=some ⟨6,3,JL⟩:=rfl
theorem Yn:T 41=some ⟨8,4,Q0⟩:=rfl
theorem Yo:T 42=some ⟨9,1,Q5⟩:=rfl
noncomputable def ao:Nat->Nat->Bool:=λc e=>(let n:=λc=>if c<0 then c else 0;n e==0||n c==n e)
end cY
namespace cY
open PySem PySem.Spec PyProof.Rows L2 Mi
abbrev LK(i:Nat)(x:Str)(k:NameKind):Prop:=(au (top i)).names.lookup x=some k
noncomputable abbrev gI:NameKind:=.globalImplicit
abbrev N4:List Str:=["thing","many","ties"]
abbrev N9:List Str:=["web","place","ends"]
abbrev Yp:List Str:=["web"]
abbrev Q8:List Str:=["web","ring","k","d","wide"]
abbrev Yq:List Str:=["web","ring","thing"]
abbrev Q9:List Str:=["board","known","place","near","spots","spot"]
abbrev Yr:List Str:=["_law_pen_here","_law_many","_law_often","_law_ties","_law_one"]
abbrev Ys:List Str:=["_law_pen_here","_law_web_here","_law_ring","_law_often"]
abbrev Q_:List Str:=["_law_web_here","_law_ring","_law_known_here","_law_place","_law_near","_law_one","_law_other","_law_some"]
abbrev JM:List Str:=["_law_pen_here","_law_web_here","_law_ring","_law_known_here","_law_deep","_law_some","_law_left","_law_place","_law_papers"]
abbrev Yt:List Str:=["_law_script","_law_thing","_law_cell_here","_law_pen_here","_law_web_here","_law_ring","_law_known_here","_law_papers","_law_odd_here"]
noncomputable def cl(K:W.Frag):Cl:=⟨gB (lk.L K),λ_=>[],λ_=>cW K "Board",λ_=>["ends","spots","apart","alike"]⟩
structure Top(K:W.Frag)(mg:Str->Option Value):Prop where
 d1:D3 K mg "is_whole" (top 7) ["thing"]
 d2:D3 K mg "is_within" (top 8) ["thing","least","most"]
 d3:D3 K mg "is_row" (top 9) ["thing","many"]
 d4:D3 K mg "is_web" (top 12) ["thing"]
 d5:D3 K mg "is_many" (top 13) ["thing"]
 d6:D3 K mg "is_place" (top 14) ["many","thing"]
 d7:D3 K mg "is_tie" (top 15) ["many","thing"]
 d8:D3 K mg "check_web" (top 16) ["thing"]
 d9:D3 K mg "tied_to" (top 17) ["web","place"]
 Ra:D3 K mg "all_ends" (top 18) ["web"]
 Rb:D3 K mg "ring_board" (top 21) ["web","ring"]
 Rf:D3 K mg "is_ring" (top 24) ["thing"]
 Rg:D3 K mg "is_spot" (top 25) ["ring","thing"]
 Rh:D3 K mg "check_ring" (top 26) ["thing"]
 Ri:D3 K mg "are_known" (top 28) ["web","ring","thing"]
 Rj:D3 K mg "check_known" (top 29) ["web","ring","thing"]
 Rm:D3 K mg "none_holds" (top 33) ["web","ring","known","thing"]
 JV:D3 K mg "paper_holds" (top 34) ["board","known","thing"]
 Rn:D3 K mg "case_holds" (top 35) ["board","known","place","papers"]
 Ro:D3 K mg "is_stuck" (top 36) ["board","known","place"]
 Rq:D3 K mg "_law_cell" (top 38) ["_law_script","_law_k"]
 Rr:D3 K mg "_law_pen" (top 39) ["_law_cell_here"]
 mC:D3 K mg "_law_draw" (top 40) ["_law_pen_here","_law_many"]
 Rt:D3 K mg "_law_whole" (top 41) ["_law_thing"]
 Ru:D3 K mg "_law_odd" (top 42) ["_law_pen_here"]
 Rw:D3 K mg "_law_web" (top 43) ["_law_pen_here","_law_many"]
 Rx:D3 K mg "_law_apart" (top 44) ["_law_k","_law_one","_law_other"]
 Ry:D3 K mg "_law_known" (top 45) ["_law_pen_here","_law_web_here","_law_ring"]
 JZ:D3 K mg "_law_ends" (top 46) ["_law_web_here","_law_ring","_law_known_here","_law_place"]
 J1:D3 K mg "_law_put" (top 47) ["_law_known_here","_law_place","_law_spot"]
 J2:D3 K mg "_law_paper" (top 48) ["_law_web_here","_law_ring","_law_known_here","_law_thing"]
 G8:D3 K mg "_law_made" (top 49) ["_law_pen_here","_law_web_here","_law_ring","_law_known_here","_law_deep"]
 J3:D3 K mg "_law_bent" (top 50) ["_law_pen_here","_law_paper_here","_law_odd_here"]
 J5:D3 K mg "_law_right" (top 51) ["_law_web_here","_law_ring","_law_known_here","_law_thing"]
 J6:D3 K mg "law" (top 52) ["_law_script"]
 eN:∃t,mg "MOST_PLACES"=some (.int 8 t)
 fZ:∃t,mg "MOST_SPOTS"=some (.int 24 t)
 xu:∃t,mg "END"=some (.str "end" t)
 sE:∃t,mg "CASE"=some (.str "case" t)
 Yu:mg "abs"=none
 z6:mg "all"=none
 z2:mg "bool"=none
 Yv:mg "divmod"=none
 z1:mg "int"=none
 z0:mg "isinstance"=none
 z4:mg "len"=none
 G9:mg "list"=none
 Yw:mg "max"=none
 z9:mg "min"=none
 z8:mg "range"=none
 RB:mg "repr"=none
 z7:mg "sorted"=none
 Yx:mg "str"=none
 z3:mg "tuple"=none
 z5:mg "zip"=none
 ow:Ow K (cl K) 0
 mq:Mk K ((cl K).b 0) (jw K ((cl K).b 0) "__init__")
 mc:mg "Board"=some (.ref ((cl K).b 0))
 RD:Mt K ((cl K).b 0) "__init__" "Board.__init__" Am ["self","web","apart","alike"] (jw K ((cl K).b 0) "__init__") (nj K ((cl K).b 0) "__init__" Am)
 RJ:Mt K ((cl K).b 0) "far_apart" "Board.far_apart" CZ ["self","spot","other"] (jw K ((cl K).b 0) "far_apart") (nj K ((cl K).b 0) "far_apart" CZ)
theorem zje{K:W.Frag}{h:Heap}{mg:Str->Option Value}(Sb:oW fs ms xs lk bd K)(X:K.In h)(G:h.Ns mainGlobals mg):Top K mg where
 d1:=rN Sb.i X G 0
 d2:=vq Sb.i X G 1
 d3:=vp Sb.i X G 2
 d4:=rN Sb.i X G 3
 d5:=rN Sb.i X G 4
 d6:=vp Sb.i X G 5
 d7:=vp Sb.i X G 6
 d8:=rN Sb.i X G 7
 d9:=vp Sb.i X G 8
 Ra:=rN Sb.i X G 9
 Rb:=vp Sb.i X G 10
 Rf:=rN Sb.i X G 11
 Rg:=vp Sb.i X G 12
 Rh:=rN Sb.i X G 13
 Ri:=vq Sb.i X G 14
 Rj:=vq Sb.i X G 15
 Rm:=GJ Sb.i X G 16
 JV:=vq Sb.i X G 17
 Rn:=GJ Sb.i X G 18
 Ro:=vq Sb.i X G 19
 Rq:=vp Sb.i X G 20
 Rr:=rN Sb.i X G 21
 mC:=vp Sb.i X G 22
 Rt:=rN Sb.i X G 23
 Ru:=rN Sb.i X G 24
 Rw:=vp Sb.i X G 25
 Rx:=vq Sb.i X G 26
 Ry:=vq Sb.i X G 27
 JZ:=GJ Sb.i X G 28
 J1:=vq Sb.i X G 29
 J2:=GJ Sb.i X G 30
 G8:=zmV Sb.i X G 31
 J3:=vq Sb.i X G 32
 J5:=GJ Sb.i X G 33
 J6:=rN Sb.i X G 34
 eN:=Wj (Sb.i.gd.it ("MOST_PLACES",8) (mG 0)) X G
 fZ:=Wj (Sb.i.gd.it ("MOST_SPOTS",24) (mG 1)) X G
 xu:=Wm (Sb.i.gd.st ("END","end") (mG 0)) X G
 sE:=Wm (Sb.i.gd.st ("CASE","case") (mG 1)) X G
 Yu:=mK (Sb.i.gd.no "abs" (mG 0)) X G
 z6:=mK (Sb.i.gd.no "all" (mG 1)) X G
 z2:=mK (Sb.i.gd.no "bool" (mG 2)) X G
 Yv:=mK (Sb.i.gd.no "divmod" (mG 3)) X G
 z1:=mK (Sb.i.gd.no "int" (mG 4)) X G
 z0:=mK (Sb.i.gd.no "isinstance" (mG 5)) X G
 z4:=mK (Sb.i.gd.no "len" (mG 6)) X G
 G9:=mK (Sb.i.gd.no "list" (mG 7)) X G
 Yw:=mK (Sb.i.gd.no "max" (mG 8)) X G
 z9:=mK (Sb.i.gd.no "min" (mG 9)) X G
 z8:=mK (Sb.i.gd.no "range" (mG 10)) X G
 RB:=mK (Sb.i.gd.no "repr" (mG 11)) X G
 z7:=mK (Sb.i.gd.no "sorted" (mG 12)) X G
 Yx:=mK (Sb.i.gd.no "str" (mG 13)) X G
 z3:=mK (Sb.i.gd.no "tuple" (mG 14)) X G
 z5:=mK (Sb.i.gd.no "zip" (mG 15)) X G
 ow:=zlr Sb.b rfl rfl Dc
 mq:=zlv Sb.b (Sb.m ("__init__","Board.__init__",Am) (mG 0)).2
 mc:=zl8 Sb.b X G
 RD:=zmU (Sb.m ("__init__","Board.__init__",Am) (mG 0))
 RJ:=zmW (Sb.m ("far_apart","Board.far_apart",CZ) (mG 1))
abbrev FO(P:Program)(w:World)(K:W.Frag)(mg:Str->Option Value)(base:Heap)(k:Nat)(c:Bool)(x:Str)(i:Nat)(ps:List Str)(n:Nat):Prop:=bQ P w K mg base (dZ P w) c k (fX K x) (fdOf K x (top i)) ps (mJ K (cl K) (call ao T k c n))
abbrev FM(P:Program)(w:World)(K:W.Frag)(mg:Str->Option Value)(base:Heap)(k:Nat)(m:Str)(st:Stmt)(ps:List Str)(sp:Sp):Prop:=bQ P w K mg base (dZ P w) true k (jw K ((cl K).b 0) m) (nj K ((cl K).b 0) m st) ps sp
structure Fs(P:Program)(w:World)(K:W.Frag)(mg:Str->Option Value)(base:Heap)(k:Nat):Prop where
 t1:FO P w K mg base k true "is_whole" 7 ["thing"] 1
 t2:FO P w K mg base k true "is_within" 8 ["thing","least","most"] 2
 t3:FO P w K mg base k true "is_row" 9 ["thing","many"] 3
 t4:FO P w K mg base k true "is_web" 12 ["thing"] 4
 t5:FO P w K mg base k true "is_many" 13 ["thing"] 5
 t6:FO P w K mg base k true "is_place" 14 ["many","thing"] 6
 t7:FO P w K mg base k true "is_tie" 15 ["many","thing"] 7
 t8:FO P w K mg base k true "check_web" 16 ["thing"] 8
 t9:FO P w K mg base k true "tied_to" 17 ["web","place"] 9
 t10:FO P w K mg base k true "all_ends" 18 ["web"] 10
 t11:FM P w K mg base k "__init__" Am ["self","web","apart","alike"] (G3 K (cl K) 0 (call ao T k true 11))
 Yy:FM P w K mg base k "far_apart" CZ ["self","spot","other"] (mJ K (cl K) (call ao T k true 12))
 Yz:FO P w K mg base k true "ring_board" 21 ["web","ring"] 18
 YB:FO P w K mg base k true "is_ring" 24 ["thing"] 19
 YC:FO P w K mg base k true "is_spot" 25 ["ring","thing"] 20
 YD:FO P w K mg base k true "check_ring" 26 ["thing"] 21
 YF:FO P w K mg base k true "are_known" 28 ["web","ring","thing"] 22
 YG:FO P w K mg base k true "check_known" 29 ["web","ring","thing"] 23
 YH:FO P w K mg base k true "none_holds" 33 ["web","ring","known","thing"] 24
 RK:FO P w K mg base k true "paper_holds" 34 ["board","known","thing"] 25
 YJ:FO P w K mg base k true "case_holds" 35 ["board","known","place","papers"] 26
 YK:FO P w K mg base k true "is_stuck" 36 ["board","known","place"] 27
 YL:FO P w K mg base k true "_law_cell" 38 ["_law_script","_law_k"] 28
 YM:FO P w K mg base k true "_law_pen" 39 ["_law_cell_here"] 29
 mL:FO P w K mg base k true "_law_draw" 40 ["_law_pen_here","_law_many"] 30
 YQ:FO P w K mg base k true "_law_whole" 41 ["_law_thing"] 31
 YS:FO P w K mg base k true "_law_odd" 42 ["_law_pen_here"] 32
 YT:FO P w K mg base k true "_law_web" 43 ["_law_pen_here","_law_many"] 33
 YW:FO P w K mg base k true "_law_apart" 44 ["_law_k","_law_one","_law_other"] 34
 YX:FO P w K mg base k true "_law_known" 45 ["_law_pen_here","_law_web_here","_law_ring"] 35
 RL:FO P w K mg base k true "_law_ends" 46 ["_law_web_here","_law_ring","_law_known_here","_law_place"] 36
 RM:FO P w K mg base k true "_law_put" 47 ["_law_known_here","_law_place","_law_spot"] 37
 RN:FO P w K mg base k true "_law_paper" 48 ["_law_web_here","_law_ring","_law_known_here","_law_thing"] 38
 J7:FO P w K mg base k true "_law_made" 49 ["_law_pen_here","_law_web_here","_law_ring","_law_known_here","_law_deep"] 39
 RP:FO P w K mg base k true "_law_bent" 50 ["_law_pen_here","_law_paper_here","_law_odd_here"] 40
 RQ:FO P w K mg base k true "_law_right" 51 ["_law_web_here","_law_ring","_law_known_here","_law_thing"] 41
 YZ:FO P w K mg base k true "law" 52 ["_law_script"] 42
section
variable {P:Program}{w:World}{K:W.Frag}{mg:Str->Option Value}{base:Heap}{k:Nat}
theorem ziB(Tp:Top K mg)(Fk:Fs P w K mg base k):Fs P w K mg base (k+1) where
 t1:=fJ Tp.d1 ["thing"] T_1 λ_ _ _ _ _ _ hr=>(aJ (bT (tK (tO rfl Tp.z0 gk (gv 0) (tM rfl Tp.z1 V4 gk dk)) (tH (V_ (tO rfl Tp.z0 gk (gv 0) (tM rfl Tp.z2 O8 gk dk))))))
 aO)
 t2:=fJ Tp.d2 ["thing","least","most"] Xr λ_ _ _ _ _ _ hr=>(aJ (bT (tK (gc Fk.t1 Tp.d1 hr bV gk (aq (gv 0) aF)) (tH (zlH Wa Wa (gv 1) (gv 0) (gv 2)))))
 aO)
 t3:=fJ Tp.d3 ["thing","many"] Xu λ_ _ _ _ _ _ hr=>(aJ (bT (tK (tO rfl Tp.z0 gk (gv 0) (tM rfl Tp.z3 Bq gk dk)) (tH (u6 (oK hr) (qu Tp.z4 gk (aq (gv 0) aF)) (gv 1)))))
 aO)
 t4:=fJ Tp.d4 N4 Xw λ_ _ _ _ _ _ hr=>(aJ (fH (jJ (iD (gc Fk.t3 Tp.d3 hr bV gk (aq (gv 0) (aq aH aF))))) (aJ (bT gU)
 aO) aO)
 (aJ (GC 1 2 rfl rfl nd rfl rfl jc jl rfl rfl (gv 0))
 (aJ (fH (tL (u9 (jJ (iD (gc Fk.t5 Tp.d5 hr bV gk (aq (gv 1) aF)))) (zL (jJ (iD (tO rfl Tp.z0 gk (gv 2) (tM rfl Tp.z3 Bq gk dk))))))) (aJ (bT gU)
 aO) aO)
 (aJ (fH (jJ (iD (Jl rfl Tp.z6 gk (aq (rK (au (top 12)) N4 ["tie"] ["many"] [1] rfl rfl rfl Dc Dc (lX 0) Dc (pU (gv 2)) (λ_ _ _ _ _ _=>(mj 0 Dc rfl Dc)) (λ_ _ _ _ _ _=>rJ) (λ_ _ _ _ _ _=>(gc Fk.t7 Tp.d7 hr rM pZ (aq (bK 1) (aq (bK 0) aF))))) aF)))) (aJ (bT gU)
 aO) aO)
 (aJ (bT (Jl rfl Tp.z6 gk (aq (rK (au (top 12)) N4 ["tie","later"] [] [] rfl rfl rfl Dc Dc (O4 0 1) Dc (zlq Tp.z5 gk (gv 2) (pR (gv 2) (oN aH) qp)) (λ_ _ _ _ _ _=>(Wg 0 1 rfl Dc rfl rfl Dc Dc)) (λ_ _ _ _ _ _=>rJ) (λ_ _ _ _ _ _=>(u6 (Br hr) (bK 0) (bK 1)))) aF)))
 aO)))))
 t5:=fJ Tp.d5 ["thing"] Xx λ_ _ _ _ _ _ hr=>(aJ (bT (gc Fk.t2 Tp.d2 hr bV gk (aq (gv 0) (aq aH (aq (V7 Tp.eN gk dk) aF)))))
 aO)
 t6:=fJ Tp.d6 ["many","thing"] Q6 λ_ _ _ _ _ _ hr=>(aJ (bT (gc Fk.t2 Tp.d2 hr bV gk (aq (gv 1) (aq aH (aq (cN u5 (gv 0) aH) aF)))))
 aO)
 t7:=fJ Tp.d7 ["many","thing","one","other"] Xy λ_ _ _ _ _ _ hr=>(aJ (fH (jJ (iD (gc Fk.t3 Tp.d3 hr bV gk (aq (gv 1) (aq aH aF))))) (aJ (bT gU)
 aO) aO)
 (aJ (GC 2 3 rfl rfl nd rfl rfl jl jl rfl rfl (gv 1))
 (aJ (bT (tK (gc Fk.t6 Tp.d6 hr bV gk (aq (gv 0) (aq (gv 2) aF))) (tK (gc Fk.t6 Tp.d6 hr bV gk (aq (gv 0) (aq (gv 3) aF))) (tH (u6 (Br hr) (gv 2) (gv 3))))))
 aO)))
 t8:=fJ Tp.d8 ["thing"] Xz λ_ _ _ _ _ _ hr=>(aJ (fH (jJ (iD (gc Fk.t4 Tp.d4 hr bV gk (aq (gv 0) aF)))) (aJ Pn
 aO) aO)
 aO)
 t9:=fJ Tp.d9 N9 XD λ_ _ _ _ _ _ hr=>(aJ (Bv 2 (au (top 17)) N9 ["one","other"] ["place"] [1] nd rfl jl rfl rfl rfl rfl Dc Dc (O4 0 1) Dc (pU (bB (gv 0) aH)) (λ_ _ _ _ _ _=>(Wg 0 1 rfl Dc rfl rfl Dc Dc)) (λ_ _ _ _ _ _=>(wQ (jf (Wc hr) (bK 2) (cg (aq (bK 0) (aq (bK 1) aF)))))) (λ_ _ _ _ _ _=>(Jk (jf (oK hr) (bK 0) (bK 2)) (bK 1) (bK 0))))
 (aJ (bT (Gx Tp.z3 gk (aq (zgO Tp.z7 gk (aq (gv 2) aF)) aF)))
 aO))
 t10:=fJ Tp.Ra Yp XH λ_ _ _ _ _ _ hr=>(aJ (bT (rK (au (top 18)) Yp ["place"] ["web"] [0] rfl rfl rfl Dc Dc (lX 0) Dc (pW Tp.z8 gk (bB (gv 0) aH)) (λ_ _ _ _ _ _=>(mj 0 Dc rfl Dc)) (λ_ _ _ _ _ _=>rJ) (λ_ _ _ _ _ _=>(gc Fk.t9 Tp.d9 hr rM pZ (aq (bK 1) (aq (bK 0) aF))))))
 aO)
 t11:=ziL (N:=["self","web","apart","alike"]) Tp.RD.fn XJ (λ_ _ _ _ _ _ hr=>(Jv (j:=0) Tp.ow (gc Fk.t10 Tp.Ra hr bV gk (aq (gv 1) aF)) (Jv (j:=0) Tp.ow (zl2 rfl Tp.z3 gk Tp.z8 gk (aq (qu Tp.z4 gk (aq (gv 2) aF)) aF)) (Jv (j:=0) Tp.ow (gv 2) (Jv (j:=0) Tp.ow (gv 3) zkw))))) (by show (4:Nat)<=900;decide)
 Yy:=fM Tp.RJ ["self","spot","other"] XM λ_ _ _ _ _ _ hr=>(aJ (bT (bB (bB (GZ Tp.ow (gv 0)) (gv 1)) (gv 2)))
 aO)
 Yz:=fR Tp.Rb Q8 XQ λ_ _ _ _ _ _ hr=>(aJ (GC 2 3 rfl rfl nd rfl rfl jc jc rfl rfl (gv 1))
 (aJ (gj 4 nd rfl jc rfl (rK (au (top 21)) Q8 ["gap"] ["k","d"] [2,3] rfl rfl rfl Dc Dc (lX 0) Dc (pW Tp.z8 gk (gv 2)) (λ_ _ _ _ _ _=>(mj 0 Dc rfl Dc)) (λ_ _ _ _ _ _=>rJ) (λ_ _ _ _ _ _=>(u6 Wb (Wf rfl Tp.z9 pZ (aq (bK 0) (aq (cN u5 (bK 1) (bK 0)) aF))) (bK 2)))))
 (aJ (bT (zmM Tp.mq Fk.t11 (Mi.bC.made hr _ _) Tp.RD.bd Tp.mc gk (aq (gv 0) (aq (rK (au (top 21)) Q8 ["spot"] ["k","wide"] [2,4] rfl rfl rfl Dc Dc (lX 0) Dc (pW Tp.z8 gk (gv 2)) (λ_ _ _ _ _ _=>(mj 0 Dc rfl Dc)) (λ_ _ _ _ _ _=>rJ) (λ_ _ _ _ _ _=>(Wh ["spot","k","wide"] ["other"] ["wide","spot"] [2,0] rfl rfl Dc Dc (lX 0) Dc (pW Tp.z8 pZ (bK 1)) (λ_ _ _ _ _ _=>(mj 0 Dc rfl Dc)) (λ_ _ _ _ _ _=>rJ) (λ_ _ _ _ _ _=>(bB (bK 1) (cN u5 (bK 2) (bK 0))))))) (aq gU aF)))))
 aO)))
 YB:=fJ Tp.Rf ["thing","k","d"] XR λ_ _ _ _ _ _ hr=>(aJ (fH (jJ (iD (gc Fk.t3 Tp.d3 hr bV gk (aq (gv 0) (aq aH aF))))) (aJ (bT gU)
 aO) aO)
 (aJ (GC 1 2 rfl rfl nd rfl rfl jl jl rfl rfl (gv 0))
 (aJ (bT (tK (gc Fk.t2 Tp.d2 hr bV gk (aq (gv 1) (aq aH (aq (V7 Tp.fZ gk dk) aF)))) (tH (gc Fk.t2 Tp.d2 hr bV gk (aq (gv 2) (aq aH (aq (gv 1) aF)))))))
 aO)))
 YC:=fJ Tp.Rg ["ring","thing"] X3 λ_ _ _ _ _ _ hr=>(aJ (bT (gc Fk.t2 Tp.d2 hr bV gk (aq (gv 1) (aq aH (aq (cN u5 (bB (gv 0) aH) aH) aF)))))
 aO)
 YD:=fJ Tp.Rh ["thing"] X4 λ_ _ _ _ _ _ hr=>(aJ (fH (jJ (iD (gc Fk.YB Tp.Rf hr bV gk (aq (gv 0) aF)))) (aJ Pn
 aO) aO)
 aO)
 YF:=fJ Tp.Ri Yq X5 λ_ _ _ _ _ _ hr=>(aJ (bT (tK (gc Fk.t3 Tp.d3 hr bV gk (aq (gv 2) (aq (bB (gv 0) aH) aF))) (tH (Jl rfl Tp.z6 gk (aq (rK (au (top 28)) Yq ["spot"] ["ring"] [1] rfl rfl rfl Dc Dc (lX 0) Dc (pU (gv 2)) (λ_ _ _ _ _ _=>(mj 0 Dc rfl Dc)) (λ_ _ _ _ _ _=>rJ) (λ_ _ _ _ _ _=>(zmQ (zly (bK 0)) (tH (gc Fk.YC Tp.Rg hr rM pZ (aq (bK 1) (aq (bK 0) aF))))))) aF)))))
 aO)
 YG:=fJ Tp.Rj ["web","ring","thing"] X6 λ_ _ _ _ _ _ hr=>(aJ (Jo (gc Fk.t8 Tp.d8 hr bV gk (aq (gv 0) aF)))
 (aJ (Jo (gc Fk.YD Tp.Rh hr bV gk (aq (gv 1) aF)))
 (aJ (fH (jJ (iD (gc Fk.YF Tp.Ri hr bV gk (aq (gv 0) (aq (gv 1) (aq (gv 2) aF)))))) (aJ Pn
 aO) aO)
 aO)))
 YH:=fJ Tp.Rm ["web","ring","known","thing"] X7 λ_ _ _ _ _ _ hr=>(aJ (Jo (gc Fk.YG Tp.Rj hr bV gk (aq (gv 0) (aq (gv 1) (aq (gv 2) aF)))))
 (aJ (bT (gc Fk.RK Tp.JV hr bV gk (aq (gc Fk.Yz Tp.Rb hr bV gk (aq (gv 0) (aq (gv 1) aF))) (aq (gv 2) (aq (gv 3) aF)))))
 aO))
 RK:=fJ Tp.JV ["board","known","thing"] X8 λ_ _ _ _ _ _ hr=>(aJ (fH (tL (Pg (iD (gc Fk.t3 Tp.d3 hr bV gk (aq (gv 2) (aq aH aF)))) (Pb (jf (oK hr) (bB (gv 2) aH) (V8 Tp.xu gk dk))))) (aJ (bT (tK (gc Fk.t6 Tp.d6 hr bV gk (aq (qu Tp.z4 gk (aq (gv 1) aF)) (aq (bB (gv 2) aH) aF))) (tH (gc Fk.YK Tp.Ro hr bV gk (aq (gv 0) (aq (gv 1) (aq (bB (gv 2) aH) aF)))))))
 aO) aO)
 (aJ (fH (tL (Pg (iD (gc Fk.t3 Tp.d3 hr bV gk (aq (gv 2) (aq aH aF)))) (Pb (jf (oK hr) (bB (gv 2) aH) (V8 Tp.sE gk dk))))) (aJ (bT (gc Fk.YJ Tp.Rn hr bV gk (aq (gv 0) (aq (gv 1) (aq (bB (gv 2) aH) (aq (bB (gv 2) aH) aF))))))
 aO) aO)
 (aJ (bT gU)
 aO)))
 YJ:=fJ Tp.Rn ["board","known","place","papers","spot"] X_ λ_ _ _ _ _ _ hr=>(aJ (fH (tL (u9 (jJ (iD (gc Fk.t6 Tp.d6 hr bV gk (aq (qu Tp.z4 gk (aq (gv 1) aF)) (aq (gv 2) aF))))) (zL (Jj (bB (gv 1) (gv 2)))))) (aJ (bT gU)
 aO) aO)
 (aJ (fH (jJ (iD (gc Fk.t3 Tp.d3 hr bV gk (aq (gv 3) (aq (qu Tp.z4 gk (aq (GZ Tp.ow (gv 0)) aF)) aF))))) (aJ (bT gU)
 aO) aO)
 (aJ (vd u_ rfl rfl (pU (GZ Tp.ow (gv 0))) (wU 4 nd rfl jl rfl) (aJ (fH (jJ (iD (gc Fk.RK Tp.JV hr bV gk (aq (gv 0) (aq (cN gW (cN gW (pR (gv 1) qp (oN (gv 2))) (cg (aq (gv 4) aF))) (pR (gv 1) (oN (cN gW (gv 2) aH)) qp)) (aq (bB (gv 3) (gv 4)) aF)))))) (aJ (bT gU)
 aO) aO)
 aO))
 (aJ (bT gU)
 aO))))
 YK:=fJ Tp.Ro Q9 Yb λ_ _ _ _ _ _ hr=>(aJ (Bv 3 (au (top 36)) Q9 ["end"] ["known"] [1] nd rfl jl rfl rfl rfl rfl Dc Dc (lX 0) Dc (pU (bB (GZ Tp.ow (gv 0)) (gv 2))) (λ_ _ _ _ _ _=>(mj 0 Dc rfl Dc)) (λ_ _ _ _ _ _=>(wQ (Jj (bB (bK 1) (bK 0))))) (λ_ _ _ _ _ _=>(bB (bK 1) (bK 0))))
 (aJ (gj 4 nd rfl jl rfl (Jk (Pa (bB (gv 1) (gv 2))) (GZ Tp.ow (gv 0)) (cg (aq (bB (gv 1) (gv 2)) aF))))
 (aJ (vd u_ rfl rfl (pU (gv 4)) (wU 5 nd rfl jc rfl) (aJ (fH (iD (Jl rfl Tp.z6 gk (aq (rK (au (top 36)) Q9 ["other"] ["board","spot"] [0,5] rfl rfl rfl Dc Dc (lX 0) Dc (pU (gv 3)) (λ_ _ _ _ _ _=>(mj 0 Dc rfl Dc)) (λ_ _ _ _ _ _=>rJ) (λ_ _ _ _ _ _=>(zmN Tp.ow Tp.RJ Fk.Yy hr (bK 1) (aq (bK 2) (aq (bK 0) aF))))) aF))) (aJ (bT gU)
 aO) aO)
 aO))
 (aJ (bT gU)
 aO))))
 YL:=fJ Tp.Rq ["_law_script","_law_k"] Yc λ_ _ _ _ _ _ hr=>(aJ (fH (jf (Br hr) (gv 1) (qu Tp.z4 gk (aq (gv 0) aF))) (aJ (bT (bB (gv 0) (gv 1)))
 aO) aO)
 (aJ (bT aH)
 aO))
 YM:=fJ Tp.Rr ["_law_cell_here","_law_left"] Yd λ_ _ _ _ _ _ hr=>(aJ (gj 1 nd rfl jl rfl (zkq rfl Tp.Yw gk (aq (gv 0) (aq (cN u5 aH (gv 0)) aF))))
 (aJ (bT (jg (aq (gv 1) (aq (zjg Tp.z1 gk (aq (u6 Wb (gv 1) (cN V9 aH aH)) aF)) aF))))
 aO))
 mL:=fJ Tp.mC ["_law_pen_here","_law_many","_law_left","_law_found","_law_stir"] Ye λ_ _ _ _ _ _ hr=>(aJ (fH (jf (oK hr) (bB (gv 0) aH) aH) (aJ (GC 2 3 rfl rfl nd rfl rfl jl jl rfl rfl (zgg Tp.Yv gk (aq (bB (gv 0) aH) (aq (gv 1) aF))))
 (aJ (Px (gv 0) aH (gv 2))
 (aJ (bT (gv 3))
 aO))) aO)
 (aJ (gj 4 nd rfl jl rfl (cN Gv (cN O9 (cN gW (cN Gv (bB (gv 0) aH) aH) aH) aH) aH))
 (aJ (gj 4 nd rfl jl rfl (cN Gv (cN gW (cN O9 (gv 4) (gv 4)) aH) aH))
 (aJ (Px (gv 0) aH (cN Gv (cN gW (cN O9 (gv 4) aH) aH) aH))
 (aJ (bT (cN Gv (cN zkn (bB (gv 0) aH) aH) (gv 1)))
 aO)))))
 YQ:=fJ Tp.Rt ["_law_thing"] zmO λ_ _ _ _ _ _ hr=>(aJ (bT (tK (tO rfl Tp.z0 gk (gv 0) (tM rfl Tp.z1 V4 gk dk)) (tH (V_ (tO rfl Tp.z0 gk (gv 0) (tM rfl Tp.z2 O8 gk dk))))))
 aO)
 YS:=fJ Tp.Ru ["_law_pen_here","_law_some"] Yg λ_ _ _ _ _ _ hr=>(aJ (gj 1 nd rfl jl rfl (jg (aq zJ (aq gU (aq gU (aq (O_ aH) (aq iZ (aq iZ (aq (cg aF) (aq (jg aF) (aq (cg (aq aH aF)) (aq (jg (aq aH aF)) (aq zi6 (aq (cg (aq aH (aq aH aF))) (aq (cN V9 aH aH) (aq (cg (aq aH (aq (cg aF) aF))) (aq (cg (aq iZ aF)) aF)))))))))))))))))
 (aJ (bT (bB (cN gW (gv 1) (jg (aq (cg (aq aH (aq (cg (aq (cg (aq aH (aq aH aF))) aF)) aF))) aF))) (gc Fk.mL Tp.mC hr bV gk (aq (gv 0) (aq aH aF)))))
 aO))
 YT:=fJ Tp.Rw Yr Yh λ_ _ _ _ _ _ hr=>(aJ (gj 2 nd rfl jc rfl (bB (jg (aq aH (aq aH (aq aH aF)))) (gc Fk.mL Tp.mC hr bV gk (aq (gv 0) (aq aH aF)))))
 (aJ (gj 3 nd rfl jl rfl (jg aF))
 (aJ (vd u_ rfl rfl (pW Tp.z8 gk (gv 1)) (wU 4 nd rfl jc rfl) (aJ (gj 3 nd rfl jl rfl (cN gW (gv 3) (rK (au (top 43)) Yr ["_law_other"] ["_law_one","_law_pen_here","_law_often"] [4,0,2] rfl rfl rfl Dc Dc (lX 0) Dc (zmP Tp.z8 gk (cN gW (gv 4) aH) (gv 1)) (λ_ _ _ _ _ _=>(mj 0 Dc rfl Dc)) (λ_ _ _ _ _ _=>(wQ (jf (Br hr) (gc Fk.mL Tp.mC hr rM pZ (aq (bK 2) (aq aH aF))) (bK 3)))) (λ_ _ _ _ _ _=>(cg (aq (bK 1) (aq (bK 0) aF)))))))
 aO))
 (aJ (bT (cg (aq (gv 1) (aq (Gx Tp.z3 gk (aq (gv 3) aF)) aF))))
 aO))))
 YW:=fJ Tp.Rx ["_law_k","_law_one","_law_other","_law_there"] zmT λ_ _ _ _ _ _ hr=>(aJ (gj 3 nd rfl jl rfl (zll Tp.Yu gk (aq (cN u5 (gv 1) (gv 2)) aF)))
 (aJ (bT (Wf rfl Tp.z9 gk (aq (gv 3) (aq (cN u5 (gv 0) (gv 3)) aF))))
 aO))
 YX:=fJ Tp.Ry Ys Yi λ_ _ _ _ _ _ hr=>(aJ (gj 3 nd rfl jc rfl (bB (jg (aq aH (aq aH (aq aH aF)))) (gc Fk.mL Tp.mC hr bV gk (aq (gv 0) (aq aH aF)))))
 (aJ (bT (Gx Tp.z3 gk (aq (rK (au (top 45)) Ys ["_law_place"] ["_law_pen_here","_law_often","_law_ring"] [0,3,2] rfl rfl rfl Dc Dc (lX 0) Dc (pW Tp.z8 gk (bB (gv 1) aH)) (λ_ _ _ _ _ _=>(mj 0 Dc rfl Dc)) (λ_ _ _ _ _ _=>rJ) (λ_ _ _ _ _ _=>(Jk (jf (Br hr) (gc Fk.mL Tp.mC hr rM pZ (aq (bK 1) (aq aH aF))) (bK 2)) (gc Fk.mL Tp.mC hr rM pZ (aq (bK 1) (aq (bB (bK 3) aH) aF))) zJ))) aF)))
 aO))
 RL:=fJ Tp.JZ Q_ Yj λ_ _ _ _ _ _ hr=>(aJ (gj 4 nd rfl jc rfl (jg aF))
 (aJ (vd u_ rfl rfl (pU (bB (gv 0) aH)) (zjX 5 6 rfl rfl nd rfl rfl jl jl rfl rfl) (aJ (fH (jf (Wc hr) (gv 3) (cg (aq (gv 5) (aq (gv 6) aF)))) (aJ (Jo (zj0 (gv 4) (bB (gv 2) (cN u5 (cN gW (gv 5) (gv 6)) (gv 3)))))
 aO) aO)
 aO))
 (aJ (gj 4 nd rfl jc rfl (rK (au (top 46)) Q_ ["_law_spot"] [] [] rfl rfl rfl Dc Dc (lX 0) Dc (pU (gv 4)) (λ_ _ _ _ _ _=>(mj 0 Dc rfl Dc)) (λ_ _ _ _ _ _=>(wQ (Jj (bK 0)))) (λ_ _ _ _ _ _=>(bK 0))))
 (aJ (Bv 7 (au (top 46)) Q_ ["_law_spot"] ["_law_near","_law_ring"] [4,1] nd rfl jl rfl rfl rfl rfl Dc Dc (lX 0) Dc (pW Tp.z8 gk (bB (gv 1) aH)) (λ_ _ _ _ _ _=>(mj 0 Dc rfl Dc)) (λ_ _ _ _ _ _=>(wQ (jf (oK hr) (Wh ["_law_spot","_law_near","_law_ring"] ["_law_one"] ["_law_ring","_law_spot"] [2,0] rfl rfl Dc Dc (lX 0) Dc (pU (bK 1)) (λ_ _ _ _ _ _=>(mj 0 Dc rfl Dc)) (λ_ _ _ _ _ _=>(wQ (jf (Br hr) (gc Fk.YW Tp.Rx hr rM pZ (aq (bB (bK 1) aH) (aq (bK 0) (aq (bK 2) aF)))) (bB (bK 1) aH)))) (λ_ _ _ _ _ _=>(bK 0))) (jg aF)))) (λ_ _ _ _ _ _=>(bK 0)))
 (aJ (bT (Jk (Pa (bB (gv 2) (gv 3))) (u6 (oK hr) (gv 7) (jg aF)) (u6 (Wd hr) (bB (gv 2) (gv 3)) (gv 7))))
 aO)))))
 RM:=fJ Tp.J1 ["_law_known_here","_law_place","_law_spot"] Yk λ_ _ _ _ _ _ hr=>(aJ (bT (cN gW (cN gW (pR (gv 0) qp (oN (gv 1))) (cg (aq (gv 2) aF))) (pR (gv 0) (oN (cN gW (gv 1) aH)) qp)))
 aO)
 RN:=fJ Tp.J2 ["_law_web_here","_law_ring","_law_known_here","_law_thing","_law_spot"] Yl λ_ _ _ _ _ _ hr=>(aJ (fH (tL (u9 (jJ (iD (tO rfl Tp.z0 gk (gv 3) (tM rfl Tp.z3 Bq gk dk)))) (u9 (jf (Wd hr) (qu Tp.z4 gk (aq (gv 3) aF)) (cg (aq aH (aq aH aF)))) (zL (jJ (iD (tO rfl Tp.z0 gk (bB (gv 3) aH) (tM rfl Tp.Yx zkv gk dk)))))))) (aJ (bT gU)
 aO) aO)
 (aJ (fH (tL (u9 (jJ (iD (gc Fk.YQ Tp.Rt hr bV gk (aq (bB (gv 3) aH) aF)))) (zL (zls Tp.z8 gk (bB (gv 3) aH) (bB (gv 0) aH))))) (aJ (bT gU)
 aO) aO)
 (aJ (fH (jf (oK hr) (qu Tp.z4 gk (aq (gv 3) aF)) aH) (aJ (bT (tK (u6 (oK hr) (bB (gv 3) aH) iZ) (tH (gc Fk.RL Tp.JZ hr bV gk (aq (gv 0) (aq (gv 1) (aq (gv 2) (aq (bB (gv 3) aH) aF))))))))
 aO) aO)
 (aJ (fH (tL (u9 (jf (Ji hr) (bB (gv 3) aH) iZ) (u9 (Jj (bB (gv 2) (bB (gv 3) aH))) (zL (jJ (iD (tO rfl Tp.z0 gk (bB (gv 3) aH) (tM rfl Tp.z3 Bq gk dk)))))))) (aJ (bT gU)
 aO) aO)
 (aJ (fH (jf (Ji hr) (qu Tp.z4 gk (aq (bB (gv 3) aH) aF)) (bB (gv 1) aH)) (aJ (bT gU)
 aO) aO)
 (aJ (vd u_ rfl rfl (pW Tp.z8 gk (bB (gv 1) aH)) (wU 4 nd rfl jl rfl) (aJ (fH (jJ (iD (gc Fk.RN Tp.J2 hr bV gk (aq (gv 0) (aq (gv 1) (aq (gc Fk.RM Tp.J1 hr bV gk (aq (gv 2) (aq (bB (gv 3) aH) (aq (gv 4) aF)))) (aq (bB (bB (gv 3) aH) (gv 4)) aF))))))) (aJ (bT gU)
 aO) aO)
 aO))
 (aJ (bT gU)
 aO)))))))
 J7:=fJ Tp.G8 JM Ym λ_ _ _ _ _ _ hr=>(aJ (Bv 5 (au (top 49)) JM ["_law_place"] ["_law_web_here","_law_ring","_law_known_here"] [1,2,3] nd rfl jl rfl rfl rfl rfl Dc Dc (lX 0) Dc (pW Tp.z8 gk (bB (gv 1) aH)) (λ_ _ _ _ _ _=>(mj 0 Dc rfl Dc)) (λ_ _ _ _ _ _=>(wQ (iD (gc Fk.RL Tp.JZ hr rM pZ (aq (bK 1) (aq (bK 2) (aq (bK 3) (aq (bK 0) aF)))))))) (λ_ _ _ _ _ _=>(bK 0)))
 (aJ (Bv 6 (au (top 49)) JM ["_law_place"] ["_law_known_here"] [3] nd rfl jl rfl rfl rfl rfl Dc Dc (lX 0) Dc (pW Tp.z8 gk (bB (gv 1) aH)) (λ_ _ _ _ _ _=>(mj 0 Dc rfl Dc)) (λ_ _ _ _ _ _=>(wQ (Pa (bB (bK 1) (bK 0))))) (λ_ _ _ _ _ _=>(bK 0)))
 (aJ (fH (jf (Ji hr) (gv 5) (jg aF)) (aJ (bT (cg (aq iZ (aq (bB (gv 5) (gc Fk.mL Tp.mC hr bV gk (aq (gv 0) (aq (qu Tp.z4 gk (aq (gv 5) aF)) aF)))) aF))))
 aO) aO)
 (aJ (fH (tL (u9 (jf (oK hr) (gv 6) (jg aF)) (zL (jf (oK hr) (gv 4) aH)))) (aJ (bT (cg (aq iZ (aq (gc Fk.mL Tp.mC hr bV gk (aq (gv 0) (aq (bB (gv 1) aH) aF))) aF))))
 aO) aO)
 (aJ (gj 7 nd rfl jc rfl (bB (gv 6) (gc Fk.mL Tp.mC hr bV gk (aq (gv 0) (aq (qu Tp.z4 gk (aq (gv 6) aF)) aF)))))
 (aJ (Bv 8 (au (top 49)) JM ["_law_spot"] ["_law_pen_here","_law_web_here","_law_ring","_law_known_here","_law_place","_law_deep"] [0,1,2,3,7,4] nd rfl jl rfl rfl rfl rfl Dc Dc (lX 0) Dc (pW Tp.z8 gk (bB (gv 2) aH)) (λ_ _ _ _ _ _=>(mj 0 Dc rfl Dc)) (λ_ _ _ _ _ _=>rJ) (λ_ _ _ _ _ _=>(gc Fk.J7 Tp.G8 hr rM pZ (aq (bK 1) (aq (bK 2) (aq (bK 3) (aq (gc Fk.RM Tp.J1 hr rM pZ (aq (bK 4) (aq (bK 5) (aq (bK 0) aF)))) (aq (cN u5 (bK 6) aH) aF))))))))
 (aJ (bT (cg (aq iZ (aq (gv 7) (aq (Gx Tp.z3 gk (aq (gv 8) aF)) aF)))))
 aO)))))))
 RP:=fJ Tp.J3 ["_law_pen_here","_law_paper_here","_law_odd_here","_law_at","_law_papers","_law_some"] Q7 λ_ _ _ _ _ _ hr=>(aJ (fH (tL (Pg (jf (oK hr) (bB (gv 1) aH) iZ) (Pb (jf zmR (gc Fk.mL Tp.mC hr bV gk (aq (gv 0) (aq aH aF))) aH)))) (aJ (gj 3 nd rfl jl rfl (gc Fk.mL Tp.mC hr bV gk (aq (gv 0) (aq (qu Tp.z4 gk (aq (bB (gv 1) aH) aF)) aF))))
 (aJ (gj 4 nd rfl jl rfl (Jm Tp.G9 gk (aq (bB (gv 1) aH) aF)))
 (aJ (Px (gv 4) (gv 3) (gc Fk.RP Tp.J3 hr bV gk (aq (gv 0) (aq (bB (gv 4) (gv 3)) (aq (gv 2) aF)))))
 (aJ (bT (cN gW (pR (gv 1) qp (oN aH)) (cg (aq (Gx Tp.z3 gk (aq (gv 4) aF)) aF))))
 aO)))) aO)
 (aJ (fH (jf (oK hr) (bB (gv 1) aH) iZ) (aJ (gj 5 nd rfl jl rfl (jg (aq (cg (aq (bB (gv 1) aH) (aq (gv 2) (aq (bB (gv 1) aH) aF)))) (aq (cN gW (pR (gv 1) qp (oN aH)) (cg (aq (pR (bB (gv 1) aH) qp (oN (O_ aH))) aF))) (aq (cN gW (pR (gv 1) qp (oN aH)) (cg (aq (zlw (bB (gv 1) aH)) aF))) (aq (Jm Tp.G9 gk (aq (gv 1) aF)) aF))))))
 (aJ (gj 5 nd rfl jl rfl (cN gW (gv 5) (jg (aq (cN gW (cg (aq iZ aF)) (pR (gv 1) (oN aH) qp)) (aq (cN gW (pR (gv 1) qp (oN aH)) (cg (aq (Jm Tp.G9 gk (aq (bB (gv 1) aH) aF)) aF))) (aq (bB (bB (gv 1) aH) aH) (aq (pR (gv 1) qp (oN aH)) aF)))))))
 (aJ (bT (bB (gv 5) (gc Fk.mL Tp.mC hr bV gk (aq (gv 0) (aq aH aF)))))
 aO))) aO)
 (aJ (gj 5 nd rfl jl rfl (jg (aq (cg (aq iZ (aq (cN gW (bB (gv 1) aH) aH) aF))) (aq (cg (aq iZ (aq gU aF))) (aq (cg (aq iZ (aq zJ aF))) (aq (cg (aq iZ (aq (bB (gv 1) aH) aF))) (aq (Jm Tp.G9 gk (aq (gv 1) aF)) (aq (gv 2) (aq (cN gW (gv 1) (cg (aq aH aF))) aF)))))))))
 (aJ (bT (bB (cN gW (gv 5) (jg (aq (cg (aq iZ (aq (bB (gv 1) aH) (aq (cg (aq (gv 1) aF)) aF)))) (aq (cg (aq iZ (aq (O_ aH) aF))) aF)))) (gc Fk.mL Tp.mC hr bV gk (aq (gv 0) (aq aH aF)))))
 aO))))
 RQ:=fJ Tp.J5 ["_law_web_here","_law_ring","_law_known_here","_law_thing","_law_kept","_law_due","_law_turn","_law_found"] Yn λ_ _ _ _ _ _ hr=>(aJ (gj 4 nd rfl jl rfl (Wu hr Tp.RB gk (aq (gv 3) aF)))
 (aJ (gj 5 nd rfl jl rfl (gc Fk.RN Tp.J2 hr bV gk (aq (gv 0) (aq (gv 1) (aq (gv 2) (aq (gv 3) aF))))))
 (aJ (vd u_ rfl rfl (pW Tp.z8 gk aH) (wU 6 nd rfl jl rfl) (aJ (gj 7 nd rfl jl rfl (gc Fk.YH Tp.Rm hr bV gk (aq (gv 0) (aq (gv 1) (aq (gv 2) (aq (gv 3) aF))))))
 (aJ (fH (tL (u9 (jJ (iD (tO rfl Tp.z0 gk (gv 7) (tM rfl Tp.z2 O8 gk dk)))) (zL (jf (Ji hr) (gv 7) (gv 5))))) (aJ (bT gU)
 aO) aO)
 aO)))
 (aJ (bT (u6 (oK hr) (Wu hr Tp.RB gk (aq (gv 3) aF)) (gv 4)))
 aO))))
 YZ:=fJ Tp.J6 Yt Yo λ_ _ _ _ _ _ hr=>(aJ (vd u_ rfl rfl (pU (jg (aq (cg (aq iZ (aq aH aF))) (aq (cg (aq iZ (aq aH aF))) (aq (cg (aq iZ (aq aH (aq (cg (aq (cg (aq iZ (aq aH aF))) (aq (cg (aq iZ (aq aH aF))) aF))) aF)))) (aq zJ (aq (cg (aq iZ aF)) aF))))))) (wU 1 nd rfl jl rfl) (aJ (fH (jJ (iD (gc Fk.RQ Tp.J5 hr bV gk (aq (cg (aq aH (aq (cg (aq (cg (aq aH (aq aH aF))) aF)) aF))) (aq (cg (aq aH (aq aH aF))) (aq (cg (aq zJ (aq zJ aF))) (aq (gv 1) aF))))))) (aJ (bT gU)
 aO) aO)
 aO))
 (aJ (vd u_ rfl rfl (pU (cN gW (jg (aq (gc Fk.YL Tp.Rq hr bV gk (aq (gv 0) (aq aH aF))) aF)) (pR (gv 0) (oN aH) (oN aH)))) (wU 2 nd rfl jl rfl) (aJ (gj 3 nd rfl jc rfl (gc Fk.YM Tp.Rr hr bV gk (aq (gv 2) aF)))
 (aJ (gj 4 nd rfl jl rfl (gc Fk.YT Tp.Rw hr bV gk (aq (gv 3) (aq (cN gW aH (gc Fk.mL Tp.mC hr bV gk (aq (gv 3) (aq aH aF)))) aF))))
 (aJ (gj 5 nd rfl jl rfl (bB (jg (aq (cg (aq aH (aq aH aF))) (aq (cg (aq aH (aq aH aF))) (aq (cg (aq aH (aq aH aF))) (aq (cg (aq aH (aq aH aF))) (aq (cg (aq aH (aq aH aF))) (aq (cg (aq aH (aq aH aF))) (aq (cg (aq aH (aq aH aF))) aF)))))))) (gc Fk.mL Tp.mC hr bV gk (aq (gv 3) (aq aH aF)))))
 (aJ (gj 6 nd rfl jl rfl (gc Fk.YX Tp.Ry hr bV gk (aq (gv 3) (aq (gv 4) (aq (gv 5) aF)))))
 (aJ (gj 7 nd rfl jc rfl (jg (aq (gc Fk.J7 Tp.G8 hr bV gk (aq (gv 3) (aq (gv 4) (aq (gv 5) (aq (gv 6) (aq aH aF)))))) (aq (gc Fk.J7 Tp.G8 hr bV gk (aq (gv 3) (aq (gv 4) (aq (gv 5) (aq (cN zkY (cg (aq zJ aF)) (bB (gv 4) aH)) (aq aH aF)))))) aF))))
 (aJ (gj 8 nd rfl jc rfl (gc Fk.YS Tp.Ru hr bV gk (aq (gv 3) aF)))
 (aJ (vd u_ rfl rfl (pU (cN gW (cN gW (gv 7) (jg (aq (gv 8) aF))) (rK (au (top 52)) Yt ["_law_turn"] ["_law_pen_here","_law_papers","_law_odd_here"] [3,7,8] rfl rfl rfl Dc Dc (lX 0) Dc (pW Tp.z8 gk aH) (λ_ _ _ _ _ _=>(mj 0 Dc rfl Dc)) (λ_ _ _ _ _ _=>rJ) (λ_ _ _ _ _ _=>(gc Fk.RP Tp.J3 hr rM pZ (aq (bK 1) (aq (bB (bK 2) aH) (aq (bK 3) aF)))))))) (wU 1 nd rfl jl rfl) (aJ (fH (jJ (iD (gc Fk.RQ Tp.J5 hr bV gk (aq (gv 4) (aq (gv 5) (aq (gv 6) (aq (gv 1) aF))))))) (aJ (bT gU)
 aO) aO)
 aO))
 aO))))))))
 (aJ (bT gU)
 aO)))
theorem Y0(Tp:Top K mg):∀k,Fs P w K mg base k
 |0=>⟨dG,dG,dG,dG,dG,dG,dG,dG,dG,dG,zgM,dG,dG,dG,dG,dG,dG,dG,dG,dG,dG,dG,dG,dG,dG,dG,dG,dG,dG,dG,dG,dG,dG,dG,dG,dG,dG⟩
 |k+1=>ziB Tp (Y0 Tp k)
end
theorem all_mk{l:PySem.W.OpenLaw}{w:World}{K:W.Frag}{h:Heap}{mg:Str->Option Value}{fa:Addr}(hm:∀ns:List Int,ns.length<=63->∃s',call ao T 60 true 42 [.d (.fl (ns.map D.int))] []=some (.ok (.d (.bl true)),s'))
  (S:oW fs ms xs lk bd K) (X:K.In h) (G:h.Ns mainGlobals mg) (RT:mg "law"=some (.ref fa)) :
  ∃fd:FuncData,(∀(s:Shared) (u:Value),BindsTo s fd ⟨[u],[]⟩ [("_law_script",u)])/\∀base:Heap,K.In base->base.Ns mainGlobals mg->bQ l.prog w K mg base (dZ l.prog w) true 60 fa fd ["_law_script"] (rE K):=by
 have Tp:Top K mg:=zje S X G;have e:=RT.symm.trans Tp.J6.m;cases e;exact⟨_,zO Tp.J6.f (λ_ _ _ _ _ _ _=>rfl),λbase _ _=>(Y0 Tp 60).YZ.imp (ziM hm)⟩
end cY
namespace cY
open PySem Mi
section
variable {al:Bool}{n k:Nat}{es:Nat->List Int}{A:Int->Int->Bool}{F:Fr}{p:Nat}{x y:Int}
theorem zle{k':Nat}(hx:0<=x/\x<k)(hy:0<=y/\y<k):W (call ao T (k'+1) true 12 [.d (Qk al n k es A),.d (.int x),.d (.int y)]) [] λv s=>v=.d (.bl (A x y)):=by
 refine W.call XM rfl ?_;unfold Qu Qk;refine Y ?_;refine cL (GX hx.1 (zli hx.1 hx.2)) ?_;refine Y ?_;refine cL (GX hy.1 (Ql hy.1 hy.2)) ?_;exact Y trivial
end
theorem zf7{k:Nat}{n i:Int}{ps:List (Int×Int)}(h:Web n ps):W (call ao T (k+1) true 9 [.d (bL n ps),.d (.int i)]) [] λv s=>v=.d (.tup ((aB i ps).map .int)):=by
 refine W.call XD rfl ?_;unfold b9 bL;have hl:(ps.map gq).length<=100:=by rw[cJ];have:=h.len;have:=h.h8;lia
 have hs:(100:Nat)<=sizeLine:=by decide
 refine Y ?_;refine rR (l:=ps) (f:=gq) (λp=>(endOf i p).map .int) (by rw[cJ] at hl;lia) ?_ (λp hp=>?_) ?_
 ·refine Y ?_;exact⟨rfl,rfl⟩
 ·obtain⟨a,b⟩:=p;refine Y ?_;refine⟨rfl,λhb=>?_,λhb=>?_⟩
  ·refine Y ?_;refine W.ite (λh1=>?_) (λh1=>?_)
   ·refine Y ?_;refine⟨rfl,_,rfl,?_⟩;have h1:a=i:=by simpa using h1
    simp[endOf,h1]
   ·refine Y ?_;refine⟨rfl,_,rfl,?_⟩;simp[nP] at h1 hb;rcases hb with hb|hb
    ·exact absurd hb h1
    ·simp[endOf,h1,hb]
  ·simp[nP] at hb;simp[endOf,hb]
 ·have he:ps.filterMap (λp=>(endOf i p).map D.int)=(aB i ps).map D.int:=by unfold aB;rw[KH]
  rw[he];refine Y ?_;refine GK (zfN (zfY ?_ (W2 h i))) ?_
  ·have:=sH (endOf i) ps;have:=h.len;have:=h.h8;unfold aB
   lia
  exact Y trivial
section
variable {n k d:Int}{ps:List (Int×Int)}
theorem zfw{k':Nat}(h:Web n ps):W (call ao T (k'+2) true 10 [.d (bL n ps)]) [] λv s=>v=.d (.fl (xq n.toNat λi=>aB i ps)):=by
 refine W.call XH rfl ?_;unfold b10;have tU:(100:Nat)<=sizeLine:=by decide
 have h1:=h.h1;have h8:=h.h8;refine Y ?_;refine rR (l:=List.range (n-0).toNat) (f:=λ(j:Nat)=>.int (0+j)) (λ(i:Nat)=>some (.tup ((aB i ps).map .int))) (by rw[jO];lia) ?_ (λj hj=>?_) ?_
 ·unfold bL;refine Y ?_;refine⟨by rw[iH gV gV,iH gV gV];rfl,?_⟩;exact⟨rfl,rfl⟩
 ·refine Y ?_;refine⟨rfl,λ_=>?_,λhb=>by cases hb⟩;refine Y ?_;refine W.c0 (zf7 h) ?_;exact⟨rfl,_,rfl,by rw[show (0:Int)+j=j by lia]⟩
 ·rw[show (List.range (n-0).toNat).filterMap (λ(i:Nat)=>some (D.tup ((aB i ps).map .int)))=xq n.toNat λi=>aB i ps by rw[BK,show n-0=n by lia];rfl];exact Y trivial
theorem zj1{k':Nat}{al:Bool}{A:Int->Int->Bool}(h:Web n ps){m:Nat}(hm:m<=24):W (call ao T (k'+3) true 11 [.d .any,.d (bL n ps),.d (.fl (rY m A)),.d (.bl al)]) [] λv s=>v=.d (.tup [.fl (xq n.toNat λi=>aB i ps),.tup ((jx m).map .int),.fl (rY m A),.bl al]):=by
 refine W.call XJ rfl ?_;unfold Qt;refine Y ?_;refine W.c0 (zfw h) ?_;have em:(rY m A).length=m:=by unfold rY;simp
 refine WD (WT (ds:=[.int ((rY m A).length:Nat)]) rfl (cL (d:=.tup ((jx m).map .int)) (by rw[em];exact zmb gV) ?_));exact Y trivial
theorem zhP{k':Nat}(h:Web n ps)(hd:1<=d)(xG:d<=k)(hk:k<=24):W (call ao T (k'+4) true 18 [.d (bL n ps),.d (bx k d)]) [] λv s=>v=.d (tQ n.toNat k.toNat (λi=>aB i ps) (cI k d)):=by
 refine W.call XQ rfl ?_;unfold Qv bx;have tU:(100:Nat)<=sizeLine:=by decide
 have e0:(k-0).toNat=k.toNat:=by lia
 refine Y ?_;refine rR (l:=List.range (k-0).toNat) (f:=λ(j:Nat)=>.int (0+j)) (λ(j:Nat)=>some (.bl ((λj:Int=>decide (d<=j/\d<=k-j)) j))) (by rw[jO];lia) ?_ (λj hj=>?_) ?_
 ·refine Y ?_;refine⟨by rw[iH gV gV,iH gV gV];rfl,?_⟩;exact⟨rfl,rfl⟩
 ·refine Y ?_;refine⟨rfl,λ_=>?_,λhb=>by cases hb⟩;refine Y ?_;refine⟨rfl,_,rfl,?_⟩
  congr 2
  rw[Cp]
  split<;>lia
 ·rw[BK,e0];refine Y ?_;refine W.mk (vs:=[.d (bL n ps),.d (.fl (rY k.toNat (cI k d))),.d (.bl true)]) ?_ rfl (zj1 h gV);refine Y ?_;refine rR (l:=List.range (k-0).toNat) (f:=λ(j:Nat)=>.int (0+j)) (λ(a:Nat)=>some (.fl ((List.range k.toNat).map λ(b:Nat)=>.bl (cI k d a b)))) (by rw[jO];lia) ?_ (λa ha=>?_) ?_
  ·refine Y ?_;refine⟨by rw[iH gV gV,iH gV gV];rfl,?_⟩;exact⟨rfl,rfl⟩
  ·have ha:=nJ.mp ha;refine Y ?_;refine⟨rfl,λ_=>?_,λhb=>by cases hb⟩;refine Y ?_;refine rR (l:=List.range (k-0).toNat) (f:=λ(j:Nat)=>.int (0+j)) (λ(b:Nat)=>some (.bl (cI k d a b))) (by rw[jO];lia) ?_ (λb hb=>?_) ?_
   ·refine Y ?_;refine⟨by rw[iH gV gV,iH gV gV];rfl,?_⟩;exact⟨rfl,rfl⟩
   ·have hb:=nJ.mp hb;refine Y ?_;refine⟨rfl,λ_=>?_,λhb=>by cases hb⟩;refine Y ?_;by_cases c:(0:Int)<=(0+a:Int)-(0+b)
    ·refine cL (GX c (Ql (f:=λj=>decide (d<=j/\d<=k-j)) c gV)) ?_;refine⟨rfl,_,rfl,?_⟩;unfold cI
     congr 2
     rw[Cp,Jr hd]
     lia
    ·refine cL (zl9 (x:=.bl (decide (d<=a-b+k/\d<=k-(a-b+k)))) gV (by rw[cJ,jO];lia) ?_) ?_
     ·rw[cJ,jO];refine(Ql (f:=λj=>decide (d<=j/\d<=k-j)) gV gV).trans ?_
      congr 3
      simp
      lia
     ·refine⟨rfl,_,rfl,?_⟩;unfold cI
      congr 2
      rw[Cp,Jr hd]
      lia
   ·rw[BK,e0];refine Y ?_;exact⟨rfl,_,rfl,rfl⟩
  ·rw[BK,e0];refine Y ?_;exact⟨rfl,rfl⟩
end
theorem zh9{k:Nat}{i:Int}:W (call ao T (k+1) true 1 [.d (.int i)]) [] λv s=>v=.d (.bl true):=W.eq (a:=.d (.bl true)) (s':=[]) rfl rfl
theorem RV{k:Nat}{a b:D}:W (call ao T (k+1) true 3 [.d (.tup [a,b]),.d (.int 2)]) [] λv s=>v=.d (.bl true):=W.eq (a:=.d (.bl true)) (s':=[]) rfl rfl
theorem dM{k:Nat}{i a b:Int}:W (call ao T (k+2) true 2 [.d (.int i),.d (.int a),.d (.int b)]) [] λv s=>v=.d (.bl (decide (a<=i/\i<=b))):=by
 refine W.call Xr rfl ?_;unfold b2;refine Y ?_;refine W.c0 zh9 ?_;refine Y ?_;refine W.ite (λh1=>?_) (λh1=>?_)
 ·refine Y ?_;have:=lA h1;simp[this]
 ·refine Y ?_;simp at h1;have:¬(a<=i/\i<=b):=by lia
  simp[this]
theorem zkX{k:Nat}{i:Int}(h1:1<=i)(h2:i<=8):W (call ao T (k+3) true 5 [.d (.int i)]) [] λv s=>v=.d (.bl true):=by
 refine W.call Xx rfl ?_;unfold b5;refine Y ?_;exact vA rfl (dM.imp λv s e=>⟨_,e,by rw[gA (And.intro h1 h2)]⟩)
theorem Y4{k:Nat}{n i:Int}:W (call ao T (k+3) true 6 [.d (.int n),.d (.int i)]) [] λv s=>v=.d (.bl (decide (0<=i/\i<n))):=by
 refine W.call Q6 rfl ?_;unfold b6;refine Y ?_;exact vA rfl (dM.imp λv s e=>⟨_,e,by rw[Cp.mpr (show 0<=i/\i<=n-1↔0<=i/\i<n by lia)]⟩)
theorem zlR{k:Nat}{n:Int}{p:Int×Int}(h:0<=p.1/\p.1<p.2/\p.2<n):W (call ao T (k+4) true 7 [.d (.int n),.d (gq p)]) [] λv s=>v=.d (.bl true):=by
 obtain⟨a,b⟩:=p;obtain⟨h1,h2,h3⟩:=h;unfold gq;dsimp only at h1 h2 h3 ⊢;refine W.call Xy rfl ?_;unfold b7;refine Y ?_;refine W.c0 RV ?_;refine Y ?_;refine W.c0 Y4 ?_;rw[gA (show 0<=a/\a<n by lia)];refine Y ?_;refine W.c0 Y4 ?_;rw[gA (show 0<=b/\b<n by lia)];refine Y ?_;rw[gA h2]
theorem ziJ{k:Nat}{n:Int}{ps:List (Int×Int)}(h:Web n ps):W (call ao T (k+5) true 4 [.d (bL n ps)]) [] λv s=>v=.d (.bl true):=by
 refine W.call Xw rfl ?_;unfold b4 bL;have hl:(ps.map gq).length<=100:=by rw[cJ];have:=h.len;have:=h.h8;lia
 have hs:(100:Nat)<=sizeLine:=by decide
 refine Y ?_;refine W.c0 RV ?_;refine Y ?_;refine W.c0 (zkX h.h1 h.h8) ?_;refine Y ?_;refine WW (c:=ps.map gq) (λ_=>.bl true) gV ?_ (λx hx=>?_) ?_
 ·refine Y ?_;exact⟨rfl,rfl⟩
 ·obtain⟨p,hp,rfl⟩:=sU.mp hx;refine Y ?_;exact vA rfl ((zlR (h.tie p hp)).imp λv s e=>⟨_,e,rfl,rfl⟩)
 ·refine Y ?_;refine cL (WY ?_) ?_
  ·intro x hx;obtain⟨_,_,e⟩:=sU.mp hx;exact e.symm
  refine Y ?_;refine WW (c:=List.zipWith (λ(p q:D)=>D.tup [p,q]) (ps.map gq) ((ps.map gq).drop 1)) (λ_=>.bl true) (by rw[List.length_zipWith];lia) ?_ (λx hx=>?_) ?_
  ·refine Y ?_;rw[Qc];exact⟨rfl,rfl⟩
  ·obtain⟨p,q,rfl,hpq⟩:=W0 h.inc x hx;refine Y ?_;rw[zlC hpq];exact⟨rfl,rfl⟩
  ·refine Y ?_;refine cL (WY ?_) ?_
   ·intro x hx;obtain⟨_,_,e⟩:=sU.mp hx;exact e.symm
   rfl
theorem zgy{k:Nat}{n:Int}{ps:List (Int×Int)}(h:Web n ps):W (call ao T (k+6) true 8 [.d (bL n ps)]) [] λv s=>∃d,v=.d d:=by
 refine W.call Xz rfl ?_;unfold b8;refine Y ?_;refine W.c0 (ziJ h) ?_;refine Y ?_;exact⟨_,rfl⟩
theorem zfR{k':Nat}{k d:Int}(hd:1<=d)(xG:d<=k)(hk:k<=24):W (call ao T (k'+3) true 19 [.d (bx k d)]) [] λv s=>v=.d (.bl true):=by
 refine W.call XR rfl ?_;unfold Qw bx;refine Y ?_;refine W.c0 RV ?_;refine Y ?_;refine W.c0 dM ?_;rw[gA (show 1<=k/\k<=24 by lia)];refine Y ?_;refine W.c0 dM ?_;rw[gA (show 1<=d/\d<=k by lia)]
theorem zfu{k':Nat}{k d:Int}(hd:1<=d)(xG:d<=k)(hk:k<=24):W (call ao T (k'+4) true 21 [.d (bx k d)]) [] λv s=>∃d,v=.d d:=by
 refine W.call X4 rfl ?_;unfold Qy;refine Y ?_;refine W.c0 (zfR hd xG hk) ?_;refine Y ?_;exact⟨_,rfl⟩
theorem Y5{k:Nat}{d:D}(h:ju d=true):W (call ao T (k+1) true 31 [.d d]) [] λv s=>v=.d (.bl (whB d)):=by
 cases d with
 |exc _ _=>cases h
 |ob _ _=>cases h
 |any=>cases h
 |_=>exact W.eq (a:=_) (s':=[]) rfl rfl
theorem xH{k:Nat}{d:D}{n:Int}(h:ju d=true):W (call ao T (k+1) true 3 [.d d,.d (.int n)]) [] λv s=>v=.d (.bl (lg n d)):=by
 cases d with
 |exc _ _=>cases h
 |ob _ _=>cases h
 |any=>cases h
 |tup xs=>
  refine W.call Xu rfl ?_;unfold b3;refine Y ?_;show Xv.d (D.bl (id (((xs.length:Nat):Int)==n)))=_
  congr 2
 |_=>exact W.eq (a:=_) (s':=[]) rfl rfl
theorem Y6{k:Nat}{d:D}{a b:Int}(h:ju d=true):W (call ao T (k+2) true 2 [.d d,.d (.int a),.d (.int b)]) [] λv s=>v=.d (.bl (vC a b d)):=by
 cases d with
 |exc _ _=>cases h
 |ob _ _=>cases h
 |any=>cases h
 |int i=>exact dM
 |_=>exact W.eq (a:=_) (s':=[]) rfl rfl
theorem Y7{k:Nat}{d:D}{n:Int}(h:ju d=true):W (call ao T (k+3) true 6 [.d (.int n),.d d]) [] λv s=>v=.d (.bl (vC 0 (n-1) d)):=by
 refine W.call Q6 rfl ?_;unfold b6;refine Y ?_;exact vA rfl ((Y6 h).imp λv s e=>⟨_,e,rfl⟩)
theorem zgP{k':Nat}{k a b:Int}:W (call ao T (k'+1) true 34 [.d (.int k),.d (.int a),.d (.int b)]) [] λv s=>v=.d (.int (gJ k a b)):=W.eq (a:=.d (.int (gJ k a b))) (s':=[]) rfl rfl
section
variable {n k d:Int}{ps:List (Int×Int)}{ks:List (Option Int)}{p:Int}
theorem zmd{ks:List (Option Int)}(es:List Int):es.filterMap (λe=>((ks[e.toNat]?).join).map D.int)=(gM ks es).map .int:=by
 unfold gM;rw[KH]
theorem ziz{k':Nat}(h:Web n ps)(hd:1<=d)(hk:k<=24)(q:Kn n k ks)(hp:0<=p/\p<n):W (call ao T (k'+2) true 27 [.d (tQ n.toNat k.toNat (λi=>aB i ps) (cI k d)),.d (.tup (ks.map cD)),.d (.int p)]) [] λv s=>v=.d (.bl (p8 k d ps ks p)):=by
 have tU:(100:Nat)<=sizeLine:=by decide
 have h8:=h.h8;have hql:=q.len;have B:=zke h hd hk;obtain⟨c,ec⟩:=BW q hp.1 hp.2;have hel:=B.len p.toNat gV;have J8:((p.toNat:Nat):Int)=p:=by lia
 rw[J8] at hel;have est:p8 k d ps ks p=(jM k c).all λx=>!(lu k d (gM ks (aB p ps)) x):=by
  unfold p8;rw[ec];cases c with
  |none=>rfl
  |some i=>simp[jM]
 have hL:∀x∈jM k c,0<=x/\x<(k.toNat:Nat):=λx hx=>by
  cases c with
  |none=>have:=rW.mp hx;lia
  |some i=>have:=q.lo i (dH ec);have:x=i:=xT.mp hx;lia
 have hN:∀x∈gM ks (aB p ps),0<=x/\x<(k.toNat:Nat):=λx hx=>by
  obtain⟨e,he,e2⟩:=qw.mp hx;cases e3:ks[e.toNat]? with
  |none=>rw[e3] at e2;cases e2
  |some c=>rw[e3] at e2;cases (show c=some x from e2);have:=q.lo x (dH e3);lia
 have hNl:(gM ks (aB p ps)).length<=(aB p ps).length:=sH _ _;refine W.call Yb rfl ?_;unfold QG;have ebo:tQ n.toNat k.toNat (λi=>aB i ps) (cI k d)=.ob 0 [.fl (xq n.toNat λi=>aB i ps),.tup ((jx k.toNat).map .int),.fl (rY k.toNat (cI k d)),.bl true]:=rfl;refine Y ?_;refine rR (l:=aB p ps) (f:=D.int) (λe=>((ks[e.toNat]?).join).map D.int) gV ?_ (λe he=>?_) ?_
 ·refine Y ?_;refine cL (GX hp.1 (zl5 gV)) ?_;rw[J8];refine Y ?_;exact⟨rfl,rfl⟩
 ·have hq:=Qd h he;obtain⟨c,e3⟩:=BW q hq.1 hq.2;rw[e3];refine Y ?_;refine cL (pY hq.1 (tR e3)) ?_;refine Y ?_;rw[Jy];refine⟨rfl,λhb=>?_,λhb=>?_⟩
  ·refine Y ?_;refine cL (pY hq.1 (tR e3)) ?_;cases c with
   |none=>cases hb
   |some i=>exact⟨rfl,_,rfl,rfl⟩
  ·cases c with
   |none=>rfl
   |some i=>cases hb
 rw[zmd];refine Y ?_;refine cL (pY hp.1 (tR ec)) ?_;refine Y ?_;refine W.imp (P:=λx s1=>x=.d (.tup ((jM k c).map .int))/\s1=[]) ?_ ?_
 ·cases c with
  |none=>
   refine Y ?_;exact⟨rfl,rfl⟩
  |some i=>
   refine Y ?_;refine cL (pY hp.1 (tR ec)) ?_;refine Y ?_;exact⟨rfl,rfl⟩
 rintro x s1 ⟨rfl,rfl⟩;refine Y ?_;refine Qf (λi J s=>s=[]/\(∃a5,J=[some (.d (tQ n.toNat k.toNat (λi=>aB i ps) (cI k d))),some (.d (.tup (ks.map cD))),some (.d (.int p)),some (.d (.fl ((gM ks (aB p ps)).map .int))),some (.d (.tup ((jM k c).map .int))),a5])/\∀x∈(jM k c).take i,lu k d (gM ks (aB p ps)) x=false) ⟨rfl,⟨_,rfl⟩,by simp⟩ (λi x J s e hI=>?_) (λJ s hI=>?_)
 ·obtain⟨rfl,⟨a5,rfl⟩,hI⟩:=hI;rw[iz] at e;obtain⟨y,ey,rfl⟩:=jz.mp e;have hy:=hL y (dH ey);refine Y ?_;refine rR (l:=gM ks (aB p ps)) (f:=D.int) (λo=>some (.bl (cI k d y o))) gV ?_ (λo ho=>?_) ?_
  ·refine Y ?_;exact⟨rfl,rfl⟩
  ·refine Y ?_;refine⟨rfl,λ_=>?_,λhb=>by cases hb⟩;refine Y ?_;refine W.cm rfl rfl (W.c0 (zle (n:=n.toNat) (es:=λi=>aB i ps) hy (hN o ho)) ?_);exact⟨rfl,_,rfl,rfl⟩
  rw[BK];refine Y ?_;refine cL W6 ?_;have eo:((gM ks (aB p ps)).all λo=>cI k d y o)=lu k d (gM ks (aB p ps)) y:=rfl;rw[eo];cases ho:lu k d (gM ks (aB p ps)) y
  ·refine Y ?_;refine .inl ⟨_,rfl,rfl,⟨_,rfl⟩,λx hx=>?_⟩;rw[Cz,ey] at hx;rcases jh.mp hx with hx|hx
   ·exact hI x hx
   ·have:x=y:=by simpa using hx
    rw[this];exact ho
  ·refine Y ?_;refine .inr ⟨_,rfl,?_⟩;show Xv.d (.bl false)=_;rw[est]
   congr 2
   symm
   rw[Cj];intro kh;have:=gb.mp kh y (dH ey);rw[ho] at this;cases this
 ·obtain⟨rfl,⟨a5,rfl⟩,hI⟩:=hI;rw[cJ,Ah] at hI;refine Y ?_;show Xv.d (.bl true)=_;rw[est]
  congr 2
  symm
  rw[gb];intro x hx;rw[hI x hx];rfl
theorem Y8{k':Nat}(h:Web n ps)(hd:1<=d)(nD:1<=k)(hk:k<=24)(q:Kn n k ks)(hp:0<=p/\p<n):W (call ao T (k'+2) true 36 [.d (bL n ps),.d (bx k d),.d (.tup (ks.map cD)),.d (.int p)]) [] λv s=>v=.d (.bl (p8 k d ps ks p)):=by
 have tU:(100:Nat)<=sizeLine:=by decide
 have h8:=h.h8;have hpl:=h.len;have hql:=q.len;obtain⟨c,ec⟩:=BW q hp.1 hp.2;refine W.call Yj rfl ?_;unfold QV;have ew:bL n ps=.tup [.int n,.tup (ps.map gq)]:=rfl;have er:bx k d=.tup [.int k,.int d]:=rfl;refine Y ?_;refine BJ (λi J s=>s=[.lst ((jN ks p (ps.take i)).map cD)]/\∃a5 a6 a7,J=[some (.d (bL n ps)),some (.d (bx k d)),some (.d (.tup (ks.map cD))),some (.d (.int p)),some (.l 0),a5,a6,a7]) ⟨rfl,_,_,_,rfl⟩ (λi x J s e hI=>?_) (λJ s hI=>?_)
 ·obtain⟨rfl,a5,a6,a7,rfl⟩:=hI;rw[iz] at e;obtain⟨⟨a,b⟩,ey,rfl⟩:=jz.mp e;have ht:=h.tie _ (dH ey);dsimp only at ht;have etk:ps.take (i+1)=ps.take i++[(a,b)]:=by rw[Cz,ey];rfl
  have hnl:(jN ks p (ps.take i)).length<=ps.length:=jP (sH _ _) (by rw[pq];lia);unfold gq;refine Y ?_;refine WS.ite (λhb=>?_) (λhb=>?_)
  ·have hb:a=p\/b=p:=by simpa using hb
   have hb':p=a\/p=b:=by lia
   obtain⟨c2,Y9⟩:=BW q (p:=a+b-p) gV gV;refine Y ?_;refine cL (pY gV (tR Y9)) ?_;refine Y ?_;refine⟨by rw[cJ];lia,?_⟩;refine Y ?_;refine⟨_,rfl,?_,_,_,_,rfl⟩;rw[etk];show [SO.lst _]=_
   congr 2
   unfold jN;rw[Aa,xX]
   congr 1
   simp only[xP,List.filterMap_nil];rw[if_pos hb',Y9];rfl
  ·have hb:¬(p=a\/p=b):=λz=>hb (by simp;lia);refine Y ?_;refine⟨_,rfl,?_,_,_,_,rfl⟩;rw[etk]
   congr 3
   unfold jN;rw[Aa];simp[hb]
 obtain⟨rfl,a5,a6,a7,rfl⟩:=hI;rw[cJ,Ah];have hnl:(jN ks p ps).length<=ps.length:=sH _ _;have J9:(vD (jN ks p ps)).length<=(jN ks p ps).length:=sH _ _;refine Y ?_;refine W5 (l:=jN ks p ps) (f:=cD) [.lst ((jN ks p ps).map cD)] (λc=>c.map D.int) gV ?_ (λc hc=>?_) ?_
 ·refine Y ?_;refine Xg (c:=(jN ks p ps).map cD) rfl ?_;refine⟨rfl,rfl,λi=>?_⟩;rfl
 ·cases c with
  |none=>
   refine Y ?_;exact⟨rfl,λhb=>(by cases hb),λ_=>rfl⟩
  |some i=>
   refine Y ?_;refine⟨rfl,λ_=>?_,λhb=>(by cases hb)⟩;refine Y ?_;exact⟨rfl,_,rfl,rfl⟩
 have ek:(jN ks p ps).filterMap (λc=>c.map D.int)=(vD (jN ks p ps)).map .int:=by
  unfold vD;rw[KH];rfl
 rw[ek];refine Ww ?_;refine Y ?_;have e0:(k-0).toNat=k.toNat:=by lia
 refine rR (l:=List.range (k-0).toNat) (f:=λ(j:Nat)=>.int (0+j)) (λ(j:Nat)=>if lu k d (gM ks (aB p ps)) (j:Int)=true then some (.int j) else none) (by rw[jO];lia) ?_ (λj hj=>?_) ?_
 ·refine Y ?_;refine⟨by rw[iH gV gV,iH gV gV];rfl,?_⟩;exact⟨rfl,rfl⟩
 ·refine Y ?_;refine W5 (l:=vD (jN ks p ps)) (f:=D.int) ([SO.lst ((jN ks p ps).map cD)]++[.lst ((vD (jN ks p ps)).map .int)]) (λo=>if decide (d<=gJ k o j)=true then none else some (.int o)) gV ?_ (λo ho=>?_) ?_
  ·refine Y ?_;refine Xg (c:=(vD (jN ks p ps)).map .int) rfl ?_;refine⟨rfl,rfl,λi=>?_⟩;rfl
  ·refine Y ?_;refine W.c0 zgP ?_;refine Y ?_;rw[show (0:Int)+j=j by lia];refine⟨rfl,λhb=>?_,λhb=>?_⟩
   ·have hb:=lA hb;refine Y ?_;exact⟨rfl,_,rfl,by rw[if_neg (by simp;lia)]⟩
   ·have hb:=Hu hb;rw[if_pos (by simp;lia)]
  refine Y ?_;have en:∀l:List Int,(prim .eq [.fl (l.filterMap λo=>if decide (d<=gJ k o j)=true then none else some (D.int o)),.fl []])=some (.dat (.bl (l.all λo=>decide (d<=gJ k o j)))):=λl=>by
   cases e:l.all λo=>decide (d<=gJ k o j)
   ·obtain⟨o,ho,hc⟩ : ∃o∈l,¬d<=gJ k o j:=by
     apply Kg;intro z;rw[gb.mpr λo ho=>gA (Kg λy=>z ⟨o,ho,y⟩)] at e;cases e
    have hm:D.int o∈l.filterMap λo=>if decide (d<=gJ k o j)=true then none else some (D.int o):=qw.mpr ⟨o,ho,by rw[if_neg (by simpa using hc)]⟩
    generalize l.filterMap _=L at hm;cases L with
    |nil=>cases hm
    |cons=>rfl
   ·have:(l.filterMap λo=>if decide (d<=gJ k o j)=true then none else some (D.int o))=[]:=by
     rw[List.filterMap_eq_nil_iff];intro o ho;rw[if_pos (gb.mp e o ho)]
    rw[this];rfl
  refine cL (en _) ?_;rw[zkK h hd];refine Y ?_;refine⟨rfl,λhb=>?_,λhb=>?_⟩
  ·refine Y ?_;exact⟨rfl,_,rfl,by rw[if_pos hb,show (0:Int)+j=j by lia]⟩
  ·rw[if_neg (by rw[hb];decide)]
 have es:(List.range (k-0).toNat).filterMap (λ(j:Nat)=>if lu k d (gM ks (aB p ps)) (j:Int)=true then some (D.int j) else none)=((jx k.toNat).filter (lu k d (gM ks (aB p ps)))).map .int:=by
  rw[e0,<-zfE (α:=Unit)];unfold jx;rw[List.filterMap_map];rfl
 rw[es];refine Y ?_;refine cL (pY hp.1 (tR ec)) ?_;cases c with
 |none=>
  have est:p8 k d ps ks p=(jx k.toNat).all λx=>!(lu k d (gM ks (aB p ps)) x):=by
   unfold p8;rw[ec];rfl
  rw[est];refine Y ?_;have en:∀l:List Int,(prim .eq [.fl ((l.filter (lu k d (gM ks (aB p ps)))).map .int),.fl []])=some (.dat (.bl (l.all λx=>!(lu k d (gM ks (aB p ps)) x)))):=λl=>by
   induction l with
   |nil=>rfl
   |cons x l ih=>
    rw[List.filter_cons,vP];cases e:lu k d (gM ks (aB p ps)) x
    ·simpa using ih
    ·rfl
  refine cL (en _) ?_
  first|exact Y trivial|exact Y rfl
 |some i=>
  have hi:=q.lo i (dH ec);have est:p8 k d ps ks p = !(lu k d (gM ks (aB p ps)) i):=by
   unfold p8;rw[ec];rfl
  rw[est];refine Y ?_;refine cL (pY hp.1 (tR ec)) ?_;refine Y ?_;have en:prim .nin [.int i,.fl (((jx k.toNat).filter (lu k d (gM ks (aB p ps)))).map .int)]=some (.dat (.bl (!(lu k d (gM ks (aB p ps)) i)))):=by
   show Option.map (λb=>Rz.dat (.bl (!b))) (memD _ _)=_;rw[ziQ];show some (Rz.dat (.bl (!decide _)))=_
   congr 4
   rw[Bool.eq_iff_iff,decide_eq_true_iff,List.mem_filter];exact⟨λz=>z.2,λz=>⟨rW.mpr gV,z⟩⟩
  refine cL (show prim .nin [cD (some i),.fl _]=_ from en) ?_
  first|exact Y trivial|exact Y rfl
end
section
variable {n k d:Int}{ps:List (Int×Int)}{ks:List (Option Int)}{p:Int}
theorem Y_{m:Int}{x:D}(h:∀xs,x=.tup xs->(xs.length:Int)≠m):lg m x=false:=by
 cases x with
 |tup xs=>exact g_ (h xs rfl)
 |_=>rfl
theorem Za{a b:Int}{x:D}(h:vC a b x=true):∃p,x=.int p/\a<=p/\p<=b:=by
 cases x with
 |int p=>exact⟨p,rfl,lA h⟩
 |_=>cases h
theorem Zb{P:List (Option Int)->D->Bool}{b c:D}(h:vC 0 (n-1) b=false):jy P n k ks b c=false:=by
 cases b with
 |int p=>
  cases c with
  |tup xs=>
   have h:¬(0<=p/\p<=n-1):=Hu h;show (decide (0<=p/\p<n)&&_&&_&&_)=false;rw[g_ gV];rfl
  |_=>rfl
 |_=>rfl
theorem Zc{b:D}(h:vC 0 (n-1) b=false):nq n k d ps ks b=false:=by
 cases b with
 |int p=>
  have h:¬(0<=p/\p<=n-1):=Hu h;show (decide (0<=p/\p<n)&&_)=false;rw[g_ gV];rfl
 |_=>rfl
theorem zjD{k' m:Nat}(h:Web n ps)(nD:1<=k)(hk:k<=24)
  (ih:∀ks x,Kn n k ks->Sh m x->W (call ao T (k'+3) true 25 [.d (tQ n.toNat k.toNat (λi=>aB i ps) (cI k d)),.d (.tup (ks.map cD)),.d x]) [] λv s=>v=.d (.bl (pap n k d ps m ks x)))
  (q:Kn n k ks) {b c:D} (hb:ju b=true) (hc:ju c=true) (hy:∀ys,c=.tup ys->∀y∈ys,Sh m y) :
  W (call ao T (k'+4) true 26 [.d (tQ n.toNat k.toNat (λi=>aB i ps) (cI k d)),.d (.tup (ks.map cD)),.d b,.d c]) [] λv s=>v=.d (.bl (jy (pap n k d ps m) n k ks b c)):=by
 have tU:(100:Nat)<=sizeLine:=by decide
 have h8:=h.h8;have hql:=q.len;have J9:(((ks.map cD).length:Nat):Int)=n:=by rw[cJ];exact hql
 have ebo:tQ n.toNat k.toNat (λi=>aB i ps) (cI k d)=.ob 0 [.fl (xq n.toNat λi=>aB i ps),.tup ((jx k.toNat).map .int),.fl (rY k.toNat (cI k d)),.bl true]:=rfl;refine W.call X_ rfl ?_;unfold QF;refine Y ?_;refine W.c0 (Y7 hb) ?_;rw[J9];cases hw:vC 0 (n-1) b
 ·refine Y ?_;rw[Zb hw]
 obtain⟨p,rfl,RW,BZ⟩:=Za hw;obtain⟨cc,ec⟩:=BW q RW (show p<n by lia);refine Y ?_;refine cL (pY RW (tR ec)) ?_;refine Y ?_;rw[Jy];have RX:decide (0<=p/\p<n)=true:=gA gV;cases cc with
 |some i=>
  refine Y ?_;cases c with
  |tup xs=>
   show Xv.d (.bl false)=Xv.d (.bl (_&&((ks[p.toNat]?).join).isNone&&_&&_));rw[ec];simp
  |_=>rfl
 |none=>
  refine Y ?_;refine W.c0 (xH hc) ?_;have esl:((((jx k.toNat).map D.int).length:Nat):Int)=k:=by unfold jx;simp;lia
  rw[esl];cases hr:lg k c
  ·refine Y ?_;cases c with
   |tup xs=>
    have hr:¬((xs.length:Int)=k):=Hu hr;show Xv.d (.bl false)=Xv.d (.bl (_&&_&&decide ((xs.length:Int)=k)&&_));rw[g_ hr];simp
   |_=>rfl
  ·cases c with
   |tup xs=>
    have hr:(xs.length:Int)=k:=lA hr;have zW:jy (pap n k d ps m) n k ks (.int p) (.tup xs)=(List.range k.toNat).all λj=>pap n k d ps m (ks.set p.toNat (some (j:Int))) (xs.getD j .non):=by
     show (decide (0<=p/\p<n)&&((ks[p.toNat]?).join).isNone&&decide ((xs.length:Int)=k)&&_)=_;rw[RX,ec,gA hr];rfl
    rw[zW];refine Y ?_;refine Qf (λi J s=>s=[]/\(∃a4,J=[some (.d (tQ n.toNat k.toNat (λi=>aB i ps) (cI k d))),some (.d (.tup (ks.map cD))),some (.d (.int p)),some (.d (.tup xs)),a4])/\∀j,j<i->pap n k d ps m (ks.set p.toNat (some (j:Int))) (xs.getD j .non)=true) ⟨rfl,⟨_,rfl⟩,λj hj=>absurd hj gV⟩ (λi x J s e hI=>?_) (λJ s hI=>?_)
    ·obtain⟨rfl,⟨a4,rfl⟩,hI⟩:=hI;rw[iz] at e;obtain⟨y,ey,rfl⟩:=jz.mp e;have hi:i<k.toNat:=by have:=(fB.mp ey).1;unfold jx at this;simpa using this
     have ey2:y=(i:Int):=by
      unfold jx at ey;rw[iz,xQ hi] at ey;exact(cT ey).symm
     subst ey2;have J8:p=((p.toNat:Nat):Int):=by lia
     have G_:i<xs.length:=by lia
     refine Y ?_;have Hf:=w6 (xs:=ks.map cD) (i:=p.toNat) (by rw[cJ];lia);rw[<-J8] at Hf;rw[Hf];refine cL (Js (by rw[pq,cJ];show _+1<=_;lia)) ?_;refine Y ?_;rw[show cut (ks.map cD) (some (p+1)) none=(ks.map cD).drop (p.toNat+1) by rw[show p+1=((p.toNat+1:Nat):Int) by lia,oU (by rw[cJ];lia)]];refine cL (Js (by rw[iI,pq,xV,cJ];show _+1+_<=_;lia)) ?_;rw[Xi gV];refine Y ?_;refine cL (pY (x:=xs.getD i .non) gV (by rw[Ag,nF,eO G_];rfl)) ?_;refine Y ?_;refine W.c0 (ih (ks.set p.toNat (some (i:Int))) (xs.getD i .non) (Qn q gV) (hy xs rfl _ (by rw[nF,eO G_];exact Ai _))) ?_;cases Hg:pap n k d ps m (ks.set p.toNat (some (i:Int))) (xs.getD i .non)
     ·refine Y ?_;refine .inr ⟨_,rfl,?_⟩;show Xv.d (.bl false)=_
      congr 2
      symm
      rw[Cj];intro kh;have:=gb.mp kh i (nJ.mpr hi);rw[Hg] at this;cases this
     ·refine Y ?_;refine .inl ⟨_,rfl,rfl,⟨_,rfl⟩,λj hj=>?_⟩;by_cases z:j=i
      ·rw[z];exact Hg
      ·exact hI j gV
    ·obtain⟨rfl,⟨a4,rfl⟩,hI⟩:=hI;have e2:((jx k.toNat).map D.int).length=k.toNat:=by unfold jx;simp
     rw[e2] at hI;refine Y ?_;show Xv.d (.bl true)=_
     congr 2
     symm
     rw[gb];exact λj hj=>hI j (nJ.mp hj)
   |_=>cases hr
theorem Zd(h:Web n ps)(hd:1<=d)(nD:1<=k)(hk:k<=24):∀(m k':Nat) (ks:List (Option Int)) (x:D),Kn n k ks->Sh m x->W (call ao T (2*m+k'+3) true 25 [.d (tQ n.toNat k.toNat (λi=>aB i ps) (cI k d)),.d (.tup (ks.map cD)),.d x]) [] λv s=>v=.d (.bl (pap n k d ps m ks x))
 |0,_,_,_,_,hx=>hx.elim
 |m+1,k',ks,x,q,hx=>by
  obtain⟨tV,RZ⟩:=hx;have hql:=q.len;have J9:(((ks.map cD).length:Nat):Int)=n:=by rw[cJ];exact hql
  rw[show 2*(m+1)+k'+3=2*m+k'+4+1 by lia];refine W.call X8 rfl ?_;unfold QD;have no:(∀xs,x=.tup xs->xs.length≠2/\xs.length≠3)->pap n k d ps (m+1) ks x=false:=λhn=>by
   cases x with
   |tup xs=>
    have:=hn xs rfl;rcases xs with _|⟨a,_|⟨b,_|⟨c,_|⟨e,r⟩⟩⟩⟩
    ·rfl
    ·rfl
    ·simp at this
    ·simp at this
    ·rfl
   |_=>rfl
  by_cases hn:∀xs,x=.tup xs->xs.length≠2/\xs.length≠3
  ·rw[no hn];refine Y ?_;refine W.c0 (xH tV) ?_;rw[Y_ λxs e=>by have:=hn xs e;lia];refine Y ?_;refine W.c0 (xH tV) ?_;rw[Y_ λxs e=>by have:=hn xs e;lia]
   first|exact Y trivial|exact Y rfl
  ·obtain⟨xs,rfl,hl⟩ : ∃xs,x=.tup xs/\(xs.length=2\/xs.length=3):=by
    apply Kg;intro z;exact hn λxs e=>⟨λy=>z ⟨xs,e,.inl y⟩,λy=>z ⟨xs,e,.inr y⟩⟩
   obtain⟨h1,h2,h3⟩:=RZ xs rfl;rcases xs with _|⟨a,_|⟨b,_|⟨c,_|⟨e,r⟩⟩⟩⟩
   ·simp at hl
   ·simp at hl
   ·have ha:=h1 a _ rfl;have hb:=h2 b Nj;refine Y ?_;refine W.c0 (xH tV) ?_;rw[show lg 2 (.tup [a,b])=true from rfl];refine Y ?_;refine cL (Xh ha) ?_;have ep:pap n k d ps (m+1) ks (.tup [a,b])=(rZ "end" a&&nq n k d ps ks b):=rfl;rw[ep];cases hS:rZ "end" a
    ·refine Y ?_;refine W.c0 (xH tV) ?_;rw[show lg 3 (.tup [a,b])=false from rfl]
     first|exact Y trivial|exact Y rfl
    ·refine Y ?_;refine W.c0 (Y7 hb) ?_;rw[J9];cases hw:vC 0 (n-1) b
     ·rw[Zc hw]
      first|exact Y trivial|exact Y rfl
     ·obtain⟨p,rfl,RW,BZ⟩:=Za hw;refine Y ?_;refine W.c0 (ziz h hd hk q gV) ?_;have ee:nq n k d ps ks (.int p)=p8 k d ps ks p:=by
       show (decide (0<=p/\p<n)&&_)=_;rw[gA gV];rfl
      rw[ee]
      first|exact Y trivial|exact Y rfl
   ·have ha:=h1 a _ rfl;have hb:=h2 b Nj;have hc:=h2 c Nj;refine Y ?_;refine W.c0 (xH tV) ?_;rw[show lg 2 (.tup [a,b,c])=false from rfl];refine Y ?_;refine W.c0 (xH tV) ?_;rw[show lg 3 (.tup [a,b,c])=true from rfl];refine Y ?_;refine cL (Xh ha) ?_;have ep:pap n k d ps (m+1) ks (.tup [a,b,c])=(rZ "case" a&&jy (pap n k d ps m) n k ks b c):=rfl;rw[ep];cases hS:rZ "case" a
    ·first|exact Y trivial|exact Y rfl
    ·refine Y ?_;have ih:∀ks x,Kn n k ks->Sh m x->W (call ao T (2*m+k'+3) true 25 [.d (tQ n.toNat k.toNat (λi=>aB i ps) (cI k d)),.d (.tup (ks.map cD)),.d x]) [] λv s=>v=.d (.bl (pap n k d ps m ks x)):=λks x q hx=>Zd h hd nD hk m k' ks x q hx;refine W.c0 (zjD (k':=2*m+k') h nD hk ih q hb hc λys e=>h3 a b ys (by rw[e])) ?_
     first|exact Y trivial|exact Y rfl
   ·simp at hl
end
section
variable {n k d:Int}{ps:List (Int×Int)}{ks:List (Option Int)}{p:Int}
theorem Ze{k' i:Nat}(hi:i<ks.length)(hl:ks.length<=8){x:Int}:W (call ao T (k'+1) true 37 [.d (.tup (ks.map cD)),.d (.int i),.d (.int x)]) [] λv s=>v=.d (.tup ((ks.set i (some x)).map cD)):=by
 have tU:(100:Nat)<=sizeLine:=by decide
 refine W.call Yk rfl ?_;unfold QW;refine Y ?_;rw[w6 (by rw[cJ];lia)];refine cL (Js (by rw[pq,cJ];show _+1<=_;lia)) ?_;refine Y ?_;rw[show (i:Int)+1=((i+1:Nat):Int) by lia,oU (by rw[cJ];lia)];refine cL (Js (by rw[iI,pq,xV,cJ];show _+1+_<=_;lia)) ?_;rw[Xi hi]
theorem Zf(h:Web n ps)(hd:1<=d)(nD:1<=k)(hk:k<=24):∀(m k':Nat) (ks:List (Option Int)) (x:D),Kn n k ks->Sh m x->W (call ao T (m+k'+2) true 38 [.d (bL n ps),.d (bx k d),.d (.tup (ks.map cD)),.d x]) [] λv s=>v=.d (.bl (pap n k d ps m ks x))
 |0,_,_,_,_,hx=>hx.elim
 |m+1,k',ks,x,q,hx=>by
  obtain⟨tV,RZ⟩:=hx;have hql:=q.len;have h8:=h.h8;have tU:(100:Nat)<=sizeLine:=by decide
  rw[show m+1+k'+2=m+k'+2+1 by lia];refine W.call Yl rfl ?_;unfold QX;have ew:bL n ps=.tup [.int n,.tup (ps.map gq)]:=rfl;have er:bx k d=.tup [.int k,.int d]:=rfl;cases x with
  |tup xs=>
   obtain⟨h1,h2,h3⟩:=RZ xs rfl;rcases xs with _|⟨a,_|⟨b,_|⟨c,_|⟨e,r⟩⟩⟩⟩
   ·first|exact Y trivial|exact Y rfl
   ·first|exact Y trivial|exact Y rfl
   ·have ha:=h1 a _ rfl;have hb:=h2 b Nj;have ep:pap n k d ps (m+1) ks (.tup [a,b])=(rZ "end" a&&nq n k d ps ks b):=rfl;rw[ep];cases a with
    |str w=>
     refine Y ?_;refine W.c0 (Y5 hb) ?_;cases b with
     |int p=>
      refine Y ?_;refine WS.ite (λhc=>?_) (λhc=>?_)
      ·have hc:¬(0<=p/\p<n):=λz=>by rw[gA z] at hc;cases hc
       rw[Zc (n:=n) (b:=.int p) (g_ (p:=(0<=p/\p<=n-1)) gV),Cw]
       first|exact Y trivial|exact Y rfl
      ·have hc:0<=p/\p<n:=by simpa using hc
       have ee:nq n k d ps ks (.int p)=p8 k d ps ks p:=by
        show (decide (0<=p/\p<n)&&_)=_;rw[gA hc];rfl
       rw[ee];refine Y ?_;have es:rZ "end" (.str w)=(w=="end"):=rfl;rw[es];refine W.ite (λhw=>?_) (λhw=>?_)
       ·rw[show (w=="end")=true from hw];refine Y ?_;refine W.c0 (Y8 h hd nD hk q hc) ?_
        first|exact Y trivial|exact Y rfl
       ·rw[show (w=="end")=false from by simpa using hw]
        first|exact Y trivial|exact Y rfl
     |exc _ _=>cases hb
     |ob _ _=>cases hb
     |any=>cases hb
     |_=>
      rw[show nq n k d ps ks _=false from rfl,Cw]
      first|exact Y trivial|exact Y rfl
    |exc _ _=>cases ha
    |ob _ _=>cases ha
    |any=>cases ha
    |fd _ _=>cases ha
    |_=>first|exact Y trivial|exact Y rfl
   ·have ha:=h1 a _ rfl;have hb:=h2 b Nj;have hc:=h2 c Nj;have ep:pap n k d ps (m+1) ks (.tup [a,b,c])=(rZ "case" a&&jy (pap n k d ps m) n k ks b c):=rfl;rw[ep];cases a with
    |str w=>
     refine Y ?_;refine W.c0 (Y5 hb) ?_;cases b with
     |int p=>
      refine Y ?_;refine WS.ite (λmF=>?_) (λhp=>?_)
      ·have mF:¬(0<=p/\p<n):=λz=>by rw[gA z] at mF;cases mF
       rw[Zb (n:=n) (b:=.int p) (g_ (p:=(0<=p/\p<=n-1)) gV),Cw]
       first|exact Y trivial|exact Y rfl
      ·have hp:0<=p/\p<n:=by simpa using hp
       obtain⟨i,rfl⟩:=Hr hp.1;obtain⟨cc,ec⟩:=BW q hp.1 hp.2;have es:rZ "case" (.str w)=(w=="case"):=rfl;rw[es];refine Y ?_;refine W.ite (λhw=>?_) (λhw=>?_)
       ·rw[show (w=="case")=false from by simpa using hw]
        first|exact Y trivial|exact Y rfl
       rw[show (w=="case")=true from by simpa using hw];refine Y ?_;refine cL (pY hp.1 (tR ec)) ?_;refine Y ?_;rw[Jy];cases cc with
       |some z=>
        have:jy (pap n k d ps m) n k ks (.int i) c=false:=by
         cases c with
         |tup xs=>
          show (_&&((ks[(i:Int).toNat]?).join).isNone&&_&&_)=false;rw[ec];simp
         |_=>rfl
        rw[this]
        first|exact Y trivial|exact Y rfl
       |none=>
        cases c with
        |tup xs=>
         refine Y ?_;refine WS.ite (λhl=>?_) (λhl=>?_)
         ·have hl:¬((xs.length:Int)=k):=by simpa using hl
          have:jy (pap n k d ps m) n k ks (.int i) (.tup xs)=false:=by
           show (_&&_&&decide ((xs.length:Int)=k)&&_)=false;rw[g_ hl];simp
          rw[this]
          first|exact Y trivial|exact Y rfl
         have hl:(xs.length:Int)=k:=by simpa using hl
         have zW:jy (pap n k d ps m) n k ks (.int i) (.tup xs)=(List.range k.toNat).all λj=>pap n k d ps m (ks.set i (some (j:Int))) (xs.getD j .non):=by
          show (decide (0<=(i:Int)/\(i:Int)<n)&&((ks[(i:Int).toNat]?).join).isNone&&decide ((xs.length:Int)=k)&&_)=_;rw[gA hp,ec,gA hl];rfl
         rw[zW];refine Y ?_;refine⟨by rw[iH gV gV,iH gV gV];rfl,?_⟩;refine Qf (λi' J s=>s=[]/\(∃a4,J=[some (.d (bL n ps)),some (.d (bx k d)),some (.d (.tup (ks.map cD))),some (.d (.tup [.str w,.int i,.tup xs])),a4])/\∀j,j<i'->pap n k d ps m (ks.set i (some (j:Int))) (xs.getD j .non)=true) ⟨rfl,⟨_,rfl⟩,λj hj=>absurd hj gV⟩ (λi' x J s e hI=>?_) (λJ s hI=>?_)
         ·obtain⟨rfl,⟨a4,rfl⟩,hI⟩:=hI;have R0:i'<(fQ 0 k).length:=(fB.mp e).1;unfold fQ at e R0;rw[cJ,jO] at R0;rw[iz,xQ R0] at e;cases e;have hi:i'<k.toNat:=by lia
          have G_:i'<xs.length:=by lia
          refine Y ?_;refine W.c0 (Ze gV gV) ?_;refine Y ?_;rw[show (0:Int)+(i':Nat)=(i':Int) by lia];refine cL (pY (x:=xs.getD i' .non) gV (by rw[Ag,nF,eO G_];rfl)) ?_;refine Y ?_;refine W.c0 (Zf h hd nD hk m k' (ks.set i (some (i':Int))) (xs.getD i' .non) (Qn q gV) (h3 _ _ xs rfl _ (by rw[nF,eO G_];exact Ai _))) ?_;cases Hg:pap n k d ps m (ks.set i (some (i':Int))) (xs.getD i' .non)
          ·refine Y ?_;refine .inr ⟨_,rfl,?_⟩;show Xv.d (.bl false)=_
           congr 2
           symm
           rw[Bool.true_and,Cj];intro kh;have:=gb.mp kh i' (nJ.mpr hi);rw[Hg] at this;cases this
          ·refine Y ?_;refine .inl ⟨_,rfl,rfl,⟨_,rfl⟩,λj hj=>?_⟩;by_cases z:j=i'
           ·rw[z];exact Hg
           ·exact hI j gV
         ·obtain⟨rfl,⟨a4,rfl⟩,hI⟩:=hI;have e2:(fQ 0 k).length=k.toNat:=by unfold fQ;simp
          rw[e2] at hI;refine Y ?_;show Xv.d (.bl true)=_
          congr 2
          symm
          rw[Bool.true_and,gb];exact λj hj=>hI j (nJ.mp hj)
        |exc _ _=>cases hc
        |ob _ _=>cases hc
        |any=>cases hc
        |_=>first|exact Y trivial|exact Y rfl
     |exc _ _=>cases hb
     |ob _ _=>cases hb
     |any=>cases hb
     |_=>
      rw[show jy (pap n k d ps m) n k ks _ c=false from rfl,Cw]
      first|exact Y trivial|exact Y rfl
    |exc _ _=>cases ha
    |ob _ _=>cases ha
    |any=>cases ha
    |fd _ _=>cases ha
    |_=>first|exact Y trivial|exact Y rfl
   ·rw[show pap n k d ps (m+1) ks (.tup (a::b::c::e::r))=false from rfl];exact Y trivial
  |exc _ _=>cases tV
  |ob _ _=>cases tV
  |any=>cases tV
  |_=>first|exact Y trivial|exact Y rfl
end
def g8(o:SO):Prop:=∃a b:Int,o=.lst [.int a,.int b]/\0<=a/\(b=0\/b=1)
theorem R3{k:Nat}{o:SO}{m:Int}(ho:g8 o)(hm:0<m)(Zg:m<1073741824):W (call ao T (k+1) true 30 [.l 0,.d (.int m)]) [o] λv s=>∃d o',v=.d d/\s=[o']/\(∃r:Int,d=.int r/\0<=r/\r<m)/\g8 o':=by
 obtain⟨a,b,rfl,ha,hb⟩:=ho;refine W.call Ye rfl ?_;unfold QL;rcases hb with rfl|rfl
 ·refine Y ?_;exact⟨_,_,rfl,rfl,⟨_,rfl,Int.emod_nonneg _ gV,Int.emod_lt_of_pos _ hm⟩,⟨_,_,rfl,Int.emod_nonneg _ J0,.inl rfl⟩⟩
 ·refine Y ?_;exact⟨_,_,rfl,rfl,⟨_,rfl,Int.emod_nonneg _ gV,Int.emod_lt_of_pos _ hm⟩,⟨_,_,rfl,Int.ediv_nonneg ha gV,.inr rfl⟩⟩
theorem zlc{k:Nat}{n:Int}:W (call ao T (k+1) true 29 [.d (.int n)]) [] λv s=>∃i o,v=.l i/\s[i]?=some o/\g8 o:=by
 refine W.call Yd rfl ?_;unfold QK;refine Y ?_;refine⟨0,_,rfl,rfl,⟨_,_,rfl,?_,?_⟩⟩
 ·split<;>lia
 ·have:∀c:Bool,(if c=true then (1:Int) else 0)=0\/(if c=true then (1:Int) else 0)=1:=by intro c;cases c<;>simp
  exact this _
theorem oX{k:Nat}{o:SO}{m:Int}{P:Xv->S->Prop}(ho:g8 o)(hm:0<m)(Zg:m<1073741824)(h:∀(r:Nat) o',(r:Int)<m->g8 o'->P (.d (.int r)) [o']):W (bN (call ao T (k+1) true 30) [.l 0,.d (.int m)]) [o] P:=by
 refine Wx (n:=0) (o:=o) rfl rfl ((R3 ho hm Zg).imp λv s=>?_);rintro⟨d,o',rfl,rfl,⟨r,rfl,h0,h1⟩,hp⟩;obtain⟨n,rfl⟩:=Hr h0;exact⟨_,_,rfl,rfl,h n o' h1 hp⟩
theorem zk3{k:Nat}{ns:List Int}:W (call ao T (k+1) true 28 [.d (.fl (ns.map D.int)),.d (.int 0)]) [] λv _=>∃n,v=.d (.int n):=by
 refine W.call Yc rfl ?_;unfold QJ;cases ns with
 |nil=>
  refine Y ?_;exact⟨_,rfl⟩
 |cons n r=>
  refine Y ?_;refine WS.ite (λ_=>?_) (λ_=>?_)
  ·refine Y ?_;refine cL (zR (i:=0) (x:=.int n) rfl) ?_;refine Y ?_;exact⟨_,rfl⟩
  ·refine Y ?_;exact⟨_,rfl⟩
theorem zge{k:Nat}{o:SO}{n:Int}(ho:g8 o)(h1:1<=n)(h8:n<=8):W (call ao T (k+2) true 33 [.l 0,.d (.int n)]) [o] λv s=>∃ps o',v=.d (bL n ps)/\s=[o']/\Web n ps/\g8 o':=by
 refine W.call Yh rfl ?_;unfold QS;have hs:(100:Nat)<=sizeLine:=by decide
 refine Y ?_;refine oX ho J0 J0 λr o' hr hp=>?_;refine Y ?_;have wI:r<3:=by lia
 refine cL (zR (x:=.int (([2,4,6]:List Int)[r]'wI)) ?_) ?_
 ·revert wI;revert r;intro r _ wI;exact match r,wI with
  |0,_=>rfl|1,_=>rfl|2,_=>rfl
  |n+3,h=>absurd h gV
 generalize ([2,4,6]:List Int)[r]=often;refine Y ?_;refine⟨by rw[iH gV gV,iH gV gV];rfl,?_⟩;refine BJ (λ(i:Nat) J s=>∃(ps:List (Int×Int)) (a:Option Xv) (o':SO),J=[some (.l 0),some (.d (.int n)),some (.d (.int often)),some (.d (.fl (ps.map gq))),a]/\s=[o']/\g8 o'/\(∀p∈ps,0<=p.1/\p.1<(i:Int)/\p.1<p.2/\p.2<n)/\ps.Pairwise lx/\ps.length<=7*i)
  ⟨[],_,_,rfl,rfl,hp,by simp,by simp,by simp⟩ (λi x J s e hI=>?_) (λJ s hI=>?_)
 ·obtain⟨ps,a,o',rfl,rfl,hp,ht,zX,hlen⟩:=hI;obtain⟨rfl,hi⟩:=W3 e;have hi8:i<8:=by lia
  refine Y ?_;refine Jq (c:=fQ (0+(i:Int)+1) n) (λ(j:Nat) acc s=>∃(es:List Int) (o':SO),acc=es.map (λe=>gq (0+(i:Int),e))/\es.Pairwise (·<·)/\(∀e∈es,(i:Int)<e/\e<(i:Int)+1+j)/\s=[o']/\g8 o') ?_ (λj x acc s e hJ=>?_) (λacc s hJ=>?_)
  ·refine Y ?_;refine⟨by rw[iH gV gV,iH gV gV];rfl,?_⟩;exact⟨rfl,[],_,rfl,by simp,by simp,rfl,hp⟩
  ·obtain⟨es,o',rfl,B_,xJ,rfl,hp⟩:=hJ;obtain⟨rfl,hj⟩:=W3 e;have hel:(es.length:Int)<=(i:Int)+1+j-((i:Int)+1):=Qe B_ (λe he=>by have:=xJ e he;lia) gV;refine Y ?_;refine oX hp J0 J0 λr o' hr hp=>?_;refine Y ?_;refine⟨λhb=>?_,λhb=>?_⟩
   ·refine Y ?_;refine⟨_,rfl,by rw[cJ];lia,es++[0+(i:Int)+1+j],o',?_,?_,?_,rfl,hp⟩
    ·rw[xX];rfl
    ·rw[List.pairwise_append];refine⟨B_,by simp,λa ha b hb=>?_⟩;simp at hb;have:=xJ a ha
     lia
    ·intro e he;rcases jh.mp he with he|he
     ·have:=xJ e he;lia
     ·simp at he;lia
   ·exact⟨es,o',rfl,B_,λe he=>by have:=xJ e he;lia,rfl,hp⟩
  ·obtain⟨es,o',rfl,B_,xJ,rfl,hp⟩:=hJ;rw[W4] at xJ;have hel:(es.length:Int)<=n-((i:Int)+1):=Qe B_ (λe he=>by have:=xJ e he;lia) gV;refine Y ?_;refine GK (PJ ?_) ?_
   ·rw[cJ,cJ];lia
   refine Y ?_;refine⟨_,rfl,ps++es.map (λe=>(0+(i:Int),e)),some (.d (.int (0+(i:Int)))),o',?_,rfl,hp,?_,?_,?_⟩
   ·rw[xX,List.map_map];rfl
   ·intro p hp;rcases jh.mp hp with hp|hp
    ·have:=ht p hp;lia
    ·obtain⟨e,he,rfl⟩:=sU.mp hp;have:=xJ e he;dsimp only
     lia
   ·rw[List.pairwise_append,List.pairwise_map];refine⟨zX,B_.imp λh=>.inr ⟨rfl,h⟩,λp hp q hq=>?_⟩;obtain⟨e,he,rfl⟩:=sU.mp hq;have:=ht p hp;exact .inl (by dsimp only;lia)
   ·rw[iI,cJ];lia
 ·obtain⟨ps,a,o',rfl,rfl,hp,ht,zX,hlen⟩:=hI;rw[W4] at ht hlen;refine Y ?_;refine⟨ps,o',rfl,rfl,⟨h1,h8,λp hp=>?_,zX,by lia⟩,hp⟩;have:=ht p hp
  lia
noncomputable def mD:List D:=[.non,.bl true,.bl false,.int (-1),.str "1",.str "",.tup [],.fl [],.tup [.int 0],.fl [.int 0],.fd [.str "a"] [.int 1],.tup [.int 0,.int 1],.int 1000000000000000000000000000000,.tup [.int 0,.tup []],.tup [.str "ab"],.tup [.int 1,.tup [.tup [.int 0,.int 0]]]]
theorem zl3{k:Nat}{o:SO}(ho:g8 o):W (call ao T (k+2) true 32 [.l 0]) [o] λv s=>∃d o',v=.d d/\s=[o']/\d∈mD/\g8 o':=by
 refine W.call Yg rfl ?_;unfold QM;refine Y ?_;refine oX ho J0 J0 λr o' hr hp=>?_;refine Y ?_;have wI:r<mD.length:=by show r<16;lia
 refine cL (zR (x:=mD[r]) (eO (l:=mD) wI)) ?_;refine Y ?_;exact⟨_,_,rfl,rfl,Ai _,hp⟩
theorem Hj{xs:List D}{r:Nat}(hr:r<xs.length):∃x,prim .ix [.fl xs,.int r]=some (.dat x)/\x∈xs:=⟨xs[r],zR (eO hr),Ai _⟩
theorem zio{xs:List D}{z:Int}(h0:0<=z)(hz:z<xs.length):∃x,prim .ix [.fl xs,.int z]=some (.dat x)/\x∈xs:=by
 obtain⟨r,rfl⟩:=Hr h0;exact Hj gV
theorem zjO{xs:List Int}{r:Nat}{q:Int->Prop}(hb:∀z∈xs,q z)(hr:r<xs.length):∃z:Int,prim .ix [.fl (xs.map .int),.int r]=some (.dat (.int z))/\q z:=
 ⟨xs[r],zR (by rw[iz,eO hr];rfl),hb _ (Ai _)⟩
theorem zfT{k':Nat}{o:SO}{n k d:Int}{ps:List (Int×Int)}(ho:g8 o)(h1:1<=n)(h8:n<=8)(hk:1<=k/\k<=24):W (call ao T (k'+2) true 35 [.l 0,.d (bL n ps),.d (bx k d)]) [o] λv s=>∃(ks:List (Option Int)) (o':SO),v=.d (.tup (ks.map cD))/\s=[o']/\Kn n k ks/\g8 o':=by
 refine W.call Yi rfl ?_;unfold QT bL bx;have tU:(100:Nat)<=sizeLine:=by decide
 refine Y ?_;refine oX ho J0 J0 λr o' hr hp=>?_;refine Y ?_;obtain⟨z,ez,_⟩:=zjO (xs:=[1,2,4]) (r:=r) (q:=λz=>True) J0 (by show r<3;lia);refine cL ez ?_;refine Y ?_;refine Jq (c:=(List.range (n-0).toNat).map λ(j:Nat)=>.int (0+j)) (λi acc s'=>∃(o:SO) (ks:List (Option Int)),s'=[o]/\g8 o/\acc=ks.map cD/\ks.length=i/\∀x,some x∈ks->0<=x/\x<k) ?_ (λi x acc s' e hI=>?_) (λacc s' hI=>?_)
 ·refine Y ?_;refine⟨by rw[iH gV gV,iH gV gV];rfl,?_⟩;exact⟨rfl,o',[],rfl,hp,rfl,rfl,λx hx=>by cases hx⟩
 ·obtain⟨o,ks,rfl,hp,rfl,hl,En⟩:=hI;have hi:=(fB.mp e).1;rw[cJ,jO] at hi;refine Y ?_;refine⟨λ_=>?_,λhb=>by cases hb⟩;refine Y ?_;refine oX hp J0 J0 λr2 o2 J_ hp=>?_;refine Y ?_;refine W.ite (λc=>?_) (λc=>?_)
  ·refine Y ?_;refine oX hp gV gV λr3 o3 Zh hp=>?_;refine⟨_,rfl,by rw[cJ];lia,o3,ks++[some (r3:Int)],rfl,hp,by rw[xX];rfl,by simp[hl],λx hx=>?_⟩;rcases jh.mp hx with hx|hx
   ·exact En x hx
   ·have:x=r3:=by simpa using hx
    lia
  ·refine Y ?_;refine⟨_,rfl,by rw[cJ];lia,o2,ks++[none],rfl,hp,by rw[xX];rfl,by simp[hl],λx hx=>?_⟩;rcases jh.mp hx with hx|hx
   ·exact En x hx
   ·simp at hx
 ·obtain⟨o,ks,rfl,hp,rfl,hl,En⟩:=hI;rw[cJ,jO] at hl;refine Y ?_;exact⟨ks,o,rfl,rfl,⟨by lia,En⟩,hp⟩
section
variable {n k d:Int}{ps:List (Int×Int)}
theorem Zi{P:Nat->Bool}{m:Nat}{x:D}(h:x∈(List.range m).filterMap λ(j:Nat)=>if P j=true then some (D.int j) else none):∃j:Nat,j<m/\x=.int j/\P j=true:=by
 obtain⟨j,hj,e⟩:=qw.mp h;split at e
 ·rename_i hp;exact⟨j,nJ.mp hj,(cT e).symm,hp⟩
 ·cases e
theorem Zj{k' m:Nat}(h:Web n ps)(hd:1<=d)(nD:1<=k)(hk:k<=24)(ih:∀m',m=m'+1->∀(ks:List (Option Int)) (o:SO),g8 o->Kn n k ks->W (call ao T (k'+2) true 39 [.l 0,.d (bL n ps),.d (bx k d),.d (.tup (ks.map cD)),.d (.int m')]) [o] λv s=>∃x o',v=.d x/\s=[o']/\Mk n k m' x/\g8 o')
  {ks:List (Option Int)} {o:SO} (ho:g8 o) (q:Kn n k ks):W (call ao T (k'+3) true 39 [.l 0,.d (bL n ps),.d (bx k d),.d (.tup (ks.map cD)),.d (.int m)]) [o] λv s=>∃x o',v=.d x/\s=[o']/\Mk n k m x/\g8 o':=by
 have tU:(100:Nat)<=sizeLine:=by decide
 have h1:=h.h1;have h8:=h.h8;have hql:=q.len;have e0:(n-0).toNat=n.toNat:=by lia
 have ew:bL n ps=.tup [.int n,.tup (ps.map gq)]:=rfl;have er:bx k d=.tup [.int k,.int d]:=rfl;refine W.call Ym rfl ?_;unfold QZ;refine Y ?_;refine rR (l:=List.range (n-0).toNat) (f:=λ(j:Nat)=>.int (0+j)) (λ(j:Nat)=>if (λj:Nat=>p8 k d ps ks (j:Int)) j=true then some (.int j) else none) (by rw[jO];lia) ?_ (λj hj=>?_) ?_
 ·refine Y ?_;refine⟨by rw[iH gV gV,iH gV gV];rfl,?_⟩;exact⟨rfl,rfl⟩
 ·have hj:=nJ.mp hj;rw[show (0:Int)+j=j by lia];refine Y ?_;refine W.c0 (Y8 h hd nD hk q gV) ?_;refine Y ?_;refine⟨rfl,λhb=>?_,λhb=>?_⟩
  ·refine Y ?_;exact⟨rfl,_,rfl,if_pos hb⟩
  ·exact if_neg (by rw[hb];decide)
 rw[e0];generalize hS:(List.range n.toNat).filterMap (λ(j:Nat)=>if (λj:Nat=>p8 k d ps ks (j:Int)) j=true then some (D.int j) else none)=S;have hSl:S.length<=8:=by rw[<-hS];exact jP (sH _ _) (by rw[jO];lia)
 refine Y ?_;refine rR (l:=List.range (n-0).toNat) (f:=λ(j:Nat)=>.int (0+j)) (λ(j:Nat)=>if (λj:Nat=>((ks[j]?).join).isNone) j=true then some (.int j) else none) (by rw[jO];lia) ?_ (λj hj=>?_) ?_
 ·refine Y ?_;refine⟨by rw[iH gV gV,iH gV gV];rfl,?_⟩;exact⟨rfl,rfl⟩
 ·have hj:=nJ.mp hj;rw[show (0:Int)+j=j by lia];obtain⟨c,ec⟩ : ∃c,ks[j]?=some c:=⟨_,eO gV⟩;refine Y ?_;refine cL (pY gV (tR (by rw[Ag];exact ec))) ?_;refine Y ?_;rw[Jy];refine⟨rfl,λhb=>?_,λhb=>?_⟩
  ·refine Y ?_;exact⟨rfl,_,rfl,if_pos (by rw[ec];exact hb)⟩
  ·exact if_neg (by rw[ec];show ¬(c.isNone=true);rw[show c.isNone=false from hb];decide)
 rw[e0];generalize hL:(List.range n.toNat).filterMap (λ(j:Nat)=>if (λj:Nat=>((ks[j]?).join).isNone) j=true then some (D.int j) else none)=L;have hLl:L.length<=8:=by rw[<-hL];exact jP (sH _ _) (by rw[jO];lia)
 refine Y ?_;refine cL zhw ?_;refine Y ?_;cases S with
 |cons s1 S1=>
  refine Y ?_;refine oX ho (by rw[dR];lia) gV λr o1 hr hp=>?_;obtain⟨x,ex,hx⟩:=Hj (xs:=s1::S1) (r:=r) gV;refine Y ?_;refine cL ex ?_;rw[<-hS] at hx;obtain⟨j,hj,rfl,_⟩:=Zi hx;refine Y ?_;exact⟨_,_,rfl,rfl,Qo gV,hp⟩
 |nil=>
 refine Y ?_;refine cL zh1 ?_;refine Y ?_;cases L with
 |nil=>
  refine Y ?_;refine oX ho gV gV λr o1 hr hp=>?_;refine Y ?_;exact⟨_,_,rfl,rfl,Qo gV,hp⟩
 |cons l1 L1=>
  cases m with
  |zero=>
   refine Y ?_;refine oX ho gV gV λr o1 hr hp=>?_;refine Y ?_;exact⟨_,_,rfl,rfl,Qo gV,hp⟩
  |succ m=>
   refine Y ?_;refine oX ho (by rw[dR];lia) gV λr o1 hr hp=>?_;obtain⟨x,ex,hx⟩:=Hj (xs:=l1::L1) (r:=r) gV;refine Y ?_;refine cL ex ?_;rw[<-hL] at hx;obtain⟨p,Vt,rfl,_⟩:=Zi hx;refine Y ?_;refine Jq (c:=(List.range (k-0).toNat).map λ(j:Nat)=>.int (0+j)) (λi acc s'=>∃o:SO,s'=[o]/\g8 o/\acc.length=i/\∀y∈acc,Mk n k m y) ?_ (λi x acc s' e hI=>?_) (λacc s' hI=>?_)
   ·refine Y ?_;refine⟨by rw[iH gV gV,iH gV gV];rfl,?_⟩;exact⟨rfl,o1,rfl,hp,rfl,λy hy=>by cases hy⟩
   ·obtain⟨o,rfl,hp,hl,hy⟩:=hI;have hi:=(fB.mp e).1;rw[cJ,jO] at hi;rw[iz,xQ hi] at e;cases e;refine Y ?_;refine⟨λ_=>?_,λhb=>by cases hb⟩;refine Y ?_;refine W.c0 (Ze gV gV) ?_;refine Y ?_;rw[show (0:Int)+(i:Nat)=(i:Int) by lia,show ((m+1:Nat):Int)-1=(m:Int) by lia];refine wZ (s:=[]) rfl ((ih m rfl (ks.set p (some (i:Int))) o hp (Qn q gV)).imp λv s=>?_);rintro⟨y,o2,rfl,rfl,hm,hp⟩;refine⟨_,_,rfl,rfl,?_⟩;refine⟨_,rfl,by lia,o2,rfl,hp,by simp[hl],λz hz=>?_⟩;rcases jh.mp hz with hz|hz
    ·exact hy z hz
    ·rw[xT.mp hz];exact hm
   ·obtain⟨o,rfl,hp,hl,hy⟩:=hI;rw[cJ,jO] at hl;refine Y ?_;exact⟨_,_,rfl,rfl,.inr ⟨p,acc,by lia,by lia,hy,rfl⟩,hp⟩
theorem R4(h:Web n ps)(hd:1<=d)(nD:1<=k)(hk:k<=24):∀(m k':Nat) {ks:List (Option Int)} {o:SO},g8 o->Kn n k ks->W (call ao T (m+k'+3) true 39 [.l 0,.d (bL n ps),.d (bx k d),.d (.tup (ks.map cD)),.d (.int m)]) [o] λv s=>∃x o',v=.d x/\s=[o']/\Mk n k m x/\g8 o'
 |0,k',_,_,ho,q=>Zj (k':=0+k') h hd nD hk (λm' e=>by cases e) ho q
 |m+1,k',_,_,ho,q=>by
  rw[show m+1+k'+3=m+k'+1+3 by lia];exact Zj h hd nD hk (λm' e ks o ho q=>by cases e;exact R4 h hd nD hk m k' ho q) ho q
end
section
variable {n k:Int}
def Bt(m j B:Nat)(y:D):Prop:=Sh m y/\∃f,(f=pd\/f=pe)/\∀i,RG f (i+j) B y
theorem fdOf{f:Nat->D->Option PyData}(h:f=pd\/f=pe):Fd f:=by
 rcases h with rfl|rfl
 ·exact cV
 ·exact zlk
theorem R5{x:D}(hx:x∈mD):ju x=true/\Sh 2 x/\∃f,(f=pd\/f=pe)/\∀i,RG f (i+4) 110 x:=by
 have key:∀{x:D} {f:Nat->D->Option PyData} {p:PyData},ju x=true->Sh 2 x->(f=pd\/f=pe)->(∀i,f (i+4) x=some p)->(p.showable&&p.leavesShort 40&&decide (p.weight<=110))=true->ju x=true/\Sh 2 x/\∃f,(f=pd\/f=pe)/\∀i,RG f (i+4) 110 x:=λh1 h2 h3 h4 h5=>by
  simp only[eU,xU] at h5;exact⟨h1,h2,_,h3,λi=>⟨_,h4 i,h5.1.1,h5.1.2,h5.2⟩⟩
 simp only[mD,fC,sS,qz] at hx;rcases hx with rfl|rfl|rfl|rfl|rfl|rfl|rfl|rfl|rfl|rfl|rfl|rfl|rfl|rfl|rfl|rfl
 ·exact key rfl (qb rfl λ_ e=>by cases e) (.inl rfl) (λ_=>rfl) Dc
 ·exact key rfl (qb rfl λ_ e=>by cases e) (.inl rfl) (λ_=>rfl) Dc
 ·exact key rfl (qb rfl λ_ e=>by cases e) (.inl rfl) (λ_=>rfl) Dc
 ·exact key rfl (qb rfl λ_ e=>by cases e) (.inl rfl) (λ_=>rfl) Dc
 ·exact key rfl (qb rfl λ_ e=>by cases e) (.inl rfl) (λ_=>rfl) Dc
 ·exact key rfl (qb rfl λ_ e=>by cases e) (.inl rfl) (λ_=>rfl) Dc
 ·exact key rfl (zV (λ_ _ e=>by cases e) (λ_ h=>by cases h) λ_ _ _ e=>by cases e) (.inl rfl) (λ_=>rfl) Dc
 ·exact key rfl (qb rfl λ_ e=>by cases e) (.inl rfl) (λ_=>rfl) Dc
 ·exact key rfl (zV (λ_ _ e=>by cases e;rfl) (λ_ h=>by rw[xT.mp h];rfl) λ_ _ _ e=>by cases e) (.inl rfl) (λ_=>rfl) Dc
 ·exact key rfl (qb rfl λ_ e=>by cases e) (.inl rfl) (λ_=>rfl) Dc
 ·exact key rfl (qb rfl λ_ e=>by cases e) (.inr rfl) (λ_=>rfl) Dc
 ·exact key rfl (nu rfl rfl) (.inl rfl) (λ_=>rfl) Dc
 ·exact key rfl (qb rfl λ_ e=>by cases e) (.inl rfl) (λ_=>rfl) Dc
 ·exact key rfl (nu rfl rfl) (.inl rfl) (λ_=>rfl) Dc
 ·exact key rfl (zV (λ_ _ e=>by cases e;rfl) (λ_ h=>by rw[xT.mp h];rfl) λ_ _ _ e=>by cases e) (.inl rfl) (λ_=>rfl) Dc
 ·exact key (p:=.tuple [.int 1,.tuple [.tuple [.int 0,.int 0]]]) rfl (nu rfl rfl) (.inl rfl) (λ_=>rfl) Dc
noncomputable def wC:Nat->Nat
 |0=>300
 |m+1=>5*(wC m+1)+300
theorem Zk:∀m,wB m<=wC m
 |0=>by decide
 |m+1=>by have:=Zk m;simp only[wB,wC];lia
theorem vH{f:Nat->D->Option PyData}(hf:Fd f){j:Nat}{w:Str}(h:((PyData.str w).leavesShort 40&&decide (w.cps.size<=10))=true):RG f j 10 (.str w):=by
 simp only[eU,xU] at h;exact Qq hf h
theorem Zm{k':Nat}{o:SO}{p:Int}{od:D}(ho:g8 o)(hn:n<=8)(hp:0<=p/\p<n)(vI:od∈mD):W (call ao T (k'+2) true 40 [.l 0,.d (.tup [.str "end",.int p]),.d od]) [o] λv s=>∃y o',v=.d y/\s=[o']/\Bt 2 4 300 y/\g8 o':=by
 have tU:(100:Nat)<=sizeLine:=by decide
 refine W.call Q7 rfl ?_;unfold JL;refine Y ?_;refine oX ho gV gV λr o1 hr BZ=>?_;refine Y ?_;obtain⟨y,ey,hy⟩:=Hj (xs:=[.tup [.str "end",.int (p+1)],.tup [.str "end",.bl true],.tup [.str "end",.non],.tup [.str "ends",.int p],.fl [.str "end",.int p],od,.tup [.str "end",.int p,.int 0],.tup [.str "case",.int p,.tup [.tup [.str "end",.int p]]],.tup [.str "end",.int (-1)]]) (r:=r) (by show r<9;lia);refine cL ey ?_;refine Y ?_;refine⟨_,_,rfl,rfl,?_,BZ⟩;clear ey;simp only[fC,sS,qz] at hy;rcases hy with rfl|rfl|rfl|rfl|rfl|rfl|rfl|rfl|rfl
 ·exact⟨nu rfl rfl,pd,.inl rfl,λi=>(nA (j:=i+3) cV (dN (vH cV Dc) (dN (sy cV gV) bD))).mono J0⟩
 ·exact⟨nu rfl rfl,pd,.inl rfl,λi=>⟨_,rfl,by decide +kernel,by decide +kernel,by decide +kernel⟩⟩
 ·exact⟨nu rfl rfl,pd,.inl rfl,λi=>⟨_,rfl,by decide +kernel,by decide +kernel,by decide +kernel⟩⟩
 ·exact⟨nu rfl rfl,pd,.inl rfl,λi=>(nA (j:=i+3) cV (dN (vH cV Dc) (dN (sy cV gV) bD))).mono J0⟩
 ·exact⟨qb rfl (λ_ e=>by cases e),pd,.inl rfl,λi=>(Qp (j:=i+3) (dN (vH cV Dc) (dN (sy cV gV) bD))).mono J0⟩
 ·obtain⟨_,h2,f,hf,h3⟩:=R5 vI;exact⟨h2,f,hf,λi=>(h3 i).mono J0⟩
 ·refine⟨zV (λ_ _ e=>by cases e;rfl) (λy hy=>?_) (λ_ _ _ e=>by cases e),pd,.inl rfl,λi=>(nA (j:=i+3) cV (dN (vH cV Dc) (dN (sy cV gV) (dN (sy cV J0) bD)))).mono J0⟩;simp only[fC,sS,qz] at hy;rcases hy with rfl|rfl|rfl<;>rfl
 ·exact⟨Jz rfl rfl λy hy=>by rw[xT.mp hy];exact nu rfl rfl,pd,.inl rfl,λi=>(nA (j:=i+3) cV (dN (vH cV Dc) (dN (sy cV gV) (dN (nA (j:=i+2) cV (dN (nA (j:=i+1) cV (dN (vH cV Dc) (dN (sy cV gV) bD))) bD)) bD)))).mono J0⟩
 ·exact⟨nu rfl rfl,pd,.inl rfl,λi=>(nA (j:=i+3) cV (dN (vH cV Dc) (dN (sy cV J0) bD))).mono J0⟩
end
section
variable {n k:Int}
theorem Ka{m j B C:Nat}{p:Int}{xs:List D}{a b:D}{f:Nat->D->Option PyData}(ha:BR a=true)(hb:ju b=true)(hf:f=pd\/f=pe)(h1:∀i,RG f (i+j+1) 110 a)(h2:∀i,RG f (i+j+1) 110 b)(hx:∀y∈xs,Sh m y)(h3:∀i,su f (i+j) B xs)(hc:B+230<=C):Bt (m+1) (j+2) C (.tup [a,b,.tup xs]):=
 ⟨Jz ha hb hx,f,hf,λi=>(nA (j:=i+j+1) (fdOf hf) (dN (h1 i) (dN (h2 i) (dN (nA (j:=i+j) (fdOf hf) (h3 i)) bD)))).mono gV⟩
theorem Zn(hn:n<=8)(hk1:1<=k)(hk:k<=5){od:D}(vI:od∈mD):∀(m k':Nat) {x:D} {o:SO},g8 o->Mk n k m x->W (call ao T (m+k'+2) true 40 [.l 0,.d x,.d od]) [o] λv s=>∃y o' t,v=.d y/\s=o'::t/\Bt (m+2) (2*m+4) (wC m) y/\g8 o'
 |0,k',x,o,ho,⟨p,hp,e⟩=>by
  subst e;rw[show 0+k'+2=k'+2 by lia];refine(Zm ho hn hp vI).imp λv s=>?_;rintro⟨y,o',rfl,rfl,h⟩;exact⟨y,o',[],rfl,rfl,h⟩
 |m+1,k',x,o,ho,hx=>by
  have tU:(100:Nat)<=sizeLine:=by decide
  rcases hx with ⟨p,hp,rfl⟩|⟨p,xs,hp,hl,R6,rfl⟩
  ·refine(Zm (k':=m+1+k') ho hn hp vI).imp λv s=>?_;rintro⟨y,o',rfl,rfl,⟨h1,f,hf,h2⟩,tG⟩;refine⟨y,o',[],rfl,rfl,⟨?_,f,hf,λi=>?_⟩,tG⟩
   ·have:∀t,Sh (t+2) y:=λt=>by
     induction t with
     |zero=>exact h1
     |succ t ih=>exact BX ih
    exact this (m+1)
   ·rw[show i+(2*(m+1)+4)=i+(2*m+2)+4 by lia];exact(h2 (i+(2*m+2))).mono (by simp only[wC];lia)
  obtain⟨hoE,hoS,fo,R7,hoR⟩:=R5 vI;have zY:xs.length<=5:=by lia
  have Jw:0<xs.length:=by lia
  have sx:∀y∈xs,Sh (m+2) y:=λy hy=>BX (JD (R6 y hy));have rx:∀{f:Nat->D->Option PyData},Fd f->∀y∈xs,∀i,RG f (i+(2*m+4)) (wC m) y:=λhf y hy i=>by
   rw[show i+(2*m+4)=i+3+(2*m+1) by lia];exact(Qs hf hn hk (R6 y hy) (i+3)).mono (Zk m)
  have rl:∀{f:Nat->D->Option PyData} {zs:List D},Fd f->(∀z∈zs,z∈xs)->zs.length<=5->∀i,su f (i+(2*m+4)) (5*(wC m+1)) zs:=λhf hz R8 i=>(JF λz h=>rx hf z (hz z h) i).mono (Kv _ R8);have rc:∀{f:Nat->D->Option PyData} {j:Nat},Fd f->RG f j 110 (.str "case"):=λhf=>(vH hf Dc).mono J0;have ri:∀{f:Nat->D->Option PyData} {j:Nat},Fd f->RG f j 110 (.int p):=λhf=>(sy hf gV).mono J0;have cs:∀{zs:List D},(∀z∈zs,z∈xs)->zs.length<=5->Bt (m+1+2) (2*(m+1)+4) (wC (m+1)) (.tup [.str "case",.int p,.tup zs]):=λhz R8=>
   Ka (j:=2*m+4) (B:=5*(wC m+1)) (p:=p) rfl rfl (.inl rfl) (λ_=>rc cV) (λ_=>ri cV) (λz h=>sx z (hz z h)) (rl cV hz R8) (by simp only[wC];lia)
  rw[show m+1+k'+2=m+k'+2+1 by lia];refine W.call Q7 rfl ?_;unfold JL;refine Y ?_;refine oX ho gV gV λr o1 hr BZ=>?_;refine Y ?_;refine WS.ite (λc=>?_) (λc=>?_)
  ·refine Y ?_;refine oX BZ gV gV λr2 o2 J_ R9=>?_;refine Y ?_;refine KaZ rfl ?_;have Hl:r2<xs.length:=by lia
   refine Y ?_;refine cL (zR (eO Hl)) ?_;refine Y ?_;refine Xj (n:=0) (o:=o2) rfl rfl ((Zn hn hk1 hk vI m k' R9 (R6 _ (Ai Hl))).imp λv s=>?_);rintro⟨y,o3,t,rfl,rfl,⟨hy,f,hf,hyR⟩,hp3⟩;refine⟨_,_,_,rfl,rfl,?_⟩;refine Y ?_;refine⟨_,zkp gV gV,?_⟩;refine Y ?_;refine⟨_,o3,_,rfl,rfl,?_,hp3⟩;refine Ka (j:=2*m+4) (B:=5*(wC m+1)) (p:=p) (f:=f) rfl rfl hf (λ_=>rc (fdOf hf)) (λ_=>ri (fdOf hf)) (λz hz=>?_) (λi=>(JF (A:=wC m) λz hz=>?_).mono (Kv _ (by rw[qd];exact zY))) (by simp only[wC];lia)
   ·rcases Kf hz with q|q
    ·exact sx z q
    ·rw[q];exact hy
   ·rcases Kf hz with q|q
    ·exact rx (fdOf hf) z q i
    ·rw[q];exact hyR i
  ·obtain⟨x0,xr,rfl⟩ : ∃x0 xr,xs=x0::xr:=by
    cases xs with
    |nil=>simp at Jw
    |cons a b=>exact⟨a,b,rfl⟩
   refine Y ?_;refine cL (pY (x:=x0) J0 rfl) ?_;refine Y ?_;refine oX BZ J0 J0 λr2 o2 J_ R9=>?_;refine Y ?_;obtain⟨y,ey,hy⟩:=Hj (xs:=[.tup [.str "case",od,.tup (x0::xr)],.tup [.str "case",.int p,.tup (cut (x0::xr) none (some (-1)))],.tup [.str "case",.int p,.tup (x0::xr).reverse],.fl [.str "case",.int p,.tup (x0::xr)],.tup [.str "cases",.int p,.tup (x0::xr)],.tup [.str "case",.int p,.fl (x0::xr)],x0,.tup [.str "case",.int p]]) (r:=r2) (by show r2<8;lia);refine cL ey ?_;refine Y ?_;refine⟨_,o2,_,rfl,rfl,?_,R9⟩;clear ey;have lc:=ziG (xs:=x0::xr) (lo:=none) (hi:=some (-1));simp only[fC,sS,qz] at hy;rcases hy with rfl|rfl|rfl|rfl|rfl|rfl|rfl|rfl
   ·exact Ka (j:=2*m+4) (B:=5*(wC m+1)) (p:=p) (f:=fo) rfl hoE R7 (λ_=>rc (fdOf R7)) (λi=>by rw[show i+(2*m+4)+1=i+(2*m+1)+4 by lia];exact hoR _) sx (rl (fdOf R7) (λz h=>h) zY) (by simp only[wC];lia)
   ·exact cs (λz h=>zh5 h) gV
   ·exact cs (λz h=>List.mem_reverse.mp h) (by rw[List.length_reverse];exact zY)
   ·exact⟨qb rfl (λ_ e=>by cases e),pd,.inl rfl,λi=>(Qp (j:=i+(2*m+5)) (dN (rc cV) (dN (ri cV) (dN (nA (j:=i+(2*m+4)) cV (rl cV (λz h=>h) zY i)) bD)))).mono (by simp only[wC];lia)⟩
   ·exact Ka (j:=2*m+4) (B:=5*(wC m+1)) (p:=p) (f:=pd) rfl rfl (.inl rfl) (λ_=>(vH cV Dc).mono J0) (λ_=>ri cV) sx (rl cV (λz h=>h) zY) (by simp only[wC];lia)
   ·refine⟨zV (λ_ _ e=>by cases e;rfl) (λy hy=>?_) (λ_ _ _ e=>by cases e),pd,.inl rfl,λi=>(nA (j:=i+(2*m+5)) cV (dN (rc cV) (dN (ri cV) (dN (Qp (j:=i+(2*m+4)) (rl cV (λz h=>h) zY i)) bD)))).mono (by simp only[wC];lia)⟩;simp only[fC,sS,qz] at hy;rcases hy with rfl|rfl|rfl<;>rfl
   ·exact⟨BX (sx y Nj),pd,.inl rfl,λi=>by rw[show i+(2*(m+1)+4)=i+2+(2*m+4) by lia];exact(rx cV y Nj (i+2)).mono (by simp only[wC];lia)⟩
   ·exact⟨nu rfl rfl,pd,.inl rfl,λi=>(nA (j:=i+(2*m+5)) cV (dN (rc cV) (dN (ri cV) bD))).mono (by simp only[wC];lia)⟩
end
section
variable {n k d:Int}{ps:List (Int×Int)}{x:D}{ks:List (Option Int)}
theorem zil{k':Nat}{x:D}(h:ju x=true):W (call ao T (k'+3) true 20 [.d (bx k d),.d x]) [] λv s=>v=.d (.bl (vC 0 (k-1) x)):=by
 refine W.call X3 rfl ?_;unfold Qx bx;refine Y ?_;exact vA rfl ((Y6 h).imp λv s e=>⟨_,e,rfl⟩)
theorem zd5{k':Nat}(h:Jt x=true)(hl:∀xs,x=.tup xs->xs.length<=200):W (call ao T (k'+4) true 22 [.d (bL n ps),.d (bx k d),.d x]) [] λv s=>v=.d (.bl (G7 n k x)):=by
 have hs:(200:Nat)<=sizeLine:=by decide
 refine W.call X5 rfl ?_;unfold Qz bL;refine Y ?_;refine W.c0 (xH (zkN h)) ?_;cases x with
 |tup xs=>
  have hx:∀y∈xs,ju y=true:=gb.mp h;have zY:=hl xs rfl;rw[show G7 n k (.tup xs)=(decide ((xs.length:Int)=n)&&xs.all (BP k)) from rfl];by_cases hn:(xs.length:Int)=n
  ·rw[show lg n (.tup xs)=true from gA hn,gA hn];refine Y ?_;refine rR (l:=xs) (f:=λx=>x) (λt=>some (.bl (BP k t))) gV ?_ (λt ht=>?_) ?_
   ·refine Y ?_;rw[List.map_id'];exact⟨rfl,rfl⟩
   ·refine Y ?_;refine⟨rfl,λ_=>?_,λhb=>by cases hb⟩;refine Y ?_;refine W.ite (λc=>?_) (λc=>?_)
    ·refine Y ?_;exact⟨rfl,_,rfl,by unfold BP;rw[show t.jE=true from c];rfl⟩
    ·refine Y ?_;refine vA rfl ((zil (hx t ht)).imp λv s e=>⟨_,e,rfl,_,rfl,?_⟩);unfold BP;rw[show t.jE=false from by simpa using c];rfl
   rw[BK];refine Y ?_;refine cL W6 ?_;rfl
  ·rw[show lg n (.tup xs)=false from g_ hn,g_ hn,Bool.false_and];exact Y trivial
 |_=>exact Y rfl
theorem zd0{k':Nat}(h:Web n ps)(hr:1<=d/\d<=k/\k<=24)(hx:Jt x=true)(hl:∀xs,x=.tup xs->xs.length<=200)(hb:G7 n k x=true):W (call ao T (k'+7) true 23 [.d (bL n ps),.d (bx k d),.d x]) [] λv s=>∃d,v=.d d:=by
 refine W.call X6 rfl ?_;unfold QB;refine Y ?_;refine W.c1 (zgy h) λ_=>?_;refine Y ?_;refine W.c1 (zfu hr.1 hr.2.1 hr.2.2) λ_=>?_;refine Y ?_;refine W.c0 (zd5 hx hl) ?_;rw[hb];refine Y ?_;exact⟨_,rfl⟩
end
section
variable {n k d:Int}{ps:List (Int×Int)}{ks:List (Option Int)}
theorem zib{k' m:Nat}{x:D}(h:Web n ps)(hd:1<=d)(xG:d<=k)(hk:k<=24)(q:Kn n k ks)(hx:Sh m x):W (call ao T (2*m+k'+9) true 24 [.d (bL n ps),.d (bx k d),.d (.tup (ks.map cD)),.d x]) [] λv s=>v=.d (.bl (pap n k d ps m ks x)):=by
 have hql:=q.len;have h8:=h.h8;have hkb:G7 n k (.tup (ks.map cD))=true:=by
  rw[show G7 n k (.tup (ks.map cD))=(decide (((ks.map cD).length:Int)=n)&&(ks.map cD).all (BP k)) from rfl,cJ,gA hql,Bool.true_and,CJ,gb];intro c hc;cases c with
  |none=>rfl
  |some i=>have:=q.lo i hc;exact gA (p:=(0<=i/\i<=k-1)) gV
 have hok:Jt (.tup (ks.map cD))=true:=gb.mpr λy hy=>by
  obtain⟨c,_,rfl⟩:=sU.mp hy;cases c<;>rfl
 refine W.call X7 rfl ?_;unfold QC;refine Y ?_;refine W.c1 (zd0 (k':=2*m+k'+1) h ⟨hd,xG,hk⟩ hok (λxs e=>by cases e;rw[cJ];lia) hkb) λ_=>?_;refine Y ?_;refine W.c0 (zhP h hd xG hk) ?_;refine Y ?_;refine W.c0 (Zd h hd gV hk m (k'+5) ks x q hx) ?_
 first|exact Y trivial|exact Y rfl
theorem Zo{k' m:Nat}{x:D}(h:Web n ps)(hd:1<=d)(xG:d<=k)(hk:k<=24)(q:Kn n k ks)(hx:Sh m x)(hr:Rp x):W (call ao T (2*m+k'+10) true 41 [.d (bL n ps),.d (bx k d),.d (.tup (ks.map cD)),.d x]) [] λv s=>v=.d (.bl true):=by
 obtain⟨t,et⟩:=hr;refine W.call Yn rfl ?_;unfold Q0;refine Y ?_;refine cL et ?_;refine Y ?_;have key:=Zf h hd gV hk m (m+k'+7) ks x q hx;rw[show m+(m+k'+7)+2=2*m+k'+9 by lia] at key;refine W.c0 key ?_;refine Y ?_;refine⟨rfl,?_⟩;refine BJ (λ_ J s=>s=[]/\∃a6 a7,J=[some (.d (bL n ps)),some (.d (bx k d)),some (.d (.tup (ks.map cD))),some (.d x),some (.d (.str t)),some (.d (.bl (pap n k d ps m ks x))),a6,a7]) ⟨rfl,_,_,rfl⟩ (λi y J s e hI=>?_) (λJ s hI=>?_)
 ·obtain⟨rfl,a6,a7,rfl⟩:=hI;refine Y ?_;refine W.c0 (zib h hd xG hk q hx) ?_;refine Y ?_;refine WS.ite (λz=>?_) (λz=>?_)
  ·exfalso
   revert z
   cases pap n k d ps m ks x<;>decide
  ·refine Y ?_;exact⟨_,rfl,rfl,_,_,rfl⟩
 ·obtain⟨rfl,a6,a7,rfl⟩:=hI;refine Y ?_;refine cL et ?_;refine Y ?_;show Xv.d (.bl (t==t))=_;rw[xW]
end
theorem zlZ{m j B:Nat}{y:D}(h:Bt m j B y)(hj:j<=40)(hb:B<=200000):Rp y:=by
 obtain⟨_,f,hf,hr⟩:=h;have:=hr (40-j);rw[show 40-j+j=40 by lia] at this;exact vG hf this hb
theorem Kc{x:D}{m:Nat}(h:Sh m x):∀t,Sh (m+t) x
 |0=>h
 |t+1=>BX (Kc h t)
noncomputable def xK:List (Int×Int):=[(2,1),(3,1),(5,2),(4,1),(4,2),(3,2),(2,2)]
noncomputable def R_:List D:=[.tup [.str "end",.int 0],.tup [.str "end",.int 1],.tup [.str "case",.int 0,.tup [.tup [.str "end",.int 1],.tup [.str "end",.int 1]]],.non,.tup [.str "end"]]
theorem zjF{x:D}(hx:x∈R_):Sh 2 x/\Rp x:=by
 simp only[R_,fC,sS,qz] at hx;rcases hx with rfl|rfl|rfl|rfl|rfl
 ·exact⟨nu rfl rfl,vG (B:=200) (.inl rfl) ⟨_,rfl,by decide +kernel,by decide +kernel,by decide +kernel⟩ J0⟩
 ·exact⟨nu rfl rfl,vG (B:=200) (.inl rfl) ⟨_,rfl,by decide +kernel,by decide +kernel,by decide +kernel⟩ J0⟩
 ·refine⟨Jz rfl rfl λy hy=>?_,vG (B:=200) (.inl rfl) ⟨_,rfl,by decide +kernel,by decide +kernel,by decide +kernel⟩ J0⟩;simp only[fC,sS,qz] at hy;rcases hy with rfl|rfl<;>exact nu rfl rfl
 ·exact⟨qb rfl (λ_ e=>by cases e),vG (B:=200) (.inl rfl) ⟨_,rfl,by decide +kernel,by decide +kernel,by decide +kernel⟩ J0⟩
 ·exact⟨zV (λ_ _ e=>by cases e;rfl) (λ_ h=>by rw[xT.mp h];rfl) (λ_ _ _ e=>by cases e),vG (B:=200) (.inl rfl) ⟨_,rfl,by decide +kernel,by decide +kernel,by decide +kernel⟩ J0⟩
theorem ziD{n:Int}(h:1<=n/\n<=1000):prim .mult [.tup [.non],.int n]=some (.dat (.tup ((List.replicate n.toNat none).map cD))):=by
 show (if _ then _ else _)=_;rw[if_pos ⟨h.1,h.2,by decide,by decide⟩];have:∀k:Nat,rep [D.non] k=(List.replicate k (none:Option Int)).map cD:=λk=>by
  unfold rep
  induction k with
  |zero=>rfl
  |succ k ih=>rw[Ad,KN,ih,Ad];rfl
 rw[this]
theorem sG(ns:List Int)(hn:ns.length<=63):∃s',call ao T 60 true 42 [.d (.fl (ns.map D.int))] []=some (.ok (.d (.bl true)),s'):=by
 suffices h:W (call ao T 60 true 42 [.d (.fl (ns.map D.int))]) [] λv _=>v=.d (.bl true) by
  obtain⟨v,s',e,rfl⟩:=h;exact⟨s',e⟩
 have hs:(20000:Nat)<=sizeLine:=by decide
 obtain⟨m5,e5⟩ : ∃m,m=5:=⟨5,rfl⟩;refine W.call (k:=59) Yo rfl ?_;unfold Q5;refine Y ?_;refine BJ (c:=R_) (λ_ J s=>s=[]/\∃(a b c d e f g h:Option Xv),J=[some (.d (.fl (ns.map D.int))),a,b,c,d,e,f,g,h]) ⟨rfl,_,_,_,_,_,_,_,_,rfl⟩ (λi x J s hx i_=>?_) (λJ s i_=>?_)
 ·obtain⟨rfl,a,b,c,d,e,f,g,h',rfl⟩:=i_;obtain⟨wL,uF⟩:=zjF (dH hx);refine Y ?_;have hw:Web 2 [(0,1)]:=⟨by decide,by decide,by decide,List.pairwise_singleton ..,by decide⟩;have hq:Kn 2 2 [none,none]:=⟨rfl,λi h=>by simp at h⟩;have e1:(D.tup [.int 2,.tup [.tup [.int 0,.int 1]]])=bL 2 [(0,1)]:=rfl;have e2:(D.tup [.int 2,.int 2])=bx 2 2:=rfl;have e3:(D.tup [.non,.non])=.tup (([none,none]:List (Option Int)).map cD):=rfl;rw[e1,e2,e3];have key:=Zo (k':=39) (d:=2) hw J0 J0 J0 hq (Kc wL (m5-2)) uF;rw[show 2*(2+(m5-2))+39+10=59 by lia] at key;refine W.c0 key ?_;refine Y ?_;exact⟨_,rfl,rfl,_,_,_,_,_,_,_,_,rfl⟩
 obtain⟨rfl,a,b,c,d,e,f,g,h',rfl⟩:=i_;refine Y ?_;refine vA rfl ((zk3 (k:=58)).imp λv _=>?_);rintro⟨n0,rfl⟩;refine⟨_,rfl,?_⟩;refine Y ?_;refine GK (PJ ?_) ?_
 ·have:=zhH (ns:=ns) (lo:=some 1) (hi:=some 3);show 1+_<=_
  lia
 refine Y ?_;refine BJ (λ_ J s=>∃(a b c d e f g h:Option Xv),J=[some (.d (.fl (ns.map D.int))),a,b,c,d,e,f,g,h]) ⟨_,_,_,_,_,_,_,_,rfl⟩ (λi x J s hx i_=>?_) (λJ s i_=>?_)
 ·obtain⟨m,rfl⟩ : ∃m,x=.int m:=by
   rcases jh.mp (dH hx) with z|z
   ·rcases fC.mp z with rfl|z
    ·exact⟨_,rfl⟩
    ·cases z
   ·exact zim z
  obtain⟨a,b,c,d,e,f,g,h',rfl⟩:=i_;refine Y ?_;refine Kap rfl ((zlc (k:=58)).imp λv s1=>?_);rintro⟨j,o,rfl,hj,hp⟩;refine⟨j,o,rfl,hj,?_⟩;refine Y ?_;refine wZ rfl ((R3 (k:=58) hp (m:=4) gV gV).imp λv s1=>?_);rintro⟨_,o1,rfl,rfl,⟨r,rfl,hr0,hr1⟩,hp⟩;refine⟨_,_,rfl,rfl,?_⟩;refine Y ?_;have hz:1<=1+r/\1+r<=4:=by lia
  generalize 1+r=z at hz ⊢;refine wZ rfl ((zge (k:=57) hp (n:=z) gV gV).imp λv s1=>?_);rintro⟨ps,o3,rfl,rfl,hw,hp⟩;refine⟨_,_,rfl,rfl,?_⟩;refine Y ?_;refine wZ rfl ((R3 (k:=58) hp (m:=7) gV gV).imp λv s1=>?_);rintro⟨_,o4,rfl,rfl,⟨r2,rfl,J_,Zh⟩,hp⟩;refine⟨_,_,rfl,rfl,?_⟩;obtain⟨rg,Zq,Zr⟩:=zio (xs:=xK.map λp=>bx p.1 p.2) (z:=r2) J_ (by show r2<7;exact Zh);refine Y ?_;refine cL Zq ?_;obtain⟨⟨kk,dd⟩,Zu,rfl⟩:=sU.mp Zr;have hr:1<=dd/\dd<=kk/\kk<=5:=(show ∀p∈xK,1<=p.2/\p.2<=p.1/\p.1<=5 by decide) _ Zu;clear Zq Zr Zu;dsimp only;have ew:bL z ps=.tup [.int z,.tup (ps.map gq)]:=rfl;refine Y ?_;refine wZ rfl ((zfT (k':=57) hp gV gV gV).imp λv s1=>?_);rintro⟨ks,o5,rfl,rfl,Zv,hp⟩;refine⟨_,_,rfl,rfl,?_⟩;refine Y ?_;refine wZ rfl ((R4 (d:=dd) hw gV gV gV 3 53 hp Zv).imp λv s1=>?_);rintro⟨x1,o6,rfl,rfl,wL,hp⟩;refine⟨_,_,rfl,rfl,?_⟩;refine Y ?_;refine cL (ziD (n:=z) gV) ?_;refine Y ?_;have nD:Kn z kk (List.replicate z.toNat none):=⟨by rw[Ca];lia,λi hi=>by cases List.eq_of_mem_replicate hi⟩;refine wZ rfl ((R4 (d:=dd) hw gV gV gV 2 54 hp nD).imp λv s1=>?_);rintro⟨x2,o7,rfl,rfl,uF,hp⟩;refine⟨_,_,rfl,rfl,?_⟩;refine Y ?_;refine wZ rfl ((zl3 (k:=57) hp).imp λv s1=>?_);rintro⟨od,o8,rfl,rfl,vI,hp⟩;refine⟨_,_,rfl,rfl,?_⟩;refine Y ?_;have w3:wC 3<=200000:=by decide
  have b1:Sh m5 x1/\Rp x1:=⟨by rw[e5];exact BX (JD wL),by
   have:=Qs cV (show z<=8 by lia) hr.2.2 wL 33;exact vG (.inl rfl) this J0⟩
  have b2:Sh m5 x2/\Rp x2:=⟨by rw[e5];exact Kc (JD uF) 2,by
   have:=Qs cV (show z<=8 by lia) hr.2.2 uF 35;exact vG (.inl rfl) this J0⟩
  have b3:Sh m5 od/\Rp od:=by
   obtain⟨_,h2,f,hf,h3⟩:=R5 vI;exact⟨by rw[e5];exact Kc h2 3,vG hf (h3 36) J0⟩
  refine Jq (c:=(List.range (4-0:Int).toNat).map λ(j:Nat)=>.int (0+j)) (λi acc s'=>∃o:SO,s'=s++[o]/\g8 o/\acc.length=i/\∀y∈acc,Sh m5 y/\Rp y) ?_ (λi x acc s' e hI=>?_) (λacc s' hI=>?_)
  ·refine Y ?_;exact⟨rfl,rfl,o8,rfl,hp,rfl,λy hy=>by cases hy⟩
  ·obtain⟨o,rfl,hp,hl,hy⟩:=hI;have hi:=(fB.mp e).1;rw[cJ,jO] at hi;refine Y ?_;refine⟨λ_=>?_,λhb=>by cases hb⟩;refine Y ?_;refine Kat rfl ((Zn (show z<=8 by lia) gV hr.2.2 vI 3 54 hp wL).imp λv s1=>?_);rintro⟨y,o2,t,rfl,rfl,hb,hp⟩;refine⟨_,_,_,rfl,rfl,?_⟩;refine⟨_,rfl,by lia,o2,rfl,hp,by simp[hl],λz hz=>?_⟩;rcases jh.mp hz with hz|hz
   ·exact hy z hz
   ·rw[xT.mp hz];exact⟨by rw[e5];exact hb.1,zlZ hb J0 w3⟩
  obtain⟨o9,rfl,hp,hl,hy⟩:=hI;rw[cJ,jO] at hl;refine Y ?_;refine GK (PJ (by show 3+_<=_;lia)) ?_;refine Y ?_;refine BJ (λ_ J s'=>s'=s++[o9]/\∃(a:Option Xv),J=[some (.d (.fl (ns.map D.int))),a,some (.d (.int m)),some (.l s.length),some (.d (bL z ps)),some (.d (bx kk dd)),some (.d (.tup (ks.map cD))),some (.d (.fl [x1,x2])),some (.d od)]) ⟨rfl,_,rfl⟩ (λi x J s' hx i_=>?_) (λJ s' i_=>?_)
  ·obtain⟨rfl,a,rfl⟩:=i_;have Zw:Sh m5 x/\Rp x:=by
    rcases jh.mp (dH hx) with q|q
    ·simp only[jh,fC,sS,qz] at q;rcases q with (rfl|rfl)|rfl
     ·exact b1
     ·exact b2
     ·exact b3
    ·exact hy x q
   refine Y ?_;have key:=Zo (k':=39) (d:=dd) hw gV gV gV Zv Zw.1 Zw.2;rw[show 2*m5+39+10=59 by lia] at key;refine W.c0 key ?_;refine Y ?_;exact⟨_,rfl,rfl,_,rfl⟩
  ·obtain⟨rfl,a,rfl⟩:=i_;refine Y ?_;exact⟨_,rfl,_,_,_,_,_,_,_,_,rfl⟩
 ·obtain⟨a,b,c,d,e,f,g,h',rfl⟩:=i_;exact Y trivial
end cY
end Lake
open Lake
open PySem PySem.W PyProof.Rows
set_option maxRecDepth 100000 in
set_option maxHeartbeats 0 in
theorem PySem.Challenge.cw_ringhues_k12_papers_by_anybody_holds : PySem.Challenge.rw_ringhues_k12_papers_by_anybody.Holds := by
 refine PySem.W.holds_law cY.ws λsaid=>?_;refine holds_open (q:=cY.qv) (loose:=cY.loose) (Xt:=λs=>xlAt cY.qv [] s&&recOk [] s) (XP:=XL cY.qv []) (Yf:=(Mi.jL cY.fs cY.ms cY.xs cY.lk cY.bd).obs) (Ya:=(Mi.jL cY.fs cY.ms cY.xs cY.lk cY.bd).val) (YP:=(Mi.jL cY.fs cY.ms cY.xs cY.lk cY.bd).says) (N:=20000) cY.left (Mi.jL cY.fs cY.ms cY.xs cY.lk cY.bd).of (Mi.jL cY.fs cY.ms cY.xs cY.lk cY.bd).keeps (λs e=>xl_of s (Ks.mp e).1) XL.keeps (by rfl) (by rfl) (by rfl) (λs e=>recFacts_of (Ks.mp e).2) (by rfl) (by first|assumption|decide +kernel) Dc ⟨rfl,rfl,rfl,rfl,rfl,by decide +kernel⟩ ?hw ?hc
 case hw=>w_witness2
 case hc=>exact Mi.G6 (l:=PySem.Challenge.rw_ringhues_k12_papers_by_anybody) (x:="_law_script") (k:=60) rfl rfl ⟨by decide,by decide,rfl⟩ (λw K mg fa h S X G RT=>cY.all_mk cY.sG S X G RT)
