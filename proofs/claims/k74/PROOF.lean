import PyProof.Rows.All
import Wide.All
import KE.KIsAll
import KE.KSortTup
import KE.KTryDeep
import KE.KFromBytes
import KE.KIntText
import KE.KDictOf
import Wide.FinOn
import PySem.Challenge.RW_ringhues_k74_rings_written_and_read
set_option compiler.extract_closed false
set_option Elab.async false
set_option linter.all false
set_option maxRecDepth 100000
set_option maxHeartbeats 4000000
namespace Lake
theorem gV{p:Prop}(h:p:=by lia):p:=h
theorem Bd{p:Prop}(h:p:=by decide +kernel):p:=h
theorem J0{p:Prop}(h:p:=by decide):p:=h
theorem MP{p:Prop}(h:p:=by simp):p:=h
abbrev aG:=@PySem.wpAny_bind
abbrev cX:=@PySem.Heap.get?_push_of_some
abbrev bZ:=@Bool.and_eq_true
abbrev gR:=@List.getElem?_eq_some_iff
abbrev bC:=@PySem.wpAny_pure
abbrev gU:=@List.getElem?_eq_getElem
abbrev dh:=@Option.some.inj
abbrev fV:=@List.mem_cons_of_mem
abbrev cg:=@PySem.Heap.lt_size
abbrev bY:=@Nat.le_refl
abbrev gw:=@Nat.lt_of_lt_of_le
abbrev fW:=@List.size_toArray
abbrev dY:=@decide_eq_true
abbrev jh:=@List.mem_of_getElem?
abbrev ji:=@PySem.Heap.get?_push_size
abbrev gJ:=@List.length_cons
abbrev lM:=@List.getElem?_append_left
abbrev kh:=@Option.bind_eq_some_iff
abbrev gA:=@decide_eq_false
abbrev mQ:=@List.getElem?_append_right
abbrev iZ:=@of_decide_eq_true
abbrev iM:=@List.all_eq_true
abbrev jt:=@List.length_append
abbrev ju:=@List.mem_cons_self
abbrev lN:=@Option.map_eq_some_iff
abbrev kj:=@List.getElem?_set_ne
abbrev jO:=@List.lookup_cons
abbrev jk:=@List.mem_range
abbrev iQ:=@List.mem_cons
abbrev jP:=@List.length_set
abbrev qW:=@List.getElem?_eq_none_iff
abbrev i_:=@Nat.ne_of_lt
abbrev jd:=@Nat.le_trans
abbrev qD:=@List.mem_append_right
abbrev gB:=@beq_iff_eq
abbrev gK:=@PySem.wpAny_mono
abbrev nF:=@List.getElem?_map
abbrev xH:=@PyProof.Rows.slot_tuple_getitem
abbrev mR:=@List.mem_append
abbrev tU:=@List.getElem?_set_self
abbrev lO:=@PySem.wpAny_holding
abbrev xJ:=@Array.getElem?_eq_some_iff
abbrev n6:=@List.length_map
abbrev mU:=@Nat.lt_irrefl
abbrev qX:=@PySem.wpAny_truthy_bool
abbrev qF:=@List.nodup_cons
abbrev nG:=@List.map_cons
abbrev yL:=@PySem.F.excBase_ValueError
abbrev xK:=@PySem.Heap.get?_update_other
abbrev n8:=@List.all_cons
abbrev uP:=@PySem.Obj.data_mapFields
abbrev qG:=@PySem.wpAny_standAt
abbrev uQ:=@PySem.wpAny_loadPart_at
abbrev tV:=@List.length_nil
abbrev xM:=@PySem.mem_of_lookup
abbrev uR:=@List.not_mem_nil
abbrev yM:=@PySem.Heap.get?_update_self
abbrev yN:=@PySem.wpAny_loadName_local
abbrev uU:=@List.append_nil
abbrev xO:=@PySem.wpAny_newObj_type
abbrev Ds:=@List.getElem?_replicate
abbrev Dt:=@PySem.F.slot_str_split
abbrev yO:=@List.zip_cons_cons
abbrev GC:=@PyProof.Rows.callWith_type1
abbrev Du:=@List.length_replicate
abbrev Dv:=@List.getElem?_eq_none
abbrev yP:=@decide_eq_true_eq
abbrev Dw:=@PySem.Heap.get?_none_of_le
abbrev Dy:=@List.mem_append_left
abbrev yQ:=@List.length_take
abbrev yR:=@PyProof.Rows.slot_str_getitem
abbrev yS:=@Nat.le_of_not_lt
abbrev yU:=@beq_self_eq_true
abbrev Dz:=@PySem.wpAny_isSubtype_exc
abbrev uV:=@Nat.le_of_lt
abbrev GD:=@Option.isSome_iff_exists
abbrev GF:=@PySem.F.args_tuple_add_2
abbrev GJ:=@PySem.F.args_str_split_2
abbrev yV:=@PySem.wpAny_passesOwn
abbrev GK:=@PySem.F.entry_tuple_add
abbrev GP:=@PySem.wpAny_getItem_str_slice
abbrev GQ:=@PySem.F.entry_str_split
abbrev GR:=@Int.eq_ofNat_of_zero_le
abbrev GX:=@PySem.W.cellsFrom_some
abbrev GZ:=@PySem.F.slot_tuple_add
abbrev uW:=@PySem.wpAny_field
abbrev DG:=@Nat.lt_succ_of_lt
abbrev n_:=@congrArg
abbrev yW:=@List.nodup_nil
abbrev G3:=@PySem.Obj.isFreed_of_fields
abbrev xP:=@PySem.W.looks_findIn
abbrev G4:=@Nat.le_of_ble_eq_true
abbrev DK:=@Nat.zero_lt_succ
abbrev DN:=@List.getElem_mem
abbrev G5:=@Bool.and_eq_true_iff
abbrev G6:=@PySem.Calls.evalArgs_plain
abbrev uX:=@PySem.wpAny_Name
abbrev uY:=@PySem.call_meets
abbrev uZ:=@PySem.wpAny_call
abbrev xQ:=@Nat.zero_le
abbrev G7:=@List.filterMap_cons
abbrev G8:=@Array.length_toList
abbrev DP:=@PySem.wpAny_execs_nil
abbrev xR:=@PySem.sizeLine_eq
abbrev DQ:=@List.of_mem_zip
abbrev DR:=@List.forIn_cons
abbrev G9:=@List.getElem_of_mem
abbrev G_:=@List.mem_filterMap
abbrev Hf:=@List.contains_cons
abbrev DW:=@Bool.and_false
abbrev Hg:=@Bool.not_eq_true'
abbrev Hj:=@List.append_assoc
abbrev Hl:=@List.nodup_append
abbrev Ho:=@List.getElem?_inj
abbrev Hq:=@List.length_range
abbrev tW:=@or_false
namespace L2
open PySem PySem.Spec PyProof.Rows PySem.W
noncomputable def subIn(K:W.Frag)(C D:Addr):Bool:=PySem.W.ktsIn K C "BaseException"&&PySem.W.ktsIn K D "BaseException"&&match K.lookup C with
 |some ⟨_,_,.cls cd,_⟩=>cd.mro.contains (.ref D)
 |_=>false
noncomputable def mV:List Value:=[.type "ValueError",.type "Exception",.type "BaseException",.type "object"]
noncomputable def aV:List Value->Bool
 |.ref _::r=>aV r
 |l=>l==mV
noncomputable def Ol:Value->Option String
 |.type n=>some n
 |_=>none
noncomputable def yX:Value->Option Addr
 |.ref a=>some a
 |_=>none
noncomputable def qY:Value->Option String
 |.builtin n=>some n
 |_=>none
noncomputable def Om:Data->Option ClassData
 |.cls cd=>some cd
 |_=>none
noncomputable def Oo:List Value->Option (Value×List Value)
 |[]=>none
 |v::r=>some (v,r)
noncomputable def jw(K:Frag)(C:Addr)(bmB:List Value)(newId:String)(ini:Option Value):Bool:=(K.lookup C).any λo=>Ol o.cls==some "type"&&(Om o.data).any λcd=>(Oo cd.mro).any λp=>
 yX p.1==some C&&o.slots.size==6&&(o.slots[4]?.join).bind qY==some newId && !cd.hasDel&&tailIn K bmB p.2&&nsOkIn K cd.ns&&nsIn K cd.ns "__init__"==some ini
noncomputable def jx(K:Frag)(C fI:Addr):Bool:=jw K C mV "ValueError.__new__" (some (.ref fI))
noncomputable def aN(s:Stmt):Arguments:=match s with
 |.FunctionDef _ a _ _ _ _ _ _ _ _=>a
 |_=>{posonlyargs:=[],args:=[],vararg:=none,kwonlyargs:=[],kw_defaults:=[],kwarg:=none,defaults:=[]}
noncomputable def aH(s:Stmt):List Stmt:=match s with
 |.FunctionDef _ _ b _ _ _ _ _ _ _=>b
 |_=>[]
noncomputable def aq(s:Stmt):Scope:=match s with
 |.FunctionDef _ _ _ _ _ _ sc _ _ _=>sc
 |_=>{kind:=.function,names:=[],isGenerator:=false,isCoroutine:=false}
end L2
namespace Mi
open PySem PySem.Spec PyProof.Rows L2 PySem.W
noncomputable def j7(n c:Nat):Nat:=if c<n then c else 0
noncomputable def gW(n c e:Nat):Bool:=j7 n e==0||j7 n c==j7 n e
noncomputable def cN(L:List Addr)(c:Nat):Addr:=L.getD (j7 L.length c) 0
noncomputable def DX(K:W.Frag)(C:Addr):Bool:=
 PySem.W.findIn K (.ref C) "__getattribute__"==some (some (.builtin "BaseException.__getattribute__"))&&PySem.W.findIn K (.ref C) "__getattr__"==some none&&PySem.W.findIn K (.ref C) "__class__"==some (some (.builtin "object.__class__")) &&
 PySem.W.mroIn K C (.type "BaseException")==some true&&PySem.W.mroIn K C (.type "object")==some true&&(PySem.W.clsIn K C).isSome &&
 PySem.W.specialIn K (.builtin "object.__class__") "__get__"==some (some (.builtin "getset_descriptor.__get__"))&&PySem.W.takesIn K (.builtin "object.__class__")==some true
noncomputable def lQ(K:W.Frag)(L:List Addr):Bool:=(List.range L.length).all λc=>DX K (L.getD c 0)&&PySem.W.kitOne K (.ref (L.getD c 0)) (.type "ValueError")==some true &&
 (List.range L.length).all λe=>PySem.W.kitOne K (.ref (L.getD c 0)) (.ref (L.getD e 0))==some (gW L.length c e)
noncomputable def subB(K:W.Frag)(L:List Addr)(d:Nat):Bool:=(List.range L.length).all λc=>!(gW L.length c d)||L2.subIn K (L.getD c 0) (cN L d)
noncomputable def nJ(fd:FuncData):FuncData:={fd with kwdefaults:=.none,doc:=.none,pyModule:=.none,annotations:=none,code:=.none,closureTuple:=.none}
noncomputable def qH(x:Str)(st:Stmt):FuncData:=fnOf x x (aN st) (aH st) (aq st) .none .none .none .none none .none .none
noncomputable def u5(K:Frag)(x:Str):Option (Addr×FuncData):=match nsIn K mainGlobals x with
 |some (some (.ref f))=>(match K.lookup f with
  |some ⟨_,_,.func fd,_⟩=>(match codeIn K fd.code x&&keepIn K (.ref f) with
   |true=>some (f,fd)
   |false=>none)
  |_=>none)
 |_=>none
noncomputable def u6(K:Frag)(x:Str):Addr:=match nsIn K mainGlobals x with
 |some (some (.ref C))=>C
 |_=>0
noncomputable def qZ(K:Frag)(x:Str):Bool:=match nsIn K mainGlobals x with
 |some (some (.ref _))=>true
 |_=>false
noncomputable def jy(K:Frag)(p:Str×Int):Bool:=match nsIn K mainGlobals p.1 with
 |some (some (.int i _))=>decide (i=p.2)
 |_=>false
noncomputable def oh(K:Frag)(p:Str×Str):Bool:=match nsIn K mainGlobals p.1 with
 |some (some (.str x _))=>decide (x=p.2)
 |_=>false
noncomputable def lR(K:Frag)(x:Str):Bool:=match nsIn K mainGlobals x with
 |some none=>true
 |_=>false
noncomputable def yZ(K:Frag)(C:Addr):Bool:=jw K C [.type "ValueError",.type "Exception",.type "BaseException",.type "object"] "ValueError.__new__" none
structure Lk where
 za:List Str
 tX:List (Str×Int)
 Oq:List Str
 Ot:List Nat
 Ou:List Nat
 Ov:List (Str×Str)
noncomputable def Lk.L(l:Lk)(K:Frag):List Addr:=l.za.map (u6 K)
noncomputable def Lk.good(l:Lk)(K:Frag):Bool:=
 l.za.all (qZ K)&&(l.za.isEmpty||lQ K (l.L K))&&l.Ot.all (λk=>yZ K (cN (l.L K) k))&&l.Ou.all (λk=>subB K (l.L K) k)&&l.tX.all (jy K)&&l.Oq.all (lR K)&&l.Ov.all (oh K)
noncomputable def lU(h:Heap):List Addr->Frag
 |[]=>[]
 |a::r=>match h.get? a with
  |some o=>(a,o)::lU h r
  |none=>lU h r
noncomputable def q_(s:Stmt):List Stmt:=match s with
 |.ClassDef _ _ _ b _ _ _ _ _ _ _=>b
 |_=>[]
noncomputable def u9(q:Str)(st:Stmt):FuncData:=fnOf "__init__" q (aN st) (aH st) (aq st) .none .none .none .none none .none .none
noncomputable def zc(K:Frag)(C:Addr):Option FuncData:=match clsIn K C with
 |some cd=>(match nsIn K cd.ns "__init__" with
  |some (some (.ref f))=>(match K.lookup f with
   |some ⟨.type "function",_,.func fd,_⟩=>(match codeIn K fd.code fd.qualname&&jx K C f&&aV cd.mro&&cd.hasDict with
    |true=>some fd
    |false=>none)
   |_=>none)
  |_=>none)
 |none=>none
noncomputable def setB(K:Frag)(C:Addr)(fs:List Str):Bool:=findIn K (.ref C) "__setattr__"==some (some (.builtin "object.__setattr__"))&&fs.all (λf=>findIn K (.ref C) f==some none)
noncomputable def DY(K:Frag)(C:Addr)(f:Str):Bool:=findIn K (.ref C) "__getattribute__"==some (some (.builtin "BaseException.__getattribute__"))&&findIn K (.ref C) "__getattr__"==some none&&mroIn K C (.type "BaseException")==some true&&findIn K (.ref C) f==some none&&hasDictIn K C
structure rm where
 c:Nat
 q:Str
 st:Stmt
 fs:List Str
noncomputable def zf:Nat->List Obj->Frag
 |_,[]=>[]
 |i,o::r=>match o.isFreed with
  |true=>zf (i+1) r
  |false=>(i,o)::zf (i+1) r
noncomputable def bH(h:Heap):Frag:=lU h [mainGlobals]++(zf 0 h.objs.toList).reverse
noncomputable def mW(fs:List (Str×Stmt))(ms:List rm)(xs:List (Nat×Str))(l:Lk)(s:Shared):List (Option FuncData)×List (Option FuncData)×Bool:=
 (fs.map (λp=>(u5 (bH s.heap) p.1).map (λq=>nJ q.2)),ms.map (λm=>(zc (bH s.heap) (cN (l.L (bH s.heap)) m.c)).map nJ),
  l.good (bH s.heap)&&ms.all (λm=>setB (bH s.heap) (cN (l.L (bH s.heap)) m.c) m.fs)&&xs.all (λx=>DY (bH s.heap) (cN (l.L (bH s.heap)) x.1) x.2))
noncomputable def ou(fs:List (Str×Stmt))(ms:List rm)(w:World):List (Option FuncData)×List (Option FuncData)×Bool:=(fs.map (λp=>some (qH p.1 p.2)),ms.map (λm=>some (u9 m.q m.st)),true)
noncomputable def D_(fs:List (Str×Stmt))(s:Shared):List (Option FuncData):=fs.map (λp=>(u5 (bH s.heap) p.1).map (λq=>nJ q.2))
noncomputable def Ow(ms:List rm)(xs:List (Nat×Str))(l:Lk)(s:Shared):List (Option FuncData)×Bool:=(ms.map (λm=>(zc (bH s.heap) (cN (l.L (bH s.heap)) m.c)).map nJ),
  l.good (bH s.heap)&&ms.all (λm=>setB (bH s.heap) (cN (l.L (bH s.heap)) m.c) m.fs)&&xs.all (λx=>DY (bH s.heap) (cN (l.L (bH s.heap)) x.1) x.2))
theorem Vr{p q:Program}{loose:List Str}{Xt:Shared->Bool}{N:Nat}{fs1 mX:List (Str×Stmt)}{ms:List rm}{xs:List (Nat×Str)}{l:Lk}
  (a:∀w,(openEnds treeTable p w N).map (λs=>openSeen q loose (importedModules p.main.body) Xt true s)=some (openGood q loose))
  (b1:∀w,(openEnds treeTable p w N).map (D_ fs1)=some (fs1.map λp=>some (qH p.1 p.2)))
  (b2:∀w,(openEnds treeTable p w N).map (D_ mX)=some (mX.map λp=>some (qH p.1 p.2)))
  (c:∀w,(openEnds treeTable p w N).map (Ow ms xs l)=some (ms.map (λm=>some (u9 m.q m.st)),true)):LeftO p q loose Xt (mW (fs1++mX) ms xs l) (ou (fs1++mX) ms) N:=by
 intro w;have a:=a w;have b1:=b1 w;have b2:=b2 w;have c:=c w;cases e:openEnds treeTable p w N with
 |none=>rw[e] at a;cases a
 |some s=>
  rw[e] at a b1 b2 c;have a:openSeen q loose (importedModules p.main.body) Xt true s=openGood q loose:=dh a;have b1:=dh b1;have b2:=dh b2;have c:=dh c;have c1:=n_ Prod.fst c;have c2:=n_ Prod.snd c;show some (_,mW (fs1++mX) ms xs l s)=_;rw[a];have:mW (fs1++mX) ms xs l s=ou (fs1++mX) ms w:=by
   unfold mW ou;rw[List.map_append,List.map_append];have b1:List.map _ fs1=List.map _ fs1:=b1;have b2:List.map _ mX=List.map _ mX:=b2;rw[b1,b2];exact Prod.ext rfl (Prod.ext c1 c2)
  rw[this]
inductive Tr where
 |em
 |lv (o:Obj)
 |nd (l r:Tr)
noncomputable def Tr.lf(t:Tr):Tr:=Tr.rec (motive:=λ_=>Tr) .em (λ_=>.em) (λl _ _ _=>l) t
noncomputable def Tr.rt(t:Tr):Tr:=Tr.rec (motive:=λ_=>Tr) .em (λ_=>.em) (λ_ r _ _=>r) t
noncomputable def Tr.get(d:Nat):Tr->Nat->Option Obj:=Nat.rec (motive:=λ_=>Tr->Nat->Option Obj) (λt _=>Tr.rec (motive:=λ_=>Option Obj) none (λo=>some o) (λ_ _ _ _=>none) t)
 (λ_ f t a=>cond (Nat.beq (Nat.mod a 2) 0) (f t.lf (Nat.div a 2)) (f t.rt (Nat.div a 2))) d
noncomputable def Tr.put(d:Nat):Tr->Nat->Obj->Tr:=Nat.rec (motive:=λ_=>Tr->Nat->Obj->Tr) (λ_ _ o=>.lv o)
 (λ_ f t a o=>cond (Nat.beq (Nat.mod a 2) 0) (.nd (f t.lf (Nat.div a 2) o) t.rt) (.nd t.lf (f t.rt (Nat.div a 2) o))) d
theorem Hr(a:Nat):(Nat.beq (a%2) 0=true/\a%2=0)\/(Nat.beq (a%2) 0=false/\a%2=1):=by
 rcases(show a%2=0\/a%2=1 by lia) with e|e<;>rw[e]
 ·exact .inl ⟨rfl,rfl⟩
 ·exact .inr ⟨rfl,rfl⟩
theorem Hs(o:Obj):∀(d:Nat) (t:Tr) (a:Nat),Tr.get d (Tr.put d t a o) a=some o
 |0,_,_=>rfl
 |d+1,t,a=>by
  have ih:=Hs o d;show cond (Nat.beq (a%2) 0) (Tr.get d (Tr.lf (cond (Nat.beq (a%2) 0) _ _)) (a/2)) (Tr.get d (Tr.rt (cond (Nat.beq (a%2) 0) _ _)) (a/2))=_;rcases Hr a with ⟨e,_⟩|⟨e,_⟩<;>rw[e]
  ·exact ih t.lf (a/2)
  ·exact ih t.rt (a/2)
theorem Ht(o:Obj):∀(d:Nat) (t:Tr) (a b:Nat),a<2^d->b<2^d->a≠b->Tr.get d (Tr.put d t a o) b=Tr.get d t b
 |0,_,a,b,h1,h2,h=>by lia
 |d+1,t,a,b,h1,h2,h=>by
  have ih:=Ht o d;show cond (Nat.beq (b%2) 0) (Tr.get d (Tr.lf (cond (Nat.beq (a%2) 0) _ _)) (b/2)) (Tr.get d (Tr.rt (cond (Nat.beq (a%2) 0) _ _)) (b/2))=cond (Nat.beq (b%2) 0) _ _;rw[Nat.pow_succ] at h1 h2;rcases Hr a with ⟨e,x⟩|⟨e,x⟩<;>rw[e]<;>rcases Hr b with ⟨f,y⟩|⟨f,y⟩<;>rw[f]
  ·exact ih t.lf (a/2) (b/2) gV gV gV
  ·rfl
  ·rfl
  ·exact ih t.rt (a/2) (b/2) gV gV gV
noncomputable def Vt(o:Option Obj):Option Obj:=match o with
 |some ⟨_,_,.freed,_⟩=>none
 |o=>o
noncomputable def kE(t:Tr)(z a:Nat):Option Obj:=cond (Nat.ble (Nat.succ a) z) (Vt (t.get 12 a)) none
structure Rl(t:Tr)(z:Nat)(h:Heap):Prop where
 sz:h.objs.size=z
 le:z<=4096
 at_:∀a,a<z->t.get 12 a=h.objs[a]?
theorem Rl.get{t:Tr}{z:Nat}{h:Heap}(r:Rl t z h)(a:Nat):kE t z a=h.get? a:=by
 unfold kE Heap.get?;by_cases e:a<z
 ·rw[show Nat.ble (Nat.succ a) z=true from Nat.ble_eq.mpr e,r.at_ a e];rfl
 ·rw[show Nat.ble (Nat.succ a) z=false from Bool.eq_false_iff.mpr λx=>e (Nat.ble_eq.mp x)];have:h.objs[a]?=none:=by simp only[Array.getElem?_eq_none_iff,r.sz];lia
  rw[this];rfl
theorem Rl.push{t:Tr}{z:Nat}{h:Heap}(r:Rl t z h)(o:Obj)(hz:z<4096):Rl (t.put 12 z o) (z+1) (h.push o):=by
 obtain⟨objs,l⟩:=h;obtain⟨sz,le,at_⟩:=r;dsimp only at sz at_;refine⟨by show (objs.push o).size=_;rw[Array.size_push,sz],hz,λa ha=>?_⟩;show _=(objs.push o)[a]?;by_cases e:a=z
 ·subst e;rw[Hs,Array.getElem?_push,if_pos sz.symm]
 ·rw[Ht o 12 t z a hz (by show a<4096;lia) (Ne.symm e),at_ a gV,Array.getElem?_push,if_neg gV]
theorem Rl.upd{t:Tr}{z:Nat}{h:Heap}(r:Rl t z h){a:Nat}{o:Obj}{f:Obj->Obj}(ho:h.get? a=some o):Rl (t.put 12 a (f o)) z (h.update a f):=by
 have ha:h.objs[a]?=some o:=(Heap.get?_some_iff.mp ho).1;obtain⟨objs,l⟩:=h;obtain⟨sz,le,at_⟩:=r;dsimp only at sz at_ ha;have hl:a<objs.size:=(xJ.mp ha).1;refine⟨by show (objs.modify a f).size=_;rw[Array.size_modify,sz],le,λb hb=>?_⟩;show _=(objs.modify a f)[b]?;rw[Array.getElem?_modify];by_cases e:a=b
 ·subst e;rw[Hs,if_pos rfl,ha];rfl
 ·rw[Ht _ 12 t a b (by show a<4096;lia) (by show b<4096;lia) e,at_ b hb,if_neg e]
inductive Vu where
 |ld (a:Addr) (k:Obj->Sem Fin)
 |la (a:Addr) (k:Option Obj->Sem Fin)
 |up (a:Addr) (f:Obj->Obj) (k:Unit->Sem Fin)
 |al (o:Obj) (k:Addr->Sem Fin)
 |st
 |no
noncomputable def u_:Sem Fin->Vu
 |.load a _ k=>.ld a k
 |.loadIfAlive a k=>.la a k
 |.update a _ f k=>.up a f k
 |.alloc o k=>.al o k
 |.pure _=>.st
 |.at ..=>.st
 |.rule ..=>.st
 |.ask _=>.st
 |.fresh _=>.st
 |.point ..=>.st
 |.stack _=>.st
 |.call ..=>.st
 |_=>.no
theorem Vv{den:Code->Sem Fin}{p:Program}{w:World}{h:Heap}{s s':Shared}{t t':Thread}(hn:u_ t.cur=.st)(e:step den p w s t=.go s' t'):step den p w {s with heap:=h} t=.go {s' with heap:=h} t':=by
 obtain⟨cur,code,pos,stack⟩:=t;cases cur with
 |pure a=>
  cases a with
  |again c=>cases e;rfl
  |done f=>
   cases stack with
   |nil=>
    have e:(if leftWithCleanup s.gens=true then Step.halt _ _ else Step.halt _ _)=.go s' t':=e;split at e<;>cases e
   |cons r l=>cases r<;>cases e<;>rfl
 |«at»=>cases e;rfl
 |rule=>cases e;rfl
 |ask=>cases e;rfl
 |fresh=>cases e;rfl
 |point=>cases e;rfl
 |stack=>cases e;rfl
 |call=>cases e;rfl
 |_=>cases hn
theorem Vw{c:Sem Fin}{a:Addr}{k:Obj->Sem Fin}(h:u_ c=.ld a k):∃q,c=.load a q k:=by
 cases c<;>cases h;exact⟨_,rfl⟩
theorem Vx{c:Sem Fin}{a:Addr}{k:Option Obj->Sem Fin}(h:u_ c=.la a k):c=.loadIfAlive a k:=by
 cases c<;>cases h;rfl
theorem Vy{c:Sem Fin}{a:Addr}{f:Obj->Obj}{k:Unit->Sem Fin}(h:u_ c=.up a f k):∃q,c=.update a q f k:=by
 cases c<;>cases h;exact⟨_,rfl⟩
theorem Vz{c:Sem Fin}{o:Obj}{k:Addr->Sem Fin}(h:u_ c=.al o k):c=.alloc o k:=by
 cases c<;>cases h;rfl
noncomputable def jT(tb:String->Option Builtin)(p:Program)(w:World)(n₀:Nat)(ann:Option Value):Nat->Tr->Nat->Shared->Thread->Option (Tr×Nat×Shared)
 |0,_,_,_,_=>none
 |m+1,t,z,s,th=>match through th with
  |true=>some (t,z,s)
  |false=>match stepOk n₀ ann th with
   |false=>none
   |true=>match u_ th.cur with
    |.ld a k=>(match kE t z a with
     |some o=>jT tb p w n₀ ann m t z s ⟨k o,th.code,th.pos,th.stack⟩
     |none=>none)
    |.la a k=>jT tb p w n₀ ann m t z s ⟨k (kE t z a),th.code,th.pos,th.stack⟩
    |.up a f k=>(match kE t z a with
     |some o=>jT tb p w n₀ ann m (t.put 12 a (f o)) z s ⟨k (),th.code,th.pos,th.stack⟩
     |none=>none)
    |.al o k=>(match Nat.succ z with
     |0=>none
     |n+1=>match Nat.ble n 4095 with
      |true=>jT tb p w n₀ ann m (t.put 12 n o) (n+1) s ⟨k n,th.code,th.pos,th.stack⟩
      |false=>none)
    |.st=>(match step (denote tb) p w s th with
     |.go s' t'=>jT tb p w n₀ ann m t z s' t'
     |.halt _ _=>none)
    |.no=>none
theorem VB{tb:String->Option Builtin}{p:Program}{w:World}{n₀:Nat}{ann:Option Value}:∀(m:Nat) {t t':Tr} {z z':Nat} {s s':Shared} {th:Thread} {h:Heap},Rl t z h->jT tb p w n₀ ann m t z s th=some (t',z',s')->
  ∃h',Rl t' z' h'/\h'.life=h.life/\topRun tb p w n₀ ann m {s with heap:=h} th=some {s' with heap:=h'}:=by
 intro m
 induction m with
 |zero=>intro t t' z z' s s' th h r e;cases e
 |succ m ih=>
  intro t t' z z' s s' th h r e;unfold jT at e;unfold topRun;cases ht:through th with
  |true=>
   rw[ht] at e;cases e;exact⟨h,r,rfl,rfl⟩
  |false=>
   rw[ht] at e;cases hk:stepOk n₀ ann th with
   |false=>rw[hk] at e;cases e
   |true=>
    rw[hk] at e;dsimp only at e ⊢;cases ho:u_ th.cur with
    |no=>rw[ho] at e;cases e
    |st=>
     rw[ho] at e;cases hs:step (denote tb) p w s th with
     |halt _ _=>rw[hs] at e;cases e
     |go s1 t1=>
      rw[hs] at e;rw[Vv (h:=h) ho hs];exact ih r e
    |ld a k=>
     rw[ho] at e;dsimp only at e;cases hg:kE t z a with
     |none=>rw[hg] at e;cases e
     |some o=>
      rw[hg] at e;rw[r.get] at hg;obtain⟨cur,code,pos,stack⟩:=th;obtain⟨q,rfl⟩:=Vw ho;simp only[step,hg];exact ih r e
    |la a k=>
     rw[ho] at e;obtain⟨cur,code,pos,stack⟩:=th;obtain rfl:=Vx ho;obtain⟨h',a1,b,c⟩:=ih r e;rw[r.get] at c;exact⟨h',a1,b,c⟩
    |up a f k=>
     rw[ho] at e;dsimp only at e;cases hg:kE t z a with
     |none=>rw[hg] at e;cases e
     |some o=>
      rw[hg] at e;rw[r.get] at hg;obtain⟨cur,code,pos,stack⟩:=th;obtain⟨q,rfl⟩:=Vy ho;obtain⟨h',a1,b,c⟩:=ih (r.upd hg) e;refine⟨h',a1,b.trans (by cases h;rfl),?_⟩;simp only[step,hg];exact c
    |al o k=>
     rw[ho] at e;cases hb:Nat.ble z 4095 with
     |false=>dsimp only at e;rw[hb] at e;cases e
     |true=>
      dsimp only at e;rw[hb] at e;obtain⟨cur,code,pos,stack⟩:=th;obtain rfl:=Vz ho;obtain⟨h',a1,b,c⟩:=ih (r.push o (by have:=Nat.ble_eq.mp hb;lia)) e;refine⟨h',a1,b.trans (by cases h;rfl),?_⟩;simp only[step,r.sz];exact c
noncomputable def lst(g:Nat->Option Obj):Nat->Nat->List Obj
 |0,_=>[]
 |n+1,i=>match g i with
  |some o=>o::lst g n (i+1)
  |none=>[]
theorem Ox{g:Nat->Option Obj}:∀{l:List Obj} {i:Nat},(∀j,j<l.length->g (i+j)=l[j]?)->lst g l.length i=l
 |[],_,_=>rfl
 |o::l,i,h=>by
  have h0:=h 0 (DK _);show (match g i with|some o=>o::lst g l.length (i+1)|none=>[])=_;rw[show g i=some o from h0,Ox (l:=l) λj hj=>by rw[show i+1+j=i+(j+1) by lia];exact h (j+1) (Nat.succ_lt_succ hj)]
noncomputable def tY(t:Tr)(z:Nat)(l:Life):Heap:=⟨⟨lst (t.get 12) z 0⟩,l⟩
theorem Rl.tY{t:Tr}{z:Nat}{h:Heap}(r:Rl t z h):tY t z h.life=h:=by
 obtain⟨⟨objs⟩,l⟩:=h;have sz:objs.length=z:=r.sz;subst sz;unfold Mi.tY;rw[Ox λj hj=>by rw[Nat.zero_add];exact(r.at_ j hj).trans MP]
noncomputable def Ed:List Obj->Nat->Tr->Tr
 |[],_,t=>t
 |o::r,i,t=>Ed r (i+1) (t.put 12 i o)
theorem Oz{l:Life}:∀{r a:List Obj} {t:Tr},(a++r).length<=4096->Rl t a.length ⟨⟨a⟩,l⟩->Rl (Ed r a.length t) (a++r).length ⟨⟨a++r⟩,l⟩
 |[],a,t,_,h=>by rw[uU];exact h
 |o::r,a,t,hl,h=>by
  have h2:=h.push o (by rw[jt,gJ] at hl;lia);have e:a++o::r=(a++[o])++r:=by simp
  rw[e] at hl ⊢;have h3:=Oz (l:=l) (r:=r) (a:=a++[o]) (t:=t.put 12 a.length o) hl (by
   rw[jt];have e2:(⟨⟨a++[o]⟩,l⟩ : Heap)=Heap.push ⟨⟨a⟩,l⟩ o:=by unfold Heap.push;simp
   rw[e2];exact h2)
  rw[jt] at h3;exact h3
noncomputable def oA(p:Program)(w:World)(N:Nat):Option Shared:=(fencedOpening treeTable p w N).bind λs₀=>match s₀.heap.isNs mainGlobals&&s₀.gens.size==0&&Nat.ble s₀.heap.objs.size 4096 with
 |true=>(jT treeTable p w s₀.heap.objs.size (s₀.heap.nsMap mainGlobals "__annotations__") N (Ed s₀.heap.objs.toList 0 .em) s₀.heap.objs.size s₀ (topStub p)).bind λr=>
  match staticsOk (importedModules p.main.body) s₀.heap (tY r.1 r.2.1 s₀.heap.life)&&namesBound p (tY r.1 r.2.1 s₀.heap.life)&&gensDone r.2.2&&laidKept s₀.heap (tY r.1 r.2.1 s₀.heap.life) with
   |true=>some {r.2.2 with heap:=tY r.1 r.2.1 s₀.heap.life}
   |false=>none
 |false=>none
theorem VD{p:Program}{w:World}{N:Nat}{s:Shared}(e:oA p w N=some s):openEnds treeTable p w N=some s:=by
 unfold oA at e;unfold openEnds;obtain⟨s₀,h0,e⟩:=kh.mp e;rw[h0];show topFrom treeTable p w N s₀=some s;unfold topFrom;cases hb:(s₀.heap.isNs mainGlobals&&s₀.gens.size==0&&Nat.ble s₀.heap.objs.size 4096) with
 |false=>rw[hb] at e;cases e
 |true=>
  rw[hb] at e;obtain⟨h1,h2⟩:=G5.mp hb;rw[h1];obtain⟨⟨t,z,s₁⟩,h3,e⟩:=kh.mp e;have r0:Rl (Ed s₀.heap.objs.toList 0 .em) s₀.heap.objs.size s₀.heap:=Oz (l:=s₀.heap.life) (r:=s₀.heap.objs.toList) (a:=[]) (t:=.em) (Nat.ble_eq.mp h2) ⟨rfl,xQ _,λa ha=>absurd ha (Nat.not_lt_zero a)⟩;obtain⟨h',r,l,c⟩:=VB N r0 h3;dsimp only at e ⊢;rw[show ({s₀ with heap:=s₀.heap}:Shared)=s₀ from rfl] at c;rw[c];rw[<-l,r.tY] at e;exact e
theorem fe{p:Program}{w:World}{N:Nat}{α:Type}{f:Shared->α}{v:α}(e:(oA p w N).map f=some v):(openEnds treeTable p w N).map f=some v:=by
 obtain⟨s,h,e⟩:=lN.mp e;rw[VD h,<-e];rfl
end Mi
namespace dF
open PySem PySem.Spec PyProof.Rows PySem.W L2 Mi
noncomputable def top(i:Nat):Stmt:=PySem.Challenge.pw_ringhues_k74_rings_written_and_read.main.body.getD i (.Pass ⟨0,0,0,0⟩)
noncomputable def fs1:List (Str×Stmt):=("is_whole",top 14)::("is_within",top 15)::("is_row",top 16)::("is_ring",top 19)::("check_ring",top 20)::("ring_shown",top 22)::("ring_read",top 23)::("check_text",top 24)::("number_by",top 25)::("pair_by",top 26)::("_law_cell",top 28)::("_law_pen",top 29)::("_law_draw",top 30)::[]
noncomputable def mX:List (Str×Stmt):=("_law_whole",top 31)::("_law_odd",top 32)::("_law_kind",top 33)::("_law_ring",top 34)::("_law_is_ring",top 35)::("_law_bent_ring",top 36)::("_law_read_ring",top 37)::("_law_told_as",top 38)::("_law_told",top 39)::("_law_right",top 40)::("_law_spoilt",top 41)::("_law_refused",top 42)::("law",top 43)::[]
noncomputable abbrev fs:List (Str×Stmt):=fs1++mX
noncomputable def lk:Lk:=⟨["HueError","NoRing","NoHues","NoPlace","NoArrows","NoMap","NoPaper","Apart","NoRow","NoWeb","NoText","TooGreat"],[("MOST_SPOTS",24)],["ValueError","all","bool","divmod","int","isinstance","len","max","range","str","tuple"],[1],[0],[]⟩
noncomputable def gY:Stmt:=(q_ (top 11)).getD 0 (.Pass ⟨0,0,0,0⟩)
noncomputable def ms:List rm:=[⟨10,"NoText.__init__",gY,["at"]⟩]
noncomputable def xs:List (Nat×Str):=[(9,"at"),(10,"at")]
noncomputable abbrev pv:Program:=PySem.Challenge.pw_ringhues_k74_rings_written_and_read
noncomputable def qv:Program:={pv with main:={pv.main with body:=[pv.main.body.getD 43 (.Pass ⟨0,0,0,0⟩)]}}
noncomputable def loose:List Str:=(["HueError","NoRing","NoHues","NoPlace","NoArrows","NoMap","NoPaper","Apart","NoRow","NoWeb","NoText","TooGreat","is_whole","is_within","is_row","MOST_SPOTS","is_ring","check_ring","ring_shown","ring_read","check_text","number_by","pair_by","_law_cell","_law_pen","_law_draw","_law_whole","_law_odd","_law_kind","_law_ring","_law_is_ring","_law_bent_ring","_law_read_ring","_law_told_as","_law_told","_law_right","_law_spoilt","_law_refused"]:List String).map Str.ofString
theorem VF(w:World):(openEnds treeTable pv w 20000).map (λs=>openSeen qv loose (importedModules pv.main.body) (λs=>xlAt qv [] s&&recOk [] s) true s)=some (openGood qv loose):=by
 refine fe ?_
 kernel_rfl
theorem VG(w:World):(openEnds treeTable pv w 20000).map (D_ fs1)=some (fs1.map λp=>some (qH p.1 p.2)):=by
 refine fe ?_
 kernel_rfl
theorem VH(w:World):(openEnds treeTable pv w 20000).map (D_ mX)=some (mX.map λp=>some (qH p.1 p.2)):=by
 refine fe ?_
 kernel_rfl
theorem VJ(w:World):(openEnds treeTable pv w 20000).map (Ow ms xs lk)=some (ms.map (λm=>some (u9 m.q m.st)),true):=by
 refine fe ?_
 kernel_rfl
theorem ws:PySem.Challenge.rw_ringhues_k74_rings_written_and_read.wellSaid=true:=by
 kernel_rfl
theorem wt:PySem.Challenge.rw_ringhues_k74_rings_written_and_read.row.prog.tablesWhole=true:=by
 decide +kernel
theorem wc:(chainsOk qv&&opensWell PySem.Challenge.rw_ringhues_k74_rings_written_and_read.row.prog&&(frees PySem.Challenge.rw_ringhues_k74_rings_written_and_read.row.toRowW&&PySem.Challenge.rw_ringhues_k74_rings_written_and_read.row.within.isEmpty))=true:=by
 decide +kernel
theorem left:LeftO pv qv loose (λs=>xlAt qv [] s&&recOk [] s) (mW fs ms xs lk) (ou fs ms) 20000:=Vr VF VG VH VJ
end dF
namespace L2
open PySem PySem.Spec PyProof.Rows
theorem dj{α:Sort u}{β:Sort v}{A B C:α->β->Prop}{P:Prop}(h:∃x y,A x y/\B x y/\C x y)(k:∀x y,A x y->B x y->C x y->P):P:=by
 obtain⟨x,y,a,b,c⟩:=h;exact k x y a b c
theorem zj{α:Sort u}{β:Sort v}{γ:Sort w}{A B:α->β->Prop}{C D:α->β->γ->Prop}{P:Prop}(h:∃x y,A x y/\B x y/\∃z,C x y z/\D x y z)(k:∀x y,A x y->B x y->∀z,C x y z->D x y z->P):P:=by
 obtain⟨x,y,a,b,z,c,d⟩:=h;exact k x y a b z c d
theorem rz{α:Sort u}{A B:α->Prop}{P:Prop}(h:∃x,A x/\B x)(k:∀x,A x->B x->P):P:=by
 obtain⟨x,a,b⟩:=h;exact k x a b
noncomputable abbrev Key:=Sum Int Str
noncomputable def jm:Key->Value->Bool
 |.inl k,v=>Value.isInt k v
 |.inr x,v=>Value.isStrOf x v
noncomputable def Hu(w:World):Key->Int
 |.inl k=>hashInt k
 |.inr x=>hashStr w x
theorem rA:∀{k:Key} {v:Value},jm k v=true->(∃i t,k=Sum.inl i/\v=Value.int i t)\/(∃x t,k=Sum.inr x/\v=Value.str x t)
 |.inl i,v,h=>by
  obtain⟨t,e⟩:=Value.isInt_shape (k:=i) (v:=v) h;exact .inl ⟨i,t,rfl,e⟩
 |.inr x,v,h=>by
  obtain⟨t,e⟩:=Value.isStrOf_shape (x:=x) (v:=v) h;exact .inr ⟨x,t,rfl,e⟩
theorem VL(i:Int)(t:Tok):jm (.inl i) (.int i t)=true:=by simp[jm,Value.isInt]
theorem VN(x:Str)(t:Tok):jm (.inr x) (.str x t)=true:=by simp[jm,Value.isStrOf]
theorem VP(a b:Int):decide ((Sum.inl a:Key)=Sum.inl b)=(a==b):=by
 by_cases e:a=b
 ·subst e;simp
 ·have h:¬(Sum.inl a:Key)=Sum.inl b:=λq=>e (Sum.inl.inj q);rw[gA h];exact(beq_eq_false_iff_ne.mpr e).symm
theorem VR(a b:Str):decide ((Sum.inr a:Key)=Sum.inr b)=decide (a=b):=by
 by_cases e:a=b
 ·subst e;simp
 ·have h:¬(Sum.inr a:Key)=Sum.inr b:=λq=>e (Sum.inr.inj q);rw[gA h,gA e]
theorem V0(a:Int)(b:Str):decide ((Sum.inl a:Key)=Sum.inr b)=false:=gA (λq=>nomatch q)
theorem V1(a:Str)(b:Int):decide ((Sum.inr a:Key)=Sum.inl b)=false:=gA (λq=>nomatch q)
noncomputable def bN(prog:Program)(w:World):PySem.KeyKind prog w Key where
 is:=jm
 hash:=Hu w
 inj:=λv a b ha hb=>by
  rcases rA ha with ⟨i,t,rfl,rfl⟩|⟨x,t,rfl,rfl⟩
  ·rcases rA hb with ⟨j,u,rfl,e⟩|⟨y,u,rfl,e⟩
   ·injection e with e1 _;rw[e1]
   ·exact nomatch e
  ·rcases rA hb with ⟨j,u,rfl,e⟩|⟨y,u,rfl,e⟩
   ·exact nomatch e
   ·injection e with e1 _;rw[e1]
 byValue:=λk v h=>by
  rcases rA h with ⟨i,t,rfl,rfl⟩|⟨x,t,rfl,rfl⟩<;>rfl
 pyHash:=λhv h=>by
  rcases rA hv with ⟨i,t,rfl,rfl⟩|⟨x,t,rfl,rfl⟩
  ·exact wpAny_pyHash_int h
  ·exact wpAny_pyHash_str h
 eqBool:=λhu hv h=>by
  rcases rA hu with ⟨i,t,rfl,rfl⟩|⟨x,t,rfl,rfl⟩
  ·rcases rA hv with ⟨j,u,rfl,rfl⟩|⟨y,u,rfl,rfl⟩
   ·rw[VP] at h;exact wpAny_eqBool_int h
   ·rw[V0] at h;exact SeqAt.EqAt.int_str i t y u _ _ _ _ h
  ·rcases rA hv with ⟨j,u,rfl,rfl⟩|⟨y,u,rfl,rfl⟩
   ·rw[V1] at h;exact SeqAt.EqAt.str_int x t j u _ _ _ _ h
   ·rw[VR] at h;exact wpAny_eqBool_str h
 «strs»:=λk x t v h=>by
  rcases rA h with ⟨i,u,rfl,e⟩|⟨y,u,rfl,e⟩
  ·exact nomatch e
  ·injection e with e1 _;subst e1;cases v<;>rfl
theorem V2(prog:Program)(w:World)(i:Int)(t:Tok):(bN prog w).is (.inl i) (.int i t)=true:=VL i t
theorem V3(prog:Program)(w:World)(x:Str)(t:Tok):(bN prog w).is (.inr x) (.str x t)=true:=VN x t
inductive V where
 |non|bl (b:Bool)|int (i:Int)|str (x:Str)|zm (b:Array UInt8)|flt (b:UInt64)|ref (a:Addr)|ty (n:String)
 deriving DecidableEq
noncomputable def RelV:V->Value->Prop
 |.non,u=>u=Value.none
 |.bl b,u=>u=Value.bool b
 |.int i,u=>∃t,u=Value.int i t
 |.str x,u=>∃t,u=Value.str x t
 |.zm b,u=>∃t,u=Value.bytes b t
 |.flt b,u=>∃t,u=Value.float b t
 |.ref a,u=>u=Value.ref a
 |.ty n,u=>u=Value.type n
noncomputable abbrev Vals:List V->List Value->Prop:=Paired RelV
theorem Vals.length{xs:List V}{us:List Value}(r:Vals xs us):xs.length=us.length:=Paired.length r
theorem Vals.get:∀{xs:List V} {us:List Value} {i:Nat} {x:V},Vals xs us->xs[i]?=some x->∃u,us[i]?=some u/\RelV x u
 |_,_,_,_,.nil,e=>by simp at e
 |_,_,0,_,.cons r _,e=>by simp at e;subst e;exact⟨_,rfl,r⟩
 |_,_,i+1,x,.cons _ t,e=>by
  obtain⟨u,h1,h2⟩:=Vals.get (i:=i) (x:=x) t (by simpa using e);exact⟨u,by simpa using h1,h2⟩
theorem Vals.set{x:V}{u:Value}(r:RelV x u):∀{xs:List V} {us:List Value} (i:Nat),Vals xs us->Vals (xs.set i x) (us.set i u)
 |_,_,_,.nil=>.nil
 |_,_,0,.cons _ t=>.cons r t
 |_,_,i+1,.cons q t=>.cons q (Vals.set r i t)
theorem Vals.append{xs ys:List V}{us ws:List Value}(h:Vals xs us)(s:Vals ys ws):Vals (xs++ys) (us++ws):=by
 induction h with
 |nil=>exact s
 |cons r _ ih=>exact .cons r ih
theorem Vals.take:∀{xs:List V} {us:List Value} (n:Nat),Vals xs us->Vals (xs.take n) (us.take n)
 |_,_,0,_=>.nil
 |_,_,_+1,.nil=>.nil
 |_,_,n+1,.cons r t=>.cons r (Vals.take n t)
theorem Vals.drop:∀{xs:List V} {us:List Value} (n:Nat),Vals xs us->Vals (xs.drop n) (us.drop n)
 |_,_,0,r=>r
 |_,_,_+1,.nil=>.nil
 |_,_,n+1,.cons _ t=>Vals.drop n t
noncomputable def vd:Option V->Option Value->Prop
 |some v,some u=>RelV v u
 |none,none=>True
 |_,_=>False
noncomputable def KV{κ:Type}:List (κ×V)->List (κ×Value)->Prop:=Paired λ(p:κ×V) (q:κ×Value)=>p.1=q.1/\RelV p.2 q.2
noncomputable def kV:Key->V
 |.inl i=>.int i
 |.inr x=>.str x
inductive HO where
 |lst (xs:List V)
 |tup (xs:List V)
 |dK (kvs:List (Key×V))|dT (kvs:List (List Key×V))
 |set (S:Int->Bool) (n:Nat)
 |ins (C dx:Addr) (fs:List (Str×V))
 |own (x:Addr)
 |xd (fs:List (Str×V))
 |met (f x:Addr)
 |rng (lo hi:Int)
 |oE (o:Obj) (u:HO)
 |tZ (ps:Array Value)
 |ext (U:Heap->Prop)
noncomputable abbrev Hp:=Addr->Option HO
noncomputable def upd(H:Hp)(a:Addr)(o:HO):Hp:=λb=>if b=a then some o else H b
theorem jz{H:Hp}{a:Addr}{o:HO}:upd H a o a=some o:=by unfold upd;rw[if_pos rfl]
theorem dB{H:Hp}{a b:Addr}{o:HO}(h:b≠a):upd H a o b=H b:=by unfold upd;rw[if_neg h]
theorem OD{H:Hp}{a:Addr}{o u:HO}:upd (upd H a o) a u=upd H a u:=by
 funext b;unfold upd;split<;>rfl
theorem xT{H:Hp}{a b:Addr}{o:HO}(h:H a=some o)(h':H b=none):a≠b:=by
 intro e;subst e;rw[h] at h';cases h'
def gZ(h:Heap)(a:Addr)(items:Array Value):Prop:=∃o,h.get? a=some o/\o.cls=.type "tuple"/\∃n,o.data=.seq items n/\o.dict=none
theorem gZ.tup{h:Heap}{a:Addr}{items:Array Value}(x:gZ h a items):IsTup h a items:=by
 obtain⟨o,h1,h2,n,h3,_⟩:=x;exact⟨o,h1,h2,n,h3⟩
theorem gZ.lt{h:Heap}{a:Addr}{items:Array Value}(x:gZ h a items):a<h.objs.size:=x.tup.lt
theorem gZ.new(h:Heap)(xs:Array Value):gZ (h.push {cls:=.type "tuple",data:=.seq xs}) h.objs.size xs:=⟨_,ji h rfl,rfl,_,rfl,rfl⟩
section
variable (P:Program)(w:World)
noncomputable def aO(H:Hp)(h:Heap)(a:Addr):HO->Prop
 |.lst xs=>xs.length<=sizeLine/\∃(its:List Value) (n:Nat),Vals xs its/\h.get? a=some {cls:=.type "list",data:=.seq its.toArray n}
 |.tup xs=>xs.length<=sizeLine/\∃its:List Value,Vals xs its/\gZ h a its.toArray
 |.dK kvs=>kvs.length<=sizeLine/\(a==sysModules)=false/\∃vs,KV kvs vs/\h.DictOf (bN P w) a vs
 |.dT kvs=>kvs.length<=sizeLine/\(a==sysModules)=false/\∃xs:List (List Key×Addr×Value),
   Paired (λ(p:List Key×V) (q:List Key×Addr×Value)=>p.1=q.1/\H q.2.1=some (.tup (p.1.map kV))/\RelV p.2 q.2.2) kvs xs /\
   ∃o es ep,h.get? a=some o/\o.ExactDict/\o.data=.dict es ep/\es.toList=xs.map (entryOfKey (tupleKind (bN P w)))/\(xs.map (·.1)).Nodup
 |.set S n=>h.SetOf (intKind P w) a S n
 |.ins C dx fs=>H dx=some (.own a)/\fs.length<=1000/\dx≠a/\h.get? a=some (PySem.W.instObj C dx) /\
   ∃mA,h.Ns1 dx mA/\(∀f,vd (fs.lookup f) (mA f))/\PySem.Within mA (fs.map (·.1))
 |.own _=>∃o,h.get? a=some o
 |.xd fs=>∃mA,h.Ns1 a mA/\∀f,vd (fs.lookup f) (mA f)
 |.rng lo hi=>∃t u v,h.get? a=some {cls:=.type "range",data:=.fields #[.int lo t,.int hi u,.int 1 v]}
 |.oE o u=>h.get? a=some o/\aO H h a u
 |.tZ ps=>h.get? a=some {cls:=.none,data:=.fields ps}
 |.met f x=>h.get? a=some (PySem.W.methodObj (.ref f) (.ref x))
 |.ext U=>U h/\(∃o,h.get? a=some o)/\∀h1 h2:Heap,U h1->(∀o,h1.get? a=some o->h2.get? a=some o)->U h2
def eN(H:Hp)(h:Heap):Prop:=∀a o,H a=some o->aO P w H h a o
end
section
variable {P:Program}{w:World}{H H':Hp}{h h':Heap}{a:Addr}{o:HO}
theorem aO.lt(x:aO P w H h a o):a<h.objs.size:=by
 cases o with
 |lst xs=>obtain⟨_,_,_,_,e⟩:=x;exact cg e
 |tup xs=>obtain⟨_,_,_,p⟩:=x;exact p.lt
 |dK kvs=>obtain⟨_,_,_,_,o,_,_,e,_⟩:=x;exact cg e
 |dT kvs=>obtain⟨_,_,_,_,o,_,_,e,_⟩:=x;exact cg e
 |set S n=>obtain⟨o,_,_,_,e,_⟩:=x;exact cg e
 |ins C dx fs=>obtain⟨_,_,_,e,_⟩:=x;exact cg e
 |own y=>obtain⟨_,e⟩:=x;exact cg e
 |xd fs=>obtain⟨_,⟨_,_,_,e,_⟩,_⟩:=x;exact cg e
 |rng lo hi=>obtain⟨_,_,_,e⟩:=x;exact cg e
 |oE ob u=>obtain⟨e,_⟩:=x;exact cg e
 |tZ ps=>exact cg (show h.get? a=some _ from x)
 |met f y=>exact cg (show h.get? a=some _ from x)
 |ext U=>obtain⟨_,⟨_,e⟩,_⟩:=x;exact cg e
theorem OJ{α β:Type}{F G:α->β->Prop}:∀{l₁:List α} {l₂:List β},Paired F l₁ l₂->(∀a b,F a b->G a b)->Paired G l₁ l₂
 |_,_,.nil,_=>.nil
 |_,_,.cons r t,f=>.cons (f _ _ r) (OJ t f)
theorem aO.stay(x:aO P w H h a o)(k:∀b u,(b=a\/H b=some (.own a))->h.get? b=some u->h'.get? b=some u)
  (ho:∀b,H b=some (.own a)->H' b=some (.own a)) (ht:∀b xs,H b=some (.tup xs)->H' b=some (.tup xs)):aO P w H' h' a o:=by
 induction o with
 |lst xs=>obtain⟨z,its,n,r,e⟩:=x;exact⟨z,its,n,r,k _ _ (.inl rfl) e⟩
 |tup xs=>obtain⟨z,its,r,ob,e,c⟩:=x;exact⟨z,its,r,ob,k _ _ (.inl rfl) e,c⟩
 |dK kvs=>obtain⟨z,y,vs,r,ob,es,ep,e,c⟩:=x;exact⟨z,y,vs,r,ob,es,ep,k _ _ (.inl rfl) e,c⟩
 |dT kvs=>
  obtain⟨z,y,xs,r,ob,es,ep,e,c⟩:=x;exact⟨z,y,xs,OJ r λp q z=>⟨z.1,ht _ _ z.2.1,z.2.2⟩,ob,es,ep,k _ _ (.inl rfl) e,c⟩
 |set S n=>obtain⟨ob,es,ep,t,e,c⟩:=x;exact⟨ob,es,ep,t,k _ _ (.inl rfl) e,c⟩
 |ins C dx fs=>
  obtain⟨d,z,ne,e,mA,⟨od,es,ep,e2,c⟩,r⟩:=x;exact⟨ho _ d,z,ne,k _ _ (.inl rfl) e,mA,⟨od,es,ep,k _ _ (.inr d) e2,c⟩,r⟩
 |own y=>obtain⟨ob,e⟩:=x;exact⟨ob,k _ _ (.inl rfl) e⟩
 |xd fs=>obtain⟨mA,⟨od,es,ep,e,c⟩,r⟩:=x;exact⟨mA,⟨od,es,ep,k _ _ (.inl rfl) e,c⟩,r⟩
 |rng lo hi=>obtain⟨t,u,v,e⟩:=x;exact⟨t,u,v,k _ _ (.inl rfl) e⟩
 |oE ob u ih=>obtain⟨e,q⟩:=x;exact⟨k _ _ (.inl rfl) e,ih q⟩
 |tZ ps=>
  have e:h.get? a=some {cls:=.none,data:=.fields ps}:=x;show h'.get? a=some {cls:=.none,data:=.fields ps};exact k a _ (.inl rfl) e
 |met f y=>
  have e:h.get? a=some (PySem.W.methodObj (.ref f) (.ref y)):=x;show h'.get? a=some (PySem.W.methodObj (.ref f) (.ref y));exact k a _ (.inl rfl) e
 |ext U=>obtain⟨p,⟨o,e⟩,st⟩:=x;exact⟨st _ _ p λo q=>k _ _ (.inl rfl) q,⟨o,k _ _ (.inl rfl) e⟩,st⟩
theorem eN.lt(x:eN P w H h)(e:H a=some o):a<h.objs.size:=(x a o e).lt
theorem eN.fresh(x:eN P w H h)(e:h.objs.size<=a):H a=none:=by
 cases q:H a with
 |none=>rfl
 |some u=>exact absurd (gw (x.lt q) e) (mU _)
theorem eN.kept(x:eN P w H h)(k:∀b u,h.get? b=some u->h'.get? b=some u):eN P w H h':=λa o e=>
 (x a o e).stay (λb u _ q=>k b u q) (λ_ q=>q) λ_ _ q=>q
theorem eN.laid(x:eN P w H h)(k:∀b u,h.get? b=some u->h'.get? b=some u)(hp:h.objs.size<=a)(new:aO P w (upd H a o) h' a o):eN P w (upd H a o) h':=λb u e=>by
 have hn:=x.fresh hp;by_cases hb:b=a
 ·subst hb;rw[jz] at e;cases e;exact new
 ·rw[dB hb] at e;exact(x b u e).stay (λc v _ q=>k c v q) (λc q=>by rw[dB (xT q hn)];exact q) λc xs q=>by rw[dB (xT q hn)];exact q
end
def Rd(H:Hp)(a:Addr)(u:HO):Prop:=H a=some u\/∃o,H a=some (.oE o u)
theorem Rd.ok{P:Program}{w:World}{H:Hp}{h:Heap}{a:Addr}{u:HO}(r:Rd H a u)(x:eN P w H h):aO P w H h a u:=by
 rcases r with r|⟨o,r⟩
 ·exact x a u r
 ·obtain⟨_,q⟩:=x a _ r;exact q
noncomputable def zp:Option HO->Prop
 |some (.lst _)=>True
 |some (.dK _)=>True
 |some (.dT _)=>True
 |some (.set _ _)=>True
 |some (.ins _ _ _)=>True
 |some (.ext _)=>True
 |_=>False
section
variable {P:Program}{w:World}{H:Hp}{h h':Heap}{x e:Addr}{o':HO}
theorem eN.write(ok:eN P w H h)(mu:zp (H x))(he:e=x\/H e=some (.own x))(k:∀b u,b≠e->h.get? b=some u->h'.get? b=some u)(xU:∃u,h'.get? e=some u)
  (new:aO P w (upd H x o') h' x o'):eN P w (upd H x o') h':=λb u q=>by
 have zu:∀c y,H c=some (.own y)->c≠x:=λc y r z=>by subst z;rw[r] at mu;exact mu
 have Hv:∀c xs,H c=some (.tup xs)->c≠x:=λc xs r z=>by subst z;rw[r] at mu;exact mu
 by_cases hb:b=x
 ·subst hb;rw[jz] at q;cases q;exact new
 ·rw[dB hb] at q;by_cases vf:b=e
  ·have q':H b=some (.own x):=by
    rcases he with z|z
    ·exact absurd (vf.trans z) hb
    ·rw[vf];exact z
   rw[q] at q';cases q';obtain⟨v,hv⟩:=xU;exact⟨v,by rw[vf];exact hv⟩
  ·refine(ok b u q).stay (λc v hc r=>k c v ?_ r) (λc r=>by rw[dB (zu c b r)];exact r) λc xs r=>by rw[dB (Hv c xs r)];exact r
   rcases hc with rfl|hc
   ·exact vf
   ·rintro rfl;rcases he with z|z
    ·exact zu c b hc z
    ·rw[hc] at z;cases z;exact hb rfl
end
structure Un(fs ex:List Addr)(H H':Hp)(h h':Heap):Prop where
 keep:∀b o,h.get? b=some o->H b=none->b∉fs->b∉ex->h'.get? b=some o
 slot:∀b o,h.get? b=some o->H b=none->b∈fs->b∉ex->∃sl,h'.get? b=some {o with slots:=sl}
 free:∀b o,h.get? b=some o->H b=none->b∉ex->H' b=none
 there:∀b o,h.get? b=some o->b∉ex->∃o',h'.get? b=some o'
 tups:∀b xs,H b=some (.tup xs)->H' b=some (.tup xs)
 gC:∀b o u,H b=some (.oE o u)->H' b=some (.oE o u)
 g8:∀b ps,H b=some (.tZ ps)->∃more,H' b=some (.tZ (ps++more))
section
variable {fs fs' ex ex':List Addr}{H H1 H2:Hp}{h h1 h2 h':Heap}{a x e:Addr}{o:HO}
theorem Un.any(u:Un fs ex H H1 h h1){b:Addr}{ob:Obj}(q:h.get? b=some ob)(n:H b=none)(hx:b∉ex):∃sl,h1.get? b=some {ob with slots:=sl}:=by
 by_cases hb:b∈fs
 ·exact u.slot b ob q n hb hx
 ·exact⟨ob.slots,u.keep b ob q n hb hx⟩
theorem Un.kept(k:∀b u,h.get? b=some u->h'.get? b=some u):Un fs ex H H h h':=
 ⟨λb ob q _ _ _=>k b ob q,λb ob q _ _ _=>⟨ob.slots,k b ob q⟩,λ_ _ _ n _=>n,λb ob q _=>⟨ob,k b ob q⟩,λ_ _ q=>q,λ_ _ _ q=>q,λ_ ps q=>⟨#[],by rw[q];simp⟩⟩
theorem Un.refl:Un fs ex H H h h:=Un.kept λ_ _ q=>q
theorem Un.laid(k:∀b u,h.get? b=some u->h'.get? b=some u)(hp:h.objs.size<=a)(hn:H a=none):Un fs ex H (upd H a o) h h' where
 keep:=λb u q _ _ _=>k b u q
 slot:=λb u q _ _ _=>⟨u.slots,k b u q⟩
 free:=λb u q n _=>by rw[dB (i_ (gw (cg q) hp))];exact n
 there:=λb u q _=>⟨u,k b u q⟩
 tups:=λb xs q=>by rw[dB (xT q hn)];exact q
 gC:=λb u xs q=>by rw[dB (xT q hn)];exact q
 g8:=λb ps q=>⟨#[],by rw[dB (xT q hn),q];simp⟩
theorem Un.write(mu:zp (H x))(he:e=x\/H e=some (.own x))(k:∀b u,b≠e->h.get? b=some u->h'.get? b=some u)(xU:∃u,h'.get? e=some u):Un fs ex H (upd H x o) h h':=by
 have hx:∀b,H b=none->b≠x:=λb n z=>by subst z;rw[n] at mu;exact mu
 have hb:∀b,H b=none->b≠e:=λb n z=>by
  subst z;rcases he with r|r
  ·exact hx b n r
  ·rw[n] at r;cases r
 have hm:∀b u,H b=some u->¬zp (some u)->b≠x:=λb u q nm z=>by subst z;rw[q] at mu;exact nm mu
 refine⟨λb u q n _ _=>k b u (hb b n) q,λb u q n _ _=>⟨u.slots,k b u (hb b n) q⟩,λb u q n _=>by rw[dB (hx b n)];exact n,λb u q _=>?_,
  λb xs q=>by rw[dB (hm b _ q λz=>z)];exact q,λb u xs q=>by rw[dB (hm b _ q λz=>z)];exact q,λb ps q=>⟨#[],by rw[dB (hm b _ q λz=>z),q];simp⟩⟩
 by_cases vf:b=e
 ·subst vf;exact xU
 ·exact⟨u,k b u vf q⟩
end
noncomputable def Ef(h:Heap)(H:Hp):List Addr:=(List.range h.objs.size).filter λa=>(H a).isSome
noncomputable def jA(h:Heap)(H:Hp):Heap:=PySem.W.hideAll h (Ef h H)
theorem V4(h:Heap)(H:Hp):(jA h H).objs.size=h.objs.size:=PySem.W.hideAll_size _ _
theorem V5{h:Heap}{H:Hp}{b:Addr}{o:Obj}(e:h.get? b=some o)(n:H b=none):(jA h H).get? b=some o:=
 PySem.W.hideAll_get _ e λhm=>by
  have q:(H b).isSome=true:=(List.mem_filter.mp hm).2;rw[n] at q;simp at q
theorem V6{h:Heap}{H:Hp}{b:Addr}{o:Obj}(e:(jA h H).get? b=some o):h.get? b=some o/\H b=none:=by
 have e':h.get? b=some o:=PySem.W.of_hideAll (Ef h H) e;refine⟨e',?_⟩;cases q:H b with
 |none=>rfl
 |some x=>
  have hm:b∈Ef h H:=List.mem_filter.mpr ⟨jk.mpr (cg e'),by simp[q]⟩;have z:(jA h H).get? b=none:=PySem.W.hideAll_none (Ef h H) hm;rw[z] at e;cases e
structure Mod(K:W.Frag)(mg:Str->Option Value)(base:Heap):Prop where
 tX:K.In base
 glob:base.Ns mainGlobals mg
 blt:∃mb,base.Ns builtinsNs mb/\∀x:Str,x≠"__name__"->mb x=bootBuiltins x
 nolimit:base.NoLimit
structure Cx where
 prog:Program
 w:World
 K:W.Frag
 mg:Str->Option Value
 base:Heap
 A:Around
 N:List Str
 s₀:Shared
 H₀:Hp
 env:Env
 outer:List Env
 stack:List Env
 ex:List Addr
 fn:Str->Bool
 aj:Bool
 pn:List (Addr×Obj)
 xe:Value->Shared->Prop
noncomputable def frs(l:List Env):List Addr:=l.filterMap (·.frame)
noncomputable abbrev Cx.fs(X:Cx):List Addr:=frs X.outer
def Hw(sc:Scope)(x:Str):Prop:=sc.names.lookup x=some .local\/sc.names.lookup x=some .cell\/sc.names.lookup x=some .free
def Loc(sc:Scope)(x:Str):Prop:=sc.names.lookup x=some .local\/sc.names.lookup x=some .cell
def Look(env:Env)(h:Heap)(m:Str->Option Value)(x:Str)(u:Value):Prop:=
 (env.kindOf x=some .local/\m x=some u)\/((env.kindOf x=some .cell\/env.kindOf x=some .free)/\∃c,env.cells.lookup x=some c/\h.IsCell c (some u))
structure Cx.Ok(X:Cx):Prop where
 mod:Mod X.K X.mg X.base
 kind:X.env.scope.kind=.function
 glob:X.env.globals=mainGlobals
 blt:X.env.builtins=builtinsNs
 above:X.s₀.heap.objs.size<=X.env.locals
 inj:∀x y c,X.env.cells.lookup x=some c->X.env.cells.lookup y=some c->x=y
 has:∀x,(X.env.kindOf x=some .cell\/X.env.kindOf x=some .free)->∃c,X.env.cells.lookup x=some c
 cab:∀x c,X.fn x=true->X.env.cells.lookup x=some c->X.s₀.heap.objs.size<=c
 hd:X.aj=true->X.A.handled=none
 frames:X.A.frames=some X.stack
 stk:X.stack=X.outer\/(X.stack=X.env::X.outer/\X.env.frame=some X.env.locals)
 O1:∀b∈X.ex,b≠X.env.locals/\∀x c,X.env.cells.lookup x=some c->c≠b
 bs:∀b o,X.base.get? b=some o->X.s₀.heap.get? b=some o/\X.H₀ b=none
 t_:X.base.objs.size<=X.s₀.heap.objs.size
 oF:∀b o,X.base.get? b=some o->b∉X.ex
 rB:∀b∈X.ex,b∉X.fs
 g_:X.s₀.heap.FunFrames X.base X.outer
 xV:∀b∈X.fs,X.H₀ b=none
structure Inv(X:Cx)(ak:List (Addr×Obj))(Z:List (Option V))(H:Hp)(s:Shared):Prop where
 ok:X.Ok
 os:s.os=X.s₀.os
 bare:AllBare s.gens
 base:Un X.fs X.ex X.H₀ H X.s₀.heap s.heap
 loc:∃m,s.heap.Ns X.env.locals m/\∀(i:Nat) (x:Str) (v:V),X.N[i]?=some x->Z[i]?=some (some v)->Hw X.env.scope x->∃u,RelV v u/\Look X.env s.heap m x u
 cell:∀x c,X.env.cells.lookup x=some c->∃v,s.heap.IsCell c v
 free:H X.env.locals=none
 cY:∀x c,X.env.cells.lookup x=some c->H c=none
 pin:∀p∈X.pn++ak,s.heap.get? p.1=some p.2/\H p.1=none/\p.1≠X.env.locals/\p.1∉X.fs/\∀v,p.2.data≠.cell v
 hok:eN X.prog X.w H s.heap
 len:Z.length=X.N.length
section
variable {X:Cx}{ak:List (Addr×Obj)}{Z:List (Option V)}{H H':Hp}{s:Shared}{h':Heap}
theorem Cx.Ok.Hx(ok:X.Ok){b:Addr}{o:Obj}(e:X.base.get? b=some o):b∉X.fs:=λhb=>by
 have:=(ok.g_.mem hb).1;rw[e] at this;cases this
theorem Inv.bs(I:Inv X ak Z H s):∀b o,X.base.get? b=some o->s.heap.get? b=some o/\H b=none:=λb o e=>
 ⟨I.base.keep b o (I.ok.bs b o e).1 (I.ok.bs b o e).2 (I.ok.Hx e) (I.ok.oF b o e),I.base.free b o (I.ok.bs b o e).1 (I.ok.bs b o e).2 (I.ok.oF b o e)⟩
theorem Inv.bk(I:Inv X ak Z H s):∀b o,X.base.get? b=some o->s.heap.get? b=some o:=λb o e=>(I.bs b o e).1
theorem Inv.mod(I:Inv X ak Z H s):Mod X.K X.mg X.base:=I.ok.mod
theorem Inv.mY(I:Inv X ak Z H s):X.K.In s.heap:=I.ok.mod.tX.keeps I.bk
theorem Inv.nolimit(I:Inv X ak Z H s):s.heap.NoLimit:=I.ok.mod.nolimit.keeps I.bk
theorem Inv.lt(I:Inv X ak Z H s):X.env.locals<s.heap.objs.size:=let ⟨_,hn,_⟩:=I.loc;hn.lt
theorem Inv.sz(I:Inv X ak Z H s):X.s₀.heap.objs.size<=s.heap.objs.size:=jd I.ok.above (uV I.lt)
theorem Inv.Hy(I:Inv X ak Z H s){a:Addr}(h:s.heap.objs.size<=a):a∉X.fs:=λhb=>by
 obtain⟨_,o,ho,_⟩:=I.ok.g_.mem hb;exact absurd (gw (cg ho) (jd I.sz h)) (mU _)
theorem Inv.rC(I:Inv X ak Z H s):∀x c,X.env.cells.lookup x=some c->c≠X.env.locals:=λx c e z=>by
 obtain⟨v,o,ho,hd⟩:=I.cell x c e;obtain⟨m,⟨o',es,ep,oG,vg,_⟩,_⟩:=I.loc;rw[z,oG] at ho;cases ho;rw[vg] at hd;cases hd
theorem Inv.g_(I:Inv X ak Z H s):s.heap.FunFrames X.base X.outer:=by
 have all:∀(l:List Env),(∀b∈frs l,b∈X.fs)->X.s₀.heap.FunFrames X.base l->s.heap.FunFrames X.base l:=by
  intro l
  induction l with
  |nil=>intro _ _;trivial
  |cons env r ih=>
   intro hs hl;obtain⟨hk,⟨L,o,hf,hn,ho,hd⟩,hr⟩:=hl;have hL:L∈X.fs:=hs L (by unfold frs;rw[G7,hf];exact ju);obtain⟨sl,e⟩:=I.base.slot L o ho (I.ok.xV L hL) hL λz=>I.ok.rB L z hL;exact⟨hk,⟨L,_,hf,hn,e,hd⟩,ih (λb hb=>hs b (by unfold frs;rw[G7,hf];exact fV _ hb)) hr⟩
 exact all X.outer (λ_ hb=>hb) I.ok.g_
theorem Inv.stack(I:Inv X ak Z H s):s.heap.FunFrames X.base X.stack:=by
 rcases I.ok.stk with e|⟨e,hf⟩
 ·rw[e];exact I.g_
 ·rw[e];obtain⟨m,hn,_⟩:=I.loc;refine .cons (by rw[I.ok.kind];decide) hf hn ?_ I.g_;exact Dw (jd I.ok.t_ I.ok.above)
theorem Inv.jB(I:Inv X ak Z H s):∀b∈frs X.stack,b∈X.env.locals::X.fs:=λb hb=>by
 rcases I.ok.stk with e|⟨e,hf⟩
 ·rw[e] at hb;exact fV _ hb
 ·rw[e] at hb;unfold frs at hb;rw[G7,hf] at hb;exact hb
theorem Inv.gM(I:Inv X ak Z H s):∀b∈frs X.stack,H b=none:=λb hb=>by
 rcases iQ.mp (I.jB b hb) with e|hb
 ·rw[e];exact I.free
 ·obtain⟨_,o,ho,_⟩:=I.ok.g_.mem hb;exact I.base.free b o ho (I.ok.xV b hb) λz=>I.ok.rB b z hb
theorem Inv.step{g':Array GenState}{t':Nat}{d':Drawn}{ch:List Addr}(I:Inv X ak Z H s)
  (qI:∀b∈ch,(b∈X.ex\/X.s₀.heap.get? b=none)/\b≠X.env.locals/\(∀x c,X.env.cells.lookup x=some c->c≠b)/\∀p∈X.pn++ak,p.1≠b)
  (keep:∀b o,b≠X.env.locals->b∉X.fs->b∉ch->s.heap.get? b=some o->H b=none->h'.get? b=some o)
  (slot:∀b o,b≠X.env.locals->b∈X.fs->b∉ch->s.heap.get? b=some o->H b=none->∃sl,h'.get? b=some {o with slots:=sl}) (free:∀b o,b∉ch->s.heap.get? b=some o->H b=none->H' b=none)
  (there:∀b o,b∉ch->s.heap.get? b=some o->∃o',h'.get? b=some o')
  (tups:∀b xs,H b=some (.tup xs)->H' b=some (.tup xs)) (gC:∀b o u,H b=some (.oE o u)->H' b=some (.oE o u)) (g8:∀b ps,H b=some (.tZ ps)->∃more,H' b=some (.tZ (ps++more)))
  (ns:∀m,s.heap.Ns X.env.locals m->h'.Ns X.env.locals m) (hok:eN X.prog X.w H' h') (hg:AllBare g') :
  Inv X ak Z H' {s with heap:=h',gens:=g',drawn:=d',toks:=t'}:=by
 have O2:∀b o,X.s₀.heap.get? b=some o->b≠X.env.locals:=λb o e=>i_ (gw (cg e) I.ok.above);have Eh:∀b o,X.s₀.heap.get? b=some o->b∉X.ex->b∉ch:=λb o e hx hb=>by
  rcases(qI b hb).1 with z|z
  ·exact hx z
  ·rw[e] at z;cases z
 have cellK:∀x c,X.env.cells.lookup x=some c->∀v,s.heap.IsCell c v->h'.IsCell c v:=λx c e v hx=>rz hx λo ho hd=>by
  have zx:c∉ch:=λz=>(qI c z).2.2.1 x c e rfl;by_cases hc:c∈X.fs
  ·obtain⟨sl,q⟩:=slot c o (I.rC x c e) hc zx ho (I.cY x c e);exact⟨_,q,hd⟩
  ·exact⟨o,keep c o (I.rC x c e) hc zx ho (I.cY x c e),hd⟩
 refine⟨I.ok,I.os,hg,⟨λb o e n hb hx=>?_,λb o e n hb hx=>?_,λb o e n hx=>?_,λb o e hx=>?_,λb xs e=>tups b xs (I.base.tups b xs e),λb o xs e=>gC b o xs (I.base.gC b o xs e),λb ps e=>?_⟩,?_,λx c e=>?_,?_,λx c e=>?_,λp hp=>?_,hok,I.len⟩
 ·exact keep b o (O2 b o e) hb (Eh b o e hx) (I.base.keep b o e n hb hx) (I.base.free b o e n hx)
 ·obtain⟨sl,e1⟩:=I.base.slot b o e n hb hx;obtain⟨sl',e2⟩:=slot b _ (O2 b o e) hb (Eh b o e hx) e1 (I.base.free b o e n hx);exact⟨sl',e2⟩
 ·obtain⟨o',e1⟩:=I.base.there b o e hx;exact free b o' (Eh b o e hx) e1 (I.base.free b o e n hx)
 ·obtain⟨o',e1⟩:=I.base.there b o e hx;exact there b o' (Eh b o e hx) e1
 ·obtain⟨m1,e1⟩:=I.base.g8 b ps e;obtain⟨m2,e2⟩:=g8 b _ e1;exact⟨m1++m2,by rw[e2,Array.append_assoc]⟩
 ·obtain⟨m,hn,hl⟩:=I.loc;refine⟨m,ns m hn,λi x v e1 e2 e3=>?_⟩;obtain⟨u,r,l⟩:=hl i x v e1 e2 e3;refine⟨u,r,?_⟩;rcases l with l|⟨k,c,e,z⟩
  ·exact .inl l
  ·exact .inr ⟨k,c,e,cellK x c e _ z⟩
 ·obtain⟨v,z⟩:=I.cell x c e;exact⟨v,cellK x c e v z⟩
 ·obtain⟨m,⟨o,_,_,ho,_⟩,_⟩:=I.loc;exact free _ o (λz=>(qI _ z).2.1 rfl) ho I.free
 ·obtain⟨v,o,ho,hd⟩:=I.cell x c e;exact free c o (λz=>(qI c z).2.2.1 x c e rfl) ho (I.cY x c e)
 ·obtain⟨e,n,ne,nf,d⟩:=I.pin p hp;have zx:p.1∉ch:=λz=>(qI p.1 z).2.2.2 p hp rfl;exact⟨keep p.1 p.2 ne nf zx e n,free p.1 p.2 zx e n,ne,nf,d⟩
theorem Inv.un{t':Nat}(I:Inv X ak Z H s)(u:Un X.fs [] H H' s.heap h')(hok:eN X.prog X.w H' h'):Inv X ak Z H' {s with heap:=h',toks:=t'}:=by
 obtain⟨m,⟨o,es,ep,ho,r⟩,_⟩:=id I.loc;obtain⟨sl,hL⟩:=u.any ho I.free MP;exact I.step (g':=s.gens) (d':=s.drawn) (ch:=[]) (λ_ z=>nomatch z) (λb o _ hb _ e n=>u.keep b o e n hb MP) (λb o _ hb _ e n=>u.slot b o e n hb MP) (λb o _ e n=>u.free b o e n MP) (λb o _ e=>u.there b o e MP) u.tups u.gC u.g8 (λm' hm=>by
  obtain⟨o',es',ep',oG,r'⟩:=hm;rw[ho] at oG;cases oG;exact⟨_,es',ep',hL,r'⟩) hok I.bare
theorem Inv.call{g':Array GenState}{t':Nat}{d':Drawn}{ch:List Addr}(I:Inv X ak Z H s)(u:Un (frs X.stack) ch H H' s.heap h')(hok:eN X.prog X.w H' h')(hg:AllBare g')
  (qI:∀b∈ch,(b∈X.ex\/X.s₀.heap.get? b=none)/\b≠X.env.locals/\(∀x c,X.env.cells.lookup x=some c->c≠b)/\∀p∈X.pn++ak,p.1≠b) :
  Inv X ak Z H' {s with heap:=h',gens:=g',drawn:=d',toks:=t'}:=by
 obtain⟨m,⟨o,es,ep,ho,r⟩,_⟩:=id I.loc;obtain⟨sl,hL⟩:=u.any ho I.free λz=>(qI _ z).2.1 rfl;exact I.step (ch:=ch) qI (λb o hL hb hc e n=>u.keep b o e n (λz=>(iQ.mp (I.jB b z)).elim hL hb) hc) (λb o _ _ hc e n=>u.any e n hc) (λb o hc e n=>u.free b o e n hc) (λb o hc e=>u.there b o e hc) u.tups u.gC u.g8 (λm' hm=>by
  obtain⟨o',es',ep',oG,r'⟩:=hm;rw[ho] at oG;cases oG;exact⟨_,es',ep',hL,r'⟩) hok hg
theorem Inv.turned{t':Nat}{it:Addr}(I:Inv X ak Z H s)(k:∀b o,b≠it->s.heap.get? b=some o->h'.get? b=some o)(hn:H it=none)(hL:it≠X.env.locals)
  (h1:it∈X.ex\/X.s₀.heap.objs.size<=it) (h2:∀x c,X.env.cells.lookup x=some c->c≠it) (h3:∀p∈X.pn++ak,p.1≠it):Inv X ak Z H {s with heap:=h',toks:=t'}:=by
 have O4:∀b u,H b=some u->b≠it:=λb u e z=>by rw[z,hn] at e;cases e
 refine I.step (g':=s.gens) (d':=s.drawn) (ch:=[it]) (λb hb=>?_) (λb o _ _ hc e _=>k b o (λz=>hc (by simp[z])) e) (λb o _ _ hc e _=>⟨o.slots,k b o (λz=>hc (by simp[z])) e⟩) (λ_ _ _ _ n=>n)
  (λb o hc e=>⟨o,k b o (λz=>hc (by simp[z])) e⟩) (λ_ _ e=>e) (λ_ _ _ e=>e) (λb ps e=>⟨#[],by rw[e];simp⟩) (λm hm=>?_) (λb u e=>?_) I.bare
 ·have e:b=it:=by simpa using hb
  subst e;exact⟨h1.imp id λz=>Dw z,hL,h2,h3⟩
 ·obtain⟨o,es,ep,ho,r⟩:=hm;exact⟨o,es,ep,k _ o (Ne.symm hL) ho,r⟩
 ·refine(I.hok b u e).stay (λc v hc q=>k c v ?_ q) (λ_ q=>q) λ_ _ q=>q;rcases hc with z|z
  ·rw[z];exact O4 b u e
  ·exact O4 c _ z
theorem Inv.tok(I:Inv X ak Z H s)(t:Nat):Inv X ak Z H {s with toks:=t}:=I.un (h':=s.heap) (t':=t) Un.refl I.hok
theorem Inv.kept{t':Nat}(I:Inv X ak Z H s)(k:∀b u,s.heap.get? b=some u->h'.get? b=some u):Inv X ak Z H {s with heap:=h',toks:=t'}:=I.un (Un.kept k) (I.hok.kept k)
theorem Inv.laid{a:Addr}{o:HO}{t':Nat}(I:Inv X ak Z H s)(k:∀b u,s.heap.get? b=some u->h'.get? b=some u)(hp:s.heap.objs.size<=a)(new:aO X.prog X.w (upd H a o) h' a o) :
  Inv X ak Z (upd H a o) {s with heap:=h',toks:=t'}:=I.un (Un.laid k hp (I.hok.fresh hp)) (I.hok.laid k hp new)
theorem Inv.write{x e:Addr}{o:HO}{t':Nat}(I:Inv X ak Z H s)(mu:zp (H x))(he:e=x\/H e=some (.own x))(k:∀b u,b≠e->s.heap.get? b=some u->h'.get? b=some u)(xU:∃u,h'.get? e=some u)
  (new:aO X.prog X.w (upd H x o) h' x o):Inv X ak Z (upd H x o) {s with heap:=h',toks:=t'}:=I.un (Un.write mu he k xU) (I.hok.write mu he k xU new)
theorem Inv.jC{oH:List (Addr×Obj)}(I:Inv X ak Z H s)(h:∀p∈oH,s.heap.get? p.1=some p.2/\H p.1=none/\p.1≠X.env.locals/\p.1∉X.fs/\∀v,p.2.data≠.cell v):Inv X oH Z H s:=
 ⟨I.ok,I.os,I.bare,I.base,I.loc,I.cell,I.free,I.cY,λp hp=>(mR.mp hp).elim (λz=>I.pin p (Dy _ z)) (h p),I.hok,I.len⟩
theorem Hz{N:List Str}(hN:N.Nodup){i j:Nat}{x:Str}(a:N[i]?=some x)(b:N[j]?=some x):i=j:=by
 obtain⟨h1,e1⟩:=gR.mp a;obtain⟨h2,e2⟩:=gR.mp b;exact(List.getElem_inj hN).mp (e1.trans e2.symm)
theorem O5{M:Model}{A:Around}{E:Value->Shared->Prop}{i:Nat}{x:Str}{v:V}{u:Value}{Q:Unit->Shared->Prop}(I:Inv X ak Z H s)(hN:X.N.Nodup)(hi:X.N[i]?=some x)(hx:Loc X.env.scope x)(r:RelV v u)
  (h:∀s',Inv X ak (Z.set i (some v)) H s'->(∃a,Heap.SameBut a s.heap s'.heap/\(a=X.env.locals\/X.env.cells.lookup x=some a))->Q () s') (hf:X.fn x=true\/X.env.scope.names.lookup x=some .local:=by first|exact .inl rfl|exact .inr rfl|assumption):wpAny M A (storeName X.env x u) Q E s:=by
 obtain⟨m,hn,hl⟩:=id I.loc;have vh:(X.env.scope.kind==.class||(X.env.scope.kind==.module&&X.env.locals != X.env.globals))=false:=by rw[I.ok.kind];rfl
 have O6:i<Z.length:=by rw[I.len];exact(gR.mp hi).1
 have rC:=I.rC;have tracked:∀{a:Addr} {h':Heap},(∃o,s.heap.get? a=some o/\H a=none)->Heap.SameBut a s.heap h'->eN X.prog X.w H h':=λ{a h'} ha hs b ob e=>by
  obtain⟨_,_,lV⟩:=ha;refine(I.hok b ob e).stay (λc w' hc q=>(hs.2 c ?_).trans q) (λ_ q=>q) λ_ _ q=>q;rintro rfl;rcases hc with rfl|hc
  ·rw[lV] at e;cases e
  ·rw[lV] at hc;cases hc
 rcases hx with hk|hk
 ·refine wpAny_storeName_local hk hn (λh' rD hs=>?_) vh;obtain⟨oL,_,_,V7,_⟩:=id hn;refine h _ ⟨I.ok,I.os,I.bare,⟨λb o e n hb hx=>?_,λb o e n hb hx=>?_,I.base.free,λb o e hx=>?_,I.base.tups,I.base.gC,I.base.g8⟩,⟨_,rD,λj y v' e1 e2 e3=>?_⟩,λy c e=>?_,I.free,I.cY,λp hp=>?_,tracked ⟨oL,V7,I.free⟩ hs,by simpa using I.len⟩ ⟨_,hs,.inl rfl⟩
  ·exact(hs.2 b (i_ (gw (cg e) I.ok.above))).trans (I.base.keep b o e n hb hx)
  ·obtain⟨sl,e1⟩:=I.base.slot b o e n hb hx;exact⟨sl,(hs.2 b (i_ (gw (cg e) I.ok.above))).trans e1⟩
  ·obtain⟨o',e1⟩:=I.base.there b o e hx;exact⟨o',(hs.2 b (i_ (gw (cg e) I.ok.above))).trans e1⟩
  ·by_cases hj:j=i
   ·subst hj;rw[hi] at e1;cases e1;rw[tU O6] at e2;cases e2;exact⟨u,r,.inl ⟨hk,by simp⟩⟩
   ·rw[kj (Ne.symm hj)] at e2;obtain⟨u',r',q⟩:=hl j y v' e1 e2 e3;refine⟨u',r',?_⟩;rcases q with ⟨k,e⟩|⟨k,c,e,z⟩
    ·refine .inl ⟨k,?_⟩;have:y≠x:=λe=>hj (Hz hN e1 (e▸hi));simp[this,e]
    ·exact .inr ⟨k,c,e,z.sameBut hs (rC y c e)⟩
  ·obtain⟨w',z⟩:=I.cell y c e;exact⟨w',z.sameBut hs (rC y c e)⟩
  ·obtain⟨e,n,ne,nf,d⟩:=I.pin p hp;exact⟨(hs.2 p.1 ne).trans e,n,ne,nf,d⟩
 ·have HB:X.fn x=true:=by
   rcases hf with z|z
   ·exact z
   ·rw[z] at hk;cases hk
  obtain⟨c,hc⟩:=I.ok.has x (.inl hk);obtain⟨w',z⟩:=I.cell x c hc;refine wpAny_storeName_cell I.ok.kind hk hc z (λh' vm hs=>?_);obtain⟨oc,O7,HD⟩:=id z;refine h {s with heap:=h'} ⟨I.ok,I.os,I.bare,⟨λb o e n hb hx=>?_,λb o e n hb hx=>?_,I.base.free,λb o e hx=>?_,I.base.tups,I.base.gC,I.base.g8⟩,⟨m,hn.sameBut hs (Ne.symm (rC x c hc)),λj y v' e1 e2 e3=>?_⟩,λy c' e=>?_,I.free,I.cY,λp hp=>?_,tracked ⟨oc,O7,I.cY x c hc⟩ hs,by simpa using I.len⟩ ⟨c,hs,.inr hc⟩
  ·exact(hs.2 b (i_ (gw (cg e) (I.ok.cab x c HB hc)))).trans (I.base.keep b o e n hb hx)
  ·obtain⟨sl,e1⟩:=I.base.slot b o e n hb hx;exact⟨sl,(hs.2 b (i_ (gw (cg e) (I.ok.cab x c HB hc)))).trans e1⟩
  ·obtain⟨o',e1⟩:=I.base.there b o e hx;exact⟨o',(hs.2 b (i_ (gw (cg e) (I.ok.cab x c HB hc)))).trans e1⟩
  ·by_cases hj:j=i
   ·subst hj;rw[hi] at e1;cases e1;rw[tU O6] at e2;cases e2;exact⟨u,r,.inr ⟨.inl hk,c,hc,vm⟩⟩
   ·rw[kj (Ne.symm hj)] at e2;obtain⟨u',r',q⟩:=hl j y v' e1 e2 e3;refine⟨u',r',?_⟩;rcases q with q|⟨k,c',e,z'⟩
    ·exact .inl q
    ·refine .inr ⟨k,c',e,z'.sameBut hs ?_⟩;rintro rfl;exact hj (Hz hN e1 (I.ok.inj _ _ _ e hc▸hi))
  ·by_cases O8:c'=c
   ·subst O8;exact⟨_,vm⟩
   ·obtain⟨w2,z2⟩:=I.cell y c' e;exact⟨w2,z2.sameBut hs O8⟩
  ·obtain⟨e,n,ne,nf,d⟩:=I.pin p hp;refine⟨(hs.2 p.1 ?_).trans e,n,ne,nf,d⟩;intro q;rw[q,O7] at e;have q':oc=p.2:=dh e;exact d w' (by rw[<-q'];exact HD)
theorem HF{M:Model}{A:Around}{E:Value->Shared->Prop}{i:Nat}{x:Str}{v:V}{u:Value}{Q:Unit->Shared->Prop}(I:Inv X ak Z H s)(hN:X.N.Nodup)(hi:X.N[i]?=some x)(hx:Loc X.env.scope x)(r:RelV v u)
  (h:∀s',Inv X ak (Z.set i (some v)) H s'->Q () s') (hf:X.fn x=true\/X.env.scope.names.lookup x=some .local:=by first|exact .inl rfl|exact .inr rfl|assumption):wpAny M A (storeName X.env x u) Q E s:=
 O5 I hN hi hx r (λs' I' _=>h s' I') hf
theorem Inv.call'{s':Shared}{ch:List Addr}(I:Inv X ak Z H s)(ho:s'.os=s.os)(u:Un (frs X.stack) ch H H' s.heap s'.heap)(hok:eN X.prog X.w H' s'.heap)(hg:AllBare s'.gens)
  (qI:∀b∈ch,(b∈X.ex\/X.s₀.heap.get? b=none)/\b≠X.env.locals/\(∀x c,X.env.cells.lookup x=some c->c≠b)/\∀p∈X.pn++ak,p.1≠b):Inv X ak Z H' s':=by
 obtain⟨h',g',d',t',o'⟩:=s';have e:o'=s.os:=ho;subst e;exact I.call (g':=g') (t':=t') (d':=d') u hok hg qI
end
noncomputable abbrev XK:=Value->Option Addr->Hp->Prop
noncomputable abbrev St:=List (Option V)
noncomputable abbrev VK:=V->Hp->Prop
noncomputable abbrev TE:=St->Hp->VK->Prop
noncomputable abbrev TT:=St->Hp->(Bool->Hp->Prop)->Prop
noncomputable abbrev TA:=St->Hp->(List V->Hp->Prop)->Prop
structure Ends where
 nx:St->Hp->Prop
 rt:VK
 bk:St->Hp->Prop:=λ_ _=>False
 ct:St->Hp->Prop:=λ_ _=>False
noncomputable abbrev TS:=Ends->St->Hp->Prop
def EP(X:Cx)(ak:List (Addr×Obj))(Z:St)(Q:VK)(u:Value)(s':Shared):Prop:=∃v H',Inv X ak Z H' s'/\RelV v u/\Q v H'
def TP(X:Cx)(ak:List (Addr×Obj))(Z:St)(Q:Bool->Hp->Prop)(b:Bool)(s':Shared):Prop:=∃H',Inv X ak Z H' s'/\Q b H'
def AP(X:Cx)(ak:List (Addr×Obj))(Z:St)(Q:List V->Hp->Prop)(us:List Value)(s':Shared):Prop:=∃vs H',Inv X ak Z H' s'/\Vals vs us/\Q vs H'
def SP(X:Cx)(ak:List (Addr×Obj))(D:Ends)(f:Flow)(s':Shared):Prop:=
 match f with
 |.next=>∃Z' H',Inv X ak Z' H' s'/\D.nx Z' H'
 |.brk=>∃Z' H',Inv X ak Z' H' s'/\D.bk Z' H'
 |.cont=>∃Z' H',Inv X ak Z' H' s'/\D.ct Z' H'
 |.ret u=>∃v Z' H',Inv X ak Z' H' s'/\RelV v u/\D.rt v H'
def PE(X:Cx)(e:Expr)(t:TE):Prop:=
 ∀(ak:List (Addr×Obj)) (s:Shared) (Z:St) (H:Hp) (Q:VK),Inv X ak Z H s->t Z H Q->wpAny (model X.prog X.w) X.A (eval e X.env) (EP X ak Z Q) X.xe s
def PT(X:Cx)(e:Expr)(t:TT):Prop:=
 ∀(ak:List (Addr×Obj)) (s:Shared) (Z:St) (H:Hp) (Q:Bool->Hp->Prop),Inv X ak Z H s->t Z H Q->wpAny (model X.prog X.w) X.A (isTrue e X.env (eval e X.env)) (TP X ak Z Q) X.xe s
def PW(X:Cx)(e:Expr)(t:TT):Prop:=
 ∀(whole:Sem Value) (ak:List (Addr×Obj)) (s:Shared) (Z:St) (H:Hp) (Q:Bool->Hp->Prop),Inv X ak Z H s->t Z H Q->wpAny (model X.prog X.w) X.A (isTrue e X.env whole) (TP X ak Z Q) X.xe s
theorem V8{X:Cx}{e:Expr}{t:TT}(h:PW X e t):PT X e t:=h _
def PA(X:Cx)(es:List Expr)(t:TA):Prop:=
 ∀(pos:Pos) (ak:List (Addr×Obj)) (s:Shared) (Z:St) (H:Hp) (Q:List V->Hp->Prop),Inv X ak Z H s->t Z H Q->wpAny (model X.prog X.w) X.A (spliced (backTo pos (starEach es X.env))) (AP X ak Z Q) X.xe s
def PS(X:Cx)(st:Stmt)(t:TS):Prop:=
 ∀(ak:List (Addr×Obj)) (s:Shared) (Z:St) (H:Hp) (D:Ends),Inv X ak Z H s->t D Z H->wpAny (model X.prog X.w) X.A (exec st X.env) (SP X ak D) X.xe s
def kI(X:Cx)(st:List Stmt)(t:TS):Prop:=
 ∀(ak:List (Addr×Obj)) (s:Shared) (Z:St) (H:Hp) (D:Ends),Inv X ak Z H s->t D Z H->wpAny (model X.prog X.w) X.A (execs st X.env) (SP X ak D) X.xe s
theorem aP{α:Type}{t:Sem α}{Q Q':α->Shared->Prop}{M:Model}{A:Around}{E:Value->Shared->Prop}{s:Shared}(h:wpAny M A t Q E s)(hQ:∀a s,Q a s->Q' a s):wpAny M A t Q' E s:=gK h hQ λ_ _ x=>x
section
variable {X:Cx}
noncomputable def HJ(i:Nat):TE:=λZ H Q=>∃v,Z[i]?=some (some v)/\Q v H
noncomputable def tC(v:V):TE:=λ_ H Q=>Q v H
theorem V9{i:Nat}{x:Str}{pos:Pos}(hN:X.N[i]?=some x)(hv:Hw X.env.scope x)(hd:(x==("__debug__" : Str))=false:=by decide)(jQ:(x==("__classdict__" : Str))=false:=by decide):PE X (.Name x pos) (HJ i):=by
 intro ak s Z H Q I h;obtain⟨v,e,h⟩:=h;obtain⟨m,hn,hl⟩:=I.loc;obtain⟨u,r,l⟩:=hl i x v hN e hv;have fin:EP X ak Z Q u s:=⟨v,H,I,r,h⟩;rcases l with ⟨hk,hm⟩|⟨hk,c,hc,uc⟩
 ·exact uX (yN I.ok.kind hk hn hm fin) hd
 ·rcases hk with hk|hk
  ·exact uX (wpAny_loadName_cell I.ok.kind hk hc uc fin) hd
  ·exact uX (wpAny_loadName_free I.ok.kind hk hc uc fin jQ) hd
theorem HN{i j pos}:PE X (.Constant (.int i) j pos) (tC (.int i)):=λ_ _ _ H _ I h=>wpAny_Constant_int ⟨.int i,H,I.tok _,⟨_,rfl⟩,h⟩
theorem V_{b j pos}:PE X (.Constant (.bool b) j pos) (tC (.bl b)):=λ_ _ _ H _ I h=>Constant_bool ⟨.bl b,H,I,rfl,h⟩
theorem Wa{j pos}:PE X (.Constant .none j pos) (tC .non):=λ_ _ _ H _ I h=>Constant_none ⟨.non,H,I,rfl,h⟩
theorem HS{x j pos}:PE X (.Constant (.str x) j pos) (tC (.str x)):=λ_ _ _ H _ I h=>Calls.Constant_str ⟨.str x,H,I.tok _,⟨_,rfl⟩,h⟩
def Gl(X:Cx)(x:Str):Prop:=X.env.kindOf x=some .globalImplicit
theorem zy{E:Value->Shared->Prop}{ak:List (Addr×Obj)}{s:Shared}{Z:St}{H:Hp}{x:Str}{u:Value}{pos:Pos}{Q:Value->Shared->Prop}(I:Inv X ak Z H s)(hg:Gl X x)(hm:X.mg x=some u)(h:Q u s)
  (hd:(x==("__debug__" : Str))=false:=by decide):wpAny (model X.prog X.w) X.A (eval (.Name x pos) X.env) Q E s:=
 Calls.Name_function_global I.ok.kind hg (Calls.loadGlobal_global (by rw[I.ok.glob];exact I.mod.glob.keeps I.bk) hm h) hd
theorem zA{E:Value->Shared->Prop}{ak:List (Addr×Obj)}{s:Shared}{Z:St}{H:Hp}{x:Str}{u:Value}{pos:Pos}{Q:Value->Shared->Prop}(I:Inv X ak Z H s)(hg:Gl X x)(hm:X.mg x=none)(hv:bootBuiltins x=some u)(h:Q u s)
  (hn:x≠"__name__":=by decide) (hd:(x==("__debug__" : Str))=false:=by decide):wpAny (model X.prog X.w) X.A (eval (.Name x pos) X.env) Q E s:=by
 obtain⟨mb,h1,h2⟩:=I.mod.blt;exact Calls.Name_function_global I.ok.kind hg (Calls.loadGlobal_builtin (by rw[I.ok.glob];exact I.mod.glob.keeps I.bk) hm (by rw[I.ok.blt];exact h1.keeps I.bk) ((h2 x hn).trans hv) h) hd
theorem zev{x:Str}{v:V}{u:Value}{pos:Pos}(hg:Gl X x)(hm:X.mg x=some u)(r:RelV v u)(hd:(x==("__debug__" : Str))=false:=by decide):PE X (.Name x pos) (tC v):=
 λ_ _ _ H _ I h=>zy I hg hm ⟨v,H,I,r,h⟩ hd
variable {a b:Expr}{ta tb:TE}{pos:Pos}
def PC(X:Cx)(op:CmpOp)(a b:Expr)(t:TE):Prop:=
 ∀(ak:List (Addr×Obj)) (s:Shared) (Z:St) (H:Hp) (Q:VK),Inv X ak Z H s->t Z H Q->
  wpAny (model X.prog X.w) X.A (eval a X.env) (λv s₁=>wpAny (model X.prog X.w) X.A (eval b X.env) (λu s₂=>wpAny (model X.prog X.w) X.A (compareOp op v u) (EP X ak Z Q) X.xe s₂) X.xe s₁) X.xe s
theorem jU(b:Expr){op:CmpOp}(h:op≠.In)(h2:op≠.NotIn):behindInMarks op b=false:=by
 have e1:(op==CmpOp.In)=false:=by cases op<;>first|rfl|exact absurd rfl h
 have e2:(op==CmpOp.NotIn)=false:=by cases op<;>first|rfl|exact absurd rfl h2
 cases b<;>simp[behindInMarks,e1,e2]
noncomputable def HW(ta:TE):TE:=λZ H Q=>ta Z H λx H1=>Q (.bl (decide (x=.non))) H1
theorem RelV.oJ{x:V}{v:Value}(r:RelV x v):(v==Value.none)=decide (x=.non):=by
 cases x with
 |non=>cases r;rfl
 |bl _=>cases r;rfl
 |int _=>obtain⟨t,rfl⟩:=r;rfl
 |str _=>obtain⟨t,rfl⟩:=r;rfl
 |zm _=>obtain⟨t,rfl⟩:=r;rfl
 |flt _=>obtain⟨t,rfl⟩:=r;rfl
 |ref _=>cases r;rfl
 |ty _=>cases r;rfl
theorem O9{j pos'}(ha:PE X a ta):PC X .Is a (.Constant .none j pos') (HW ta):=by
 intro ak s Z H Q I h;refine aP (ha ak s Z H _ I h) λv s1 hx=>dj hx λx H1 I1 r1 q1=>?_;exact Constant_none (is_none_gen ⟨.bl _,H1,I1,by rw[r1.oJ];rfl,q1⟩)
noncomputable def tB(t:TE):TT:=λZ H Q=>t Z H λx H1=>∃c,x=.bl c/\Q c H1
theorem Wb{op:CmpOp}{t:TE}(h:PC X op a b t)(h1:behindInMarks op b=false:=by first|exact jU _ J0 J0|rfl):PE X (.Compare a [op] [b] pos) t:=λak s Z H Q I hw=>wpAny_Compare1 (h ak s Z H Q I hw) h1
theorem Wc{op:CmpOp}{t:TE}(h:PC X op a b t)(h1:behindInMarks op b=false:=by first|exact jU _ J0 J0|rfl):PT X (.Compare a [op] [b] pos) (tB t):=by
 intro ak s Z H Q I hw;refine wpAny_isTrue_Compare1 (aP (h ak s Z H _ I hw) λv s1 h1=>aP h1 λu s2 h2=>aP h2 λc s3 hx=>dj hx λx H1 I1 r1 q1=>?_) h1;obtain⟨d,rfl,q⟩:=q1;cases r1;exact qX ⟨H1,I1,q⟩
theorem Wd{e:Expr}{t:TE}(h:PE X e t)(he:∀whole,isTrue e X.env whole=(do let v <-whole;standAt e.pos;holding [v] (truthy v)):=by intro _;rfl):PT X e (tB t):=by
 intro ak s Z H Q I hw;refine isTrue_plain (aP (h ak s Z H _ I hw) λv s1 hx=>dj hx λx H1 I1 r1 q1=>?_) (he _);obtain⟨d,rfl,q⟩:=q1;cases r1;exact qX ⟨H1,I1,q⟩
variable {tA Ej:TT}{rest:List Expr}
noncomputable def HX(t u:TT):TT:=λZ H Q=>t Z H λc H1=>if c=true then u Z H1 Q else Q false H1
noncomputable def Wf(t u:TT):TT:=λZ H Q=>t Z H λc H1=>if c=true then Q true H1 else u Z H1 Q
noncomputable def HY(t:TT):TT:=λZ H Q=>t Z H λc H1=>Q (!c) H1
theorem Wg(ha:PT X a tA):PW X (.BoolOp .And [a] pos) tA:=by
 intro wh ak s Z H Q I h;refine isTrue_and (aP (ha ak s Z H Q I h) λc s1 e=>?_);cases c with
 |true=>exact isTrue_and_nil e
 |false=>exact e
theorem Wh(ha:PT X a tA):PW X (.BoolOp .Or [a] pos) tA:=by
 intro wh ak s Z H Q I h;refine isTrue_or (aP (ha ak s Z H Q I h) λc s1 e=>?_);cases c with
 |false=>exact isTrue_or_nil e
 |true=>exact e
theorem Wi(ha:PT X a tA)(hb:PW X (.BoolOp .And (b::rest) pos) Ej):PW X (.BoolOp .And (a::b::rest) pos) (HX tA Ej):=by
 intro wh ak s Z H Q I h;refine isTrue_and (aP (ha ak s Z H _ I h) λc s1 hx=>rz hx λH1 I1 q1=>?_);cases c with
 |true=>exact hb wh ak s1 Z H1 Q I1 q1
 |false=>exact⟨H1,I1,q1⟩
theorem Wj(ha:PT X a tA)(hb:PW X (.BoolOp .Or (b::rest) pos) Ej):PW X (.BoolOp .Or (a::b::rest) pos) (Wf tA Ej):=by
 intro wh ak s Z H Q I h;refine isTrue_or (aP (ha ak s Z H _ I h) λc s1 hx=>rz hx λH1 I1 q1=>?_);cases c with
 |true=>exact⟨H1,I1,q1⟩
 |false=>exact hb wh ak s1 Z H1 Q I1 q1
theorem Wm(ha:PT X a tA):PT X (.UnaryOp .Not a pos) (HY tA):=by
 intro ak s Z H Q I h;exact isTrue_not (ha ak s Z H (λc H1=>Q (!c) H1) I h)
noncomputable def zB(ta tb:TE):TE:=λZ H Q=>ta Z H λx H1=>∃c,x=.bl c/\if c=true then tb Z H1 Q else Q (.bl false) H1
noncomputable def zE(ta:TE):TE:=λZ H Q=>ta Z H λx H1=>∃c,x=.bl c/\Q (.bl (!c)) H1
theorem Wn{op}{t:TE}(h:PE X a t):PE X (.BoolOp op [a] pos) t:=λak s Z H Q I hw=>BoolOp_one (h ak s Z H Q I hw)
theorem Wo(ha:PE X a ta)(hb:PE X (.BoolOp .And (b::rest) pos) tb):PE X (.BoolOp .And (a::b::rest) pos) (zB ta tb):=by
 intro ak s Z H Q I h;refine BoolOp_and (aP (ha ak s Z H _ I h) λv s1 hx=>dj hx λx H1 I1 r1 q1=>?_);obtain⟨c,rfl,q1⟩:=q1;cases r1;refine qX ?_;cases c with
 |true=>exact hb ak s1 Z H1 Q I1 q1
 |false=>exact⟨.bl false,H1,I1,rfl,q1⟩
theorem Wq(ha:PE X a ta):PE X (.UnaryOp .Not a pos) (zE ta):=by
 intro ak s Z H Q I h;refine UnaryOp_ (aP (ha ak s Z H _ I h) λv s1 hx=>dj hx λx H1 I1 r1 q1=>?_);obtain⟨c,rfl,q1⟩:=q1;cases r1;exact not_of (qX ⟨.bl (!c),H1,I1,rfl,q1⟩)
noncomputable def Wr(t:TT)(ta tb:TE):TE:=λZ H Q=>t Z H λc H1=>if c=true then ta Z H1 Q else tb Z H1 Q
theorem Ws{c:Expr}(hc:PT X c tA)(ha:PE X a ta)(hb:PE X b tb):PE X (.IfExp c a b pos) (Wr tA ta tb):=by
 intro ak s Z H Q I h;refine wpAny_IfExp (aP (hc ak s Z H _ I h) λd s1 hx=>rz hx λH1 I1 q1=>?_);cases d with
 |true=>exact ha ak s1 Z H1 Q I1 q1
 |false=>exact hb ak s1 Z H1 Q I1 q1
end
def dU(K:W.Frag)(H:Hp)(a:Addr)(xs:List V):Prop:=
 Rd H a (.lst xs) \/
  ∃(o:Obj) (its:Array Value) (n:Nat),K.lookup a=some o/\o.cls=.type "list"/\o.dict=none/\o.data=.seq its n/\its.size<=sizeLine/\Vals xs its.toList
def iR(K:W.Frag)(H:Hp)(a:Addr)(xs:List V):Prop:=
 Rd H a (.tup xs) \/
  ∃(o:Obj) (its:Array Value) (n:Nat),K.lookup a=some o/\o.cls=.type "tuple"/\o.dict=none/\o.data=.seq its n/\its.size<=sizeLine/\Vals xs its.toList
noncomputable def H_:Value->Option V
 |.none=>some .non
 |.bool b=>some (.bl b)
 |.int i _=>some (.int i)
 |.str x _=>some (.str x)
 |.bytes b _=>some (.zm b)
 |.float b _=>some (.flt b)
 |.ref a=>some (.ref a)
 |.type n=>some (.ty n)
 |_=>none
theorem RelV.abs{x:V}{u:Value}(r:RelV x u):H_ u=some x:=by
 cases x with
 |non=>cases r;rfl
 |bl _=>cases r;rfl
 |int _=>obtain⟨t,rfl⟩:=r;rfl
 |str _=>obtain⟨t,rfl⟩:=r;rfl
 |zm _=>obtain⟨t,rfl⟩:=r;rfl
 |flt _=>obtain⟨t,rfl⟩:=r;rfl
 |ref _=>cases r;rfl
 |ty _=>cases r;rfl
theorem RelV.inj{x y:V}{u:Value}(r:RelV x u)(q:RelV y u):x=y:=dh (r.abs.symm.trans q.abs)
theorem Vals.inj{xs ys:List V}{us:List Value}(h:Vals xs us)(h':Vals ys us):xs=ys:=by
 induction h generalizing ys with
 |nil=>cases h';rfl
 |cons r _ ih=>
  cases h' with
  |cons r' t'=>rw[r.inj r',ih t']
section
variable {X:Cx}{ak:List (Addr×Obj)}{Z:St}{H:Hp}{s:Shared}{a:Addr}{xs ys:List V}
theorem dU.of{K:W.Frag}(h:H a=some (.lst xs)):dU K H a xs:=.inl (.inl h)
theorem Inv.list(I:Inv X ak Z H s)(h:dU X.K H a xs):∃its:List Value,Vals xs its/\PlainL s.heap a its.toArray/\xs.length<=sizeLine:=by
 rcases h with h|⟨o,its,n,hk,hc,hd,hs,hz,r⟩
 ·obtain⟨z,its,n,r,e⟩:=h.ok I.hok;exact⟨its,r,⟨_,n,e,rfl,rfl,rfl⟩,z⟩
 ·refine⟨its.toList,r,⟨o,n,I.mY a o hk,hc,hd,by simpa using hs⟩,?_⟩;have e:=r.length;simp only[G8] at e
  lia
theorem Inv.tuple(I:Inv X ak Z H s)(h:iR X.K H a xs):∃its:List Value,Vals xs its/\IsTup s.heap a its.toArray/\xs.length<=sizeLine:=by
 rcases h with h|⟨o,its,n,hk,hc,_,hs,hz,r⟩
 ·obtain⟨z,its,r,p⟩:=h.ok I.hok;exact⟨its,r,p.tup,z⟩
 ·refine⟨its.toList,r,⟨o,I.mY a o hk,hc,n,by simpa using hs⟩,?_⟩;have e:=r.length;simp only[G8] at e
  lia
theorem Inv.Ia(I:Inv X ak Z H s)(h:iR X.K H a xs):∃o,s.heap.get? a=some o/\o.cls=.type "tuple"/\o.dict=none:=by
 rcases h with h|⟨o,its,n,hk,hc,hd,_⟩
 ·obtain⟨_,_,_,o,h1,h2,_,_,h3⟩:=h.ok I.hok;exact⟨o,h1,h2,h3⟩
 ·exact⟨o,I.mY a o hk,hc,hd⟩
theorem Inv.oK(I:Inv X ak Z H s)(h:dU X.K H a xs)(h':dU X.K H a ys):xs=ys:=by
 obtain⟨its,r,⟨o,n,e,_,_,d⟩,_⟩:=I.list h;obtain⟨its',r',⟨o',n',e',_,_,d'⟩,_⟩:=I.list h';rw[e] at e';cases e';rw[d] at d';injection d' with d1 _;have:its=its':=by simpa using n_ Array.toList d1
 subst this;exact r.inj r'
theorem Inv.mZ(I:Inv X ak Z H s)(h:iR X.K H a xs)(h':iR X.K H a ys):xs=ys:=by
 obtain⟨its,r,⟨o,e,_,n,d⟩,_⟩:=I.tuple h;obtain⟨its',r',⟨o',e',_,n',d'⟩,_⟩:=I.tuple h';rw[e] at e';cases e';rw[d] at d';injection d' with d1 _;have:its=its':=by simpa using n_ Array.toList d1
 subst this;exact r.inj r'
end
section
variable {X:Cx}{st:Stmt}{rest:List Stmt}{t u:TS}{e:Expr}{te:TE}{pos:Pos}
noncomputable def zF:TS:=λD Z H=>D.nx Z H
noncomputable def Ib(t u:TS):TS:=λD Z H=>t {D with nx:=u D} Z H
theorem Wt:kI X [] zF:=λ_ _ Z H _ I h=>DP ⟨Z,H,I,h⟩
theorem Wu(h1:PS X st t)(h2:kI X rest u):kI X (st::rest) (Ib t u):=by
 intro ak s Z H D I h;refine wpAny_execs_cons (aP (h1 ak s Z H {D with nx:=u D} I h) λf s1 q=>?_);cases f with
 |next=>
  obtain⟨Z',H',I',q⟩:=q;exact h2 ak s1 Z' H' D I' q
 |ret v=>exact q
 |brk=>exact q
 |cont=>exact q
theorem Inv.quiet{ak:List (Addr×Obj)}{Z:St}{H:Hp}{s:Shared}(I:Inv X ak Z H s):interactive X.env=false:=by simp[interactive,I.ok.kind]
noncomputable def zG(te:TE):TS:=λD Z H=>te Z H λ_ H1=>D.nx Z H1
theorem Wv(he:PE X e te)(hs:swapsWith e none pos.line X.env=pure false:=by rfl):PS X (.Expr e pos) (zG te):=by
 intro ak s Z H D I h;exact wpAny_Expr_any (aP (he ak s Z H _ I h) λv s1 hx=>dj hx λx H1 I1 r1 q1=>⟨Z,H1,I1,q1⟩) I.quiet hs
noncomputable def Ie(te:TE):TS:=λD Z H=>te Z H D.rt
theorem Ww(he:PE X e te):PS X (.Return (some e) pos) (Ie te):=by
 intro ak s Z H D I h;exact wpAny_Return_some (aP (he ak s Z H _ I h) λv s1 hx=>dj hx λx H1 I1 r1 q1=>⟨x,Z,H1,I1,r1,q1⟩)
noncomputable def Ig(c:TT)(t u:TS):TS:=λD Z H=>c Z H λb H1=>if b=true then t D Z H1 else u D Z H1
theorem Wx{c:Expr}{a b:List Stmt}{tc:TT}(hc:PT X c tc)(ha:kI X a t)(hb:kI X b u):PS X (.If c a b pos) (Ig tc t u):=by
 intro ak s Z H D I h;refine wpAny_If (aP (hc ak s Z H _ I h) λd s1 hx=>rz hx λH1 I1 q1=>?_);cases d with
 |true=>exact ha ak s1 Z H1 D I1 q1
 |false=>exact hb ak s1 Z H1 D I1 q1
end
noncomputable abbrev TG:=V->St->Hp->(St->Hp->Prop)->Prop
noncomputable abbrev vo:=List V->St->Hp->(St->Hp->Prop)->Prop
def PG(X:Cx)(target:Expr)(t:TG):Prop:=
 ∀(ak:List (Addr×Obj)) (s:Shared) (Z:St) (H:Hp) (v:V) (u:Value) (Q:St->Hp->Prop),Inv X ak Z H s->RelV v u->t v Z H Q->
  wpAny (model X.prog X.w) X.A (assign target X.env u) (λ_ s'=>∃Z' H',Inv X ak Z' H' s'/\Q Z' H') X.xe s
def Ek(X:Cx)(ts:List Expr)(t:vo):Prop:=
 ∀(ak:List (Addr×Obj)) (s:Shared) (Z:St) (H:Hp) (vs:List V) (us:List Value) (Q:St->Hp->Prop),Inv X ak Z H s->Vals vs us->t vs Z H Q->
  wpAny (model X.prog X.w) X.A (assignInOrder ((assignEach ts X.env).map (·.2)) us) (λ_ s'=>∃Z' H',Inv X ak Z' H' s'/\Q Z' H') X.xe s
noncomputable abbrev vp:=V->V->V->Hp->(Hp->Prop)->Prop
def zH(X:Cx)(t:vp):Prop:=
 ∀(ak:List (Addr×Obj)) (s:Shared) (Z:St) (H:Hp) (o i v:V) (ov iv u:Value) (Q:Hp->Prop),Inv X ak Z H s->RelV o ov->RelV i iv->RelV v u->t o i v H Q->
  wpAny (model X.prog X.w) X.A (setItem ov iv u) (λ_ s'=>∃H',Inv X ak Z H' s'/\Q H') X.xe s
section
variable {X:Cx}{pos:Pos}
noncomputable def cB(i:Nat):TG:=λv Z H Q=>Q (Z.set i (some v)) H
theorem vq{i:Nat}{x:Str}(hN:X.N.Nodup)(hi:X.N[i]?=some x)(hx:Loc X.env.scope x)(hf:X.fn x=true\/X.env.scope.names.lookup x=some .local:=by first|exact .inl rfl|exact .inr rfl|assumption):PG X (.Name x pos) (cB i):=by
 intro ak s Z H v u Q I r h;exact wpAny_assign_Name (HF I hN hi hx r (λs' I'=>⟨_,H,I',h⟩) hf)
noncomputable def oM:vo:=λvs Z H Q=>vs=[]/\Q Z H
noncomputable def dZ(t:TG)(u:vo):vo:=λvs Z H Q=>∃v r,vs=v::r/\t v Z H λZ' H'=>u r Z' H' Q
theorem O_:Ek X [] oM:=by
 intro ak s Z H vs us Q I r h;obtain⟨e,h⟩:=h;subst e;cases r;exact assignInOrder_nil ⟨Z,H,I,h⟩
theorem zJ{e:Expr}{es:List Expr}{t:TG}{u:vo}(h1:PG X e t)(h2:Ek X es u)
  (hs:(assignEach (e::es) X.env).map (·.2)=assign e X.env::(assignEach es X.env).map (·.2):=by rfl):Ek X (e::es) (dZ t u):=by
 intro ak s Z H vs us Q I r h;obtain⟨v,vr,e1,h⟩:=h;subst e1;cases r with
 |cons r rr=>
  rw[hs];refine assignInOrder_cons (aP (h1 ak s Z H _ _ _ I r h) λ_ s1 hz=>?_);obtain⟨Z1,H1,I1,q1⟩:=hz;exact h2 ak s1 Z1 H1 _ _ Q I1 rr q1
noncomputable def oN(K:W.Frag)(n:Nat)(t:vo):TG:=λv Z H Q=>∃a xs,v=.ref a/\iR K H a xs/\xs.length=n/\t xs Z H Q
theorem Pa{es:List Expr}{k:Nat}{t:vo}{n:Nat}(hc:X.aj=true)(h:Ek X es t)
  (hn:(assignEach es X.env).length=n:=by rfl) (qJ:(assignEach es X.env).findIdx? (·.1)=none:=by rfl):PG X (.Tuple es k pos) (oN X.K n t):=by
 intro ak s Z H v u Q I r hw;obtain⟨a,xs,e1,hq,hl,hw⟩:=hw;subst e1;cases r;obtain⟨its,rv,ht,hz⟩:=I.tuple hq;refine assign_Tuple_tuple (I.ok.hd hc) ht (by simp[hn,<-hl,rv.length]) qJ λh' hx=>?_;have I1:Inv X ak Z H {s with heap:=h'}:=I.kept (t':=s.toks) λb o e=>hx b o (i_ (cg e)) e;exact h ak _ Z H xs _ Q I1 (by simpa using rv) hw
noncomputable def Ih(to ti:TE)(t:vp):TG:=λv Z H Q=>to Z H λo H1=>ti Z H1 λi H2=>t o i v H2 λH3=>Q Z H3
theorem Wy{o i:Expr}{to ti:TE}{t:vp}(ho:PE X o to)(hi:PE X i ti)(hs:zH X t)
  (ha:∀v,assign (.Subscript o i pos) X.env v=(do
   let ov <-holding [v] (eval o X.env)
   let iv <-holding [v,ov] (eval i X.env)
   standAt pos
   holding [v,ov,iv] (setItem ov iv v)
   release [v,ov,iv] []):=by intro _;rfl):PG X (.Subscript o i pos) (Ih to ti t):=by
 intro ak s Z H v u Q I r h;rw[ha];refine aG (lO (aP (ho ak s Z H _ I h) λov s1 hx=>dj hx λx H1 I1 r1 q1=>?_));refine aG (lO (aP (hi ak s1 Z H1 _ I1 q1) λiv s2 hx=>dj hx λy H2 I2 r2 q2=>?_));refine aG (qG (aG (lO (aP (hs ak s2 Z H2 x y v ov iv u _ I2 r1 r2 r q2) λ_ s3 hx=>rz hx λH3 I3 q3=>?_))));exact wpAny_release ⟨Z,H3,I3,q3⟩
noncomputable def vA(te:TE)(g:TG):TS:=λD Z H=>te Z H λx H1=>g x Z H1 D.nx
theorem Ii{tg e:Expr}{te:TE}{g:TG}(he:PE X e te)(hg:PG X tg g)(hs:swapsWithSole [tg] e pos.line X.env=pure false:=by rfl)(hw:swappedStores [tg] e X.env=pure none:=by rfl)
  (h1:(assignEach [tg] X.env).map (·.2)=[assign tg X.env]:=by rfl):PS X (.Assign [tg] e pos) (vA te g):=by
 intro ak s Z H D I h;refine wpAny_Assign_stores (aP (he ak s Z H _ I h) λv s1 hx=>dj hx λx H1 I1 r1 q1=>?_) hs hw;rw[h1];exact aP (hg ak s1 Z H1 x v _ I1 r1 q1) λ_ s2 q=>q
theorem Wz{i:Nat}{x:Str}{e:Expr}{te:TE}{pos':Pos}(hN:X.N.Nodup)(hi:X.N[i]?=some x)(hx:Loc X.env.scope x)(he:PE X e te)(hs:swapsWith e (some (.Name x pos')) pos.line X.env=pure false:=by rfl)(hf:X.fn x=true\/X.env.scope.names.lookup x=some .local:=by first|exact .inl rfl|exact .inr rfl|assumption) :
  PS X (.Assign [.Name x pos'] e pos) (vA te (cB i)):=by
 intro ak s Z H D I h;refine wpAny_Assign_Name (aP (he ak s Z H _ I h) λv s1 hz=>?_) hs;obtain⟨y,H1,I1,r1,q1⟩:=hz;exact HF I1 hN hi hx r1 (λs2 I2=>⟨_,H1,I2,q1⟩) hf
end
structure It where
 go:Nat->Hp->Prop
 vB:Nat->Hp->V->Hp->Prop
 stop:Nat->Hp->Prop
def h_(X:Cx)(ak:List (Addr×Obj))(H:Hp)(b:Addr):Prop:=
 H b=none/\b≠X.env.locals/\b∉X.fs/\(b∈X.ex\/X.s₀.heap.objs.size<=b)/\(∀x c,X.env.cells.lookup x=some c->c≠b)/\∀p∈X.pn++ak,p.1≠b
theorem Inv.vC{X:Cx}{ak:List (Addr×Obj)}{Z:St}{H H':Hp}{s:Shared}{b:Addr}(I:Inv X ak Z H s)(hb:s.heap.objs.size<=b)(hn:H' b=none):h_ X ak H' b:=by
 refine⟨hn,Nat.ne_of_gt (gw I.lt hb),I.Hy hb,.inr (jd I.sz hb),λx c e z=>?_,λp hp z=>?_⟩
 ·obtain⟨v,q⟩:=I.cell x c e;exact absurd (gw q.lt (by rw[z];exact hb)) (mU _)
 ·exact absurd (gw (cg (I.pin p hp).1) (by rw[z];exact hb)) (mU _)
structure Turn(P:Program)(w:World)(K:W.Frag)(tg:Expr)(bG:It)(fp:List Addr)(it:Addr)(tn:Nat->Heap->Prop):Prop where
 mem:it∈fp
 obj:∀i h,tn i h->∀b∈fp,∃o,h.get? b=some o/\∀v,o.data≠.cell v
 keep:∀i h h',tn i h->(∀b∈fp,∀o,h.get? b=some o->h'.get? b=some o)->tn i h'
 item:∀(X:Cx),X.prog=P->X.w=w->X.K=K->X.aj=true->∀(i:Nat) (ak:List (Addr×Obj)) (s:Shared) (Z:St) (H:Hp) (E:Value->Shared->Prop),Inv X ak Z H s->(∀b∈fp,h_ X ak H b)->tn i s.heap->bG.go i H->
  wpAny (model P w) X.A (pyNext (.ref it)) (λr s1=>∃u,r=some u /\
   wpAny (model P w) X.A (letOwnedTupleGo tg (.ref it) u) (λ_ s2=>∃x H',Inv X ak Z H' s2/\RelV x u/\bG.vB i H x H'/\tn (i+1) s2.heap/\∀b∈fp,H' b=none) E s1) E s
 done:∀(X:Cx),X.prog=P->X.w=w->X.K=K->X.aj=true->∀(i:Nat) (ak:List (Addr×Obj)) (s:Shared) (Z:St) (H:Hp) (E:Value->Shared->Prop),Inv X ak Z H s->(∀b∈fp,h_ X ak H b)->tn i s.heap->bG.stop i H->
  wpAny (model P w) X.A (pyNext (.ref it)) (λr s1=>r=none/\Inv X ak Z H s1) E s
 self:∀(A:Around) (i:Nat) (s:Shared) (Q:Value->Shared->Prop) (E:Value->Shared->Prop),tn i s.heap->Q (.ref it) s->wpAny (model P w) A (pyIter (.ref it)) Q E s
noncomputable abbrev TI:=St->Hp->(It->Hp->Prop)->Prop
def PIE(X:Cx)(ak:List (Addr×Obj))(Z:St)(tg:Expr)(R:It->Hp->Prop)(itv:Value)(s2:Shared):Prop:=
 ∃(it:Addr) (fp:List Addr) (tn:Nat->Heap->Prop) (bG:It) (H':Hp),itv=.ref it/\Inv X ak Z H' s2/\Turn X.prog X.w X.K tg bG fp it tn/\tn 0 s2.heap/\(∀b∈fp,h_ X ak H' b)/\R bG H'
def PI(X:Cx)(tg iter:Expr)(wi:TI):Prop:=
 ∀(ak:List (Addr×Obj)) (s:Shared) (Z:St) (H:Hp) (R:It->Hp->Prop),Inv X ak Z H s->wi Z H R->
  wpAny (model X.prog X.w) X.A (eval iter X.env) (λv s1=>wpAny (model X.prog X.w) X.A (pyIter v) (PIE X ak Z tg R) X.xe s1) X.xe s
theorem Ij{M:Model}{A:Around}{E:Value->Shared->Prop}{s:Shared}{tg:Expr}{it:Addr}{u:Value}{o:Obj}{n:String}{vs:Array Value}{Q:Unit->Shared->Prop}(ho:s.heap.get? it=some o)(hc:o.cls=.type n)(hd:o.data=.fields vs)
  (hn:["enumerate","zip","dict_itemiterator","dict_reverseitemiterator","odict_iterator","itertools.zip_longest","itertools.pairwise"].contains n=false) (hQ:Q () s):wpAny M A (letOwnedTupleGo tg (.ref it) u) Q E s:=by
 unfold letOwnedTupleGo;cases tg<;>first
  |exact bC hQ
  | (cases u<;>first
    |exact bC hQ
    | (refine aG (wpAny_load ho ?_)
       rw[hc,hd];show wpAny M A (if (["enumerate","zip","dict_itemiterator","dict_reverseitemiterator","odict_iterator","itertools.zip_longest","itertools.pairwise"].contains n&&vs[0]?==some (rawInt _))=true then _ else _) Q E s;rw[if_neg (by intro h;rw[hn,Bool.false_and] at h;cases h)];exact bC hQ))
noncomputable def El(K:W.Frag)(a:Addr):It:=
 ⟨λi H=>∃xs x,dU K H a xs/\xs[i]?=some x,λi H x H'=>H'=H/\∀xs,dU K H a xs->xs[i]?=some x,λi H=>∃xs,dU K H a xs/\xs.length<=i⟩
noncomputable def Ik(K:W.Frag)(a:Addr):It:=
 ⟨λi H=>∃xs x,iR K H a xs/\xs[i]?=some x,λi H x H'=>H'=H/\∀xs,iR K H a xs->xs[i]?=some x,λi H=>∃xs,iR K H a xs/\xs.length<=i⟩
noncomputable def zK(lo:Int)(n:Nat):It:=⟨λi _=>i<n,λi H x H'=>H'=H/\x=.int (lo+i),λi _=>n<=i⟩
theorem WD{P:Program}{w:World}{K:W.Frag}{tg:Expr}(a it:Addr):Turn P w K tg (El K a) [it] it (λi h=>h.IsListIter it a i) where
 mem:=by simp
 obj:=λi h st b hb=>by
  have e:b=it:=by simpa using hb
  subst e;obtain⟨o,e,c,d⟩:=st;exact⟨o,e,λv z=>by rw[d] at z;cases z⟩
 keep:=λi h h' st k=>st.at λo e=>k it MP o e
 item:=by
  intro X hP hw hK hc i ak s Z H E I hf st hg;subst hP hw hK;obtain⟨xs,x,hq,hx⟩:=hg;obtain⟨its,rv,p,hz⟩:=I.list hq;obtain⟨u,hu,ru⟩:=rv.get hx;obtain⟨f0,f1,f2,f3,f4,f5⟩:=hf it MP;refine wpAny_pyNext_list_item st p.isList (x:=u) (by simpa using hu) λh' st' sb=>?_;have I1:Inv X ak Z H {s with heap:=h'}:=I.turned (t':=s.toks) (λb o hb e=>(sb.2 b hb).trans e) f0 f1 f3 f4 f5;obtain⟨o,e,c,d⟩:=id st';exact⟨u,rfl,Ij (s:={s with heap:=h'}) e c d J0 ⟨x,H,I1,ru,⟨rfl,λys hy=>by rw[I.oK hy hq];exact hx⟩,st',λb hb=>(hf b hb).1⟩⟩
 done:=by
  intro X hP hw hK hc i ak s Z H E I hf st hg;subst hP hw hK;obtain⟨xs,hq,hx⟩:=hg;obtain⟨its,rv,p,hz⟩:=I.list hq;obtain⟨f0,f1,f2,f3,f4,f5⟩:=hf it MP;have hl:=rv.length;exact wpAny_pyNext_list_end (I.ok.hd hc) st p.isList (by simp;lia) λh' eb=>⟨rfl,I.turned (t':=s.toks) (λb o hb e=>eb b o hb e) f0 f1 f3 f4 f5⟩
 self:=λ_ _ _ _ _ st h=>wpAny_pyIter_listiter st h
theorem WK{P:Program}{w:World}{K:W.Frag}{tg:Expr}(a it:Addr):Turn P w K tg (Ik K a) [it] it (λi h=>h.IsTupleIter it a i) where
 mem:=by simp
 obj:=λi h st b hb=>by
  have e:b=it:=by simpa using hb
  subst e;obtain⟨o,e,c,d⟩:=st;exact⟨o,e,λv z=>by rw[d] at z;cases z⟩
 keep:=λi h h' st k=>st.at λo e=>k it MP o e
 item:=by
  intro X hP hw hK hc i ak s Z H E I hf st hg;subst hP hw hK;obtain⟨xs,x,hq,hx⟩:=hg;obtain⟨its,rv,p,hz⟩:=I.tuple hq;obtain⟨u,hu,ru⟩:=rv.get hx;obtain⟨f0,f1,f2,f3,f4,f5⟩:=hf it MP;refine wpAny_pyNext_tuple_item st (show s.heap.IsTuple a its.toArray from p) (x:=u) (by simpa using hu) λh' st' sb=>?_;have I1:Inv X ak Z H {s with heap:=h'}:=I.turned (t':=s.toks) (λb o hb e=>(sb.2 b hb).trans e) f0 f1 f3 f4 f5;obtain⟨o,e,c,d⟩:=id st';exact⟨u,rfl,Ij (s:={s with heap:=h'}) e c d J0 ⟨x,H,I1,ru,⟨rfl,λys hy=>by rw[I.mZ hy hq];exact hx⟩,st',λb hb=>(hf b hb).1⟩⟩
 done:=by
  intro X hP hw hK hc i ak s Z H E I hf st hg;subst hP hw hK;obtain⟨xs,hq,hx⟩:=hg;obtain⟨its,rv,p,hz⟩:=I.tuple hq;obtain⟨f0,f1,f2,f3,f4,f5⟩:=hf it MP;have hl:=rv.length;exact wpAny_pyNext_tuple_end (I.ok.hd hc) st (show s.heap.IsTuple a its.toArray from p) (by simp;lia) λh' eb=>⟨rfl,I.turned (t':=s.toks) (λb o hb e=>eb b o hb e) f0 f1 f3 f4 f5⟩
 self:=λ_ _ _ _ _ st h=>wpAny_pyIter_tupleiter st h
theorem WL{P:Program}{w:World}{K:W.Frag}{tg:Expr}(it:Addr)(lo:Int)(n:Nat):Turn P w K tg (zK lo n) [it] it (λi h=>IsRangeIter h it (lo+(i:Nat)*1) ((n:Int)-(i:Nat)) 1) where
 mem:=by simp
 obj:=λi h st b hb=>by
  have e:b=it:=by simpa using hb
  subst e;exact⟨_,st,λv z=>by
   have z':Data.fields _=Data.cell v:=z;cases z'⟩
 keep:=λi h h' st k=>k it MP _ st
 item:=by
  intro X hP hw hK hc i ak s Z H E I hf st hg;subst hP hw hK;obtain⟨f0,f1,f2,f3,f4,f5⟩:=hf it MP;have W:=Walks.range (prog:=X.prog) (w:=X.w) (I.ok.hd hc) it lo 1 n;refine W.item i s _ _ hg st λv h' tk hv st' kk=>?_;obtain⟨t,rfl⟩:=hv;have I1:Inv X ak Z H {s with heap:=h',toks:=tk}:=I.turned (λb o hb e=>kk b o (by simpa using hb) e) f0 f1 f3 f4 f5;refine⟨_,rfl,Ij (s:={s with heap:=h',toks:=tk}) (n:="range_iterator") st' rfl rfl J0 ⟨.int (lo+i),H,I1,⟨t,?_⟩,⟨rfl,rfl⟩,st',λb hb=>(hf b hb).1⟩⟩;rw[Int.mul_one]
 done:=by
  intro X hP hw hK hc i ak s Z H E I hf st hg;subst hP hw hK;obtain⟨f0,f1,f2,f3,f4,f5⟩:=hf it MP;exact wpAny_pyNext_range_end (I.ok.hd hc) st (by have:n<=i:=hg;lia) λh' eb=>⟨rfl,I.turned (t':=s.toks) (λb o hb e=>eb b o hb e) f0 f1 f3 f4 f5⟩
 self:=λ_ _ _ _ _ st h=>wpAny_pyIter_rangeiter st h
section
variable {X:Cx}{tg:Expr}
theorem Pb{ak:List (Addr×Obj)}{Z:St}{H:Hp}{s:Shared}{R:It->Hp->Prop}{E:Value->Shared->Prop}{lo hi:Int}{t u v:Tok}{tk:Nat}(I:Inv X ak Z H s)(h1 : -(2^62)<=lo)(h2:lo<2^62)(h3 : -(2^62)<=hi)(h4:hi<2^62)
  (q:R (zK lo (hi-lo).toNat) H):wpAny (model X.prog X.w) X.A (pyIter (.ref s.heap.objs.size)) (PIE X ak Z tg R) E {s with heap:=s.heap.push {cls:=.type "range",data:=.fields #[.int lo t,.int hi u,.int 1 v]},toks:=tk}:=by
 refine wpAny_pyIter_range (IsRange.new ..) (small_one h1 h2 h3 h4) ?_;have I1:Inv X ak Z H {s with heap:=s.heap.push {cls:=.type "range",data:=.fields #[.int lo t,.int hi u,.int 1 v]},toks:=tk}:=I.kept λb o e=>cX _ e;refine⟨(s.heap.push {cls:=.type "range",data:=.fields #[.int lo t,.int hi u,.int 1 v]}).objs.size,[(s.heap.push {cls:=.type "range",data:=.fields #[.int lo t,.int hi u,.int 1 v]}).objs.size],_,_,H,rfl,
  I1.kept (t':=tk) λb o e=>cX _ e,WL _ lo (hi-lo).toNat,?_,λb hb=>?_,q⟩
 ·have e1:lo+((0:Nat):Int)*1=lo:=by simp
  have e2:(((hi-lo).toNat:Nat):Int)-((0:Nat):Int)=Builtin.Range.rangeSize lo hi 1:=by rw[rangeSize_one];split<;>lia
  show IsRangeIter _ _ (lo+((0:Nat):Int)*1) ((((hi-lo).toNat:Nat):Int)-((0:Nat):Int)) 1;rw[e1,e2];exact ji _ rfl
 ·have e:b=(s.heap.push {cls:=.type "range",data:=.fields #[.int lo t,.int hi u,.int 1 v]}).objs.size:=by simpa using hb
  subst e;exact I1.vC (bY _) (I1.hok.fresh (bY _))
noncomputable def zL(ta:TA):TI:=λZ H R=>ta Z H λvs H1=>∃j:Int,vs=[.int j]/\-(2^62)<=j/\j<2^62/\R (zK 0 j.toNat) H1
noncomputable def zM(ta:TA):TI:=λZ H R=>ta Z H λvs H1=>∃i j:Int,vs=[.int i,.int j]/\(-(2^62)<=i/\i<2^62/\-(2^62)<=j/\j<2^62)/\R (zK i (j-i).toNat) H1
theorem WM{a:Expr}{ta:TA}{p pos:Pos}(hg:Gl X "range")(hm:X.mg "range"=none)(ha:PA X [a] ta)(hs:starEach [a] X.env=[(false,eval a X.env)]:=by rfl):PI X tg (.Call (.Name "range" p) [a] [] pos) (zL ta):=by
 intro ak s Z H R I h;refine Call_ (zA I hg hm boot_range (GC (aP (ha pos ak s Z H _ I h) λus s1 hx=>dj hx λvs H1 I1 r1 q1=>?_) hs rfl));obtain⟨j,e,q1,q2,q⟩:=q1;subst e;cases r1 with
 |cons r rr=>
  cases rr;obtain⟨t,rfl⟩:=r;exact call_range_1 (Pb I1 gV gV q1 q2 (by simpa using q))
theorem WQ{a b:Expr}{ta:TA}{p pos:Pos}(hg:Gl X "range")(hm:X.mg "range"=none)(ha:PA X [a,b] ta)(hs:starEach [a,b] X.env=[(false,eval a X.env),(false,eval b X.env)]:=by rfl)(Pg:starEach [b] X.env=[(false,eval b X.env)]:=by rfl) :
  PI X tg (.Call (.Name "range" p) [a,b] [] pos) (zM ta):=by
 intro ak s Z H R I h;refine Call_ (zA I hg hm boot_range (GC (aP (ha pos ak s Z H _ I h) λus s1 hx=>dj hx λvs H1 I1 r1 q1=>?_) (by rw[hs,Pg]) (by rw[Pg];rfl)));obtain⟨i,j,e,⟨q1,q2,q3,q4⟩,q⟩:=q1;subst e;cases r1 with
 |cons r rr=>
  cases rr with
  |cons r' rr=>
   cases rr;obtain⟨t,rfl⟩:=r;obtain⟨t',rfl⟩:=r';exact call_range_2 (Pb I1 q1 q2 q3 q4 q)
noncomputable def Il(wi:TI)(g:TG)(tb:TS):TS:=λD Z H=>wi Z H λbG H1=>∃W:Nat->Nat->St->Hp->Prop,(∃m,W 0 m Z H1)/\∀i m Z H,W i m Z H->
 (bG.stop i H/\D.nx Z H)\/(bG.go i H/\∃N:St->Hp->Prop,(∀Z' H',N Z' H'->∃m',m'<m/\W (i+1) m' Z' H')/\∀x H',bG.vB i H x H'->g x Z H' λZ2 H2=>tb {D with nx:=N,ct:=N,bk:=D.nx} Z2 H2)
noncomputable def iu(fp:List Addr)(h:Heap):List (Addr×Obj):=fp.filterMap λb=>(h.get? b).map λo=>(b,o)
theorem Em{fp:List Addr}{h:Heap}{b:Addr}{o:Obj}(hb:b∈fp)(e:h.get? b=some o):(b,o)∈iu fp h:=G_.mpr ⟨b,hb,by rw[e];rfl⟩
theorem WT{fp:List Addr}{h:Heap}{p:Addr×Obj}(hp:p∈iu fp h):p.1∈fp/\h.get? p.1=some p.2:=by
 obtain⟨b,hb,e⟩:=G_.mp hp;cases q:h.get? b with
 |none=>rw[q] at e;cases e
 |some o=>
  rw[q] at e;have e':(b,o)=p:=dh e;subst e';exact⟨hb,q⟩
theorem Inv.pinned{ak:List (Addr×Obj)}{Z:St}{H:Hp}{s:Shared}{fp:List Addr}(I:Inv X ak Z H s)(hf:∀b∈fp,h_ X ak H b)(ho:∀b∈fp,∃o,s.heap.get? b=some o/\∀v,o.data≠.cell v):Inv X (ak++iu fp s.heap) Z H s:=
 I.jC λp hp=>(mR.mp hp).elim (λz=>I.pin p (qD _ z)) λz=>by
  obtain⟨hb,e⟩:=WT z;obtain⟨f0,f1,f2,_⟩:=hf p.1 hb;obtain⟨o,e',d⟩:=ho p.1 hb;rw[e] at e';cases e';exact⟨e,f0,f1,f2,d⟩
theorem Inv.eU{ak pl:List (Addr×Obj)}{Z:St}{H:Hp}{s:Shared}(I:Inv X (ak++pl) Z H s):Inv X ak Z H s:=I.jC λp hp=>I.pin p (qD _ (Dy _ hp))
theorem WW{iter:Expr}{body:List Stmt}{wi:TI}{g:TG}{tb:TS}{pos:Pos}(hp:PassesOwn (model X.prog X.w) X.A X.env X.xe)(hc:X.aj=true)(hi:PI X tg iter wi)(hg:PG X tg g)(hb:kI X body tb)
  (hs:∀x,foldedSetIterable iter X.env x=pure x:=by intro _;rfl):PS X (.For tg iter body [] pos) (Il wi g tb):=by
 intro ak s Z H D I h;refine wpAny_For (aP (hi ak s Z H _ I h) λv s1 h1=>aP h1 λitv s2 h2=>?_) hs;obtain⟨it,fp,tn,bG,H2,e,I2,T,st2,f2,W,⟨m0,w0⟩,turn⟩:=h2;subst e;have stat:∀{H':Hp},(∀b∈fp,H' b=none)->∀b∈fp,h_ X ak H' b:=λhn b hb=>⟨hn b hb,(f2 b hb).2⟩;refine codeAny_forLoop_any (λn s'=>∃i Z' H',Inv X ak Z' H' s'/\tn i s'.heap/\(∀b∈fp,H' b=none)/\W i n Z' H') ?_ m0 ⟨0,Z,H2,I2,st2,λb hb=>(f2 b hb).1,w0⟩;rintro n s3 ⟨i,Z3,H3,I3,st3,Pj,w3⟩;rcases turn i n Z3 H3 w3 with ⟨stop,qn⟩|⟨go,N,hN,step⟩
 ·refine yV hp (aP (T.done X rfl rfl rfl hc i ak s3 Z3 H3 X.xe I3 (stat Pj) st3 stop) λr s4 ⟨hr,I4⟩=>?_);subst hr;exact DP ⟨Z3,H3,I4,qn⟩
 ·refine yV hp (aP (T.item X rfl rfl rfl hc i ak s3 Z3 H3 X.xe I3 (stat Pj) st3 go) λr s4 hx=>rz hx λu hr h4=>?_);subst hr;refine yV hp (aP h4 λ_ s5 hz=>?_);obtain⟨x,H5,I5,r5,y5,xW,En⟩:=hz;have WX:=I5.pinned (stat En) (T.obj _ _ xW);refine yV hp (aP (hg _ s5 Z3 H5 x u _ WX r5 (step x H5 y5)) λ_ s6 hz=>?_);obtain⟨Z6,H6,I6,q6⟩:=hz;refine yV hp (aP (hb _ s6 Z6 H6 _ I6 q6) λf s7 q7=>?_);have again:∀{Z7:St} {H7:Hp},Inv X (ak++iu fp s5.heap) Z7 H7 s7->N Z7 H7->∃m,m<n/\∃i Z' H',Inv X ak Z' H' s7/\tn i s7.heap/\(∀b∈fp,H' b=none)/\W i m Z' H':=λ{Z7 H7} I7 n7=>by
   obtain⟨m',hm,w7⟩:=hN Z7 H7 n7;refine⟨m',hm,i+1,Z7,H7,I7.eU,T.keep _ _ _ xW λb hb o e=>(I7.pin (b,o) (qD _ (qD _ (Em hb e)))).1,λb hb=>?_,w7⟩;obtain⟨o,e,d⟩:=T.obj _ _ xW b hb;exact(I7.pin (b,o) (qD _ (qD _ (Em hb e)))).2.1
  cases f with
  |next=>obtain⟨Z7,H7,I7,n7⟩:=q7;exact again I7 n7
  |cont=>obtain⟨Z7,H7,I7,n7⟩:=q7;exact again I7 n7
  |brk=>obtain⟨Z7,H7,I7,q7⟩:=q7;exact⟨Z7,H7,I7.eU,q7⟩
  |ret v=>obtain⟨x7,Z7,H7,I7,r7,q7⟩:=q7;exact⟨x7,Z7,H7,I7.eU,r7,q7⟩
end
noncomputable abbrev R2:=V->V->Hp->VK->Prop
def cR(X:Cx)(f:Value->Value->Sem Value)(r:R2):Prop:=
 ∀(ak:List (Addr×Obj)) (s:Shared) (Z:St) (H:Hp) (x y:V) (v u:Value) (Q:VK),Inv X ak Z H s->RelV x v->RelV y u->r x y H Q->
  wpAny (model X.prog X.w) X.A (f v u) (EP X ak Z Q) X.xe s
def Ep(X:Cx)(f:Value->Sem Value)(r:V->Hp->VK->Prop):Prop:=
 ∀(ak:List (Addr×Obj)) (s:Shared) (Z:St) (H:Hp) (x:V) (v:Value) (Q:VK),Inv X ak Z H s->RelV x v->r x H Q->
  wpAny (model X.prog X.w) X.A (f v) (EP X ak Z Q) X.xe s
def cO(X:Cx)(f:Value)(r:List V->Hp->VK->Prop):Prop:=
 ∀(ak:List (Addr×Obj)) (s:Shared) (Z:St) (H:Hp) (xs:List V) (us:List Value) (Q:VK),Inv X ak Z H s->Vals xs us->r xs H Q->
  wpAny (model X.prog X.w) X.A (call f us) (EP X ak Z Q) X.xe s
noncomputable def Er(r:R2)(ta tb:TE):TE:=λZ H Q=>ta Z H λx H1=>tb Z H1 λy H2=>r x y H2 Q
noncomputable def WY(r:V->Hp->VK->Prop)(ta:TE):TE:=λZ H Q=>ta Z H λx H1=>r x H1 Q
noncomputable def rI(C:Int->Int->Prop)(g:Int->Int->V):R2:=λx y H Q=>∃i j,x=.int i/\y=.int j/\C i j/\Q (g i j) H
noncomputable def kJ(g:Int->Int->V):R2:=λx y H Q=>∃i j,x=.int i/\y=.int j/\Q (g i j) H
noncomputable def rU(g:Int->V):V->Hp->VK->Prop:=λx H Q=>∃i,x=.int i/\Q (g i) H
section
variable {X:Cx}{a b c:Expr}{ta tb tc:TE}{pos:Pos}
theorem vD(ha:PE X a ta)(hb:PE X b tb){ak:List (Addr×Obj)}{s:Shared}{Z:St}{H:Hp}{R:V->V->Hp->Prop}(I:Inv X ak Z H s)
  (h:ta Z H λx H1=>tb Z H1 λy H2=>R x y H2) {Q:Value->Shared->Prop} {f:Value->Value->Sem Value}
  (hf:∀v u s2 x y H2,Inv X ak Z H2 s2->RelV x v->RelV y u->R x y H2->wpAny (model X.prog X.w) X.A (f v u) Q X.xe s2) :
  wpAny (model X.prog X.w) X.A (eval a X.env) (λv s₁=>wpAny (model X.prog X.w) X.A (eval b X.env) (λu s₂=>wpAny (model X.prog X.w) X.A (f v u) Q X.xe s₂) X.xe s₁) X.xe s:=by
 refine aP (ha ak s Z H _ I h) λv s1 hx=>dj hx λx H1 I1 r1 q1=>?_;refine aP (hb ak s1 Z H1 _ I1 q1) λu s2 hx=>dj hx λy H2 I2 r2 q2=>?_;exact hf v u s2 x y H2 I2 r1 r2 q2
theorem W0{op:Operator}{r:R2}(ho:cR X (binaryOp op) r)(ha:PE X a ta)(hb:PE X b tb):PE X (.BinOp a op b pos) (Er r ta tb):=by
 intro ak s Z H Q I h;exact wpAny_BinOp (vD ha hb I h λv u s2 x y H2 I2 rx ry q=>ho ak s2 Z H2 x y v u Q I2 rx ry q)
theorem Pk{op:UnaryOp}{r:V->Hp->VK->Prop}(ho:Ep X (unaryOp op) r)(ha:PE X a ta):PE X (.UnaryOp op a pos) (WY r ta):=by
 intro ak s Z H Q I h;exact UnaryOp_ (aP (ha ak s Z H _ I h) λv s1 hx=>dj hx λx H1 I1 r1 q1=>ho ak s1 Z H1 x v Q I1 r1 q1)
theorem Et{f:Value->Value->Sem Value}{C:Int->Int->Prop}{g:Int->Int->Int}
  (rule:∀(i j:Int) (t u:Tok) (s:Shared) (Q:Value->Shared->Prop) (E:Value->Shared->Prop),C i j->Q (.int (g i j) s.toks) {s with toks:=s.toks+1}->wpAny (model X.prog X.w) X.A (f (.int i t) (.int j u)) Q E s) :
  cR X f (rI C λi j=>.int (g i j)):=by
 intro ak s Z H x y v u Q I rx ry h;obtain⟨i,j,rfl,rfl,hc,q⟩:=h;obtain⟨t,rfl⟩:=rx;obtain⟨t',rfl⟩:=ry;exact rule i j t t' s _ _ hc ⟨.int (g i j),H,I.tok _,⟨_,rfl⟩,q⟩
theorem zN{f:Value->Value->Sem Value}{g:Int->Int->Int}
  (rule:∀(i j:Int) (t u:Tok) (s:Shared) (Q:Value->Shared->Prop) (E:Value->Shared->Prop),Q (.int (g i j) s.toks) {s with toks:=s.toks+1}->wpAny (model X.prog X.w) X.A (f (.int i t) (.int j u)) Q E s) :
  cR X f (kJ λi j=>.int (g i j)):=by
 intro ak s Z H x y v u Q I rx ry h;obtain⟨i,j,rfl,rfl,q⟩:=h;obtain⟨t,rfl⟩:=rx;obtain⟨t',rfl⟩:=ry;exact rule i j t t' s _ _ ⟨.int (g i j),H,I.tok _,⟨_,rfl⟩,q⟩
theorem rE{f:Value->Value->Sem Value}{g:Int->Int->Bool}
  (rule:∀(i j:Int) (t u:Tok) (s:Shared) (Q:Value->Shared->Prop) (E:Value->Shared->Prop),Q (.bool (g i j)) s->wpAny (model X.prog X.w) X.A (f (.int i t) (.int j u)) Q E s) :
  cR X f (kJ λi j=>.bl (g i j)):=by
 intro ak s Z H x y v u Q I rx ry h;obtain⟨i,j,rfl,rfl,q⟩:=h;obtain⟨t,rfl⟩:=rx;obtain⟨t',rfl⟩:=ry;exact rule i j t t' s _ _ ⟨.bl (g i j),H,I,rfl,q⟩
def rF(i j:Int):Prop:=0<j/\j<1073741824
def zO(i j:Int):Prop:=0<=j/\j<=1000000/\i.natAbs<2^64
def rG(i j:Int):Prop:=(-(2^64)<i/\i<2^64)\/(-(2^64)<j/\j<2^64)
theorem rG.ok{i j:Int}(h:rG i j):IntMulOk i j:=by
 rcases h with ⟨h1,h2⟩|⟨h1,h2⟩
 ·exact .of_left (intBits_le_64 h1 h2)
 ·exact .of_right (intBits_le_64 h1 h2)
theorem vG:cR X (binaryOp .Add) (kJ λi j=>.int (i+j)):=zN λ_ _ _ _ _ _ _ q=>add_int q
theorem W2:cR X (binaryOp .Sub) (kJ λi j=>.int (i-j)):=zN λ_ _ _ _ _ _ _ q=>sub_int q
theorem W3:cR X (binaryOp .Mult) (rI rG λi j=>.int (i*j)):=Et λ_ _ _ _ _ _ _ hc q=>mul_int q hc.ok
theorem W4:cR X (binaryOp .FloorDiv) (rI rF λi j=>.int (i/j)):=Et λi j _ _ _ _ _ hc q=>by
 have h1:(0:Int)<j:=hc.1;have h2:j<1073741824:=hc.2;exact floordiv_int gV (by rw[Int.fdiv_eq_ediv_of_nonneg i gV];exact q) (.inl (PyProof.noPylong_small gV))
theorem W5:cR X (binaryOp .Mod) (rI (λ_ j=>0<j) λi j=>.int (i%j)):=Et λi j _ _ _ _ _ hc q=>by
 have h1:(0:Int)<j:=hc;exact mod_int' gV (by rw[Int.fmod_eq_emod_of_nonneg i gV];exact q)
theorem W6:cR X (binaryOp .Pow) (rI zO λi j=>.int (i^j.toNat)):=Et λ_ _ _ _ _ _ _ hc q=>pow_int_small hc.1 hc.2.1 hc.2.2 q
theorem W7{f:Value->Sem Value}{g:Int->Int}
  (rule:∀(i:Int) (t:Tok) (s:Shared) (Q:Value->Shared->Prop) (E:Value->Shared->Prop),Q (.int (g i) s.toks) {s with toks:=s.toks+1}->wpAny (model X.prog X.w) X.A (f (.int i t)) Q E s) :
  Ep X f (rU λi=>.int (g i)):=by
 intro ak s Z H x v Q I rx h;obtain⟨i,rfl,q⟩:=h;obtain⟨t,rfl⟩:=rx;exact rule i t s _ _ ⟨.int (g i),H,I.tok _,⟨_,rfl⟩,q⟩
theorem Pn:Ep X (unaryOp .USub) (rU λi=>.int (-i)):=W7 λ_ _ _ _ _ q=>neg_int q
end
section
variable {X:Cx}{a b c:Expr}{ta tb tc:TE}{pos:Pos}
theorem zP:cR X (compareOp .Lt) (kJ λi j=>.bl (decide (i<j))):=rE λ_ _ _ _ _ _ _ q=>lt_int q
theorem W8:cR X (compareOp .LtE) (kJ λi j=>.bl (decide (i<=j))):=rE λ_ _ _ _ _ _ _ q=>le_int q
theorem W9:cR X (compareOp .Gt) (kJ λi j=>.bl (decide (j<i))):=rE λ_ _ _ _ _ _ _ q=>gt_int q
theorem W_:cR X (compareOp .GtE) (kJ λi j=>.bl (decide (j<=i))):=rE λ_ _ _ _ _ _ _ q=>ge_int q
theorem cR.or{f:Value->Value->Sem Value}{r r':R2}(h:cR X f r)(h':cR X f r'):cR X f (λx y H Q=>r x y H Q\/r' x y H Q):=by
 intro ak s Z H x y v u Q I rx ry q;rcases q with q|q
 ·exact h ak s Z H x y v u Q I rx ry q
 ·exact h' ak s Z H x y v u Q I rx ry q
theorem Xa{op:CmpOp}{r:R2}(ho:cR X (compareOp op) r)(ha:PE X a ta)(hb:PE X b tb)(hm:behindInMarks op b=false):PE X (.Compare a [op] [b] pos) (Er r ta tb):=by
 intro ak s Z H Q I h;exact wpAny_Compare1 (vD ha hb I h λv u s2 x y H2 I2 rx ry q=>ho ak s2 Z H2 x y v u Q I2 rx ry q) hm
noncomputable def zQ(t:TE):TT:=λZ H Q=>t Z H λx H'=>∃k,x=.bl k/\Q k H'
theorem Xb{op:CmpOp}{r:R2}(ho:cR X (compareOp op) r)(ha:PE X a ta)(hb:PE X b tb)(hm:behindInMarks op b=false):PT X (.Compare a [op] [b] pos) (zQ (Er r ta tb)):=by
 intro ak s Z H Q I h;refine wpAny_isTrue_Compare1 (aP (ha ak s Z H _ I h) λv s1 hx=>dj hx λx H1 I1 r1 q1=>aP (hb ak s1 Z H1 _ I1 q1) λu s2 hx=>dj hx λy H2 I2 r2 q2=>
  aP (ho ak s2 Z H2 x y v u _ I2 r1 r2 q2) λc s3 hx=>zj hx λz H3 I3 r3 k e q3=>?_) hm
 subst e;cases r3;exact qX ⟨H3,I3,q3⟩
noncomputable def vH(r r':R2)(ta tb tc:TE):TE:=λZ H Q=>ta Z H λx H1=>tb Z H1 λy H2=>r x y H2 λz H3=>∃k,z=.bl k /\
 (if k=true then tc Z H3 λw' H4=>r' y w' H4 Q else Q (.bl false) H3)
theorem Xc{op op':CmpOp}{r r':R2}(ho:cR X (compareOp op) r)(oG:cR X (compareOp op') r')(ha:PE X a ta)(hb:PE X b tb)(hc:PE X c tc)
  (hm:lastMarks [op,op'] [b,c]=false:=by with_unfolding_all rfl):PE X (.Compare a [op,op'] [b,c] pos) (vH r r' ta tb tc):=by
 intro ak s Z H Q I h;refine Compare_chain (aP (ha ak s Z H _ I h) λv s1 hx=>dj hx λx H1 I1 r1 q1=>chain_link (aP (hb ak s1 Z H1 _ I1 q1) λu s2 hx=>dj hx λy H2 I2 r2 q2=>
  aP (ho ak s2 Z H2 x y v u _ I2 r1 r2 q2) λd s3 hx=>zj hx λz H3 I3 r3 k e q3=>?_)) hm
 subst e;cases r3;refine qX ?_;cases k with
 |false=>exact ite_ff ⟨.bl false,H3,I3,rfl,q3⟩
 |true=>exact ite_tt (chain_last (aP (hc ak s3 Z H3 _ I3 q3) λw' s4 hx=>dj hx λz' H4 I4 r4 q4=>oG ak s4 Z H4 y z' u w' Q I4 r2 r4 q4))
theorem fK:(sizeLine:Nat)<2^63:=by rw[xR];decide
theorem Xd:cR X (binaryOp .Add) (λx y H Q=>∃i j,x=.str i/\y=.str j/\i.length+j.length<=sizeLine/\Q (.str (i++j)) H):=by
 intro ak s Z H x y v u Q I rx ry h;obtain⟨i,j,rfl,rfl,hz,q⟩:=h;obtain⟨t,rfl⟩:=rx;obtain⟨t',rfl⟩:=ry;exact add_str (λt' tk=>⟨.str (i++j),H,I.tok _,⟨_,rfl⟩,q⟩) hz
theorem vals1{x:V}{us:List Value}(r:Vals [x] us):∃u,us=[u]/\RelV x u:=by
 cases r with
 |cons r1 r2=>cases r2;exact⟨_,rfl,r1⟩
theorem vals2{x y:V}{us:List Value}(r:Vals [x,y] us):∃u w',us=[u,w']/\RelV x u/\RelV y w':=by
 cases r with
 |cons r1 r2=>
  cases r2 with
  |cons r3 r4=>cases r4;exact⟨_,_,rfl,r1,r3⟩
theorem Xe(hc:X.aj=true):cO X (.builtin "max") (λxs H Q=>∃i j,xs=[.int i,.int j]/\Q (.int (if j>i then j else i)) H):=by
 intro ak s Z H xs us Q I r h;obtain⟨i,j,rfl,q⟩:=h;obtain⟨u,w',rfl,⟨t,rfl⟩,⟨t',rfl⟩⟩:=vals2 r;refine max_two_ints (I.ok.hd hc) λh' tk k=>⟨_,H,I.kept k,?_,q⟩;by_cases hj:j>i
 ·rw[if_pos hj,if_pos hj];exact⟨_,rfl⟩
 ·rw[if_neg hj,if_neg hj];exact⟨_,rfl⟩
theorem Xf:cO X (.type "int") (λxs H Q=>(∃i,xs=[.int i]/\Q (.int i) H)\/∃k,xs=[.bl k]/\Q (.int (if k then 1 else 0)) H):=by
 intro ak s Z H xs us Q I r h;rcases h with ⟨i,rfl,q⟩|⟨k,rfl,q⟩
 ·obtain⟨u,rfl,t,rfl⟩:=vals1 r;exact call_int_int ⟨.int i,H,I,⟨_,rfl⟩,q⟩
 ·obtain⟨u,rfl,r1⟩:=vals1 r;cases r1;exact call_int_bool ⟨.int (if k then 1 else 0),H,I.tok _,⟨_,rfl⟩,q⟩
theorem Xg:cO X (.builtin "divmod") (λxs H Q=>∃i j,xs=[.int i,.int j]/\rF i j/\∀p,H p=none->Q (.ref p) (upd H p (.tup [.int (i/j),.int (i%j)]))):=by
 intro ak s Z H xs us Q I r h;obtain⟨i,j,rfl,⟨h1,h2⟩,q⟩:=h;obtain⟨u,w',rfl,⟨t,rfl⟩,⟨t',rfl⟩⟩:=vals2 r;refine divmod_int gV ?_ (.inl (PyProof.noPylong_small gV));rw[Int.fdiv_eq_ediv_of_nonneg i gV,Int.fmod_eq_emod_of_nonneg i gV];have hn:H s.heap.objs.size=none:=I.hok.fresh (bY _);refine⟨.ref s.heap.objs.size,_,?_,rfl,q _ hn⟩;refine I.laid (λb o e=>cX _ e) (bY _) ⟨by simp only[gJ,tV];rw[xR];decide,[.int (i/j) s.toks,.int (i%j) (s.toks+1)],.cons ⟨_,rfl⟩ (.cons ⟨_,rfl⟩ .nil),?_⟩;exact⟨_,ji s.heap rfl,rfl,0,rfl,rfl⟩
end
section
variable {X:Cx}{ak:List (Addr×Obj)}{Z:St}{H:Hp}{s:Shared}{a C dx:Addr}{fs:List (Str×V)}{f:Str}{v:V}{A:Around}{E:Value->Shared->Prop}
theorem Xh{prog:Program}{w:World}{env:Env}{e:Expr}{f:Str}{pos:Pos}{s:Shared}{Q:Value->Shared->Prop}(hb:attributeBase e f env (eval e env)=eval e env)
  (h:wpAny (model prog w) A (eval e env) (λo s₁=>wpAny (model prog w) A (getAttr o f true) Q E s₁) E s):wpAny (model prog w) A (eval (.Attribute e f pos) env) Q E s:=
 Attribute_any_ h (by rw[arm_eval_Attribute,hb])
end
structure bI(k:Nat)(A:Around):Prop where
 dp:A.depth+3*k+5<recursionLimit
 un:A.units+16*k+200<cLine
 gd:A.guards=some []
theorem bI.deeper{k:Nat}{A:Around}(r:bI (k+1) A)(env:Env):bI k (A.deeper env):=
 ⟨by have:=r.dp;show A.depth+1+3*k+5<_;lia,by have:=r.un;show A.units+3+16*k+200<_;lia,r.gd⟩
theorem bI.depth{k:Nat}{A:Around}(r:bI k A):A.depth<recursionLimit:=by have:=r.dp;lia
noncomputable def Im:TA:=λ_ H Q=>Q [] H
noncomputable def zR(ta:TE)(tr:TA):TA:=λZ H Q=>ta Z H λx H1=>tr Z H1 λxs H2=>Q (x::xs) H2
section
variable {X:Cx}{e:Expr}{es:List Expr}{te:TE}{t:TA}{pos:Pos}
theorem Eu:PA X [] Im:=λ_ _ _ _ H Q I h=>Calls.spliced_nil ⟨[],H,I,.nil,h⟩
theorem xX(ha:PE X e te)(hr:PA X es t)(hs:starEach (e::es) X.env=(false,eval e X.env)::starEach es X.env:=by rfl):PA X (e::es) (zR te t):=by
 intro pos ak s Z H Q I h;rw[hs];show wpAny _ _ (spliced ((false,eval e X.env)::backTo pos (starEach es X.env))) _ _ s;refine Calls.spliced_cons (aP (ha ak s Z H _ I h) λu s1 hx=>dj hx λx H1 I1 r1 q1=>?_);exact aP (hr pos ak s1 Z H1 _ I1 q1) λus s2 hx=>dj hx λxs H2 I2 r2 q2=>⟨x::xs,H2,I2,.cons r1 r2,q2⟩
noncomputable def Io(t:TA):TE:=λZ H Q=>t Z H λxs H1=>xs.length<=sizeLine/\∀p,H1 p=none->Q (.ref p) (upd H1 p (.tup xs))
noncomputable def Ip(t:TA):TE:=λZ H Q=>t Z H λxs H1=>xs.length<=sizeLine/\∀p,H1 p=none->Q (.ref p) (upd H1 p (.lst xs))
theorem Xi{x1}(h:PA X es t):PE X (.Tuple es x1 pos) (Io t):=by
 intro ak s Z H Q I hq;refine wpAny_Tuple_spliced (aP (h pos ak s Z H _ I hq) λus s1 ⟨xs,H1,I1,r,z,q⟩=>⟨by rw[<-r.length];exact z,?_⟩);have hf:H1 s1.heap.objs.size=none:=I1.hok.fresh (bY _);refine⟨.ref s1.heap.objs.size,upd H1 s1.heap.objs.size (.tup xs),I1.laid (t':=s1.toks) (λb u e=>cX _ e) (bY _) ?_,rfl,q _ hf⟩;exact⟨z,us,r,⟨_,ji _ rfl,rfl,_,rfl,rfl⟩⟩
theorem Xj(h:PA X es t):PE X (.List es pos) (Ip t):=by
 intro ak s Z H Q I hq;refine wpAny_List_spliced (aP (h pos ak s Z H _ I hq) λus s1 ⟨xs,H1,I1,r,z,q⟩=>⟨by rw[<-r.length];exact z,?_⟩);have hf:H1 s1.heap.objs.size=none:=I1.hok.fresh (bY _);refine⟨.ref s1.heap.objs.size,upd H1 s1.heap.objs.size (.lst xs),I1.laid (t':=s1.toks) (λb u e=>cX _ e) (bY _) ?_,rfl,q _ hf⟩;exact⟨z,us,0,r,ji _ rfl⟩
end
noncomputable abbrev Sp:=List V->Hp->VK->XK->Prop
noncomputable abbrev nM:=List Env->Hp->Shared->XK->Value->Shared->Prop
structure rH(P:Program)(w:World)(K:W.Frag)(mg:Str->Option Value)(base:Heap)(A:Around)(outer:List Env)(s:Shared)(H:Hp):Prop where
 frames:A.frames=some outer
 mod:Mod K mg base
 bs:∀b o,base.get? b=some o->s.heap.get? b=some o/\H b=none
 t_:base.objs.size<=s.heap.objs.size
 g_:s.heap.FunFrames base outer
 xV:∀b∈frs outer,H b=none
 hok:eN P w H s.heap
 bare:AllBare s.gens
def CE(outer:List Env)(P:Program)(w:World)(H:Hp)(s:Shared)(Q:VK)(u:Value)(s':Shared):Prop:=
 ∃v H',s'.os=s.os/\AllBare s'.gens/\Un (frs outer) [] H H' s.heap s'.heap/\eN P w H' s'.heap/\RelV v u/\Q v H'
def CR(CX:nM)(outer:List Env)(P:Program)(w:World)(H:Hp)(s:Shared)(Q:VK)(E:XK)(r:Result)(s':Shared):Prop:=
 match r with
 |.ok (.ret u)=>CE outer P w H s Q u s'
 |.ok _=>False
 |.error e=>CX outer H s E e s'
structure dw(P:Program)(w:World)(K:W.Frag)(mg:Str->Option Value)(base:Heap)(CX:nM)(cm:Bool)(k:Nat)(f:Addr)(fd:FuncData)(ps:List Str)(sp:Sp):Prop where
 len:∀vs H Q E,sp vs H Q E->vs.length=ps.length
 run:∀(A:Around) (outer:List Env) (s:Shared) (H:Hp) (args:Args) (us:List Value) (vs:List V) (Q:VK) (E:XK),(cm=true->A.handled=none)->bI k A->rH P w K mg base A outer s H->BindsTo s fd args (ps.zip us)->Vals vs us->sp vs H Q E->
  codeAny (model P w) A (.call (.ref f) args) (CR CX outer P w H s Q E) s
theorem dw.imp{P:Program}{w:World}{K:W.Frag}{mg:Str->Option Value}{base:Heap}{CX:nM}{cm:Bool}{k:Nat}{f:Addr}{fd:FuncData}{ps:List Str}{sp Pq:Sp}(F:dw P w K mg base CX cm k f fd ps sp)
  (h:∀vs H Q E,Pq vs H Q E->sp vs H Q E):dw P w K mg base CX cm k f fd ps Pq:=
 ⟨λvs H Q E q=>F.len vs H Q E (h _ _ _ _ q),λA outer s H args us vs Q E m5 hr he hb hv hs=>F.run A outer s H args us vs Q E m5 hr he hb hv (h _ _ _ _ hs)⟩
section
variable {X:Cx}{ak:List (Addr×Obj)}{Z:St}{H:Hp}{s s':Shared}
theorem Inv.env0(I:Inv X ak Z H s):rH X.prog X.w X.K X.mg X.base X.A X.stack s H:=
 ⟨I.ok.frames,I.ok.mod,I.bs,jd I.ok.t_ I.sz,I.stack,I.gM,I.hok,I.bare⟩
theorem Inv.after{Q:VK}{u:Value}(I:Inv X ak Z H s)(h:CE X.stack X.prog X.w H s Q u s'):EP X ak Z Q u s':=by
 obtain⟨v,H',os,bare,un,hok,r,q⟩:=h;obtain⟨hh,g,d,t,os'⟩:=s';obtain rfl:os'=s.os:=os;exact⟨v,H',I.call (h':=hh) (g':=g) (d':=d) (t':=t) (ch:=[]) un hok bare (λb z=>absurd z MP),r,q⟩
end
def Binds(K:W.Frag)(fd:FuncData)(ps:List Str)(ds:List Value):Prop:=
 ∀(s:Shared) (us:List Value),K.In s.heap->(us++ds).length=ps.length->BindsTo s fd ⟨us,[]⟩ (ps.zip (us++ds))
theorem Binds.all{K:W.Frag}{fd:FuncData}{ps:List Str}(h:∀us:List Value,us.length=ps.length->bindArgs fd ⟨us,[]⟩=pure (ps.zip us)):Binds K fd ps []:=λs us _ hl=>by
 rw[uU] at hl ⊢;exact .of_eq (h us hl)
structure dR(N P:List Str)(sc:Scope):Prop where
 kind:sc.kind=.function
 co:sc.isCoroutine=false
 gen:sc.isGenerator=false
 nd:N.Nodup
 pre:N.take P.length=P
 par:∀x∈P,sc.names.lookup x=some .local\/sc.names.lookup x=some .cell
 vI:∀y∈sc.names,y.2≠.free
theorem Pu{kindOf:Str->Option NameKind}{x:Str}:∀{binds:List (Str×Value)} {m:Str->Option Value},(∀v,(x,v)∉binds)->bindL kindOf binds m x=m x
 |[],_,_=>rfl
 |(n,v)::r,m,h=>by
  unfold bindL;rw[Pu λw hw=>h w (fV _ hw)]
  split
  ·have:x≠n:=by rintro rfl;exact h v ju
   simp[this]
  ·rfl
theorem Px{kindOf:Str->Option NameKind}{x:Str}:∀{binds:List (Str×Value)} {m:Str->Option Value},(∀v,(x,v)∉binds)->bindC kindOf binds m x=m x
 |[],_,_=>rfl
 |(n,v)::r,m,h=>by
  unfold bindC;rw[Px λw hw=>h w (fV _ hw)]
  split
  ·rfl
  ·have:x≠n:=by rintro rfl;exact h v ju
   simp[this]
theorem Py{kindOf:Str->Option NameKind}{x:Str}{v:Value}:∀{P:List Str} {vs:List Value} {i:Nat} {m:Str->Option Value},P.Nodup->P[i]?=some x->vs[i]?=some v->kindOf x=some .local->
  bindL kindOf (P.zip vs) m x=some v
 |[],_,_,_,_,h,_,_=>by simp at h
 |_::_,[],_,_,_,_,h,_=>by simp at h
 |p::P,w::vs,0,m,nd,h1,h2,hk=>by
  simp at h1 h2;subst h1;subst h2;show bindL kindOf ((p,w)::P.zip vs) m p=_;unfold bindL;rw[Pu λv hv=>(qF.mp nd).1 (DQ hv).1,if_pos hk];simp
 |p::P,w::vs,i+1,m,nd,h1,h2,hk=>by
  show bindL kindOf ((p,w)::P.zip vs) m x=_;unfold bindL;exact Py (i:=i) (qF.mp nd).2 (by simpa using h1) (by simpa using h2) hk
theorem Pz{kindOf:Str->Option NameKind}{x:Str}{v:Value}:∀{P:List Str} {vs:List Value} {i:Nat} {m:Str->Option Value},P.Nodup->P[i]?=some x->vs[i]?=some v->kindOf x≠some .local->
  bindC kindOf (P.zip vs) m x=some v
 |[],_,_,_,_,h,_,_=>by simp at h
 |_::_,[],_,_,_,_,h,_=>by simp at h
 |p::P,w::vs,0,m,nd,h1,h2,hk=>by
  simp at h1 h2;subst h1;subst h2;show bindC kindOf ((p,w)::P.zip vs) m p=_;unfold bindC;rw[Px λv hv=>(qF.mp nd).1 (DQ hv).1,if_neg hk];simp
 |p::P,w::vs,i+1,m,nd,h1,h2,hk=>by
  show bindC kindOf ((p,w)::P.zip vs) m x=_;unfold bindC;exact Pz (i:=i) (qF.mp nd).2 (by simpa using h1) (by simpa using h2) hk
noncomputable def start(N:List Str)(vs:List V):St:=vs.map some++List.replicate (N.length-vs.length) none
noncomputable def fL(CX:nM)(P:Program)(w:World)(K:W.Frag)(mg:Str->Option Value)(base:Heap)(N:List Str)(qual:Str)(scope:Scope)(f:Addr)(cd:Value)(A:Around)(outer:List Env)(s:Shared)(H:Hp)(E:XK)(cm:Bool):Cx where
 prog:=P
 w:=w
 K:=K
 mg:=mg
 base:=base
 A:=A.deeper (envOfC qual scope s.heap.objs.size f cd)
 N:=N
 s₀:=s
 H₀:=H
 env:=envOfC qual scope s.heap.objs.size f cd
 outer:=outer
 stack:=envOfC qual scope s.heap.objs.size f cd::outer
 ex:=[]
 aj:=cm
 fn:=λ_=>true
 pn:=[]
 xe:=λe s'=>wpAny (model P w) (A.deeper (envOfC qual scope s.heap.objs.size f cd)) (leaving (envOfC qual scope s.heap.objs.size f cd) e) (λ_ s''=>CX outer H s E e s'') (λe' s''=>CX outer H s E e' s'') s'
theorem PB{sc:Scope}{n:Nat}{x:Str}(h:sc.names.lookup x=some .cell):∃c,(cellsFrom n sc.names []).lookup x=some c:=by
 have q:=GX sc.names n [] (.inl h);exact GD.mp q
theorem Xk{CX:nM}{P:Program}{w:World}{K:W.Frag}{mg:Str->Option Value}{base:Heap}{N ps:List Str}{qual:Str}{scope:Scope}{f:Addr}{cd:Value}{A:Around}{outer:List Env}{s s1:Shared}{H:Hp}{E:XK}{us:List Value}{vs:List V}
  {cm:Bool} (S:dR N ps scope) (hd:cm=true->A.handled=none) (e0:rH P w K mg base A outer s H) (hl:vs.length=ps.length) (r:Vals vs us)
  (x:InCallC s s.heap.objs.size (bindL (envOfC qual scope s.heap.objs.size f cd).kindOf (ps.zip us) λ_=>none) (cellsFrom (s.heap.objs.size+1) scope.names []) (bindC (envOfC qual scope s.heap.objs.size f cd).kindOf (ps.zip us) λ_=>none) s1) :
  Inv (fL CX P w K mg base N qual scope f cd A outer s H E cm) [] (start N vs) H s1:=by
 have bW:ps.length<=N.length:=by have:=n_ List.length S.pre;rw[yQ] at this;lia
 obtain⟨h1,tk,rfl,hk⟩:=x.done;have zT:∀b:Addr,b∉(fL CX P w K mg base N qual scope f cd A outer s H E cm).ex:=λb z=>absurd (show b∈([]:List Addr) from z) MP;refine⟨⟨e0.mod,S.kind,rfl,rfl,bY _,λy z c h1 h2=>?_,λy hy=>?_,λy c _ h=>?_,hd,Around.frames_deeper e0.frames,.inr ⟨rfl,rfl⟩,λb z=>absurd z (zT b),e0.bs,e0.t_,λb _ _=>zT b,λb z=>absurd z (zT b),e0.g_,e0.xV⟩,
  rfl,e0.bare,Un.kept hk,⟨_,x.toInCall.ns,λi y v h1 h2 h3=>?_⟩,λy c h=>⟨_,x.cell y c h⟩,e0.hok.fresh (bY _),λy c h=>?_,λp hp=>absurd (show p∈([]:List (Addr×Obj)) from hp) MP,e0.hok.kept hk,?_⟩
 ·exact name_of_addr x.apart (xM h1) (xM h2)
 ·have hy:scope.names.lookup y=some .cell\/scope.names.lookup y=some .free:=hy;rcases hy with hy|hy
  ·exact PB hy
  ·exact absurd rfl (S.vI _ (xM hy))
 ·exact uV (x.above y c (xM h))
 ·have hi:i<vs.length:=by
   unfold start at h2;by_cases hi:i<vs.length
   ·exact hi
   ·rw[mQ (by simpa using hi)] at h2;rw[Ds] at h2;split at h2<;>cases h2
  have ha:vs[i]?=some v:=by
   unfold start at h2;rw[lM (by simpa using hi),nF] at h2;cases e:vs[i]? with
   |none=>rw[e] at h2;cases h2
   |some a=>rw[e] at h2;cases h2;rfl
  obtain⟨u,hu,rv⟩:=r.get ha;have hp:ps[i]?=some y:=by
   rw[<-S.pre,List.getElem?_take_of_lt gV];exact h1
  have PJ:ps.Nodup:=by rw[<-S.pre];exact S.nd.sublist (List.take_sublist _ _)
  refine⟨u,rv,?_⟩;rcases S.par y (jh hp) with k|k
  ·exact .inl ⟨k,Py PJ hp hu k⟩
  ·obtain⟨c,e⟩:=PB (n:=s.heap.objs.size+1) k;refine .inr ⟨.inl k,c,e,?_⟩;have q:=x.cell y c e;rw[Pz PJ hp hu (by show scope.names.lookup y≠_;rw[k];decide)] at q;exact q
 ·exact e0.hok.fresh (uV (x.above y c (xM h)))
 ·unfold start;show _=N.length;rw[jt,n6,Du]
  lia
theorem Xl{CX:nM}{cm:Bool}{P:Program}{w:World}{K:W.Frag}{mg:Str->Option Value}{base:Heap}{k:Nat}{f:Addr}{name qual:Str}{params:Arguments}{body:List Stmt}{scope:Scope}{dV kV doc pm cdv ct oc:Value}{an od:Option Addr}
  {osl:Array (Option Value)} {N ps:List Str} {sp:Sp} (lk:K.lookup f=some ⟨oc,od,.func (PySem.W.fnOf name qual params body scope dV kV doc pm an cdv ct),osl⟩) (jQ:PySem.W.codeIn K cdv qual=true) (S:dR N ps scope)
  (len:∀vs H Q E,sp vs H Q E->vs.length=ps.length)
  (zU:∀(A:Around) (outer:List Env) (s:Shared) (H:Hp) (vs:List V) (Q:VK) (E:XK),bI (k+1) A->sp vs H Q E->
   ∃t,kI (fL CX P w K mg base N qual scope f cdv A outer s H E cm) body t/\t {nx:=λ_ H'=>Q .non H',rt:=Q} (start N vs) H) :
  dw P w K mg base CX cm (k+1) f (PySem.W.fnOf name qual params body scope dV kV doc pm an cdv ct) ps sp:=by
 refine⟨len,λA outer s H args us vs Q E m5 hr e0 hb r Ew=>?_⟩;have hl:=len _ _ _ _ Ew;have KX:K.In s.heap:=e0.mod.tX.keeps λb o e=>(e0.bs b o e).1;have lim:s.heap.NoLimit:=e0.mod.nolimit.keeps λb o e=>(e0.bs b o e).1;have zV:∀y∈ps.zip us,scope.names.lookup y.1=some .local\/(scope.names.lookup y.1=some .cell/\((cellsFrom (s.heap.objs.size+1) scope.names []).lookup y.1).isSome=true):=λ⟨n,v⟩ hy=>by
  rcases S.par n (DQ hy).1 with q|q
  ·exact .inl q
  ·exact .inr ⟨q,GX _ _ _ (.inl q)⟩
 refine codeAny_call_function hr.depth (KX _ _ lk) rfl S.co S.gen rfl (PySem.W.codeRec_of KX jQ) (hb _ _ _ _ ?_);refine wpAny_newFunctionEnv_cells S.kind zV λenv he s1 x=>?_;subst he;refine⟨lim.keeps x.toInCall.keep,codeAny_func ?_⟩;obtain⟨t,ht,hq⟩:=zU A outer s H vs Q E hr Ew;have I:Inv (fL CX P w K mg base N qual scope f cdv A outer s H E cm) [] (start N vs) H s1:=Xk S m5 e0 hl r x;refine gK (ht [] s1 (start N vs) H _ I hq) (λfl s' hs=>?_) λe s' hs=>hs;have fin:∀{Z':St} {H':Hp} {v:V} {u:Value},Inv (fL CX P w K mg base N qual scope f cdv A outer s H E cm) [] Z' H' s'->RelV v u->Q v H'->CE outer P w H s Q u s':=
  λ{Z' H' v u} bG rv q=>⟨v,H',bG.os,bG.bare,bG.base,bG.hok,rv,q⟩
 cases fl with
 |ret u=>
  obtain⟨v,Z',H',bG,rv,q⟩:=hs;exact fin bG rv q
 |next=>
  obtain⟨Z',H',bG,q⟩:=hs;exact fin (v:=V.non) (u:=Value.none) bG rfl q
 |brk=>
  obtain⟨_,_,_,q⟩:=hs;exact False.elim q
 |cont=>
  obtain⟨_,_,_,q⟩:=hs;exact False.elim q
section
variable {X:Cx}{x:Str}{p pos:Pos}{e:Expr}{es:List Expr}{t:TA}{id T:String}{r:List V->Hp->VK->Prop}
noncomputable def PK(r:List V->Hp->VK->Prop)(t:TA):TE:=λZ H Q=>t Z H λvs H1=>r vs H1 Q
theorem PL(hc:cO X (.builtin id) r)(hg:Gl X x)(hm:X.mg x=none)(hv:bootBuiltins x=some (.builtin id))(ha:PA X (e::es) t)(hn:x≠"__name__":=by decide)(iw:(x==("__debug__" : Str))=false:=by decide)
  (he:starEach (e::es) X.env=(false,eval e X.env)::starEach es X.env:=by rfl) (bW:(backTo pos (starEach es X.env)).any (·.1)=false:=by rfl):PE X (.Call (.Name x p) (e::es) [] pos) (PK r t):=by
 intro ak s Z H Q I h;refine wpAny_Call_Name_kw (zA I hg hm hv ?_ hn iw);exact PyProof.Rows.callWith_builtin1 (aP (ha pos ak s Z H _ I h) λus s1 hx=>dj hx λvs H1 I1 r1 q1=>hc ak s1 Z H1 vs us Q I1 r1 q1) he bW
theorem Xm(hc:cO X (.type T) r)(hg:Gl X x)(hm:X.mg x=none)(hv:bootBuiltins x=some (.type T))(ha:PA X (e::es) t)(hn:x≠"__name__":=by decide)(iw:(x==("__debug__" : Str))=false:=by decide)
  (he:starEach (e::es) X.env=(false,eval e X.env)::starEach es X.env:=by rfl) (bW:(backTo pos (starEach es X.env)).any (·.1)=false:=by rfl):PE X (.Call (.Name x p) (e::es) [] pos) (PK r t):=by
 intro ak s Z H Q I h;refine wpAny_Call_Name_kw (zA I hg hm hv ?_ hn iw);exact GC (aP (ha pos ak s Z H _ I h) λus s1 hx=>dj hx λvs H1 I1 r1 q1=>hc ak s1 Z H1 vs us Q I1 r1 q1) he bW
end
end L2
namespace HT
open PySem PyProof.Rows
noncomputable def lexLt:List Int->List Int->Bool
 |[],[]=>false
 |[],_::_=>true
 |_::_,[]=>false
 |x::xs,y::ys=>if x=y then lexLt xs ys else decide (x<y)
theorem iy(x y:Int)(xs ys:List Int):lexLt (x::xs) (y::ys)=if x=y then lexLt xs ys else decide (x<y):=rfl
theorem Xn:lexLt [] []=false:=rfl
theorem Xo(y:Int)(ys:List Int):lexLt [] (y::ys)=true:=rfl
theorem Xp(x:Int)(xs:List Int):lexLt (x::xs) []=false:=rfl
theorem Xq(A:Around)(s:Shared)(a:Int)(t:Tok)(c:Int)(u:Tok):∃e,SeqAt.EqAt A s (.int a t) (.int c u) e/\(e=true↔a=c):=
 ⟨(a==c),SeqAt.EqAt.int_int a t c u,by simp⟩
theorem Xr(A:Around)(s:Shared)(a:Int)(t:Tok)(c:Int)(u:Tok)(prog:Program)(w:World)(E:Value->Shared->Prop)(Q:Value->Shared->Prop)(h:Q (.bool (decide (a<c))) s) :
  wpAny (model prog w) A (richCompare .Lt (.int a t) (.int c u)) Q E s:=
 (PyProof.Rows.lt_int h:wpAny (model prog w) A (compareOp .Lt (.int a t) (.int c u)) Q E s)
section
open PySem.SeqAt
open PySem.AutoSeq1 (wpAny_loadPart')
open PySem.MeetsSeq PySem.MeetsSeq2 PySem.MeetsSeq3
theorem Xu(l b:Addr)(items items2:Array Value)(n n2:Nat)(dd dd2:Option Addr)(sl sl2:Array (Option Value))(ns ms:List Int)(hi:IntsAre items.toList ns)(hj:IntsAre items2.toList ms) :
  Meets (Builtin.«tuple.__lt__» ⟨[.ref l,.ref b],[]⟩)
   (λ_ R s=>s.heap.get? l=some {cls:=.type "tuple",dict:=dd,data:=.seq items n,slots:=sl}/\s.heap.get? b=some {cls:=.type "tuple",dict:=dd2,data:=.seq items2 n2,slots:=sl2} /\
    R (.ok (.ret (.bool (lexLt ns ms)))) s):=
 .of_wp λprog w A R s h=>by
  obtain⟨hp,g,d,tk,os⟩:=s;obtain⟨hl,hb,h⟩:=h;have f2:=AutoSeq1.sub_tuple_tuple;have z1:items.size=ns.length:=by rw[<-hi.length];simp
  have z2:items2.size=ms.length:=by rw[<-hj.length];simp
  wp_walk using wpAny_loadPart' hl,wpAny_loadPart' hb,wpAny_forIn_list _ (λrest b s'=>b.1=none/\s'=⟨hp,g,d,tk,os⟩/\∃(vs ws:List Value) (ns' xY:List Int),rest=vs.zip ws /\
   IntsAre vs ns'/\IntsAre ws xY/\ns'.length+items2.size=xY.length+items.size/\R (.ok (.ret (.bool (lexLt ns' xY)))) ⟨hp,g,d,tk,os⟩) _
  case turn=>
   rintro⟨y,x⟩ rest b s' ⟨hb',rfl,vs,ws,ns',xY,hz,Ir,Ey,hlen,hR⟩;cases Ir with
   |nil=>rw[List.zip_nil_left] at hz;cases hz
   |cons a t Iu=>
    cases Ey with
    |nil=>rw[List.zip_nil_right] at hz;cases hz
    |cons c u Iv=>
     rw[yO] at hz;injection hz with Xw hrest;injection Xw with hy hx;subst hy hx;rw[iy] at hR;simp only[gJ] at hlen;obtain⟨e,he,zW⟩:=Xq A.in1 ⟨hp,g,d,tk,os⟩ a t c u;refine aG (he prog w _ _ ?_);cases e with
     |true=>
      rw[if_pos (zW.mp rfl)] at hR
      wp_walk
      exact⟨rfl,rfl,_,_,_,_,hrest,Iu,Iv,by lia,hR⟩
     |false=>
      rw[if_neg (λq=>absurd (zW.mpr q) Bool.false_ne_true)] at hR;have Xx:=Xr A.in1 ⟨hp,g,d,tk,os⟩ a t c u prog w
      wp_walk using Xx
      exact⟨_,rfl,by simpa using hR⟩
  case fin=>
   rintro⟨b1,b2⟩ s' ⟨hb',rfl,vs,ws,ns',xY,hz,Ir,Ey,hlen,hR⟩;simp only at hb';subst hb';have hv:lexLt ns' xY=decide (items.size<items2.size):=by
    cases Ir with
    |nil=>
     cases Ey with
     |nil=>
      simp only[tV] at hlen;rw[Xn];exact(gA gV).symm
     |cons c u hw=>
      simp only[tV,gJ] at hlen;rw[Xo];exact(dY gV).symm
    |cons a t hv=>
     cases Ey with
     |nil=>
      simp only[tV,gJ] at hlen;rw[Xp];exact(gA gV).symm
     |cons c u hw=>
      rw[yO] at hz;cases hz
   rw[hv] at hR
   wp_walk
   exact⟨_,rfl,by simpa [Builtin.Tuple.tupleCompareSizes] using hR⟩
  case h=>
   exact⟨rfl,rfl,items.toList,items2.toList,ns,ms,rfl,hi,hj,by lia,h⟩
end
section
variable {prog:Program}{w:World}{A:Around}{E:Value->Shared->Prop}{s:Shared}
theorem kO{l b:Addr}{items items2:Array Value}{ns ms:List Int}{Q:Value->Shared->Prop}(hl:IsTup s.heap l items)(hb:IsTup s.heap b items2)(hi:IntsAre items.toList ns)(hj:IntsAre items2.toList ms)
  (hu:A.units<cLine) (h:Q (.bool (lexLt ns ms)) s):wpAny (model prog w) A (compareOp .Lt (.ref l) (.ref b)) Q E s:=by
 obtain⟨⟨cls,dd,data,sl⟩,ho,hc,n,hd⟩:=id hl;obtain⟨⟨cls2,dd2,data2,sl2⟩,m6,oO,n2,hd2⟩:=id hb;simp only at hc hd oO hd2;subst hc hd oO hd2;exact richCompare_meets_room (op:=.Lt) ⟨_,ho,rfl⟩ ⟨_,m6,rfl⟩ PySem.F.slot_tuple_lt PySem.F.entry_tuple_lt (PySem.F.args_tuple_lt_2 _ _) (Xu l b items items2 n n2 dd dd2 sl sl2 ns ms hi hj)
  ⟨ho,m6,show Value.bool (lexLt ns ms)≠Value.notImplemented/\Q (.bool (lexLt ns ms)) s from ⟨(λx=>nomatch x),h⟩⟩ hu
theorem rJ{t b:Addr}{vs ws:List Value}{Q:Value->Shared->Prop}(ht:IsTup s.heap t vs.toArray)(hb:IsTup s.heap b ws.toArray)(hv:vs≠[])
  (h1:ws=[]->Q (.ref t) s) (h2:ws≠[]->Q (.ref s.heap.objs.size) {s with heap:=s.heap.push {cls:=.type "tuple",data:=.seq (vs++ws).toArray}})
  (nO:vs.length+ws.length<=sizeLine):wpAny (model prog w) A (binaryOp .Add (.ref t) (.ref b)) Q E s:=by
 obtain⟨⟨cls,dd,data,sl⟩,ho,hc,n,hd⟩:=id ht;obtain⟨⟨cls2,dd2,data2,sl2⟩,m6,oO,n2,hd2⟩:=id hb;simp only at hc hd oO hd2;subst hc hd oO hd2;have e:vs.toArray++ws.toArray=(vs++ws).toArray:=by simp
 by_cases hw:ws=[]
 ·exact concat_meets ⟨_,ho,rfl⟩ ⟨_,m6,rfl⟩ noFill_tuple_add seq_tuple_add GZ GK (GF _ _)
   (tuple_addW1 t b vs.toArray ws.toArray n n2 dd dd2 sl sl2 (by simpa using hv) (by simp[hw])) ⟨ho,m6,h1 hw⟩
 ·refine concat_meets ⟨_,ho,rfl⟩ ⟨_,m6,rfl⟩ noFill_tuple_add seq_tuple_add GZ GK (GF _ _)
   (tuple_addW2 t b vs.toArray ws.toArray n n2 dd dd2 sl sl2 (by simpa using hv) (by simpa using hw) (by rw[fW,fW];exact nO)) ⟨ho,m6,?_⟩
  rw[e];exact h2 hw
noncomputable def bD(n d:Nat):Option Int->Nat
 |none=>d
 |some v=>if v<0 then (v+(n:Int)).toNat else min v.toNat n
theorem Xy(n d:Nat)(hd:d<=n)(o:Option Int):bD n d o<=n:=by
 cases o with
 |none=>exact hd
 |some v=>
  show (if v<0 then (v+(n:Int)).toNat else min v.toNat n)<=n;by_cases hv:v<0
  ·rw[if_pos hv];lia
  ·rw[if_neg hv];exact Nat.min_le_right _ _
theorem PN(v:Int)(n d:Nat):(if v<0 then max (v+(n:Int)) 0 else min v (n:Int))=((bD n d (some v):Nat):Int):=by
 show (if v<0 then max (v+(n:Int)) 0 else min v (n:Int))=(((if v<0 then (v+(n:Int)).toNat else min v.toNat n):Nat):Int);by_cases hv:v<0
 ·simp only[if_pos hv];lia
 ·simp only[if_neg hv];lia
theorem Xz(lo hi:Option Int)(n:Nat):Builtin.Slice.sliceAdjust lo hi 1 (n:Int)=(((bD n 0 lo:Nat):Int),((bD n n hi:Nat):Int)):=by
 have h1:¬((1:Int)<0):=by lia
 unfold Builtin.Slice.sliceAdjust;simp only[h1,if_false];refine Prod.ext ?_ ?_
 ·cases lo with
  |none=>rfl
  |some v=>exact PN v n 0
 ·cases hi with
  |none=>rfl
  |some v=>exact PN v n n
theorem XD(i j:Nat):Builtin.Slice.slicePlaces (i:Int) (j:Int) 1=j-i:=by
 unfold Builtin.Slice.slicePlaces;have h1:(1:Int)>0:=by lia
 simp only[h1,if_true,Int.ediv_one]
 split<;>lia
theorem PX{v:Value}{o:Option Int}{Q:Option Int->Shared->Prop}(p:IsPart v o)(h:Q o s):wpAny (model prog w) A (Builtin.Slice.slicePartIndex v) Q E s:=by
 cases p with
 |none=>exact slicePart_none h
 |int i t=>exact slicePart_int h
theorem P0{sl:Addr}{vl vu:Value}{lo hi:Option Int}{n:Nat}{Q:Int×Int×Nat->Shared->Prop}(hs:s.heap.IsSliceOf sl vl vu .none)(pl:IsPart vl lo)(pu:IsPart vu hi)
  (h:Q (((bD n 0 lo:Nat):Int),1,bD n n hi-bD n 0 lo) s):wpAny (model prog w) A (Builtin.Slice.sliceApplied (.ref sl) (pure (n:Int))) Q E s:=by
 obtain⟨os,vJ,Ez,zX⟩:=id hs;unfold Builtin.Slice.sliceApplied Builtin.Slice.sliceFields;refine aG (aG (uW vJ zX (x:=vl) rfl (aG (uW vJ zX (x:=vu) rfl (aG (uW vJ zX (x:=.none) rfl (bC ?_)))))));refine aG (slicePart_none ?_);show wpAny _ _ (if ((1:Int)==0)=true then _ else _) _ _ s;rw[if_neg J0];refine aG (PX pl (aG (PX pu (aG (bC ?_)))));show wpAny _ _ (match Builtin.Slice.sliceAdjust lo hi 1 (n:Int) with|(lo,hi)=>pure (lo,(1:Int),Builtin.Slice.slicePlaces lo hi 1)) _ _ s;rw[Xz lo hi n];show wpAny _ _ (pure (((bD n 0 lo:Nat):Int),(1:Int),Builtin.Slice.slicePlaces ((bD n 0 lo:Nat):Int) ((bD n n hi:Nat):Int) 1)) _ _ s;rw[XD];exact bC h
theorem XH(xs:Array Value)(i k:Nat):((List.range k).filterMap λ(m:Nat)=>xs[((i:Int)+(m:Int)*1).toNat]?).toArray=((xs.toList.drop i).take k).toArray:=by
 have e:(λ(m:Nat)=>xs[((i:Int)+(m:Int)*1).toNat]?)=λm=>xs[i+m]?:=by
  funext m
  have:((i:Int)+(m:Int)*1).toNat=i+m:=by lia
  rw[this]
 rw[e];have:=pick_run xs i k;rw[List.filterMap_map] at this;have e2:((λx=>xs[x]?)∘λx=>i+x)=λm=>xs[i+m]?:=rfl;rw[e2] at this;rw[this]
theorem eY{t sl:Addr}{items:Array Value}{vl vu:Value}{lo hi:Option Int}{Q:Value->Shared->Prop}(ht:IsTup s.heap t items)(hs:s.heap.IsSliceOf sl vl vu .none)(pl:IsPart vl lo)(pu:IsPart vu hi)
  (hw:¬(bD items.size 0 lo=0/\bD items.size items.size hi=items.size))
  (h:Q (.ref s.heap.objs.size) {s with heap:=s.heap.push {cls:=.type "tuple",data:=.seq ((items.toList.drop (bD items.size 0 lo)).take (bD items.size items.size hi-bD items.size 0 lo)).toArray}})
  (nO:items.size<=sizeLine):wpAny (model prog w) A (getItem (.ref t) (.ref sl)) Q E s:=by
 have lW:sizeOk (.seq ((items.toList.drop (bD items.size 0 lo)).take (bD items.size items.size hi-bD items.size 0 lo)).toArray):=by
  show ((items.toList.drop (bD items.size 0 lo)).take (bD items.size items.size hi-bD items.size 0 lo)).toArray.size<=sizeLine;rw[fW,yQ,List.length_drop,G8]
  lia
 have hj:bD items.size items.size hi<=items.size:=Xy _ _ (bY _) hi;obtain⟨os,vJ,Ez,zX⟩:=id hs;have Iw:s.TypeIs (.ref sl) "slice":=⟨os,vJ,Ez⟩;unfold getItem
 try with_reducible refine lO ?_
 first|refine aG (bC ?_)|skip
 refine aG (wpAny_sequenceKey ht.typeIs J0 ?_);refine aG (wpAny_callSpecial?_slot (name:=Str.ofString "__getitem__") ht.typeIs xH
  (wpAny_call_entry xH ht.typeIs entry_tuple_getitem ?_ (args_tuple_getitem _ _)))
 show wpAny _ _ (Builtin.Tuple.tupleItemsOf (.ref t) >>= _) _ _ s;refine aG (tupleItemsOf_ ht ?_);refine aG (wpAny_typeOf Iw ?_);rw[if_pos J0];refine aG (P0 hs pl pu ?_);have XJ:¬((((bD items.size 0 lo:Nat):Int)==0&&(1:Int)==1&&(bD items.size items.size hi-bD items.size 0 lo)==items.size)=true):=by
  intro q;rw[bZ,bZ] at q;have q1:((bD items.size 0 lo:Nat):Int)=0:=eq_of_beq q.1.1;have q2:bD items.size items.size hi-bD items.size 0 lo=items.size:=eq_of_beq q.2;exact hw ⟨by lia,by lia⟩
 show wpAny _ _ (if (((bD items.size 0 lo:Nat):Int)==0&&(1:Int)==1&&(bD items.size items.size hi-bD items.size 0 lo)==items.size)=true then _ else _) _ _ s;rw[if_neg XJ,XH]
 first
  |exact aG (m:=Builtin.Tuple.tupleExact _) (xO (bC ⟨_,rfl,bC h⟩) lW)
  |exact aG (m:=Builtin.Tuple.tupleExact _) (xO (aG (bC (bC ⟨_,rfl,bC h⟩))) lW)
  |exact aG (aG (m:=Builtin.Tuple.tupleExact _) (xO (bC (bC ⟨_,rfl,bC h⟩)) lW))
  |exact aG (aG (m:=Builtin.Tuple.tupleExact _) (xO (bC ⟨_,rfl,bC h⟩) lW))
end
end HT
namespace L2
open PySem PySem.Spec PyProof.Rows
noncomputable abbrev TO:=St->Hp->(Option Int->Hp->Prop)->Prop
def PO(X:Cx)(e:Option Expr)(t:TO):Prop:=
 ∀(ak:List (Addr×Obj)) (s:Shared) (Z:St) (H:Hp) (Q:Option Int->Hp->Prop),Inv X ak Z H s->t Z H Q->
  wpAny (model X.prog X.w) X.A (evalPart e X.env) (λu s'=>∃o H',Inv X ak Z H' s'/\IsPart u o/\Q o H') X.xe s
noncomputable def zY(t:TE):TO:=λZ H Q=>t Z H λx H1=>∃i,x=.int i/\Q (some i) H1
theorem P_{ns:List Int}:∀{us:List Value},Vals (ns.map V.int) us->IntsAre us ns:=by
 induction ns with
 |nil=>intro us r;rw[List.map_nil] at r;cases r;exact .nil
 |cons n ns ih=>
  intro us r;rw[nG] at r;cases r with
  |cons r1 r2=>
   obtain⟨t,e⟩:=r1;subst e;exact .cons n t (ih r2)
section
variable {X:Cx}{e:Expr}{te:TE}{lo hi:Option Expr}{tl th:TO}{pos p2:Pos}
theorem XM(h:PE X e te):PO X (some e) (zY te):=by
 intro ak s Z H Q I hw;rw[evalPart_some];refine aP (h ak s Z H _ I hw) λu s1 hx=>dj hx λx H1 I1 r1 q1=>?_;obtain⟨i,rfl,q⟩:=q1;obtain⟨t,rfl⟩:=r1;exact⟨some i,H1,I1,.int i t,q⟩
def rK(X:Cx)(r:V->Option Int->Option Int->Hp->VK->Prop):Prop:=
 ∀(ak:List (Addr×Obj)) (s:Shared) (Z:St) (H:Hp) (x:V) (v vl vu:Value) (lo hi:Option Int) (sl:Addr) (Q:VK),Inv X ak Z H s->RelV x v->s.heap.IsSliceOf sl vl vu .none->IsPart vl lo->IsPart vu hi->r x lo hi H Q->
  ∃T id,typeLookup (.type T) "__getitem__"=pure (some (.builtin id))/\s.TypeIs v T/\wpAny (model X.prog X.w) X.A (getItem v (.ref sl)) (EP X ak Z Q) X.xe s
theorem rK.or{r r':V->Option Int->Option Int->Hp->VK->Prop}(h:rK X r)(h':rK X r'):rK X (λx lo hi H Q=>r x lo hi H Q\/r' x lo hi H Q):=by
 intro ak s Z H x v vl vu lo hi sl Q I rx hs pl pu q;rcases q with q|q
 ·exact h ak s Z H x v vl vu lo hi sl Q I rx hs pl pu q
 ·exact h' ak s Z H x v vl vu lo hi sl Q I rx hs pl pu q
noncomputable def XQ(r:V->Option Int->Option Int->Hp->VK->Prop)(te:TE)(tl th:TO):TE:=λZ H Q=>te Z H λx H1=>tl Z H1 λl H2=>th Z H2 λu H3=>r x l u H3 Q
theorem XR{r:V->Option Int->Option Int->Hp->VK->Prop}(hr:rK X r)(he:PE X e te)(hl:PO X lo tl)(hu:PO X hi th):PE X (.Subscript e (.Slice lo hi none p2) pos) (XQ r te tl th):=by
 intro ak s Z H Q I h;refine Subscript_ (aP (he ak s Z H _ I h) λv s1 hx=>dj hx λx H1 I1 r1 q1=>?_);refine wpAny_Slice (aP (hl ak s1 Z H1 _ I1 q1) λvl s2 hx=>dj hx λl H2 I2 pl q2=>aP (hu ak s2 Z H2 _ I2 q2) λvu s3 hx=>dj hx λu H3 I3 pu q3=>?_);rw[evalPart_none];refine bC ?_;have I4:Inv X ak Z H3 {s3 with heap:=s3.heap.push {cls:=.type "slice",data:=.fields #[vl,vu,.none]}}:=I3.kept (t':=s3.toks) λb ob q=>cX _ q;obtain⟨T,id,hT,ht,hg⟩:=hr ak {s3 with heap:=s3.heap.push {cls:=.type "slice",data:=.fields #[vl,vu,.none]}} Z H3 x v vl vu l u s3.heap.objs.size Q I4 r1 (Heap.IsSliceOf.new ..) pl pu q3;show wpAny (model X.prog X.w) X.A (subscriptTail e (.Slice lo hi none p2) v (.ref s3.heap.objs.size)) (EP X ak Z Q) X.xe {s3 with heap:=s3.heap.push {cls:=.type "slice",data:=.fields #[vl,vu,.none]}};exact tail_any (ops:=[.ref s3.heap.objs.size,v]) ht hT hg (by with_unfolding_all rfl)
noncomputable def jD(xs:List V)(lo hi:Option Int):List V:=(xs.drop (HT.bD xs.length 0 lo)).take (HT.bD xs.length xs.length hi-HT.bD xs.length 0 lo)
theorem Qa(xs:List V)(lo hi:Option Int):(jD xs lo hi).length<=xs.length:=by
 unfold jD;rw[yQ,List.length_drop]
 lia
noncomputable def Iz(K:W.Frag):V->Option Int->Option Int->Hp->VK->Prop:=λx lo hi H Q=>∃a xs,x=.ref a/\iR K H a xs /\
 ¬(HT.bD xs.length 0 lo=0/\HT.bD xs.length xs.length hi=xs.length)/\∀p,H p=none->Q (.ref p) (upd H p (.tup (jD xs lo hi)))
theorem X3:rK X (Iz X.K):=by
 intro ak s Z H x v vl vu lo hi sl Q I rx hs pl pu h;obtain⟨a,xs,rfl,hx,hw,q⟩:=h;cases rx;obtain⟨its,r,ht,hz⟩:=I.tuple hx;have hlen:its.toArray.size=xs.length:=by rw[fW];exact r.length.symm
 refine⟨"tuple",_,xH.lookup,ht.typeIs,?_⟩;refine HT.eY ht hs pl pu (by rw[hlen];exact hw) ?_ (by rw[hlen];exact hz);rw[hlen];refine⟨.ref s.heap.objs.size,_,I.laid (t':=s.toks) (o:=.tup (jD xs lo hi)) (λb ob q=>cX _ q) (bY _) ?_,rfl,q _ (I.hok.fresh (bY _))⟩;exact⟨jd (Qa xs lo hi) hz,_,(r.drop (HT.bD xs.length 0 lo)).take (HT.bD xs.length xs.length hi-HT.bD xs.length 0 lo),gZ.new _ _⟩
noncomputable def zZ(K:W.Frag):R2:=λx y H Q=>∃a b ns ms,x=.ref a/\y=.ref b/\iR K H a (ns.map V.int)/\iR K H b (ms.map V.int)/\Q (.bl (HT.lexLt ns ms)) H
theorem X4(hu:X.A.units<cLine):cR X (compareOp .Lt) (zZ X.K):=by
 intro ak s Z H x y v u Q I rx ry h;obtain⟨a,b,ns,ms,rfl,rfl,ha,hb,q⟩:=h;cases rx;cases ry;obtain⟨its,r1,p1,_⟩:=I.tuple ha;obtain⟨its2,r2,p2,_⟩:=I.tuple hb;have i1:IntsAre its.toArray.toList ns:=P_ r1;have i2:IntsAre its2.toArray.toList ms:=P_ r2;exact HT.kO p1 p2 i1 i2 hu ⟨.bl (HT.lexLt ns ms),H,I,rfl,q⟩
theorem Vals.jE{xs:List V}{us:List Value}(r:Vals xs us):us=[]↔xs=[]:=by
 cases r with
 |nil=>simp
 |cons _ _=>simp
end
noncomputable def rM(n:Nat)(i:Int):Option Nat:=if 0<=i then (if i<n then some i.toNat else none) else if -(n:Int)<=i then some (i+n).toNat else none
noncomputable def oR{α:Type}(xs:List α)(i:Int):Option α:=(rM xs.length i).bind λj=>xs[j]?
theorem Qc{n:Nat}{i:Int}{j:Nat}(h:rM n i=some j):seqIndex? i n=some j/\j<n/\-(n:Int)<=i/\i<n:=by
 unfold rM at h;by_cases h0:0<=i
 ·rw[if_pos h0] at h;by_cases h1:i<n
  ·rw[if_pos h1] at h;have e:i.toNat=j:=dh h;exact⟨by rw[seqIndex_of h0 h1,e],by lia,by lia,h1⟩
  ·rw[if_neg h1] at h;cases h
 ·rw[if_neg h0] at h;by_cases h1 : -(n:Int)<=i
  ·rw[if_pos h1] at h;have e:(i+n).toNat=j:=dh h;exact⟨by rw[seqIndex_neg gV h1,e],by lia,h1,by lia⟩
  ·rw[if_neg h1] at h;cases h
theorem IK{α:Type}{xs:List α}{i:Int}{v:α}(h:oR xs i=some v):∃j,seqIndex? i xs.length=some j/\xs[j]?=some v/\j<xs.length/\-(xs.length:Int)<=i/\i<xs.length:=by
 unfold oR at h;cases e:rM xs.length i with
 |none=>rw[e] at h;cases h
 |some j=>
  rw[e] at h;obtain⟨h1,h2,h3,h4⟩:=Qc e;exact⟨j,h1,h,h2,h3,h4⟩
def lX(b:Expr):Prop:=∀o i,subscripted b false o i=operate [o,i] (getItem o i)
def qK(X:Cx)(r:R2):Prop:=
 ∀(value slice:Expr) (ak:List (Addr×Obj)) (s:Shared) (Z:St) (H:Hp) (x y:V) (v u:Value) (Q:VK),Inv X ak Z H s->RelV x v->RelV y u->r x y H Q->
  subscripted slice false v u=operate [v,u] (getItem v u)->wpAny (model X.prog X.w) X.A (subscriptTail value slice v u) (EP X ak Z Q) X.xe s
def xZ(X:Cx)(id:String)(r:V->List V->Hp->VK->Prop):Prop:=
 ∀(ak:List (Addr×Obj)) (s:Shared) (Z:St) (H:Hp) (x:V) (xs:List V) (v:Value) (us:List Value) (Q:VK),Inv X ak Z H s->RelV x v->Vals xs us->r x xs H Q->
  wpAny (model X.prog X.w) X.A (call (.builtin id) (v::us)) (EP X ak Z Q) X.xe s
section
variable {X:Cx}{a b:Expr}{ta tb:TE}{pos:Pos}
theorem qK.or{r r':R2}(h:qK X r)(h':qK X r'):qK X (λx y H Q=>r x y H Q\/r' x y H Q):=by
 intro value slice ak s Z H x y v u Q I rx ry q hs;rcases q with q|q
 ·exact h value slice ak s Z H x y v u Q I rx ry q hs
 ·exact h' value slice ak s Z H x y v u Q I rx ry q hs
theorem Qd{r:R2}(hr:qK X r)(ha:PE X a ta)(hb:PE X b tb)(hs:lX b):PE X (.Subscript a b pos) (Er r ta tb):=by
 intro ak s Z H Q I h;exact Subscript_ (vD ha hb I h λv u s2 x y H2 I2 rx ry q=>hr a b ak s2 Z H2 x y v u Q I2 rx ry q (hs _ _))
noncomputable def z_(K:W.Frag):R2:=λx y H Q=>∃p xs i v,x=.ref p/\y=.int i/\dU K H p xs/\oR xs i=some v/\Q v H
noncomputable def Aa(K:W.Frag):R2:=λx y H Q=>∃p xs i v,x=.ref p/\y=.int i/\iR K H p xs/\oR xs i=some v/\Q v H
noncomputable def Ab:R2:=λx y H Q=>∃z i c,x=.str z/\y=.int i/\z.length<=sizeLine/\oR z.cps.toList i=some c/\Q (.str ⟨#[c]⟩) H
theorem rN:qK X (z_ X.K):=by
 intro value slice ak s Z H x y v u Q I rx ry h hs;obtain⟨p,xs,i,z,rfl,rfl,hq,he,q⟩:=h;cases rx;obtain⟨t,rfl⟩:=ry;obtain⟨its,r,pl,hz⟩:=I.list hq;obtain⟨j,h1,h2,h3,h4,h5⟩:=IK he;obtain⟨w,ew,oU⟩:=r.get h2;have hl:=r.length;have hn:=fK;have fin:EP X ak Z Q w s:=⟨z,H,I,oU,q⟩;by_cases h0:0<=i
 ·have hj:i.toNat=j:=by
   rw[seqIndex_of h0 h5] at h1;exact dh h1
  exact item_listR pl.isList h0 gV (by rw[hj];simpa using ew) fin hs
 ·have hj:(i+(its.toArray.size:Int)).toNat=j:=by
   rw[seqIndex_neg gV h4] at h1;rw[fW,<-hl];exact dh h1
  exact subscriptTail_builtinR (x:=w) pl.isList.typeIs slot_list_getitem.lookup
   (wpAny_getItem_list_neg (Q:=λr s'=>r=w/\EP X ak Z Q r s') pl.isList gV (by rw[fW]<;>lia) gV (by rw[hj];simpa using ew) ⟨rfl,fin⟩) hs
theorem vK:qK X (Aa X.K):=by
 intro value slice ak s Z H x y v u Q I rx ry h hs;obtain⟨p,xs,i,z,rfl,rfl,hq,he,q⟩:=h;cases rx;obtain⟨t,rfl⟩:=ry;obtain⟨its,r,pl,hz⟩:=I.tuple hq;obtain⟨j,h1,h2,h3,h4,h5⟩:=IK he;obtain⟨w,ew,oU⟩:=r.get h2;have hl:=r.length;have hn:=fK;have fin:EP X ak Z Q w s:=⟨z,H,I,oU,q⟩;exact subscriptTail_builtinR (x:=w) pl.typeIs slot_tuple_getitem.lookup
  (getItem_tuple (j:=j) (Q:=λr s'=>r=w/\EP X ak Z Q r s') pl gV gV (by rw[fW,<-hl];exact h1) (by simpa using ew) ⟨rfl,fin⟩) hs
theorem X5:qK X Ab:=by
 intro value slice ak s Z H x y v u Q I rx ry h hs;obtain⟨z,i,c,rfl,rfl,hz,he,q⟩:=h;obtain⟨t,rfl⟩:=rx;obtain⟨t',rfl⟩:=ry;obtain⟨j,h1,h2,h3,h4,h5⟩:=IK he;have hl:z.cps.toList.length=z.length:=by simp[Str.length]
 rw[hl] at h1 h4 h5;have hn:=fK;exact tail_any (typeIs_str s z t) yR.lookup (getItem_str (c:=c) (by
  have e1:decide (i < -(2^63:Int))=false:=gA gV;have e2:decide (i>=2^63)=false:=gA gV;rw[e1,e2,Bool.or_false]) (by rw[h1];simpa using h2) ⟨.str ⟨#[c]⟩,H,I.tok _,⟨_,rfl⟩,q⟩) hs
noncomputable def IV(K:W.Frag):R2:=λx y H Q=>z_ K x y H Q\/Aa K x y H Q\/Ab x y H Q
theorem X6:qK X (IV X.K):=rN.or (vK.or X5)
theorem X7(its:List Value)(n j:Nat)(u:Value):Obj.mapSeq (·.setIfInBounds j u) {cls:=.type "list",data:=.seq its.toArray n}={cls:=.type "list",data:=.seq (its.set j u).toArray n}:=by
 simp[Obj.mapSeq]
theorem Inv.lst{ak:List (Addr×Obj)}{Z:St}{H:Hp}{s:Shared}{p:Addr}{xs:List V}(I:Inv X ak Z H s)(h:H p=some (.lst xs)) :
  ∃(its:List Value) (n:Nat),Vals xs its/\s.heap.get? p=some {cls:=.type "list",data:=.seq its.toArray n}/\xs.length<=sizeLine:=by
 obtain⟨z,its,n,r,e⟩:=I.hok p _ h;exact⟨its,n,r,e,z⟩
theorem Inv.vL{ak:List (Addr×Obj)}{Z:St}{H:Hp}{s:Shared}{p:Addr}{xs ys:List V}{its its':List Value}{n n':Nat}{f:Obj->Obj}(I:Inv X ak Z H s)(h:H p=some (.lst xs))
  (ho:s.heap.get? p=some {cls:=.type "list",data:=.seq its.toArray n}) (hf:f {cls:=.type "list",data:=.seq its.toArray n}={cls:=.type "list",data:=.seq its'.toArray n'}) (r:Vals ys its') (hz:ys.length<=sizeLine) (t:Nat) :
  Inv X ak Z (upd H p (.lst ys)) {s with heap:=s.heap.update p f,toks:=t}:=by
 have e:(s.heap.update p f).get? p=some {cls:=.type "list",data:=.seq its'.toArray n'}:=by
  rw[yM f ho (by rw[hf]<;>rfl),hf]
 refine I.write (x:=p) (e:=p) (by rw[h];trivial) (.inl rfl) (λb u hb q=>(xK _ _ (Ne.symm hb)).trans q) ⟨_,e⟩ ?_;exact⟨hz,its',n',r,e⟩
noncomputable def Ac:V->V->V->Hp->(Hp->Prop)->Prop:=λo i v H Q=>∃p xs k j,o=.ref p/\i=.int k/\H p=some (.lst xs)/\rM xs.length k=some j/\Q (upd H p (.lst (xs.set j v)))
theorem X8:zH X Ac:=by
 intro ak s Z H o i v ov iv u Q I ro ri rv h;obtain⟨p,xs,k,j,rfl,rfl,hp,hj,q⟩:=h;cases ro;obtain⟨t,rfl⟩:=ri;obtain⟨its,n,r,ho,hz⟩:=I.lst hp;obtain⟨h1,h2,h3,h4⟩:=Qc hj;have hl:=r.length;have hn:=fK;have I':Inv X ak Z (upd H p (.lst (xs.set j v))) {s with heap:=s.heap.update p (Obj.mapSeq (·.setIfInBounds j u))}:=
  I.vL hp ho (X7 its n j u) (r.set rv j) (by rw[jP];exact hz) s.toks
 by_cases h0:0<=k
 ·have hk:k.toNat=j:=by
   rw[seqIndex_of h0 h4] at h1;exact dh h1
  exact PySem.W.ki_setAt ho h0 gV (by rw[fW,<-hl];exact h4) (by rw[hk];exact⟨_,I',q⟩)
 ·have hk:(k+(its.toArray.size:Int)).toNat=j:=by
   rw[seqIndex_neg gV h3] at h1;rw[fW,<-hl];exact dh h1
  exact PySem.W.ki_setBack ho gV (by rw[fW,<-hl];exact h3) gV (by rw[hk];exact⟨_,I',q⟩)
theorem X_(lo hi:Option Int)(n:Nat):(sliceBounds lo hi none n).1=((HT.bD n 0 lo:Nat):Int)/\(sliceBounds lo hi none n).2.1=((HT.bD n n hi:Nat):Int)/\(sliceBounds lo hi none n).2.2=1:=by
 refine⟨?_,?_,rfl⟩
 ·cases lo with
  |none=>simp[sliceBounds,HT.bD]
  |some i=>
   simp only[sliceBounds,HT.bD,Option.getD_none,show (1:Int)>0 by decide,if_true];by_cases h:i<0
   ·simp only[h,if_true]<;>lia
   ·simp only[h,if_false]<;>lia
 ·cases hi with
  |none=>simp[sliceBounds,HT.bD]
  |some i=>
   simp only[sliceBounds,HT.bD,Option.getD_none,show (1:Int)>0 by decide,if_true];by_cases h:i<0
   ·simp only[h,if_true]<;>lia
   ·simp only[h,if_false]<;>lia
theorem Yb(its:List Value)(lo hi:Option Int):slicePick its.toArray lo hi none=((its.drop (HT.bD its.length 0 lo)).take (HT.bD its.length its.length hi-HT.bD its.length 0 lo)).toArray:=by
 obtain⟨h1,h2,h3⟩:=X_ lo hi its.toArray.size;unfold slicePick;rw[h1,h2,h3];simp only[sliceRange_one,pick_run,fW]<;>rfl
noncomputable def Ad(K:W.Frag):V->Option Int->Option Int->Hp->VK->Prop:=λx lo hi H Q=>∃a xs,x=.ref a/\dU K H a xs/\∀p,H p=none->Q (.ref p) (upd H p (.lst (jD xs lo hi)))
theorem rO:rK X (Ad X.K):=by
 intro ak s Z H x v vl vu lo hi sl Q I rx hs pl pu h;obtain⟨a,xs,rfl,hx,q⟩:=h;cases rx;obtain⟨its,r,ht,hz⟩:=I.list hx;have hlen:=r.length;refine⟨"list",_,slot_list_getitem.lookup,ht.isList.typeIs,?_⟩;refine wpAny_getItem_list_slice ht.isList hs pl pu .none MP ?_ (by rw[fW]<;>lia);rw[Yb,<-hlen];refine⟨.ref s.heap.objs.size,_,I.laid (t':=s.toks) (o:=.lst (jD xs lo hi)) (λb ob q=>cX _ q) (bY _) ?_,rfl,q _ (I.hok.fresh (bY _))⟩;exact⟨jd (Qa xs lo hi) hz,_,0,(r.drop (HT.bD xs.length 0 lo)).take (HT.bD xs.length xs.length hi-HT.bD xs.length 0 lo),ji _ rfl⟩
theorem Yc:cO X (.builtin "len") (λxs H Q=>∃p ys,xs=[.ref p]/\(dU X.K H p ys\/iR X.K H p ys)/\Q (.int ys.length) H):=by
 intro ak s Z H xs us Q I r h;obtain⟨p,ys,rfl,hq,q⟩:=h;obtain⟨u,rfl,rx⟩:=vals1 r;cases rx;have hn:=fK;rcases hq with hq|hq
 ·obtain⟨its,r',pl,hz⟩:=I.list hq;have hlen:=r'.length;exact Calls.call_len_list pl.isList (by simp only[fW]<;>lia) ⟨.int ys.length,H,I.tok _,⟨s.toks+1,by rw[fW,hlen]⟩,q⟩
 ·obtain⟨its,r',pl,hz⟩:=I.tuple hq;have hlen:=r'.length;exact len_tuple pl (by simp only[fW]<;>lia) ⟨.int ys.length,H,I.tok _,⟨s.toks+1,by rw[fW,hlen]⟩,q⟩
theorem Yd:cO X (.builtin "len") (λxs H Q=>∃z,xs=[.str z]/\z.length<=sizeLine/\Q (.int z.length) H):=by
 intro ak s Z H xs us Q I r h;obtain⟨z,rfl,hz,q⟩:=h;obtain⟨u,rfl,t,rfl⟩:=vals1 r;have hn:=fK;exact len_str gV ⟨.int z.length,H,I.tok _,⟨_,rfl⟩,q⟩
def IW(K:W.Frag)(T:String)(x:V)(H:Hp):Prop:=match x with
 |.str _=>T="str"
 |.int _=>T="int"
 |.ref p=>(T="list"/\∃xs,dU K H p xs)\/(T="tuple"/\∃xs,iR K H p xs) \/
   (T="dict"/\((∃kvs,H p=some (.dK kvs))\/∃kvs,H p=some (.dT kvs)))\/(T="set"/\∃S n,H p=some (.set S n))
 |_=>False
theorem Ye{ak:List (Addr×Obj)}{Z:St}{H:Hp}{s:Shared}{T:String}{x:V}{v:Value}(I:Inv X ak Z H s)(r:RelV x v)(ty:IW X.K T x H) :
  s.TypeIs v T/\∀a,v=.ref a->∃ob,s.heap.get? a=some ob/\ob.dict=none:=by
 cases x with
 |str z=>
  obtain⟨t,rfl⟩:=r;cases (show T="str" from ty);exact⟨typeIs_str s z t,λ_ e=>nomatch e⟩
 |int i=>
  obtain⟨t,rfl⟩:=r;cases (show T="int" from ty);exact⟨typeIs_int s i t,λ_ e=>nomatch e⟩
 |ref p=>
  cases r;rcases ty with ⟨rfl,xs,hq⟩|⟨rfl,xs,hq⟩|⟨rfl,hk⟩|⟨rfl,S,n,hk⟩
  ·obtain⟨its,_,pl,_⟩:=I.list hq;refine⟨pl.isList.typeIs,λa e=>?_⟩;cases e;obtain⟨o,n,e,c,hd,_⟩:=pl;exact⟨o,e,hd⟩
  ·obtain⟨o,h1,h2,h3⟩:=I.Ia hq;refine⟨⟨o,h1,h2⟩,λa e=>?_⟩;cases e;exact⟨o,h1,h3⟩
  ·have z:∃o,s.heap.get? p=some o/\o.ExactDict:=by
    rcases hk with ⟨kvs,hk⟩|⟨kvs,hk⟩
    ·obtain⟨_,_,_,_,o,_,_,e,ex,_⟩:=I.hok p _ hk;exact⟨o,e,ex⟩
    ·obtain⟨_,_,_,_,o,_,_,e,ex,_⟩:=I.hok p _ hk;exact⟨o,e,ex⟩
   obtain⟨o,e,ex⟩:=z;refine⟨⟨o,e,ex.1⟩,λa e2=>?_⟩;cases e2;exact⟨o,e,ex.2.1⟩
  ·obtain⟨o,_,_,_,e,ex,_⟩:=I.hok p _ hk;refine⟨⟨o,e,ex.1⟩,λa e2=>?_⟩;cases e2;exact⟨o,e,ex.2.1⟩
 |_=>exact False.elim ty
noncomputable def Yg(K:W.Frag)(T:String)(r:V->List V->Hp->VK->Prop)(to:TE)(t:TA):TE:=λZ H Q=>to Z H λx H1=>IW K T x H1/\t Z H1 λxs H2=>r x xs H2 Q
variable {o e:Expr}{es:List Expr}{to:TE}{t:TA}{name:Str}{apos cpos:Pos}{T id:String}{r:V->List V->Hp->VK->Prop}
theorem Yh(pa:PlainAttrs T)(slot:Slot T name id)(I8:typeOf (.builtin id)=pure (.type "method_descriptor"))(hm:xZ X id r)(ho:PE X o to)(ha:PA X (e::es) t)
  (bO:attributeBase o name X.env (eval o X.env)=eval o X.env:=by rfl)
  (iz:((backTo cpos (starEach (e::es) X.env)).all (λx=>!x.1)&&(backToKw cpos (keywordEach [] X.env)).all (λx=>x.1.isSome)
  &&decide ((e::es).length+([]:List Keyword).length+(if ([]:List Keyword).isEmpty then 0 else 1)<30))=true:=by rfl)
  (dG:(apos.endLine==cpos.line)=true:=by rfl) (hs:starEach (e::es) X.env=(false,eval e X.env)::starEach es X.env:=by rfl) (bw:(backTo cpos (starEach es X.env)).any (·.1)=false:=by rfl) :
  PE X (.Call (.Attribute o name apos) (e::es) [] cpos) (Yg X.K T r to t):=by
 intro ak s Z H Q I h;refine wpAny_Call_method_late bO iz dG rfl (aP (ho ak s Z H _ I h) λv s1 hz=>?_);obtain⟨x,H1,I1,r1,ty,q1⟩:=hz;obtain⟨h1,h2⟩:=Ye I1 r1 ty;refine⟨T,id,pa,slot,I8,h1,h2,?_⟩;have hA:=ha cpos ak s1 Z H1 _ I1 q1;rw[hs] at hA ⊢;refine Calls.callWith_builtin (by show (false||(backTo cpos (starEach es X.env)).any (·.1))=false;rw[bw]<;>rfl) (G6 ?_);exact aP hA λus s2 hx=>dj hx λvs H2 I2 r2 q2=>hm ak s2 Z H2 x vs v us Q I2 r1 r2 q2
end
def Yi(X:Cx)(id:String)(r:V->List V->Hp->VK->Prop):Prop:=
 ∀(ak:List (Addr×Obj)) (s:Shared) (Z:St) (H:Hp) (x:V) (xs:List V) (v:Value) (us:List Value) (Q:VK),Inv X ak Z H s->RelV x v->Vals xs us->r x xs H Q->
  wpAny (model X.prog X.w) X.A (call (.builtin id) (v::us)) (EP X ak Z Q) X.xe s
theorem Vals.one{x:V}{us:List Value}(h:Vals [x] us):∃u,us=[u]/\RelV x u:=by
 cases h with
 |cons r t=>cases t;exact⟨_,rfl,r⟩
theorem Vals.two{x y:V}{us:List Value}(h:Vals [x,y] us):∃u v,us=[u,v]/\RelV x u/\RelV y v:=by
 cases h with
 |cons r t=>
  obtain⟨v,rfl,q⟩:=Vals.one t;exact⟨_,_,rfl,r,q⟩
section
variable {X:Cx}{ak:List (Addr×Obj)}{Z:St}{H:Hp}{s:Shared}{l b:Addr}{xs ys zs:List V}
theorem Inv.I9{its its':List Value}{n:Nat}{f:Array Value->Array Value}{t':Nat}(I:Inv X ak Z H s)(hH:H l=some (.lst xs))
  (e:s.heap.get? l=some {cls:=.type "list",data:=.seq its.toArray n}) (hf:f its.toArray=its'.toArray) (hv:Vals ys its') (hz:ys.length<=sizeLine) :
  Inv X ak Z (upd H l (.lst ys)) {s with heap:=s.heap.update l (Obj.mapSeq f),toks:=t'}:=by
 have q:=PySem.IsL.update e f;rw[hf] at q;refine I.write (x:=l) (e:=l) (by rw[hH];exact trivial) (.inl rfl) (λb' u hb hu=>(xK s.heap (Obj.mapSeq f) (Ne.symm hb)).trans hu) ⟨_,q⟩ ?_;exact⟨hz,its',_,hv,q⟩
theorem Inv.I_{its:List Value}{t':Nat}(I:Inv X ak Z H s)(hv:Vals ys its)(hz:ys.length<=sizeLine) :
  Inv X ak Z (upd H s.heap.objs.size (.lst ys)) {s with heap:=s.heap.push {cls:=.type "list",data:=.seq its.toArray},toks:=t'}:=
 I.laid (λ_ _ q=>cX _ q) (bY _) ⟨hz,its,0,hv,ji _ rfl⟩
theorem Inv.fresh(I:Inv X ak Z H s):H s.heap.objs.size=none:=I.hok.fresh (bY _)
theorem Inv.Ja(I:Inv X ak Z H s)(hH:H l=some (.lst xs)):xs.length<=sizeLine/\∃(its:List Value) (n:Nat),Vals xs its/\xs.length=its.length/\s.heap.get? l=some {cls:=.type "list",data:=.seq its.toArray n}:=by
 obtain⟨z,its,n,r,e⟩:=I.hok l _ hH;exact⟨z,its,n,r,r.length,e⟩
end
section
variable {X:Cx}
noncomputable def rP:V->List V->Hp->VK->Prop:=λx vs H Q=>∃l xs y,x=.ref l/\vs=[y]/\H l=some (.lst xs)/\xs.length<sizeLine/\Q .non (upd H l (.lst (xs++[y])))
theorem Yj:Yi X "list.append" rP:=by
 intro ak s Z H x vs v us Q I rx rv h;obtain⟨l,xs,y,rfl,rfl,hH,hz,q⟩:=h;cases rx;obtain⟨u,rfl,ru⟩:=rv.one;obtain⟨z,its,n,r,hl,e⟩:=I.Ja hH;refine uY F.slot_list_append ⟨_,e,rfl⟩ F.entry_list_append (F.args_list_append_2 _ _) (PySem.list_append l its.toArray n u (by rw[fW];lia)) ⟨e,?_⟩;refine⟨.non,_,I.I9 (its':=its++[u]) hH e MP (r.append (.cons ru .nil)) ?_,rfl,q⟩;rw[jt,List.length_singleton]
 lia
end
section
variable {prog:Program}{w:World}{A:Around}{E:Value->Shared->Prop}{s:Shared}
set_option maxRecDepth 100000 in
end
end L2
namespace Qe
open PySem PySem.W PySem.Calls PyProof.Rows
theorem Yk{P:Params}{h:Heap}:∀(ns:List Int) (vs:List Value),WellAll P h vs (ns.map WData.int)->IntsAre vs ns:=by
 intro ns
 induction ns with
 |nil=>
  intro vs w;rw[List.map_nil] at w;cases w;exact .nil
 |cons n ns ih=>
  intro vs w;rw[nG] at w;cases w with
  |cons a b=>
   cases a;exact .cons _ _ (ih _ b)
theorem Yl{l:OpenLaw}{n:Nat}(hn:l.most=some n){P:Params}{h:Heap}{args:List WData}{vals:List Value}
  (hpre:l.row.toRowW.claim.pre args=true) (Jc:WellAll P h vals args) :
  ∃a vs ns,vals=[Value.ref a]/\args=[WData.list (ns.map WData.int)]/\h.get? a=some {cls:=.type "list",data:=.seq vs.toArray}/\IntsAre vs ns/\ns.length<=n:=by
 have Ym:WShape.hasAll [] args [.list .int]=true:=(pre_splitW hpre).1;have hc:l.pre.holds [] {args:=args}=true:=(pre_splitW hpre).2;obtain⟨d,r,rfl,h1,h2⟩:=hasAllW_cons Ym;obtain rfl:=hasAllW_nil h2;obtain⟨xs,rfl,h3⟩:=hasW_list h1;obtain⟨ns,rfl⟩:=items_int h3;have hlen:ns.length<=n:=by
  unfold OpenLaw.pre at hc;have h4:(WTm.not (.lt (.lit (.int (n:Int))) (.len (.arg 0)))).holds [] {args:=[.list (ns.map .int)]}=true:=by
   have h4:=(holds_andW hc).1;rw[hn] at h4;exact h4
  have h5:=condW_of h4 (w_not (w_lt w_lit (w_len_list (w_arg rfl))));rw[n6] at h5;refine yS λq=>?_;have q':(n:Int)<((ns.length:Nat):Int):=by lia
  first
   |(rw[dY q'] at h5;exact absurd h5 J0)
   |(simp at h5;lia)
 cases Jc with
 |cons w1 w2=>
  cases w2;cases w1 with
  |list ho vM=>exact⟨_,_,ns,rfl,rfl,ho,Yk ns _ vM,hlen⟩
theorem Yn(l:OpenLaw)(args:List WData):l.row.toRowW.claim.post args (.bool true) args=true:=
 postW_of (r:=l.row.toRowW) (X:=(true==true))
  (show WShape.has [] (.bool true) .bool=true by first|rfl|decide|simp[WShape.has,WShape.arms,WShape.armsAll])
  (show (WTm.eq .res (.lit (.bool true))).value [] {args:=args,res:=some (.bool true),after:=args}=some (.bool (true==true)) from w_eq_bool (w_res rfl) w_lit) rfl
theorem jV{l:OpenLaw}{n:Nat}{q:Program}{loose:List Str}{XP:(Str->Option Value)->Heap->Prop}{YP:World->Heap->Prop}{d:DefRec}
  (hn:l.most=some n) (Jd:d.params.defaults=[])
  (call:∀(w:World) (s₀ s₁:Shared) (mg mb:Str->Option Value) (fa:Addr) (o:Obj) (pm cd doc:Value) (a:Addr) (vs:List Value) (ns:List Int),
   Ground q loose [] XP w s₀ mg mb s₁.heap->YP w s₁.heap->
   s₁.heap.get? fa=some o->o.data=.func (docDef d.name d.params d.body d.scope pm cd doc)->s₁.heap.CodeRec cd d.name->mg d.name=some (.ref fa)->
   s₁.heap.get? a=some {cls:=.type "list",data:=.seq vs.toArray}->IntsAre vs ns->ns.length<=n->s₁.gens=#[]->
   codeAny (model l.prog w) callerA (.call (.ref fa) ⟨[.ref a],[]⟩) (λr s'=>r=.ok (.ret (.bool true))/\OldK s₁.heap s'.heap/\s'.os=s₁.os/\AllBare s'.gens) s₁) :
  WalkO q loose XP YP l.row.toRowW d [] (λf vs=>PySem.call f vs):=by
 intro w s₀ s₁ mg mb G Y fa o pm cd doc dV kV ho hd jQ hD hmg hg args vals as hpre Yo hrd Jc hlo;obtain rfl:dV=.none:=Dflts.none hD Jd;obtain rfl:kV=.none:=Dflts.noKw hD;obtain⟨a,vs,ns,rfl,rfl,vN,hints,hlen⟩:=Yl hn hpre Jc;refine enter_call (codeAny_mono (call w s₀ s₁ mg mb fa o pm cd doc a vs ns G Y ho (fd_plain hd) jQ hmg vN hints hlen hg) λr s' hq=>?_);obtain⟨rfl,h2,h3,h4⟩:=hq;exact⟨.inl ⟨.bool true,.bool true,[],rfl,λ_=>rfl,.bool true,Yn l _,λ_=>⟨List.Pairwise.nil,λ_ hm=>(nomatch hm)⟩⟩,h2,h3,h4⟩
end Qe
namespace L2
open PySem PySem.Spec PyProof.Rows
theorem Qf:∀{vs:List Value} {ns:List Int},IntsAre vs ns->Vals (ns.map V.int) vs
 |_,_,.nil=>.nil
 |_,_,.cons n t h=>.cons ⟨t,rfl⟩ (Qf h)
def Only(H:Hp):Prop:=∀b,H b=none\/∃o xs,H b=some (.oE o (.lst xs))
theorem Yp{P:Program}{w:World}{K:W.Frag}{mg mb:Str->Option Value}{CX:nM}{k:Nat}{fa a:Addr}{fd:FuncData}{x:Str}{sp:Sp}{s₁:Shared}{vs:List Value}{ns:List Int}
  (KX:K.In s₁.heap) (Ae:s₁.heap.Ns mainGlobals mg) (hb:s₁.heap.Ns builtinsNs mb) (Yq:∀x:Str,x≠"__name__"->mb x=bootBuiltins x) (Je:s₁.heap.NoLimit) (hg:s₁.gens=#[])
  (ha:s₁.heap.get? a=some {cls:=.type "list",data:=.seq vs.toArray}) (hi:IntsAre vs ns) (hl:ns.length<=sizeLine) (hr:bI k callerA)
  (F:∀base:Heap,K.In base->base.Ns mainGlobals mg->dw P w K mg base CX true k fa fd [x] sp) (oV:∀(s:Shared) (u:Value),BindsTo s fd ⟨[u],[]⟩ [(x,u)])
  (Ew:∀H:Hp,Only H->dU K H a (ns.map V.int)->sp [.ref a] H (λv _=>v=.bl true) λ_ _ _=>False)
  (Yr:∀H e s',CX [] H s₁ (λ_ _ _=>False) e s'->False) :
  codeAny (model P w) callerA (.call (.ref fa) ⟨[.ref a],[]⟩) (λr s'=>r=.ok (.ret (.bool true))/\OldK s₁.heap s'.heap/\s'.os=s₁.os/\AllBare s'.gens) s₁:=by
 have rv:=Qf hi;have lenV:=hi.length;have core:∀H:Hp,Only H->dU K H a (ns.map V.int)->eN P w H s₁.heap->(∀b,H b≠none->b=a)->(H a≠none->K.lookup a=none)->
   codeAny (model P w) callerA (.call (.ref fa) ⟨[.ref a],[]⟩) (λr s'=>r=.ok (.ret (.bool true))/\OldK s₁.heap s'.heap/\s'.os=s₁.os/\AllBare s'.gens) s₁:=by
  intro H hO hS hok hA hK;have lY:∀{b:Addr} {o:Obj},s₁.heap.get? b=some o->H b=none->(jA s₁.heap H).get? b=some o:=λe n=>V5 e n;have zT:∀{b:Addr} {o:Obj} {es:Array DictEntry} {ep:Nat},s₁.heap.get? b=some o->o.data=.dict es ep->H b=none:=λ{b o es ep} e d=>by
   cases q:H b with
   |none=>rfl
   |some u=>
    have e':b=a:=hA b (by rw[q];simp);subst e';rw[ha] at e;cases e;have d':Data.seq vs.toArray _=Data.dict es ep:=d;cases d'
  have EY:∀{b:Addr} {m:Str->Option Value},s₁.heap.Ns b m->(jA s₁.heap H).Ns b m:=λ{b m} ⟨o,es,ep,e,d,r⟩=>⟨o,es,ep,lY e (zT e d),d,r⟩;have Qg:K.In (jA s₁.heap H):=λb o e=>lY (KX b o e) (by
   cases q:H b with
   |none=>rfl
   |some u=>
    have e':b=a:=hA b (by rw[q];simp);subst e';rw[hK (by rw[q];simp)] at e;cases e)
  have hM:Mod K mg (jA s₁.heap H):=⟨Qg,EY Ae,⟨mb,EY hb,Yq⟩,let ⟨mc,h1,h2⟩:=Je;⟨mc,EY h1,h2⟩⟩;have e0:rH P w K mg (jA s₁.heap H) callerA [] s₁ H:=⟨rfl,hM,λb o e=>V6 e,Nat.le_of_eq (V4 _ _),trivial,λb hb=>absurd (show b∈([]:List Addr) from hb) MP,hok,.of_eq hg⟩;refine codeAny_mono ((F _ Qg (EY Ae)).run callerA [] s₁ H ⟨[.ref a],[]⟩ [.ref a] [.ref a] _ _ (λ_=>rfl) hr e0 (oV s₁ (.ref a)) (.cons rfl .nil) (Ew H hO hS)) λr s' h=>?_;cases r with
  |error e=>exact(Yr H e s' h).elim
  |ok fl=>
   cases fl with
   |next=>exact False.elim h
   |brk=>exact False.elim h
   |cont=>exact False.elim h
   |ret u=>
    obtain⟨v,H',os,bare,un,Jf,r',q⟩:=h;have q':v=.bl true:=q;subst q';obtain rfl:u=Value.bool true:=r';refine⟨rfl,OldK.of_keep λb o e=>?_,os,bare⟩;cases q:H b with
    |none=>exact un.keep b o e q (by intro z;exact absurd (show b∈([]:List Addr) from z) MP) MP
    |some u=>
     rcases hO b with z|⟨ob,xs,z⟩
     ·rw[q] at z;cases z
     ·have z2:=un.gC b ob _ z;obtain⟨e1,_⟩:=hok b _ z;obtain⟨e2,_⟩:=Jf b _ z2;rw[e] at e1;cases e1;exact e2
 cases hk:K.lookup a with
 |some o=>
  have e:=KX a o hk;rw[ha] at e;cases e;refine core (λ_=>none) (λ_=>.inl rfl) (.inr ⟨_,vs.toArray,_,hk,rfl,rfl,rfl,by rw[fW,lenV];exact hl,by simpa using rv⟩) (λb u z=>by have z':(none:Option HO)=some u:=z;cases z') (λb z=>absurd rfl z) λz=>absurd rfl z
 |none=>
  refine core (λb=>if b=a then some (.oE {cls:=.type "list",data:=.seq vs.toArray} (.lst (ns.map V.int))) else none) (λb=>?_) (.inl (.inr ⟨{cls:=.type "list",data:=.seq vs.toArray},if_pos rfl⟩)) (λb u z=>?_) (λb z=>?_) λ_=>hk
  ·by_cases hb:b=a
   ·exact .inr ⟨_,_,if_pos hb⟩
   ·exact .inl (if_neg hb)
  ·by_cases hb:b=a
   ·have z':=(if_pos hb).symm.trans z;cases z';subst hb;exact⟨ha,by rw[n6];exact hl,vs,_,rv,ha⟩
   ·have z':=(if_neg hb).symm.trans z;cases z'
  ·by_cases hb:b=a
   ·exact hb
   ·exact absurd (if_neg hb) z
def Jg(h0:Heap)(H:Hp)(h:Heap)(e:Addr)(hd:Value):Prop:=
 hd=.none\/∃T oT ts,hd=.ref T/\h0.get? T=none/\H T=none/\T≠e/\h.get? T=some oT/\oT.data=.fields ts/\ts[3]?=some .none
structure Exc(h0:Heap)(H:Hp)(h:Heap)(e C:Addr)(dx:Option Addr):Prop where
 new:h0.get? e=none
 un:H e=none
 ob:∃oe vs hd,h.get? e=some oe/\oe.cls=.ref C/\oe.dict=dx/\oe.data=.fields vs/\vs[1]?=some hd/\Jg h0 H h e hd
structure Af(h0:Heap)(H:Hp)(fr:List Addr)(h h':Heap)(ch:List Addr):Prop where
 rec_:∀b∈ch,h0.get? b=none/\H b=none/\∃o vs,h.get? b=some o/\o.data=.fields vs
 keep:∀b o,h.get? b=some o->b∉fr->b∉ch->h'.get? b=some o
 slot:∀b o,h.get? b=some o->b∈fr->∃sl,h'.get? b=some {o with slots:=sl}
 there:∀b o,h.get? b=some o->∃o',h'.get? b=some o'
noncomputable def oW(head:Value)(L:Addr)(pl:List Value):Obj:=
 {cls:=.type "traceback",dict:=none,data:=.fields ([head,.ref L,.none,rawInt L,.none]++(if pl.isEmpty then List.replicate 6 Value.none else pl)).toArray}
theorem Qh(o:Obj)(f:Array Value->Array Value):(o.mapFields f).dict=o.dict:=by
 obtain⟨c,d,dt,sl⟩:=o;cases dt<;>rfl
theorem Qi(o:Obj)(f:Array Value->Array Value):(o.mapFields f).cls=o.cls:=by
 obtain⟨c,d,dt,sl⟩:=o;cases dt<;>rfl
section
variable {M:Model}{A:Around}{E:Value->Shared->Prop}{s:Shared}{base h0:Heap}{env:Env}{outer:List Env}{L e C:Addr}{dx:Option Addr}{H:Hp}{Q:Unit->Shared->Prop}
theorem Qj(hfr:A.frames=some (env::outer))(hl:s.heap.FunFrames base (env::outer))(hf:env.frame=some L)
  (he:s.heap.get? e=some oe) (hd:oe.data=.fields vs) (nO:1<vs.size)
  (k:∀h' T oT ts,s.heap.objs.size<=T->(∀b o,s.heap.get? b=some o->b∉frs (env::outer)->b≠e->h'.get? b=some o)->(∀b o,s.heap.get? b=some o->b∈frs (env::outer)->∃sl,h'.get? b=some {o with slots:=sl})->
   h'.get? e=some (oe.mapFields (·.setIfInBounds 1 (.ref T)))->h'.get? T=some oT->oT.data=.fields ts->3<ts.size->ts[3]?=some (rawInt L)->Q () {s with heap:=h'}) :
  wpAny M A (do let a <-frameOf env;let pl <-entryPlaceOf L hn;let b <-EntryCells.newEntry head a .none (rawInt L) .none pl;setField (.ref e) 1 b) Q E s:=by
 have Ag:e∉frs (env::outer):=λhm=>by
  obtain⟨_,o,ho,hx⟩:=hl.mem hm;rw[he] at ho;cases ho;exact hx vs hd
 refine aG (wpAny_frameOf_fun hfr hl hf λh₁ sl₁=>?_);refine aG (wpAny_entryPlaceOf λpl bW=>?_);unfold EntryCells.newEntry newFields;refine aG (xO ?_ (bW.sizeOk5 _ _ _ _ _));have e1:h₁.get? e=some oe:=(sl₁.2.1 e Ag).trans he;have e2:(h₁.push (oW head L pl)).get? e=some oe:=cX _ e1;refine wpAny_setField e2 hd nO ?_;have ne:h₁.objs.size≠e:=Nat.ne_of_gt (cg e1);have d3:=uP hd (·.setIfInBounds 1 (Value.ref h₁.objs.size));have kp:∀b o,h₁.get? b=some o->b≠e->((h₁.push (oW head L pl)).update e (Obj.mapFields (·.setIfInBounds 1 (Value.ref h₁.objs.size)))).get? b=some o:=λb o q n=>by
  rw[xK _ _ n.symm];exact cX _ q
 refine k _ h₁.objs.size (oW head L pl) _ (by rw[sl₁.1];exact bY _) (λb o q n1 n2=>kp b o ((sl₁.2.1 b n1).trans q) n2) (λb o q m=>?_) (yM _ e2 (G3 d3)) ?_ rfl ?_ ?_
 ·obtain⟨sl,z⟩:=sl₁.2.2 b o q;exact⟨sl,kp b _ z λy=>Ag (y▸m)⟩
 ·rw[xK _ _ ne.symm];exact ji _ rfl
 ·simp only[fW,jt,gJ,tV]<;>lia
 ·first
   |(simp;done)
   |(rcases bW with rfl|⟨_,_,_,_,_,_,_,rfl⟩<;>simp)
theorem Ys(hfr:A.frames=some (env::outer))(hl:s.heap.FunFrames base (env::outer))(hf:env.frame=some L)(x:Exc h0 H s.heap e C dx)
  (k:∀h' T oT oe ts vs ch,Af h0 H (frs (env::outer)) s.heap h' ch->s.heap.objs.size<=T->h'.get? e=some oe->oe.cls=.ref C->oe.dict=dx->oe.data=.fields vs->vs[1]?=some (.ref T)->h'.get? T=some oT->oT.data=.fields ts->
   3<ts.size->ts[3]?=some (rawInt L)->Q () {s with heap:=h'}):wpAny M A (noteFrame (.ref e) env) Q E s:=by
 obtain⟨oe,vs,hd,he,hc,ud,lZ,h1,tb⟩:=x.ob;have nO:1<vs.size:=(xJ.mp h1).1;have Ag:∀b o ws,s.heap.get? b=some o->o.data=.fields ws->b∉frs (env::outer):=λb o ws q d hm=>by
  obtain⟨_,o',ho,hx⟩:=hl.mem hm;rw[q] at ho;cases ho;exact hx ws d
 unfold noteFrame;simp only[hf];refine aG (uW he lZ h1 ?_);rcases tb with rfl|⟨T,oT,ts,rfl,nT,uT,neT,gT,dT,h3⟩
 ·rw[if_neg J0];refine Qj hfr hl hf he lZ nO λh' T oT ts lt kp sl ge gT dT z3 z4=>?_;refine k h' T oT _ ts _ [e] ⟨λb hb=>?_,λb o q n1 n2=>kp b o q n1 λz=>n2 (by rw[z];exact .head _),sl,λb o q=>?_⟩ lt ge ((Qi _ _).trans hc) ((Qh _ _).trans ud) (uP lZ _) (by simp[nO]) gT dT z3 z4
  ·obtain rfl:b=e:=by simpa using hb
   exact⟨x.new,x.un,oe,vs,he,lZ⟩
  ·by_cases z:b=e
   ·subst z;exact⟨_,ge⟩
   ·by_cases m:b∈frs (env::outer)
    ·obtain⟨w,q'⟩:=sl b o q m;exact⟨_,q'⟩
    ·exact⟨o,kp b o q m z⟩
 ·rw[if_pos (show (Value.ref T != Value.none)=true from by simp)];refine aG (uW gT dT h3 ?_);rw[if_neg (show ¬((Value.none==rawInt L)=true) from by simp[rawInt])];have z3:3<ts.size:=(xJ.mp h3).1;refine aG (wpAny_setField gT dT z3 ?_);have oth:∀b,b≠T->(s.heap.update T (Obj.mapFields (·.setIfInBounds 3 Value.none))).get? b=s.heap.get? b:=λb n=>xK _ _ n.symm;have Yt:(s.heap.update T (Obj.mapFields (·.setIfInBounds 3 Value.none))).FunFrames base (env::outer):=hl.of_keeps λb o q nd=>⟨o,(oth b λz=>by subst z;rw[gT] at q;cases q;exact nd ts dT).trans q,rfl⟩;have sT:(s.heap.update T (Obj.mapFields (·.setIfInBounds 3 Value.none))).get? T=some (oT.mapFields (·.setIfInBounds 3 Value.none)):=yM _ gT (G3 (uP dT _));refine Qj hfr Yt hf ((oth e neT.symm).trans he) lZ nO λh' T' oT' ts' lt kp sl ge Yu Yv Yw Yx=>?_;have lt':s.heap.objs.size<=T':=by
   have:=lt;simp only[Heap.size_after_update] at this;exact this
  refine k h' T' oT' _ ts' _ [e,T] ⟨λb hb=>?_,λb o q n1 n2=>kp b o ((oth b λz=>n2 (by simp[z])).trans q) n1 λz=>n2 (by simp[z]),λb o q m=>?_,λb o q=>?_⟩ lt' ge ((Qi _ _).trans hc) ((Qh _ _).trans ud) (uP lZ _) (by simp[nO]) Yu Yv Yw Yx
  ·have hb':b=e\/b=T:=by simpa using hb
   rcases hb' with rfl|rfl
   ·exact⟨x.new,x.un,oe,vs,he,lZ⟩
   ·exact⟨nT,uT,oT,ts,gT,dT⟩
  ·exact sl b o ((oth b λz=>by subst z;exact Ag b o ts q (by rw[gT] at q;cases q;exact dT) m).trans q) m
  ·by_cases z:b=e
   ·subst z;exact⟨_,ge⟩
   ·by_cases y:b=T
    ·subst y;exact⟨_,kp b _ sT (Ag b oT ts gT dT) z⟩
    ·by_cases m:b∈frs (env::outer)
     ·obtain⟨w,q'⟩:=sl b o ((oth b y).trans q) m;exact⟨_,q'⟩
     ·exact⟨o,kp b o ((oth b y).trans q) m z⟩
theorem Qk(he:s.heap.get? e=some oe)(hd:oe.data=.fields vs)(h1:vs[1]?=some (.ref T))(gT:s.heap.get? T=some oT)(dT:oT.data=.fields ts)(z3:3<ts.size)
  (k:∀h',(∀b o,b≠T->s.heap.get? b=some o->h'.get? b=some o)->h'.get? T=some (oT.mapFields (·.setIfInBounds 3 Value.none))->Q () {s with heap:=h'}):wpAny M A (setFlight (.ref e) none) Q E s:=by
 unfold setFlight;refine aG (uW he hd h1 ?_);rw[if_pos (show (Value.ref T != Value.none)=true from by simp)];exact wpAny_setField gT dT z3 (k _ (λb o n q=>(xK _ _ n.symm).trans q) (yM _ gT (G3 (uP dT _))))
theorem Ql(hfr:A.frames=some (env::outer))(hl:s.heap.FunFrames base (env::outer))(hf:env.frame=some L)(x:Exc h0 H s.heap e C dx)
  (lV:∀b,s.heap.objs.size<=b->H b=none) (Yy:∀b o,h0.get? b=some o->∃o',s.heap.get? b=some o')
  (k:∀h' ch,Af h0 H (frs (env::outer)) s.heap h' ch->Exc h0 H h' e C dx->Q () {s with heap:=h'}) :
  wpAny M A (noteFrame (.ref e) env) (λ_ s₁=>wpAny M A (setFlight (.ref e) none) Q E s₁) E s:=by
 have Yz:∃o,s.heap.get? e=some o:=let ⟨oe,_,_,he,_⟩:=x.ob;⟨oe,he⟩;refine Ys hfr hl hf x λh' T oT oe ts vs ch t lt ge hc ud lZ h1 gT dT z3 z4=>?_;have neT:T≠e:=λz=>by
  obtain⟨o,q⟩:=Yz;exact absurd (gw (cg q) (z▸lt)) (mU _)
 refine Qk (s:={s with heap:=h'}) ge lZ h1 gT dT z3 λh2 kp YB=>?_;have nT:∀b o,s.heap.get? b=some o->b≠T:=λb o q z=>absurd (gw (cg q) (z▸lt)) (mU _);refine k h2 ch ⟨t.rec_,λb o q n1 n2=>kp b o (nT b o q) (t.keep b o q n1 n2),λb o q m=>?_,λb o q=>?_⟩ ⟨x.new,x.un,oe,vs,.ref T,kp e oe neT.symm ge,hc,ud,lZ,h1,.inr ⟨T,_,_,rfl,?_,lV T lt,neT,YB,uP dT _,by simp[z3]⟩⟩
 ·obtain⟨sl,q'⟩:=t.slot b o q m;exact⟨sl,kp b _ (nT b o q) q'⟩
 ·obtain⟨o',q'⟩:=t.there b o q;exact⟨o',kp b o' (nT b o q) q'⟩
 ·cases z:h0.get? T with
  |none=>rfl
  |some o=>
   obtain⟨o',q⟩:=Yy T o z;exact absurd rfl (nT T o' q)
end
noncomputable abbrev XS:=St->Value->Option Addr->Hp->Prop
def Sub(h0 h:Heap):Prop:=∀b o,h0.get? b=some o->∃o',h.get? b=some o'
theorem Sub.none{h0 h:Heap}(x:Sub h0 h){b:Addr}(e:h.get? b=none):h0.get? b=none:=by
 cases q:h0.get? b with
 |none=>rfl
 |some o=>
  obtain⟨o',z⟩:=x b o q;rw[e] at z;cases z
theorem Exc.older{h0 h1:Heap}{H:Hp}{h:Heap}{e C:Addr}{dx:Option Addr}(x:Exc h1 H h e C dx)(y:Sub h0 h1):Exc h0 H h e C dx:=by
 obtain⟨oe,vs,hd,a,b,c,d,f,tb⟩:=x.ob;refine⟨y.none x.new,x.un,oe,vs,hd,a,b,c,d,f,?_⟩;rcases tb with z|⟨T,oT,ts,z1,z2,z3⟩
 ·exact .inl z
 ·exact .inr ⟨T,oT,ts,z1,y.none z2,z3⟩
section
variable {X:Cx}{ak:List (Addr×Obj)}{Z:St}{H:Hp}{s:Shared}{h0 h':Heap}{ch fr:List Addr}
theorem eN.Ah{P:Program}{w:World}{h:Heap}(x:eN P w H h)(t:Af h0 H fr h h' ch)(hf:∀b∈fr,H b=none):eN P w H h':=λa o e=>by
 have st:∀b u,(b=a\/H b=some (.own a))->h.get? b=some u->h'.get? b=some u:=λb u z q=>by
  have nb:H b≠none:=by
   rcases z with z|z
   ·rw[z,e];simp
   ·rw[z];simp
  exact t.keep b u q (λm=>nb (hf b m)) λm=>nb (t.rec_ b m).2.1
 exact(x a o e).stay st (λ_ z=>z) λ_ _ z=>z
theorem Inv.Ah(I:Inv X ak Z H s)(t:Af h0 H (frs X.stack) s.heap h' ch)(hs:∀b o,X.s₀.heap.get? b=some o->b∉X.ex->∃o',h0.get? b=some o')(hp:∀p∈X.pn++ak,∃o,h0.get? p.1=some o):Inv X ak Z H {s with heap:=h'}:=by
 refine I.call (g':=s.gens) (d':=s.drawn) (t':=s.toks) (ch:=ch) ⟨λb o q _ n1 n2=>t.keep b o q n1 n2,λb o q _ m _=>t.slot b o q m,λ_ _ _ n _=>n,λb o q _=>t.there b o q,λ_ _ q=>q,λ_ _ _ q=>q,λ_ ps q=>⟨#[],by rw[q];simp⟩⟩ (I.hok.Ah t I.gM) I.bare λb hb=>?_;obtain⟨n0,_,o,vs,q,d⟩:=t.rec_ b hb;refine⟨?_,λz=>?_,λx c e z=>?_,λp hq z=>?_⟩
 ·by_cases m:b∈X.ex
  ·exact .inl m
  ·refine .inr ?_;cases z:X.s₀.heap.get? b with
   |none=>rfl
   |some u=>
    obtain⟨o',z'⟩:=hs b u z m;rw[n0] at z';cases z'
 ·subst z;obtain⟨m,⟨ol,es,ep,e1,e2,_⟩,_⟩:=I.loc;rw[q] at e1;cases e1;rw[d] at e2;cases e2
 ·subst z;obtain⟨v,oc,e1,e2⟩:=I.cell x c e;rw[q] at e1;cases e1;rw[d] at e2;cases e2
 ·obtain⟨u,e1⟩:=hp p hq;rw[z,n0] at e1;cases e1
end
def Raises(X:Cx)(EX:XS):Prop:=
 ∀(ak:List (Addr×Obj)) (Z:St) (H:Hp) (s:Shared) (h0:Heap) (e C:Addr) (dx:Option Addr),Inv X ak Z H s->(∀b o,X.s₀.heap.get? b=some o->b∉X.ex->∃o',h0.get? b=some o')->
  (∀p∈X.pn++ak,∃o,h0.get? p.1=some o)->Sub h0 s.heap->Exc h0 H s.heap e C dx->EX Z (.ref C) dx H->X.xe (.ref e) s
noncomputable def je(P:Program)(w:World):nM:=λouter H s E e s'=>
 ∃(a C:Addr) (dx:Option Addr) (H':Hp),e=.ref a/\s'.os=s.os/\AllBare s'.gens/\Un (frs outer) [] H H' s.heap s'.heap/\eN P w H' s'.heap/\Exc s.heap H' s'.heap a C dx/\E (.ref C) dx H'
theorem YC{P:Program}{w:World}{K:W.Frag}{mg:Str->Option Value}{base:Heap}{N:List Str}{qual:Str}{scope:Scope}{f:Addr}{cd:Value}{A:Around}{outer:List Env}{s:Shared}{H:Hp}{E:XK}{cm:Bool} :
  Raises (fL (je P w) P w K mg base N qual scope f cd A outer s H E cm) (λ_ C dx H'=>E C dx H'):=by
 intro ak Z H1 s1 h0 e C dx I hs hp YD x ex;have I0:Inv (fL (je P w) P w K mg base N qual scope f cd A outer s H E cm) [] Z H1 s1:=I.jC λp z=>absurd z MP;show wpAny (model P w) (A.deeper (envOfC qual scope s.heap.objs.size f cd)) (leaving (envOfC qual scope s.heap.objs.size f cd) (.ref e)) _ _ s1;unfold leaving;have m7:Sub s.heap h0:=λb o q=>hs b o q (by show b∉([]:List Addr);simp);refine aG (Ql (base:=base) (outer:=outer) (L:=s.heap.objs.size) I0.ok.frames I0.stack rfl x (λb z=>I0.hok.fresh z) YD λh' ch t x'=>?_);have fin:∀b o,s.heap.get? b=some o->b∉ch:=λb o q m=>by
  have z:=m7.none (t.rec_ b m).1;rw[q] at z;cases z
 have nL:∀b o,s.heap.get? b=some o->b∉frs outer->b∉frs (envOfC qual scope s.heap.objs.size f cd::outer):=λb o q n m=>by
  have m':b∈s.heap.objs.size::frs outer:=m;rcases iQ.mp m' with z|z
  ·exact absurd (cg q) (by rw[z];exact mU _)
  ·exact n z
 refine⟨e,C,dx,H1,rfl,I0.os,I0.bare,⟨λb o q n hb _=>?_,λb o q n hb _=>?_,λb o q n _=>I0.base.free b o q n (by show b∉([]:List Addr);simp),λb o q _=>?_,I0.base.tups,I0.base.gC,I0.base.g8⟩,I0.hok.Ah t I0.gM,x'.older m7,ex⟩
 ·exact t.keep b o (I0.base.keep b o q n hb (by show b∉([]:List Addr);simp)) (nL b o q hb) (fin b o q)
 ·obtain⟨sl,q1⟩:=I0.base.slot b o q n hb (by show b∉([]:List Addr);simp);obtain⟨sl',q2⟩:=t.slot b _ q1 (show b∈s.heap.objs.size::frs outer from fV _ hb);exact⟨sl',q2⟩
 ·obtain⟨o',q1⟩:=I0.base.there b o q (by show b∉([]:List Addr);simp);exact t.there b o' q1
section
variable {X:Cx}{cm:Bool}{k:Nat}{f C:Addr}{fd:FuncData}{ps:List Str}{sp:Sp}{EX:XS}{x m:Str}{p pos apos:Pos}{e o:Expr}{es:List Expr}{ta:TE}{t:TA}
theorem Raises.pass(R:Raises X EX)(I:Inv X ak Z H s)(h:je X.prog X.w X.stack H s (EX Z) v s'):X.xe v s':=by
 obtain⟨a,C,dx,H',rfl,os,bare,un,hok,x,q⟩:=h;have ao:Sub s.heap s'.heap:=λb o z=>un.there b o z MP;refine R ak Z H' s' s.heap a C dx (I.call' os un hok bare λb z=>absurd z MP) (λb o z n=>I.base.there b o z n) (λp hp=>?_) ao x q;exact⟨p.2,(I.pin p hp).1⟩
noncomputable def vO(sp:Sp)(EX:XS)(t:TA):TE:=λZ H Q=>t Z H λvs H1=>sp vs H1 Q (EX Z)
theorem YF(F:dw X.prog X.w X.K X.mg X.base (je X.prog X.w) cm k f fd ps sp)(m5:cm=true->X.aj=true)(hr:bI k X.A)(hb:Binds X.K fd ps [])(R:Raises X EX)
  (I:Inv X ak Z H s) (r:Vals vs us) (h:sp vs H Q (EX Z)):wpAny (model X.prog X.w) X.A (call (.ref f) us) (EP X ak Z Q) X.xe s:=by
 have hl:us.length=ps.length:=by rw[<-r.length];exact F.len _ _ _ _ h
 have hb':=hb s us I.mY (by rw[uU];exact hl);rw[uU] at hb';refine uZ (codeAny_mono (F.run X.A X.stack s H ⟨us,[]⟩ us vs Q (EX Z) (λz=>I.ok.hd (m5 z)) hr I.env0 hb' r h) λr s' hq=>?_);cases r with
 |error v=>exact R.pass I hq
 |ok fl=>
  cases fl with
  |ret u=>exact I.after hq
  |next=>exact False.elim hq
  |brk=>exact False.elim hq
  |cont=>exact False.elim hq
theorem YG(F:dw X.prog X.w X.K X.mg X.base (je X.prog X.w) cm k f fd ps sp)(m5:cm=true->X.aj=true)(hr:bI k X.A)(hg:Gl X x)(hm:X.mg x=some (.ref f))(hk:PySem.W.keepIn X.K (.ref f)=true)(hb:Binds X.K fd ps [])(R:Raises X EX)
  (ha:PA X (e::es) t) (iw:(x==("__debug__" : Str))=false:=by decide) (he:starEach (e::es) X.env=(false,eval e X.env)::starEach es X.env:=by rfl) (bW:(backTo pos (starEach es X.env)).any (·.1)=false:=by rfl) :
  PE X (.Call (.Name x p) (e::es) [] pos) (vO sp EX t):=by
 intro ak s Z H Q I h;refine wpAny_Call_Name_kw (zy I hg hm ?_ iw);exact PySem.W.callWith_K (h₀:=X.base) I.ok.mod.tX hk (aP (ha pos ak s Z H _ I h) λus s1 ⟨vs,H1,I1,r,q⟩=>⟨I1.mY,YF F m5 hr hb R I1 r q⟩) he bW
theorem aO.there{P:Program}{w:World}{H:Hp}{h:Heap}{a:Addr}{o:HO}(x:aO P w H h a o):∃ob,h.get? a=some ob:=by
 cases o with
 |lst xs=>obtain⟨_,_,_,_,q⟩:=x;exact⟨_,q⟩
 |tup xs=>obtain⟨_,_,_,ob,q,_⟩:=x;exact⟨_,q⟩
 |dK kvs=>obtain⟨_,_,_,_,ob,_,_,q,_⟩:=x;exact⟨_,q⟩
 |dT kvs=>obtain⟨_,_,_,_,ob,_,_,q,_⟩:=x;exact⟨_,q⟩
 |set S n=>obtain⟨ob,_,_,_,q,_⟩:=x;exact⟨_,q⟩
 |ins C dx fs=>obtain⟨_,_,_,q,_⟩:=x;exact⟨_,q⟩
 |own y=>exact x
 |xd fs=>obtain⟨_,⟨_,_,_,q,_⟩,_⟩:=x;exact⟨_,q⟩
 |rng lo hi=>obtain⟨_,_,_,q⟩:=x;exact⟨_,q⟩
 |oE ob u=>obtain⟨q,_⟩:=x;exact⟨_,q⟩
 |tZ ps=>exact⟨_,(show h.get? a=some _ from x)⟩
 |met f y=>exact⟨_,(show h.get? a=some _ from x)⟩
 |ext U=>obtain⟨_,q,_⟩:=x;exact q
theorem YH{v:Value}{n:String}(h:Ol v=some n):v=.type n:=by cases v<;>first|(cases h;rfl)|cases h
theorem YJ{v:Value}{n:Addr}(h:yX v=some n):v=.ref n:=by cases v<;>first|(cases h;rfl)|cases h
theorem YK{v:Value}{n:String}(h:qY v=some n):v=.builtin n:=by cases v<;>first|(cases h;rfl)|cases h
theorem YL{v:Data}{n:ClassData}(h:Om v=some n):v=.cls n:=by cases v<;>first|(cases h;rfl)|cases h
theorem YM{l:List Value}{p:Value×List Value}(h:Oo l=some p):l=p.1::p.2:=by
 cases l with
 |nil=>cases h
 |cons a r=>cases h;rfl
theorem Jh{α:Type}{o:Option α}{p:α->Bool}(h:o.any p=true):∃a,o=some a/\p a=true:=by
 cases o with
 |none=>cases h
 |some a=>exact⟨a,rfl,h⟩
theorem YQ{K:W.Frag}{C:Addr}{bmB:List Value}{newId:String}{ini:Option Value}(q:jw K C bmB newId ini=true) :
  ∃o cd bm,K.lookup C=some o/\o.cls=.type "type"/\o.data=.cls cd/\cd.mro=.ref C::bm/\o.slots.size=6/\(o.slots[4]?.join).bind qY=some newId/\cd.hasDel=false/\PySem.W.tailIn K bmB bm=true/\PySem.W.nsOkIn K cd.ns=true/\PySem.W.nsIn K cd.ns "__init__"=some ini:=by
 obtain⟨o,lk,q⟩:=Jh q;obtain⟨q1,q⟩:=(bZ _ _).mp q;obtain⟨cd,ec,q⟩:=Jh q;obtain⟨v,ev,q⟩:=Jh q;simp only[bZ,gB,Hg] at q1 q;obtain⟨⟨⟨⟨⟨⟨q2,q3⟩,q4⟩,q5⟩,q6⟩,q7⟩,q8⟩:=q;exact⟨o,cd,v.2,lk,YH q1,YL ec,by rw[YM ev,YJ q2],q3,q4,q5,q6,q7,q8⟩
theorem Ji{sl:Array (Option Value)}{n:String}(h:sl.size=6)(h4:(sl[4]?.join).bind qY=some n):∃k0 k1 k2 k3 k5,sl=#[k0,k1,k2,k3,some (.builtin n),k5]:=by
 obtain⟨v,e,e2⟩:=kh.mp h4;cases YK e2;refine⟨sl[0],sl[1],sl[2],sl[3],sl[5],Array.ext (by simp[h]) λi h1 h2=>?_⟩;have e:sl[4]=some (.builtin n):=by
  rw[Array.getElem?_eq_getElem (show 4<sl.size by lia)] at e;exact e
 have:i<6:=by simpa using h2
 rcases i with _|_|_|_|_|_|i
 ·rfl
 ·rfl
 ·rfl
 ·rfl
 ·exact e
 ·rfl
 ·lia
theorem YS{o:Obj}{cd:ClassData}{C:Addr}{bm:List Value}{k0 k1 k2 k3 k5:Option Value}{n:String}(h1:o.cls=.type "type")(h2:o.data=.cls cd)(h3:cd.mro=.ref C::bm)(h4:o.slots=#[k0,k1,k2,k3,some (.builtin n),k5])(h5:cd.hasDel=false) :
  o=excClassObj cd.name cd.qualname C cd.ns cd.bases bm cd.hasDict cd.slotNames cd.subclasses cd.abstract cd.collection o.dict k0 k1 k2 k3 k5 n:=by
 obtain⟨cls,dd,data,sl⟩:=o;obtain⟨nm,bs,mro,ns,qn,hd,sn,ao,ab,col,del⟩:=cd;dsimp only at h1 h2 h3 h4 h5;subst h1 h2 h3 h4 h5;rfl
theorem Qm{K:W.Frag}{h:Heap}{C:Addr}{bmB:List Value}{newId:String}{ini:Option Value}(XI:K.In h)(q:jw K C bmB newId ini=true) :
  ∃bm N nm qn bs hdct sn ao ab col dd k0 k1 k2 k3 k5,h.get? C=some (excClassObj nm qn C N bs bm hdct sn ao ab col dd k0 k1 k2 k3 k5 newId)/\PySem.W.nsOkIn K N=true/\PySem.W.nsIn K N "__init__"=some ini/\OwnTail h bmB bm:=by
 obtain⟨o,cd,bm,lk,h1,h2,h3,h4,h5,h6,h7,h8,h9⟩:=YQ q;obtain⟨k0,k1,k2,k3,k5,e⟩:=Ji h4 h5;exact⟨bm,_,_,_,_,_,_,_,_,_,_,k0,k1,k2,k3,k5,(XI _ _ lk).trans (n_ some (YS h1 h2 h3 e h6)),h8,h9,PySem.W.tail_of_in XI h7⟩
theorem YT{K:W.Frag}{h:Heap}{C:Addr}{bmB:List Value}{newId:String}(XI:K.In h)(q:jw K C bmB newId none=true) :
  ∃bm N nm qn bs hdct sn ao ab col dd k0 k1 k2 k3 k5 mN,h.get? C=some (excClassObj nm qn C N bs bm hdct sn ao ab col dd k0 k1 k2 k3 k5 newId)/\h.Ns N mN/\mN "__init__"=none/\OwnTail h bmB bm:=by
 obtain⟨bm,N,nm,qn,bs,hdct,sn,ao,ab,col,dd,k0,k1,k2,k3,k5,hc,E_,Jj,tl⟩:=Qm XI q;exact⟨bm,N,nm,qn,bs,hdct,sn,ao,ab,col,dd,k0,k1,k2,k3,k5,_,hc,.of_isNs (PySem.W.isNs_of_in XI E_),PySem.W.nsMap_none_of_in XI E_ Jj,tl⟩
noncomputable def vP(EX:XS)(C:Addr)(t:TA):TS:=λ_ Z H=>t Z H λvs H1=>vs.length<=sizeLine/\EX Z (.ref C) none H1
theorem YW{B Bn newId nid initId inN:String}{bmB bmN:List Value}(Fn:ExcBaseFacts Bn newId inN bmN)(qL:bmB.contains (.type Bn)=true)(FB:ExcBaseFacts B nid initId bmB)(hc:X.aj=true)(hX:jw X.K C bmB newId none=true)(hg:Gl X x)(hm:X.mg x=some (.ref C))
  (R:Raises X EX) (ha:PA X (e::es) t) (iw:(x==("__debug__" : Str))=false:=by decide) (he:starEach (e::es) X.env=(false,eval e X.env)::starEach es X.env:=by rfl) (bW:(backTo apos (starEach es X.env)).any (·.1)=false:=by rfl) :
  PS X (.Raise (some (.Call (.Name x p) (e::es) [] apos)) none pos) (vP EX C t):=by
 intro ak s Z H D I h;obtain⟨bm,N,nm,qn,bs,hdct,sn,ao,ab,col,dd,k0,k1,k2,k3,k5,mN,hC,hN,Jk,T⟩:=YT I.mod.tX hX;refine wpAny_Raise_call_subU (C:=C) (nm:=nm) (q:=qn) (N:=N) (bs:=bs) (bm:=bm) (hdct:=hdct) (sn:=sn) («sub»:=ao) (ab:=ab) (col:=col) (dd:=dd) (k0:=k0) (k1:=k1) (k2:=k2) (k3:=k3) (k5:=k5)
  Fn qL FB (mN:=mN) (T.hasType FB.hasBase) (I.ok.hd hc) (by rw[he];show (false||(backTo apos (starEach es X.env)).any (·.1))=false;rw[bW];rfl) Jk (zy I hg hm ⟨rfl,?_⟩ iw)
 have h2:=ha apos ak s Z H _ I h;rw[he] at h2 ⊢;refine G6 (aP h2 λus s2 ⟨vs,H2,I2,r,z,q⟩=>⟨rfl,by rw[<-r.length];exact z,I2.bk _ _ hC,hN.keeps I2.bk,T.keeps I2.bk,λh' a mx=>?_⟩);obtain⟨tt,ge,_,_⟩:=mx.there;have un:H2 a=none:=by
  cases z:H2 a with
  |none=>rfl
  |some u=>
   have lt:=I2.hok.lt z;obtain⟨ob,z'⟩ : ∃ob,s2.heap.get? a=some ob:=by
    have:=I2.hok a u z;exact aO.there this
   rw[mx.new] at z';cases z'
 exact R ak Z H2 _ s2.heap a C none (I2.kept (t':=s2.toks) mx.keeps) (λb ob z n=>I2.base.there b ob z n) (λq hq=>⟨q.2,(I2.pin q hq).1⟩) (λb ob z=>⟨ob,mx.keeps b ob z⟩) ⟨mx.new,un,_,_,_,ge,rfl,rfl,rfl,rfl,.inl rfl⟩ q
end
noncomputable def fM(a C:Addr)(dx:Option Addr):HO:=.ext λh=>∃oe vs,h.get? a=some oe/\oe.cls=.ref C/\oe.dict=dx/\oe.data=.fields vs
theorem YX(x:Exc h0 H0 h a C dx):aO P w H h a (fM a C dx):=by
 obtain⟨oe,vs,hd,q,c,d,f,_⟩:=x.ob;exact⟨⟨oe,vs,q,c,d,f⟩,⟨oe,q⟩,λh1 h2 ⟨o1,v1,q1,c1,d1,f1⟩ k=>⟨o1,v1,k o1 q1,c1,d1,f1⟩⟩
section
variable {X:Cx}{ak:List (Addr×Obj)}{Z:St}{H:Hp}{s:Shared}{e:Addr}{o:HO}
theorem Inv.track(I:Inv X ak Z H s)(hn:X.s₀.heap.get? e=none)(un:H e=none)(hp:∀p∈X.pn++ak,p.1≠e)(hL:e≠X.env.locals)(hc:∀x c,X.env.cells.lookup x=some c->c≠e)
  (new:aO X.prog X.w (upd H e o) s.heap e o):Inv X ak Z (upd H e o) s:=by
 have ne:∀b u,H b=some u->b≠e:=λb u q z=>by rw[z,un] at q;cases q
 have n0:∀b u,X.s₀.heap.get? b=some u->b≠e:=λb u q z=>by rw[z,hn] at q;cases q
 refine⟨I.ok,I.os,I.bare,⟨I.base.keep,I.base.slot,λb u q n hx=>?_,I.base.there,λb xs q=>?_,λb u v q=>?_,λb ps q=>?_⟩,I.loc,I.cell,?_,λx c q=>?_,λp q=>?_,λb u q=>?_,I.len⟩
 ·rw[dB (n0 b u q)];exact I.base.free b u q n hx
 ·have z:=I.base.tups b xs q;rw[dB (ne b _ z)];exact z
 ·have z:=I.base.gC b u v q;rw[dB (ne b _ z)];exact z
 ·obtain⟨m,z⟩:=I.base.g8 b ps q;exact⟨m,by rw[dB (ne b _ z)];exact z⟩
 ·rw[dB hL.symm];exact I.free
 ·rw[dB (hc x c q)];exact I.cY x c q
 ·obtain⟨a1,a2,a3⟩:=I.pin p q;exact⟨a1,by rw[dB (hp p q)];exact a2,a3⟩
 ·by_cases z:b=e
  ·subst z;rw[jz] at q;cases q;exact new
  ·rw[dB z] at q;exact(I.hok b u q).stay (λ_ _ _ r=>r) (λc r=>by rw[dB (ne c _ r)];exact r) λc xs r=>by rw[dB (ne c _ r)];exact r
noncomputable def Cx.seen(X:Cx)(A:Around)(aj:Bool)(pn:List (Addr×Obj))(E:Value->Shared->Prop):Cx:={X with A:=A,aj:=aj,pn:=pn,xe:=E}
theorem Inv.seen(I:Inv X ak Z H s)(hA:A.frames=X.A.frames)(hc:c=true->A.handled=none)(hp:∀p∈pn++ps,p∈X.pn++ak):Inv (X.seen A c pn E) ps Z H s:=
 ⟨⟨I.ok.mod,I.ok.kind,I.ok.glob,I.ok.blt,I.ok.above,I.ok.inj,I.ok.has,I.ok.cab,hc,hA.trans I.ok.frames,I.ok.stk,I.ok.O1,I.ok.bs,I.ok.t_,I.ok.oF,I.ok.rB,I.ok.g_,I.ok.xV⟩,I.os,I.bare,I.base,I.loc,I.cell,I.free,I.cY,λp z=>I.pin p (hp p z),I.hok,I.len⟩
theorem Inv.dH(I:Inv (X.seen A c pn E) ps Z H s)(hA:X.A.frames=A.frames)(hc:X.aj=true->X.A.handled=none)(hp:∀p∈X.pn++ak,p∈pn++ps):Inv X ak Z H s:=
 ⟨⟨I.ok.mod,I.ok.kind,I.ok.glob,I.ok.blt,I.ok.above,I.ok.inj,I.ok.has,I.ok.cab,hc,hA.trans I.ok.frames,I.ok.stk,I.ok.O1,I.ok.bs,I.ok.t_,I.ok.oF,I.ok.rB,I.ok.g_,I.ok.xV⟩,I.os,I.bare,I.base,I.loc,I.cell,I.free,I.cY,λp z=>I.pin p (hp p z),I.hok,I.len⟩
theorem SP.dH(h:SP (X.seen A c pn E) ps D f s)(hA:X.A.frames=A.frames)(hc:X.aj=true->X.A.handled=none)(hp:∀p∈X.pn++ak,p∈pn++ps):SP X ak D f s:=by
 cases f with
 |next=>obtain⟨a,b,bG,q⟩:=h;exact⟨a,b,bG.dH hA hc hp,q⟩
 |brk=>obtain⟨a,b,bG,q⟩:=h;exact⟨a,b,bG.dH hA hc hp,q⟩
 |cont=>obtain⟨a,b,bG,q⟩:=h;exact⟨a,b,bG.dH hA hc hp,q⟩
 |ret u=>obtain⟨v,a,b,bG,r,q⟩:=h;exact⟨v,a,b,bG.dH hA hc hp,r,q⟩
theorem Inv.gone(I:Inv X ak Z H s)(hN:X.N.Nodup)(hi:X.N[i]?=some n)(hl:X.env.kindOf n=some .local)(hm:s.heap.Ns X.env.locals m)
  (hn:h'.Ns X.env.locals (λx=>if x=n then v else m x)) (sb:Heap.SameBut X.env.locals s.heap h'):Inv X ak (Z.set i none) H {s with heap:=h',toks:=t'}:=by
 have kp:∀b u,b≠X.env.locals->s.heap.get? b=some u->h'.get? b=some u:=λb u z q=>(sb.2 b z).trans q;have n0:∀b u,X.s₀.heap.get? b=some u->b≠X.env.locals:=λb u q=>i_ (gw (cg q) I.ok.above);have nH:∀b u,H b=some u->b≠X.env.locals:=λb u q z=>by rw[z,I.free] at q;cases q
 refine⟨I.ok,I.os,I.bare,⟨λb u q n hb hx=>kp b u (n0 b u q) (I.base.keep b u q n hb hx),λb u q n hb hx=>?_,I.base.free,λb u q hx=>?_,I.base.tups,I.base.gC,I.base.g8⟩,⟨_,hn,λj x w e1 e2 e3=>?_⟩,λx c q=>?_,I.free,I.cY,λp q=>?_,λb u q=>?_,by rw[jP];exact I.len⟩
 ·obtain⟨sl,z⟩:=I.base.slot b u q n hb hx;exact⟨sl,kp b _ (n0 b u q) z⟩
 ·obtain⟨u',z⟩:=I.base.there b u q hx;exact⟨u',kp b u' (n0 b u q) z⟩
 ·have Qn:i≠j:=λz=>by
   subst z;by_cases hl:i<Z.length
   ·rw[tU hl] at e2;cases e2
   ·rw[Dv (by rw[jP];lia)] at e2;cases e2
  rw[kj Qn] at e2;obtain⟨m2,Fb,Ai⟩:=I.loc;obtain⟨u,r,l⟩:=Ai j x w e1 e2 e3;refine⟨u,r,?_⟩;rcases l with ⟨k1,k2⟩|⟨k1,c,k2,oc,k3,k4⟩
  ·refine .inl ⟨k1,?_⟩;have nx:x≠n:=λz=>Qn (Hz hN (by rw[z] at e1;exact hi) (z▸e1));have em:m=m2:=by
    obtain⟨o1,es1,ep1,g1,d1,t1,f1⟩:=hm;obtain⟨o2,es2,ep2,g2,d2,t2,f2⟩:=Fb;rw[g1] at g2;cases g2;rw[d1] at d2;cases d2
    funext y
    rw[<-f1,<-f2]
   show (if x=n then v else m x)=some u;rw[if_neg nx,em];exact k2
  ·exact .inr ⟨k1,c,k2,oc,kp c oc (I.rC x c k2) k3,k4⟩
 ·obtain⟨u,oc,k3,k4⟩:=I.cell x c q;exact⟨u,oc,kp c oc (I.rC x c q) k3,k4⟩
 ·obtain⟨a1,a2,a3,a4⟩:=I.pin p q;exact⟨kp _ _ a3 a1,a2,a3,a4⟩
 ·exact(I.hok b u q).stay (λc w z r=>kp c w (z.elim (λy=>y▸nH b u q) λy=>nH c _ y) r) (λ_ r=>r) λ_ _ r=>r
end
theorem YZ(x:Exc h0 H s.heap e C dx)(hf:∀b∈fr,∀o vs,s.heap.get? b=some o->o.data≠.fields vs)
  (k:∀h' ch,Af h0 H fr s.heap h' ch->Exc h0 H h' e C dx->Q () {s with heap:=h'}):wpAny M A (setFlight (.ref e) none) Q E s:=by
 obtain⟨oe,vs,hd,he,hc,ud,lZ,h1,tb⟩:=x.ob;rcases tb with rfl|⟨T,oT,ts,rfl,nT,uT,neT,gT,dT,h3⟩
 ·unfold setFlight;refine aG (uW he lZ h1 ?_);rw[if_neg J0];exact bC (k s.heap [] {rec_:=(λ_ z=>nomatch z),keep:=(λb o q _ _=>q),slot:=(λb o q _=>⟨o.slots,q⟩),there:=(λb o q=>⟨o,q⟩)} x)
 ·refine Qk he lZ h1 gT dT (xJ.mp h3).1 λh' kp g'=>?_;have z3:3<ts.size:=(xJ.mp h3).1;refine k h' [T] ⟨λb z=>?_,λb o q _ n=>kp b o (λz=>n (by simp[z])) q,λb o q m=>?_,λb o q=>?_⟩ ⟨x.new,x.un,oe,vs,.ref T,kp e oe neT.symm he,hc,ud,lZ,h1,.inr ⟨T,_,_,rfl,nT,uT,neT,g',uP dT _,by simp[z3]⟩⟩
  ·obtain rfl:b=T:=by simpa using z
   exact⟨nT,uT,oT,ts,gT,dT⟩
  ·refine⟨o.slots,kp b o (λz=>?_) q⟩;subst z;rw[gT] at q;cases q;exact hf b m _ ts gT dT
  ·by_cases z:b=T
   ·subst z;exact⟨_,g'⟩
   ·exact⟨o,kp b o z q⟩
theorem Y0{M:Model}{A:Around}{E:Value->Shared->Prop}{K:W.Frag}{h:Heap}{g:Array GenState}{d:Drawn}{t:Nat}{os:OsState}{e C D:Addr}{oe:Obj}{Q:Bool->Shared->Prop}(KI:K.In h)(q:subIn K C D=true)
  (he:h.get? e=some oe) (vh:oe.cls=.ref C) (hq:Q true ⟨h,g,d,t,os⟩):wpAny M A (excMatches (.ref e) (.ref D)) Q E ⟨h,g,d,t,os⟩:=by
 unfold subIn at q;simp only[bZ] at q;obtain⟨⟨q1,q2⟩,q3⟩:=q;obtain⟨nm,qn,N,bs,bm,hdct,sn,ao,ab,col,dd,k0,k1,k2,k3,k5,newId,hC,_,_⟩:=PySem.W.kts_cls KI q1;obtain⟨nm',qn',N',bs',bm',Qo,sn',sub',ab',col',Jl,k0',k1',k2',k3',k5',newId',hD,hb',_⟩:=PySem.W.kts_cls KI q2;have m1:(Value.ref C::bm).contains (.ref D)=true:=by
  split at q3
  ·rename_i c0 d0 cd sl lk;have z:=KI _ _ lk;rw[hC] at z;cases z;exact q3
  ·cases q3
 have m2:(Value.ref D::bm').contains (.type "BaseException")=true:=by rw[Hf,hb',Bool.or_true]
 have f:=tc_notTuple;unfold excMatches
 repeat (first|(with_reducible refine uQ he ?_;rw[vh])|with_reducible refine uQ hD ?_|(with_reducible refine Dz hD ?_;rw[m2])|(with_reducible refine Dz hC ?_;rw[m1])|wp_step)
 exact hq
noncomputable def oX(D:Ends)(i:Nat):Ends:={nx:=λZ H=>D.nx (Z.set i none) H,rt:=D.rt,bk:=λZ H=>D.bk (Z.set i none) H,ct:=λZ H=>D.ct (Z.set i none) H}
noncomputable def Aj(K:W.Frag)(Dc:Addr)(i:Nat)(th:TS)(D:Ends):XS:=λZ C dx H=>∃Ca,C=.ref Ca/\subIn K Ca Dc=true/\∀a,H a=none->th (oX D i) (Z.set i (some (.ref a))) (upd H a (fM a Ca dx))
section
variable {X:Cx}{x n:Str}{np oY pos:Pos}{b₀:Stmt}{body suite:List Stmt}{Dc:Addr}{i:Nat}{tb:XS->TS}{th:TS}
theorem Y4(hex:X.ex=[])(qJ:X.stack=X.env::X.outer/\X.env.frame=some X.env.locals)(hg:Gl X x)(hm:X.mg x=some (.ref Dc))(hN:X.N.Nodup)(hi:X.N[i]?=some n)(hl:X.env.scope.names.lookup n=some .local)
  (hb:∀(pn:List (Addr×Obj)) (E':Value->Shared->Prop) (nP:XS),Raises (X.seen X.A X.aj pn E') nP->PassesOwn (model X.prog X.w) X.A X.env E'->kI (X.seen X.A X.aj pn E') body (tb nP))
  (hh:∀e:Value,kI (X.seen (X.A.mark (some e)) false X.pn (λ_ _=>False)) (b₀::suite) th) (iw:(x==("__debug__" : Str))=false:=by decide) :
  PS X (.Try body [.ExceptHandler (some (.Name x np)) (some n) (b₀::suite) oY] [] [] pos) (λD Z H=>tb (Aj X.K Dc i th D) D Z H):=by
 intro ak s Z H D I h;refine wpAny_Try_except ?_;have B:=hb (X.pn++ak) (λe s₁=>wpAny (model X.prog X.w) X.A (noteFrame e X.env) (λ_ s₂=>wpAny (model X.prog X.w) X.A (setFlight e none) (λ_ s₃=>wpAny (model X.prog X.w) X.A (handleBy e X.env [.ExceptHandler (some (.Name x np)) (some n) (b₀::suite) oY]) (SP X ak D) X.xe s₃) X.xe s₂) X.xe s₁) (Aj X.K Dc i th D) ?R PassesOwn.looking [] s Z H D (I.seen rfl I.ok.hd (by intro p z;simpa using z)) h
 case R=>
  intro oH Z' H' s' h0 e C dx bG hs hp ao xc ⟨Ca,eC,sI,k⟩;cases eC;have I1:Inv X ak Z' H' s':=bG.dH rfl I.ok.hd (λp z=>Dy _ z);have Jm:∀p∈X.pn++ak,∃o,h0.get? p.1=some o:=λp z=>hp p (Dy _ z);show wpAny (model X.prog X.w) X.A (noteFrame (.ref e) X.env) _ X.xe s';refine Ql (base:=X.base) (outer:=X.outer) (L:=X.env.locals) (I1.ok.frames.trans (n_ some qJ.1)) (qJ.1▸I1.stack) qJ.2 xc (λb z=>I1.hok.fresh z) ao λh1 ch1 t1 x1=>?_;have I2:=I1.Ah (qJ.1▸t1) hs Jm;refine wpAny_handleBy_cons (codeAny_handlers_test ?_) (by intro z;cases z);have Y5:Inv (X.seen (X.A.mark (some (.ref e))) false X.pn (λ_ _=>False)) ak Z' H' {s' with heap:=h1}:=I2.seen rfl (λz=>by cases z) (λp z=>z);refine zy (E:=_) Y5 hg hm ?_ iw;obtain⟨oe,vs,hd,g1,c1,d1,f1,_⟩:=x1.ob;refine Y0 I2.mY sI g1 c1 ?_;refine codeAny_handlers_suite_as ?_;have Jo:∀b∈frs X.stack,∀o vs,h1.get? b=some o->o.data≠.fields vs:=λb hb o vs q d=>by
   obtain⟨_,o',q',nd⟩:=I2.stack.mem hb;have q'':h1.get? b=some o':=q';rw[q] at q'';cases q'';exact nd vs d
  refine YZ (s:={s' with heap:=h1}) (fr:=frs X.stack) x1 Jo λh2 rQ t2 x2=>?_;have I3:Inv X ak Z' H' {s' with heap:=h2}:=I2.Ah t2 hs Jm;obtain⟨oe2,vs2,hd2,g2,c2,d2,f2,_⟩:=x2.ob;have Y6:X.s₀.heap.get? e=none:=by
   cases z:X.s₀.heap.get? e with
   |none=>rfl
   |some u=>
    obtain⟨u',z'⟩:=hs e u z (by show e∉X.ex;rw[hex];simp);rw[x2.new] at z';cases z'
  have nL:e≠X.env.locals:=λz=>by
   obtain⟨m,⟨ol,es,ep,e1,e2,_⟩,_⟩:=I3.loc;have e1':h2.get? X.env.locals=some ol:=e1;rw[<-z,g2] at e1';cases e1';rw[f2] at e2;cases e2
  have nC:∀y c,X.env.cells.lookup y=some c->c≠e:=λy c q z=>by
   obtain⟨v,oc,e1,e2⟩:=I3.cell y c q;have e1':h2.get? c=some oc:=e1;rw[z,g2] at e1';cases e1';rw[f2] at e2;cases e2
  have I4:=I3.track (o:=fM e C dx) Y6 x2.un (λp z y=>by
   obtain⟨u,q⟩:=Jm p z;rw[y,x2.new] at q;cases q) nL nC (YX x2)
  have Y7:Inv (X.seen (X.A.mark (some (.ref e))) false X.pn (λ_ _=>False)) ak Z' (upd H' e (fM e C dx)) {s' with heap:=h2}:=I4.seen rfl (λz=>by cases z) (λp z=>z);refine HF (X:=X.seen (X.A.mark (some (.ref e))) false X.pn (λ_ _=>False)) (v:=.ref e) Y7 hN hi (.inl hl) rfl (λs5 I5=>?_) (.inr hl);refine gK (hh (.ref e) ak s5 _ _ (oX D i) I5 (k e x2.un)) (λf s6 q6=>?_) (λ_ _ z=>z.elim);have Y8:(X.env.scope.kind==.class||(X.env.scope.kind==.module&&X.env.locals != X.env.globals))=false:=by rw[I.ok.kind];rfl
  have fin:∀{Z6:St} {H6:Hp} {Q:Shared->Prop},Inv (X.seen (X.A.mark (some (.ref e))) false X.pn (λ_ _=>False)) ak Z6 H6 s6->(∀s7,Inv X ak (Z6.set i none) H6 s7->Q s7)->
    wpAny (model X.prog X.w) X.A (do bindName X.env n .none;unbindBehindTheSuite X.env n oY) (λ_ s7=>Q s7) X.xe s6:=λ{Z6 H6 Q} fO kq=>by
   have bG:Inv X ak Z6 H6 s6:=fO.dH rfl I.ok.hd (λp z=>z);obtain⟨m,Qp,_⟩:=id bG.loc;exact wpAny_nameGoes_keeps hl Qp Y8 λh' v rD sb=>kq _ (bG.gone hN hi hl Qp rD sb)
  cases f with
  |next=>obtain⟨Z6,H6,fO,q⟩:=q6;exact fin fO λs7 jF=>⟨_,_,jF,q⟩
  |brk=>obtain⟨Z6,H6,fO,q⟩:=q6;exact fin fO λs7 jF=>⟨_,_,jF,q⟩
  |cont=>obtain⟨Z6,H6,fO,q⟩:=q6;exact fin fO λs7 jF=>⟨_,_,jF,q⟩
  |ret u=>obtain⟨v,Z6,H6,fO,r,q⟩:=q6;exact fin fO λs7 jF=>⟨v,_,_,jF,r,q⟩
 refine gK B (λf s1 q=>?_) λ_ _ z=>z;have q':SP X ak D f s1:=SP.dH q rfl I.ok.hd (by intro p z;simpa using z);cases f with
 |next=>exact DP q'
 |brk=>exact q'
 |cont=>exact q'
 |ret u=>exact q'
end
end L2
namespace L2
open PySem PySem.Spec PyProof.Rows PySem.W Builtin.ObjectAttr
section
variable {prog:Program}{w:World}{A:Around}{E:Value->Shared->Prop}{s:Shared}{K:Frag}{x C:Addr}{ox:Obj}{od:Option Obj}{name:Str}{tk:Tok}
theorem Y9(XI:K.In s.heap)(I:InstAt s.heap x ox C od)(hf:findObj K C od name=some r)
  (h:match r with|.value v=>Q (.done (.ret v)) s|.bind g a=>wpAny (model prog w) A (call g [a,.ref x,.ref C]) (λv s'=>Q (.done (.ret v)) s') E s|.missing=>False) :
  wpAny (model prog w) A (Builtin.«object.__getattribute__» ⟨[.ref x,.str name tk],[]⟩) Q E s:=by
 obtain⟨hh,g,d,t,os⟩:=s;have L0:=I.type (M:=model prog w);have L1:=looks_find (M:=model prog w) XI I hf;unfold Builtin.«object.__getattribute__»;refine aG (wpAny_of_eq (a:=(Value.ref x,[Value.str name tk])) (by rfl) ?_);refine aG (wpAny_of_eq (a:=name) (by rfl) ?_);refine aG (L0.at (aG (L1.at ?_)));cases r with
 |value v=>exact bC h
 |bind g a=>
  show wpAny _ _ (holding [a] (call g [a,.ref x,.ref C]) >>= ret) _ _ _;exact aG (lO (gK h (λv s' z=>bC z) λ_ _ z=>z))
 |missing=>exact h.elim
theorem Qq(XI:K.In s.heap)(I:InstAt s.heap x ox C od)(hb:mroIn K C (.type "BaseException")=some true)(hf:findObj K C od name=some r)
  (h:match r with|.value v=>R (.ok (.ret v)) s|.bind g a=>wpAny (model prog w) A.in1 (call g [a,.ref x,.ref C]) (λv s'=>R (.ok (.ret v)) s') (λe s'=>R (.error e) s') s|.missing=>False) :
  codeAny (model prog w) A (.call (.builtin "BaseException.__getattribute__") ⟨[.ref x,.str name tk],[]⟩) R s:=by
 have hk:builtinKind "BaseException.__getattribute__"=some .slot:=by decide +kernel
 have vQ:splitId "BaseException.__getattribute__"=some ("BaseException","__getattribute__"):=by decide +kernel
 have ha:=F.args_bexc_ga (.ref x) (.str name tk);refine codeAny_call_builtin F.attr_ValueError.ga.plain F.entry_bexc_ga ?_;have fin:wpAny (model prog w) A.in1 (Builtin.«object.__getattribute__» ⟨[.ref x,.str name tk],[]⟩) (λfin s'=>match fin with|.done f=>R (.ok f) s'|.again c'=>c'.quiet=true/\codeAny (model prog w) A c' R s') (λe s'=>R (.error e) s') s:=by
  refine Y9 XI I hf ?_;cases r with
  |value v=>exact h
  |bind g a=>exact h
  |missing=>exact h.elim
 have Y_:∀Q:Unit->Shared->Prop,Q () s->wpAny (model prog w) A.in1 (checkBuiltinCall "BaseException.__getattribute__" ⟨[.ref x,.str name tk],[]⟩) Q (λe s'=>R (.error e) s') s:=λQ hq=>by
  obtain⟨hh,g,d,t,os⟩:=s;have L0:=I.type (M:=model prog w);have L1:=looks_mroIn (M:=model prog w) XI hb;have LI:Looks (model prog w) hh (isInstance (.ref x) (.type "BaseException")) true:=L0.andThen L1;simp only[checkBuiltinCall,hk,vQ];refine aG ?_
  repeat (first|with_reducible exact hq|with_reducible refine LI.at ?_|wp_step)
 exact Y_ _ fin
theorem bexc_get?(XI:K.In s.heap)(I:InstAt s.heap x ox C od)(hb:mroIn K C (.type "BaseException")=some true)(Jp:findIn K (.ref C) "__getattribute__"=some (some (.builtin "BaseException.__getattribute__")))
  (Jq:findIn K (.ref C) "__getattr__"=some none) (hf:findObj K C od name=some r)
  (h:match r with|.value v=>wpAny (model prog w) A (handedOut v) (λu s'=>Q (some u) s') (λ_ _=>False) {s with toks:=s.toks+1}|.bind g a=>wpAny (model prog w) A.in1 (call g [a,.ref x,.ref C]) (λv s'=>wpAny (model prog w) A (handedOut v) (λu s''=>Q (some u) s'') (λ_ _=>False) s') (λ_ _=>False) {s with toks:=s.toks+1}|.missing=>False) :
  wpAny (model prog w) A (getAttr? (.ref x) name) Q E s:=by
 obtain⟨hh,g,d,t,os⟩:=s;have L0:=I.type (M:=model prog w);have L1:=xP (M:=model prog w) XI Jp;have L2:=xP (M:=model prog w) XI Jq;have yc:(Value.builtin "BaseException.__getattribute__"==Value.builtin "object.__getattribute__")=false:=by decide +kernel
 unfold getAttr? getAttrBy? getAttrBy;refine aG (wpAny_mkText (aG (wpAny_attempt (lO (aG (L0.at (aG (L1.at ?_))))))));show wpAny _ _ (if (onTheHeap (.ref C)&&(Value.builtin "BaseException.__getattribute__"==Value.builtin "object.__getattribute__"))=true then _ else getAttrByItsOwn _ _ _ _ _ _) _ _ _;rw[yc,DW,if_neg J0];unfold getAttrByItsOwn hookBefore callGetattribute boundAndCalled;refine aG (L2.at ?_);refine aG (wpAny_attempt (lO (aG (wpAny_of_eq (F.attr_ValueError.ga.bind (.ref x)) ?_))));refine uZ (Qq XI I hb hf ?_);cases r with
 |value v=>exact gK h (λv s'' hv=>bC hv) (λ_ _ z=>z.elim)
 |bind g a=>exact gK h (λv s' hv=>gK hv (λu s'' z=>bC z) λ_ _ z=>z.elim) (λ_ _ z=>z.elim)
 |missing=>exact h.elim
end
structure XC(K:Frag)(C:Addr):Prop where
 ga:findIn K (.ref C) "__getattribute__"=some (some (.builtin "BaseException.__getattribute__"))
 gn:findIn K (.ref C) "__getattr__"=some none
 cl:findIn K (.ref C) "__class__"=some (some (.builtin "object.__class__"))
 mb:mroIn K C (.type "BaseException")=some true
 mo:mroIn K C (.type "object")=some true
 cd:(clsIn K C).isSome=true
 dg:specialIn K (.builtin "object.__class__") "__get__"=some (some (.builtin "getset_descriptor.__get__"))
 dt:takesIn K (.builtin "object.__class__")=some true
theorem Za{K:Frag}{C:Addr}{od:Option Obj}{name:Str}{a g:Value}(hc:(clsIn K C).isSome=true)(ha:findIn K (.ref C) name=some (some a))(hg:specialIn K a "__get__"=some (some g))(ht:takesIn K a=some true):findObj K C od name=some (.bind g a):=by
 obtain⟨cd,z⟩:=GD.mp hc;simp only[findObj,z,ha,hg,ht,Option.bind_some]
theorem Qs{K:Frag}{e C:Addr}(c:XC K C):KitX K (.ref e) (.ref C) (λh=>∃ox od,InstAt h e ox C od) where
 ty:=λ_ _ _ ⟨_,_,I⟩=>I.type
 it:=λ_ _ XI _=>by
  have q:=c.cd;unfold clsIn at q;split at q
  ·rename_i c' d' cd' sl' lk;intro A' Q' E' s' k z;unfold isType loadHead;exact aG (wpAny_loadPart (k _ _ (XI _ _ lk)) (bC z))
  ·cases q
 ne:=λh tp dd its n sl XI Zb=>by
  refine Bool.eq_false_iff.mpr λz=>?_;have ee:C=tp:=Value.ref.inj (gB.mp z);subst ee;have q:=c.cd;unfold clsIn at q;split at q
  ·rename_i c' d' cd' sl' lk;have y:=(XI _ _ lk).symm.trans Zb;cases y
  ·cases q
 ca:=λ{prog w A E Q s} XI ⟨ox,od,I⟩ k=>by
  have hf:findObj K C od "__class__"=some (.bind (.builtin "getset_descriptor.__get__") (.builtin "object.__class__")):=Za c.cd c.cl c.dg c.dt;refine bexc_get? XI I c.mb c.ga c.gn hf ?_;exact uZ (class_get (s:={s with toks:=s.toks+1}) (ox:=ox) (od:=od) XI I c.mo (handed_on rfl k))
end L2
namespace L2
open PySem PySem.Spec PyProof.Rows
theorem Zc:∀(names:List (Str×NameKind)) (cs:List (Str×Addr)),(∀x∈names,x.2=.free->∃c,env.cells.lookup x.1=some c)->(∀x c,cs.lookup x=some c->env.cells.lookup x=some c)->
  ∃cl,(forIn names cs λx r=>(do
    if x.2==.free then
     let a <-cellOf env x.1
     pure (ForInStep.yield ((x.1,a)::r))
    else pure (ForInStep.yield r)):Sem (List (Str×Addr)))=pure cl/\(∀x c,cl.lookup x=some c->env.cells.lookup x=some c)/\(∀x c,cs.lookup x=some c->cl.lookup x=some c)/\∀x∈names,x.2=.free->∃c,cl.lookup x.1=some c:=by
 intro names
 induction names with
 |nil=>intro cs _ h;exact⟨cs,rfl,h,λ_ _ q=>q,λx z=>nomatch z⟩
 |cons y r ih=>
  intro cs h1 h2;obtain⟨n,k⟩:=y;by_cases hk:k=.free
  ·subst hk;obtain⟨c,hc⟩:=h1 (n,.free) ju rfl;have hc:env.cells.lookup n=some c:=hc;have h3:∀x d,((n,c)::cs).lookup x=some d->env.cells.lookup x=some d:=λx d q=>by
    rw[jO] at q;by_cases z:x=n
    ·subst z;simp at q;subst q;exact hc
    ·have z':(x==n)=false:=by simpa using z
     rw[z'] at q;exact h2 x d q
   obtain⟨cl,e,a,b,d⟩:=ih ((n,c)::cs) (λx z=>h1 x (fV _ z)) h3;have Zd:cellOf env n=pure c:=by
    unfold cellOf;rw[hc]
   refine⟨cl,?_,a,λx q z=>?_,λx z q=>?_⟩
   ·rw[DR];simp only[yU,if_true,Zd];exact e
   ·by_cases y:x=n
    ·subst y;have z1:=h2 x q z;rw[hc] at z1;cases z1;exact b x c MP
    ·have y':(x==n)=false:=by simpa using y
     exact b x q (by rw[jO,y'];exact z)
   ·rcases iQ.mp z with z|z
    ·subst z;exact⟨c,b n c MP⟩
    ·exact d x z q
  ·have hb:(k==NameKind.free)=false:=by simpa using hk
   obtain⟨cl,e,a,b,d⟩:=ih cs (λx z=>h1 x (fV _ z)) h2;refine⟨cl,?_,a,b,λx z q=>?_⟩
   ·rw[DR];simp only[hb,Bool.false_eq_true,if_false];exact e
   ·rcases iQ.mp z with z|z
    ·subst z;exact absurd q hk
    ·exact d x z q
theorem Ze(h:∀x∈scope.names,x.2=.free->∃c,env.cells.lookup x.1=some c):∃cl,closureFor scope env=pure cl/\(∀x c,cl.lookup x=some c->env.cells.lookup x=some c)/\∀x∈scope.names,x.2=.free->∃c,cl.lookup x.1=some c:=by
 obtain⟨cl,e,a,_,d⟩:=Zc scope.names [] h (λx c q=>by cases q);refine⟨cl,?_,a,d⟩;unfold closureFor;have e':=e;simp only[pure_bind,bind_pure] at e' ⊢;exact e'
theorem Jr{env:Env}{k:NameKind}:∀{names:List (Str×NameKind)} {x:Str},(names.map λ(n,k)=>if (k==NameKind.free&&env.scope.kind==.function&&env.kindOf n==some .cell) then (n,NameKind.cell) else (n,k)).lookup x=some k->
  names.lookup x=some k\/(k=.cell/\names.lookup x=some .free)
 |[],x,h=>by simp at h
 |(n,q)::r,x,h=>by
  rw[nG,jO] at h;rw[jO];have hd:∀c:Bool,(if c=true then (n,NameKind.cell) else (n,q)).1=n:=λc=>by cases c<;>rfl
  rw[hd] at h;by_cases z:x=n
  ·subst z;simp only[yU] at h ⊢;split at h
   ·rename_i y;simp only[bZ,gB] at y;cases h;exact .inr ⟨rfl,by rw[y.1.1]⟩
   ·cases h;exact .inl rfl
  ·have z':(x==n)=false:=by simpa using z
   simp only[z'] at h ⊢;exact Jr h
theorem Js{env:Env}:∀{names:List (Str×NameKind)} {x:Str},names.lookup x=some .free->
  (names.map λ(n,k)=>if (k==NameKind.free&&env.scope.kind==.function&&env.kindOf n==some .cell) then (n,NameKind.cell) else (n,k)).lookup x=some .cell \/
  (names.map λ(n,k)=>if (k==NameKind.free&&env.scope.kind==.function&&env.kindOf n==some .cell) then (n,NameKind.cell) else (n,k)).lookup x=some .free
 |[],x,h=>by simp at h
 |(n,q)::r,x,h=>by
  rw[jO] at h;rw[nG,jO];have hd:∀c:Bool,(if c=true then (n,NameKind.cell) else (n,q)).1=n:=λc=>by cases c<;>rfl
  rw[hd];by_cases z:x=n
  ·subst z;simp only[yU] at h ⊢;cases h
   split
   ·exact .inl rfl
   ·exact .inr rfl
  ·have z':(x==n)=false:=by simpa using z
   simp only[z'] at h ⊢;exact Js h
structure jW(n:Nat)(h1:Heap)(names:List (Str×NameKind))(cl gO:List (Str×Addr)):Prop where
 d1:∀x c,gO.lookup x=some c->(cl.lookup x=some c/\(x,NameKind.cell)∉names)\/((x,NameKind.cell)∈names/\n<c/\h1.IsCell c none)
 d2:∀x y c,n<c->gO.lookup x=some c->gO.lookup y=some c->x=y
 d3:∀x,names.lookup x=some .cell->∃c,gO.lookup x=some c
 d4:∀x c,(x,NameKind.cell)∉names->cl.lookup x=some c->gO.lookup x=some c
theorem cc:(NameKind.cell==NameKind.cell)=true:=by decide
theorem Ak:∀(names:List (Str×NameKind)) (h:Heap) (b:Addr) (o:Obj),h.get? b=some o->(pushCells h names).get? b=some o
 |[],h,b,o,e=>e
 |(x,k)::r,h,b,o,e=>by
  rw[pushCells]
  split
  ·exact Ak r _ b o (cX _ e)
  ·exact Ak r h b o e
theorem Jt:∀(names:List (Str×NameKind)) (h:Heap) (acc:List (Str×Addr)) (x:Str) (c:Addr),(cellsFrom h.objs.size names acc).lookup x=some c->
  (acc.lookup x=some c/\(x,NameKind.cell)∉names)\/((x,NameKind.cell)∈names/\h.objs.size<=c/\(pushCells h names).IsCell c none)
 |[],h,acc,x,c,e=>.inl ⟨e,by simp⟩
 |(y,k)::r,h,acc,x,c,e=>by
  rw[cellsFrom] at e;rw[pushCells];by_cases hk:k=.cell
  ·subst hk;rw[if_pos cc] at e ⊢;have sz:(h.push {cls:=Value.type "cell",data:=Data.cell none}).objs.size=h.objs.size+1:=by unfold Heap.push;simp
   rw[<-sz] at e;rcases Jt r _ _ x c e with ⟨a,b⟩|⟨a,b,d⟩
   ·rw[jO] at a;by_cases z:x=y
    ·subst z;simp at a;subst a;exact .inr ⟨ju,bY _,_,Ak r _ _ _ (ji _ rfl),rfl⟩
    ·have z':(x==y)=false:=by simpa using z
     rw[z'] at a;exact .inl ⟨a,by simp[z,b]⟩
   ·exact .inr ⟨fV _ a,by lia,d⟩
  ·have hb:(k==NameKind.cell)=false:=by simpa using hk
   rw[if_neg (by rw[hb];decide)] at e ⊢;rcases Jt r _ _ x c e with ⟨a,b⟩|⟨a,b,d⟩
   ·exact .inl ⟨a,by simp[b];intro _ q;exact hk q.symm⟩
   ·exact .inr ⟨fV _ a,b,d⟩
theorem Ju:∀(names:List (Str×NameKind)) (n:Nat) (acc:List (Str×Addr)) (x y:Str) (c:Addr),(∀u v,acc.lookup u=some c->acc.lookup v=some c->u=v)->(∀u a,acc.lookup u=some a->a<n\/a≠c)->(cellsFrom n names acc).lookup x=some c->(cellsFrom n names acc).lookup y=some c->x=y
 |[],n,acc,x,y,c,h,_,e1,e2=>h x y e1 e2
 |(z,k)::r,n,acc,x,y,c,h,hl,e1,e2=>by
  rw[cellsFrom] at e1 e2;by_cases hk:k=.cell
  ·subst hk;rw[if_pos cc] at e1 e2;refine Ju r (n+1) _ x y c (λu v a b=>?_) (λu a q=>?_) e1 e2
   ·rw[jO] at a b;by_cases u1:u=z
    ·by_cases v1:v=z
     ·rw[u1,v1]
     ·have v':(v==z)=false:=by simpa using v1
      subst u1;simp at a;rw[v'] at b;subst a;have b:acc.lookup v=some n:=b;rcases hl v n b with q|q
      ·exact absurd q (mU _)
      ·exact absurd rfl q
    ·have u':(u==z)=false:=by simpa using u1
     rw[u'] at a;have a:acc.lookup u=some c:=a;by_cases v1:v=z
     ·subst v1;simp at b;subst b;rcases hl u n a with q|q
      ·exact absurd q (mU _)
      ·exact absurd rfl q
     ·have v':(v==z)=false:=by simpa using v1
      rw[v'] at b;exact h u v a b
   ·rw[jO] at q;by_cases u1:u=z
    ·subst u1;simp at q;subst q;exact .inl (Nat.lt_succ_self _)
    ·have u':(u==z)=false:=by simpa using u1
     rw[u'] at q;exact(hl u a q).imp (λq=>DG q) id
  ·have hb:(k==NameKind.cell)=false:=by simpa using hk
   rw[if_neg (by rw[hb];decide)] at e1 e2;exact Ju r n acc x y c h hl e1 e2
theorem Jv:∀(names:List (Str×NameKind)) (n:Nat) (acc:List (Str×Addr)) (x:Str) (c:Addr),(x,NameKind.cell)∉names->acc.lookup x=some c->(cellsFrom n names acc).lookup x=some c
 |[],n,acc,x,c,_,e=>e
 |(z,k)::r,n,acc,x,c,h,e=>by
  rw[cellsFrom];have hr:(x,NameKind.cell)∉r:=λq=>h (fV _ q);by_cases hk:k=.cell
  ·subst hk;rw[if_pos cc];refine Jv r (n+1) _ x c hr ?_;have:x≠z:=λq=>h (by rw[q];exact ju);have z':(x==z)=false:=by simpa using this
   rw[jO,z'];exact e
  ·have hb:(k==NameKind.cell)=false:=by simpa using hk
   rw[if_neg (by rw[hb];decide)];exact Jv r n acc x c hr e
theorem Jw:∀(names:List (Str×NameKind)) (acc:List (Str×Addr)) (s:Shared) (Q:List (Str×Addr)->Shared->Prop),
  Q (cellsFrom s.heap.objs.size names acc) {s with heap:=pushCells s.heap names}->
  wpAny M A (forIn names acc λx (cells:List (Str×Addr))=>match x with
   |(name,kind)=>if (kind==NameKind.cell)=true then do
     let a <-alloc {cls:=Value.type "cell",data:=Data.cell none}
     pure (ForInStep.yield ((name,a)::cells))
    else pure (ForInStep.yield cells)) Q E s
 |[],acc,s,Q,h=>by
  rw[List.forIn_nil];exact bC h
 |(z,k)::r,acc,s,Q,h=>by
  rw[DR];rw[cellsFrom,pushCells] at h;by_cases hk:k=.cell
  ·subst hk;rw[if_pos cc,if_pos cc] at h;refine aG ?_;dsimp only;rw[if_pos cc];refine aG (wpAny_alloc (bC ?_));refine Jw r _ _ Q ?_;have sz:(s.heap.push {cls:=Value.type "cell",data:=Data.cell none}).objs.size=s.heap.objs.size+1:=by unfold Heap.push;simp
   rw[sz];exact h
  ·have hb:(k==NameKind.cell)=false:=by simpa using hk
   rw[if_neg (by rw[hb];decide),if_neg (by rw[hb];decide)] at h;refine aG ?_;dsimp only;rw[if_neg (by rw[hb];decide)];exact bC (Jw r _ _ Q h)
theorem Zf(old:∀x c,cl.lookup x=some c->c<s.heap.objs.size)(inj:∀x y c,cl.lookup x=some c->cl.lookup y=some c->x=y)
  (h:∀h1 gO,h1.Ns s.heap.objs.size (λ_=>none)->(∀b o,s.heap.get? b=some o->h1.get? b=some o)->jW s.heap.objs.size h1 scope.names cl gO->Q {scope:=scope,locals:=s.heap.objs.size,globals:=globals,cells:=gO,qual:=qual,func:=none,code:=env.code,frame:=env.frame,builtins:=env.builtins} {s with heap:=h1}) :
  wpAny M A (newFunctionEnv scope globals cl [] qual none .none (some env)) Q E s:=by
 unfold newFunctionEnv;refine aG (wpAny_alloc ?_);refine aG ?_;refine Jw scope.names cl _ _ ?_;dsimp only;rw[List.forIn_nil];refine aG (bC (bC ?_));have sz:(s.heap.push {cls:=Value.type (if (some env).isSome=true then "dict" else "frame"),data:=Data.dict #[]}).objs.size=s.heap.objs.size+1:=by unfold Heap.push;simp
 refine h _ _ ?_ (λb o e=>Ak _ _ _ _ (cX _ e)) ⟨λx c e=>?_,λx y c hc e1 e2=>?_,λx e=>?_,λx c hx e=>Jv _ _ _ x c hx e⟩
 ·refine⟨_,#[],_,Ak _ _ _ _ (ji _ rfl),rfl,?_,λ_=>rfl⟩;intro e he;simp at he
 ·rcases Jt _ _ _ x c e with ⟨a,b⟩|⟨a,b,d⟩
  ·exact .inl ⟨a,b⟩
  ·rw[sz] at b;exact .inr ⟨a,by lia,d⟩
 ·exact Ju _ _ _ x y c (λu v a b=>inj u v c a b) (λu a q=>.inl (by rw[sz];exact DG (old u a q))) e1 e2
 ·have:=GX scope.names (s.heap.push {cls:=Value.type (if (some env).isSome=true then "dict" else "frame"),data:=Data.dict #[]}).objs.size cl (.inl e);exact GD.mp this
noncomputable def Cx.blk(X:Cx)(scope:Scope)(cl:List (Str×Addr))(N:List Str)(C:Addr)(s3:Shared)(H3:Hp)(fp:List Addr)(ak:List (Addr×Obj)):Cx where
 prog:=X.prog
 w:=X.w
 K:=X.K
 mg:=X.mg
 base:=X.base
 A:=X.A
 N:=N
 s₀:=s3
 H₀:=H3
 env:=compEnvC scope cl C X.env
 outer:=X.stack
 stack:=X.stack
 ex:=fp
 fn:=λx=>scope.names.lookup x==some .cell
 aj:=X.aj
 pn:=X.pn++ak
 xe:=λ_ _=>False
structure dI(sc scope:Scope):Prop where
 kind:scope.kind=.function
 Zg:∀y∈scope.names,y.2=.cell->scope.names.lookup y.1=some .cell
 free:∀y∈scope.names,y.2=.free->sc.names.lookup y.1=some .cell\/sc.names.lookup y.1=some .free
 loc:∀y∈scope.names,y.2=.local->scope.names.lookup y.1=some .local
section
variable {X:Cx}{ak:List (Addr×Obj)}{Z:St}{H:Hp}{s:Shared}{scope:Scope}{cl:List (Str×Addr)}{N:List Str}{fp:List Addr}{ZY:St}
theorem Zh{h1:Heap}{t:Nat}{gO:List (Str×Addr)}(I:Inv X ak Z H s)(B:dI X.env.scope scope)(c1:∀x c,cl.lookup x=some c->X.env.cells.lookup x=some c)(c2:∀x∈scope.names,x.2=.free->∃c,cl.lookup x.1=some c)
  (f:∀b∈fp,h_ X ak H b) (fo:∀b∈fp,∃o,s.heap.get? b=some o) (hn:h1.Ns s.heap.objs.size (λ_=>none)) (kp:∀b o,s.heap.get? b=some o->h1.get? b=some o) (CN:jW s.heap.objs.size h1 scope.names cl gO)
  (hl:ZY.length=N.length) (hZ:∀(i:Nat) (x:Str) (v:V),N[i]?=some x->ZY[i]?=some (some v)->scope.names.lookup x=some .free/\∃j:Nat,X.N[j]?=some x/\Z[j]?=some (some v)) :
  Inv (X.blk scope gO N s.heap.objs.size s H fp ak) [] ZY H {s with heap:=h1,toks:=t}:=by
 have lt:∀b o,s.heap.get? b=some o->b≠s.heap.objs.size:=λb o q=>i_ (cg q);have Qt:∀b,b≠X.env.locals->b∉X.fs->b∉frs X.stack:=λb a c z=>(iQ.mp (I.jB b z)).elim a c;have mem_of:∀x k,scope.names.lookup x=some k->(x,k)∈scope.names:=λx k q=>xM q;have old:∀x c,cl.lookup x=some c->c<s.heap.objs.size:=λx c q=>by
  obtain⟨v,o,q1,q2⟩:=I.cell x c (c1 x c q);exact cg q1
 have Qu:∀x,scope.names.lookup x=some .free->(x,NameKind.cell)∉scope.names:=λx q z=>by
  have:=B.Zg _ z rfl;have this:scope.names.lookup x=some .cell:=this;rw[q] at this;cases this
 refine⟨⟨I.ok.mod,B.kind,I.ok.glob,I.ok.blt,bY _,λx y c a b=>?_,λx hx=>?_,λx c z q=>?_,I.ok.hd,I.ok.frames,.inl rfl,λb hb=>?_,I.bs,jd I.ok.t_ I.sz,λb o q hb=>?_,λb hb=>Qt b (f b hb).2.1 (f b hb).2.2.1,I.stack,I.gM⟩,
  rfl,I.bare,Un.kept kp,⟨_,hn,λi x v e1 e2 e3=>?_⟩,λx c q=>?_,I.hok.fresh (bY _),λx c q=>?_,λp hp=>?_,I.hok.kept kp,hl⟩
 ·by_cases hc:s.heap.objs.size<c
  ·exact CN.d2 x y c hc a b
  ·rcases CN.d1 x c a with ⟨a1,_⟩|⟨_,a1,_⟩
   ·rcases CN.d1 y c b with ⟨b1,_⟩|⟨_,b1,_⟩
    ·exact I.ok.inj x y c (c1 x c a1) (c1 y c b1)
    ·exact absurd b1 hc
   ·exact absurd a1 hc
 ·have hx:(relabel scope X.env).names.lookup x=some .cell\/(relabel scope X.env).names.lookup x=some .free:=hx;have fr:scope.names.lookup x=some .cell\/scope.names.lookup x=some .free:=by
   rcases hx with hx|hx
   ·rcases Jr hx with z|⟨_,z⟩
    ·exact .inl z
    ·exact .inr z
   ·rcases Jr hx with z|⟨z,_⟩
    ·exact .inr z
    ·cases z
  rcases fr with fr|fr
  ·exact CN.d3 x fr
  ·obtain⟨c,hc⟩:=c2 (x,.free) (mem_of x _ fr) rfl;exact⟨c,CN.d4 x c (Qu x fr) hc⟩
 ·rcases CN.d1 x c q with ⟨_,q1⟩|⟨_,q1,_⟩
  ·have z:(scope.names.lookup x==some NameKind.cell)=true:=z;exact absurd (mem_of x _ (by simpa using z)) q1
  ·exact uV q1
 ·obtain⟨o,q⟩:=fo b hb;refine⟨lt b o q,λx c z=>?_⟩;rcases CN.d1 x c z with ⟨q1,_⟩|⟨_,q1,_⟩
  ·exact(f b hb).2.2.2.2.1 x c (c1 x c q1)
  ·exact λe=>absurd (cg q) (by rw[<-e];exact Nat.not_lt.mpr (uV q1))
 ·obtain⟨_,_,_,z,_⟩:=f b hb;rcases z with z|z
  ·exact I.ok.oF b o q z
  ·exact absurd (gw (cg q) (jd I.ok.t_ z)) (mU _)
 ·obtain⟨fr,j,hj,hv⟩:=hZ i x v e1 e2;have hk:=B.free (x,.free) (mem_of x _ fr) rfl;obtain⟨m,hm,Jx⟩:=I.loc;obtain⟨u,r,l⟩:=Jx j x v hj hv (hk.elim (λz=>.inr (.inl z)) λz=>.inr (.inr z));obtain⟨c',vm⟩:=c2 (x,.free) (mem_of x _ fr) rfl;have vm:cl.lookup x=some c':=vm;refine⟨u,r,.inr ⟨Js fr,c',CN.d4 x c' (Qu x fr) vm,?_⟩⟩;rcases l with ⟨k1,_⟩|⟨_,c,k2,oc,k3,k4⟩
  ·have k1:X.env.scope.names.lookup x=some .local:=k1;rcases hk with hk|hk
   ·have hk:X.env.scope.names.lookup x=some .cell:=hk;rw[k1] at hk;cases hk
   ·have hk:X.env.scope.names.lookup x=some .free:=hk;rw[k1] at hk;cases hk
  ·have e:=c1 x c' vm;rw[k2] at e;cases e;exact⟨oc,kp _ oc k3,k4⟩
 ·rcases CN.d1 x c q with ⟨q1,_⟩|⟨_,_,q1⟩
  ·obtain⟨v,o,q1,q2⟩:=I.cell x c (c1 x c q1);exact⟨v,o,kp c o q1,q2⟩
  ·exact⟨none,q1⟩
 ·rcases CN.d1 x c q with ⟨q1,_⟩|⟨_,q1,_⟩
  ·exact I.cY x c (c1 x c q1)
  ·exact I.hok.fresh (uV q1)
 ·have hp:p∈X.pn++ak:=by
   have z:p∈(X.pn++ak)++[]:=hp;simpa using z
  obtain⟨a1,a2,a3,a4,a5⟩:=I.pin p hp;exact⟨kp _ _ a1,a2,lt _ _ a1,Qt _ a3 a4,a5⟩
theorem Zi(I:Inv X ak Z H s)(f:∀b∈fp,h_ X ak H b)(bG:Inv (X.blk scope cl N s.heap.objs.size s H fp ak) [] Z' H' s'):Inv X ak Z H' s':=
 I.call' (ch:=fp) bG.os bG.base bG.hok bG.bare λb hb=>by
  obtain⟨_,a2,_,a4,a5,a6⟩:=f b hb;exact⟨a4.imp id λz=>Dw z,a2,a5,a6⟩
theorem Qv{Z':St}{H':Hp}{s':Shared}{h2:Heap}{C:Addr}(bG:Inv X ak Z H' s')(hC:X.s₀.heap.objs.size<=C)(n1:H' C=none)(n2:C≠X.env.locals)(n3:∀x c,X.env.cells.lookup x=some c->c≠C)(n4:∀p∈X.pn++ak,p.1≠C)
  (sb:Heap.SameBut C s'.heap h2):Inv X ak Z H' {s' with heap:=h2}:=
 bG.turned (t':=s'.toks) (λb o z q=>(sb.2 b z).trans q) n1 n2 (.inr hC) n3 n4
end
noncomputable abbrev mj(ifs:List Expr)(env:Env):Sem Bool:=forIn ifs true λc r=>if r=true then do let ok <-isTrue c env (eval c env);pure (ForInStep.yield ok) else pure (ForInStep.yield r)
theorem Zj{prog:Program}{w:World}{A:Around}{R:Result->Shared->Prop}{s:Shared}{elt target iter:Expr}{ifs:List Expr}{scope:Scope}{pos:Pos}{it acc:Value}{env:Env}(V:Nat->Shared->Prop)
  (turn:∀n s,V n s->wpAny (model prog w) A (pyNext it) (λr s₁=>match r with
   |none=>R (.ok .next) s₁
   |some v=>wpAny (model prog w) A (letOwnedTupleGo target it v) (λ_ s₂=>wpAny (model prog w) A (assign target env v) (λ_ s₃=>
     wpAny (model prog w) A (mj ifs env) (λok s₄=>
      if ok=true then wpAny (model prog w) A (eval elt env) (λx s₅=>wpAny (model prog w) A (call (.builtin "list.append") [acc,x]) (λ_ s₆=>∃m,m<n/\V m s₆) (λ_ _=>False) s₅) (λ_ _=>False) s₄
      else ∃m,m<n/\V m s₄) (λ_ _=>False) s₃) (λ_ _=>False) s₂) (λ_ _=>False) s₁) (λ_ _=>False) s)
  (n:Nat) (h:V n s):codeAny (model prog w) A (.compLoop (.ListComp elt [⟨target,iter,ifs,0⟩] scope pos) 0 it acc env) R s:=by
 refine codeAny_loop rfl V (λn s hV=>?_) n h;show wpAny _ A ((compTurn (.ListComp elt [⟨target,iter,ifs,0⟩] scope pos) 0 it acc env).onRaise (λx=>do noteFrame x env;theTreesLotGoes x)) _ _ s;refine wpAny_noted ?_;rw[compTurn_list];refine aG (qG (aG (gK (turn n s hV) (λr s₁ h₁=>?_) λ_ _ z=>z.elim)));cases r with
 |none=>exact bC h₁
 |some v=>
  refine aG (gK h₁ (λ_ s₂ h₂=>?_) λ_ _ z=>z.elim);refine aG (gK h₂ (λ_ s₃ h₃=>aG (gK h₃ (λok s₄ h₄=>?_) λ_ _ z=>z.elim)) λ_ _ z=>z.elim);cases ok with
  |true=>
   simp only[if_true] at h₄ ⊢;exact aG (aG (gK h₄ (λx s₅ h₅=>aG (gK h₅ (λ_ s₆ h₆=>bC (bC ⟨rfl,h₆⟩)) λ_ _ z=>z.elim)) λ_ _ z=>z.elim))
  |false=>
   simp only[Bool.false_eq_true,if_false] at h₄ ⊢;exact bC ⟨rfl,h₄⟩
def Jy(X:Cx)(ifs:List Expr)(t:TT):Prop:=
 ∀(ak:List (Addr×Obj)) (s:Shared) (Z:St) (H:Hp) (Q:Bool->Hp->Prop),Inv X ak Z H s->t Z H Q->wpAny (model X.prog X.w) X.A (mj ifs X.env) (TP X ak Z Q) X.xe s
noncomputable def Jz:TT:=λ_ H Q=>Q true H
theorem Zk:Jy X [] Jz:=λ_ _ _ H _ I h=>wpAny_tests_nil ⟨H,I,h⟩
def Al(ZY:St->St)(g:TG)(tt:TT)(te:TE)(bG:It)(Z:St)(H:Hp)(Q:VK):Prop:=∀D,H D=none->∃W:Nat->Nat->St->Hp->Prop,(∃m,W 0 m (ZY Z) (upd H D (.lst [])))/\∀i m Z' H',W i m Z' H'->
 (bG.stop i H'/\Q (.ref D) H')\/(bG.go i H'/\∃N:St->Hp->Prop,(∀Z2 H2,N Z2 H2->∃m',m'<m/\W (i+1) m' Z2 H2)/\∀x H2,bG.vB i H' x H2->g x Z' H2 λZ3 H3=>tt Z3 H3 λok H4=>
  if ok=true then te Z3 H4 λy H5=>∃ys,H5 D=some (.lst ys)/\ys.length<sizeLine/\N Z3 (upd H5 D (.lst (ys++[y]))) else N Z3 H4)
section
variable {X:Cx}{elt tg iter:Expr}{ifs:List Expr}{scope:Scope}{pos:Pos}{N:List Str}{ZY:St->St}{wi:TI}{g:TG}{tt:TT}{te:TE}
structure Parts(X:Cx)(elt tg:Expr)(ifs:List Expr)(scope:Scope)(N:List Str)(g:TG)(tt:TT)(te:TE):Prop where
 tgt:∀cl C s3 H3 fp ak,PG (X.blk scope cl N C s3 H3 fp ak) tg g
 Zm:∀cl C s3 H3 fp ak,Jy (X.blk scope cl N C s3 H3 fp ak) ifs tt
 el:∀cl C s3 H3 fp ak,PE (X.blk scope cl N C s3 H3 fp ak) elt te
theorem Qw(hc:X.aj=true)(B:dI X.env.scope scope)(P:Parts X elt tg ifs scope N g tt te)(hl:∀Z,(ZY Z).length=N.length)
  (hZ:∀(Z:St) (i:Nat) (x:Str) (v:V),N[i]?=some x->(ZY Z)[i]?=some (some v)->scope.names.lookup x=some .free/\∃j:Nat,X.N[j]?=some x/\Z[j]?=some (some v))
  {ak:List (Addr×Obj)} {s:Shared} {Z:St} {H:Hp} {Q:VK} {it:Addr} {fp:List Addr} {tn:Nat->Heap->Prop} {bG:It} (I:Inv X ak Z H s) (T:Turn X.prog X.w X.K tg bG fp it tn) (st:tn 0 s.heap) (f:∀b∈fp,h_ X ak H b) (h:Al ZY g tt te bG Z H Q)
  {cl:List (Str×Addr)} (c1:∀x c,cl.lookup x=some c->X.env.cells.lookup x=some c) (c2:∀x∈scope.names,x.2=.free->∃c,cl.lookup x.1=some c) {R:Value->Addr->Result->Shared->Prop} {E:Value->Shared->Prop}
  (k:∀D C s' H',Inv X ak Z H' s'->X.s₀.heap.objs.size<=C->H' C=none->C≠X.env.locals->(∀x c,X.env.cells.lookup x=some c->c≠C)->(∀p∈X.pn++ak,p.1≠C)->(∃m,s'.heap.Ns C m)->Q (.ref D) H'->R (.ref D) C (.ok .next) s') :
  wpAny (model X.prog X.w) X.A (newList []) (λacc s₃=>wpAny (model X.prog X.w) X.A (newFunctionEnv scope X.env.globals cl [] X.env.qual none .none (some X.env)) (λcenv s₄=>
   codeAny (model X.prog X.w) X.A (.compStart (.ListComp elt [⟨tg,iter,ifs,0⟩] scope pos) 0 (.ref it) acc {cenv with scope:=relabel scope X.env}) (R acc cenv.locals) s₄) E s₃) E s:=by
 refine xO ?_;have hD:H s.heap.objs.size=none:=I.hok.fresh (bY _);have I3:Inv X ak Z (upd H s.heap.objs.size (.lst [])) {s with heap:=s.heap.push {cls:=.type "list",dict:=none,data:=.seq ([]:List Value).toArray}}:=
  I.laid (t':=s.toks) (λb u q=>cX _ q) (bY _) ⟨xQ _,[],0,.nil,ji _ rfl⟩
 have f3:∀b∈fp,h_ X ak (upd H s.heap.objs.size (.lst [])) b:=λb hb=>by
  obtain⟨a1,a2⟩:=f b hb;obtain⟨o,q,_⟩:=T.obj 0 _ st b hb;exact⟨by rw[dB (i_ (cg q))];exact a1,a2⟩
 have st3:tn 0 (s.heap.push {cls:=.type "list",dict:=none,data:=.seq ([]:List Value).toArray}):=T.keep _ _ _ st λb hb o q=>cX _ q;obtain⟨W,⟨m0,w0⟩,turn⟩:=h s.heap.objs.size hD;generalize Zn:({s with heap:=s.heap.push {cls:=.type "list",dict:=none,data:=.seq ([]:List Value).toArray}}:Shared)=s3 at *;have vR:tn 0 s3.heap:=by rw[<-Zn];exact st3
 generalize hH3:upd H s.heap.objs.size (.lst [])=H3 at *;refine Zf (λx c q=>by obtain⟨v,o,q1,_⟩:=I3.cell x c (c1 x c q);exact cg q1) (λx y c a b=>I3.ok.inj x y c (c1 x c a) (c1 y c b)) λh1 gO hn kp CN=>?_;have JD:Inv (X.blk scope gO N s3.heap.objs.size s3 H3 fp ak) [] (ZY Z) H3 {s3 with heap:=h1}:=
  Zh (t:=s3.toks) I3 B c1 c2 f3 (λb hb=>let ⟨o,q,_⟩:=T.obj 0 _ vR b hb;⟨o,q⟩) hn kp CN (hl Z) (hZ Z)
 have Qx:tn 0 h1:=T.keep _ _ _ vR λb hb o q=>kp b o q;have fY:∀{H':Hp},(∀b∈fp,H' b=none)->∀b∈fp,h_ (X.blk scope gO N s3.heap.objs.size s3 H3 fp ak) [] H' b:=λ{H'} z b hb=>by
  obtain⟨a1,a2,a3,a4,a5,a6⟩:=f3 b hb;obtain⟨o,q,_⟩:=T.obj 0 _ vR b hb;refine⟨z b hb,i_ (cg q),λy=>(iQ.mp (I3.jB b y)).elim a2 a3,.inl hb,λx c y=>?_,λp hp=>a6 p ?_⟩
  ·rcases CN.d1 x c y with ⟨q1,_⟩|⟨_,q1,_⟩
   ·exact a5 x c (c1 x c q1)
   ·exact λe=>absurd (cg q) (by rw[<-e];exact Nat.not_lt.mpr (uV q1))
  have y:p∈(X.pn++ak)++[]:=hp;simpa using y
 have loop:codeAny (model X.prog X.w) X.A (.compLoop (.ListComp elt [⟨tg,iter,ifs,0⟩] scope pos) 0 (.ref it) (.ref s.heap.objs.size) (compEnvC scope gO s3.heap.objs.size X.env)) (R (.ref s.heap.objs.size) s3.heap.objs.size) {s3 with heap:=h1}:=by
  refine Zj (λn s'=>∃i Z' H',Inv (X.blk scope gO N s3.heap.objs.size s3 H3 fp ak) [] Z' H' s'/\tn i s'.heap/\(∀b∈fp,H' b=none)/\W i n Z' H') ?_ m0 ⟨0,ZY Z,H3,JD,Qx,λb hb=>(f3 b hb).1,w0⟩;rintro n s5 ⟨i,Z5,H5,rR,xW,En,w5⟩;rcases turn i n Z5 H5 w5 with ⟨stop,q⟩|⟨go,Nx,hN,step⟩
  ·refine aP (T.done (X.blk scope gO N s3.heap.objs.size s3 H3 fp ak) rfl rfl rfl hc i [] s5 Z5 H5 _ rR (fY En) xW stop) λr s6 ⟨hr,fO⟩=>?_;subst hr;have JX:=Zi I3 f3 fO;refine k s.heap.objs.size s3.heap.objs.size s6 H5 JX I3.sz fO.free (Nat.ne_of_gt I3.lt) (λx c y z=>?_) (λp hp z=>?_) ?_ q
   ·obtain⟨v,qc⟩:=I3.cell x c y;exact absurd qc.lt (by rw[z];exact mU _)
   ·exact absurd (cg (I3.pin p hp).1) (by rw[z];exact mU _)
   ·obtain⟨m,hm,_⟩:=fO.loc;exact⟨m,hm⟩
  ·refine aP (T.item (X.blk scope gO N s3.heap.objs.size s3 H3 fp ak) rfl rfl rfl hc i [] s5 Z5 H5 _ rR (fY En) xW go) λr s6 hx=>rz hx λu hr h6=>?_;subst hr;refine aP h6 λ_ s7 hz=>?_;obtain⟨x,H7,jF,r7,y7,JF,Zo⟩:=hz;have Am:=jF.pinned (fY Zo) (T.obj _ _ JF);refine aP (P.tgt gO s3.heap.objs.size s3 H3 fp ak _ s7 Z5 H7 x u _ Am r7 (step x H7 y7)) λ_ s8 hz=>?_;obtain⟨Z8,H8,JL,q8⟩:=hz;refine aP (P.Zm gO s3.heap.objs.size s3 H3 fp ak _ s8 Z8 H8 _ JL q8) λok s9 hx=>rz hx λH9 Ao q9=>?_;have again:∀{H':Hp} {s':Shared},Inv (X.blk scope gO N s3.heap.objs.size s3 H3 fp ak) ([]++iu fp s7.heap) Z8 H' s'->Nx Z8 H'->∃m,m<n/\∃i Z' H',Inv (X.blk scope gO N s3.heap.objs.size s3 H3 fp ak) [] Z' H' s'/\tn i s'.heap/\(∀b∈fp,H' b=none)/\W i m Z' H':=λ{H' s'} kW n'=>by
    obtain⟨m',hm,w'⟩:=hN Z8 H' n';refine⟨m',hm,i+1,Z8,H',kW.eU,T.keep _ _ _ JF λb hb o e=>(kW.pin (b,o) (qD _ (qD _ (Em hb e)))).1,λb hb=>?_,w'⟩;obtain⟨o,e,d⟩:=T.obj _ _ JF b hb;exact(kW.pin (b,o) (qD _ (qD _ (Em hb e)))).2.1
   cases ok with
   |false=>
    rw[if_neg J0] at q9 ⊢;exact again Ao q9
   |true=>
    rw[if_pos rfl] at q9 ⊢;refine aP (P.el gO s3.heap.objs.size s3 H3 fp ak _ s9 Z8 H9 _ Ao q9) λv Zq hz=>?_;obtain⟨y,Zr,Aq,r10,ys,JM,hz,Zu⟩:=hz;refine aP (Yj (X:=(X.blk scope gO N s3.heap.objs.size s3 H3 fp ak)) _ Zq Z8 Zr (.ref s.heap.objs.size) [y] (.ref s.heap.objs.size) [v] (λ_ H'=>Nx Z8 H') Aq rfl (.cons r10 .nil) ⟨s.heap.objs.size,ys,y,rfl,rfl,JM,hz,Zu⟩) λ_ s11 hx=>dj hx λ_ H11 Ar _ Zv=>again Ar Zv
 exact codeAny_compStart_list loop (T.self _ 0 _ _ _ Qx loop)
end
noncomputable def oZ(wi:TI)(ZY:St->St)(g:TG)(tt:TT)(te:TE):TE:=λZ H Q=>wi Z H λbG H1=>Al ZY g tt te bG Z H1 Q
section
variable {X:Cx}{elt tg iter:Expr}{ifs:List Expr}{scope:Scope}{pos spos py:Pos}{N:List Str}{ZY:St->St}{wi:TI}{g:TG}{tt:TT}{te:TE}{i:Nat}{y:Str}
theorem Qy(I:Inv X ak Z H s)(B:dI X.env.scope scope):∃cl,closureFor scope X.env=pure cl/\(∀x c,cl.lookup x=some c->X.env.cells.lookup x=some c)/\∀x∈scope.names,x.2=.free->∃c,cl.lookup x.1=some c:=
 Ze λx hx hf=>I.ok.has x.1 (B.free x hx hf)
theorem Zw(hc:X.aj=true)(B:dI X.env.scope scope)(hi:PI X tg iter wi)(P:Parts X elt tg ifs scope N g tt te)(hl:∀Z,(ZY Z).length=N.length)
  (hZ:∀(Z:St) (i:Nat) (x:Str) (v:V),N[i]?=some x->(ZY Z)[i]?=some (some v)->scope.names.lookup x=some .free/\∃j:Nat,X.N[j]?=some x/\Z[j]?=some (some v))
  (hs:∀x,foldedSetIterable iter X.env x=pure x:=by intro _;rfl):PE X (.ListComp elt [⟨tg,iter,ifs,0⟩] scope pos) (oZ wi ZY g tt te):=by
 intro ak s Z H Q I h;obtain⟨cl,jX,c1,c2⟩:=Qy I B;rw[eval_ListComp];refine wpAny_comprehension_free (use:=none) rfl hs jX B.kind B.loc (aP (hi ak s Z H _ I h) λxv s1 h1=>aP h1 λitv s2 h2=>?_);obtain⟨it,fp,tn,bG,H2,e,I2,T,st2,f2,hq⟩:=h2;subst e;exact Qw hc B P hl hZ I2 T st2 f2 hq c1 c2 (R:=λacc C=>compPost (model X.prog X.w) X.A X.xe none (EP X ak Z Q) acc C) λD C s' H' kW a b c d e ⟨m,hm⟩ q=>⟨m,hm,λh' sb=>⟨.ref D,H',Qv (Z':=Z) kW a b c d e sb,rfl,q⟩⟩
theorem Zx(hc:X.aj=true)(hN:X.N.Nodup)(Av:X.N[i]?=some y)(hx:Loc X.env.scope y)(hf:X.fn y=true\/X.env.scope.names.lookup y=some .local)(B:dI X.env.scope scope)(hi:PI X tg iter wi)(P:Parts X elt tg ifs scope N g tt te)(hl:∀Z,(ZY Z).length=N.length)
  (hZ:∀(Z:St) (i:Nat) (x:Str) (v:V),N[i]?=some x->(ZY Z)[i]?=some (some v)->scope.names.lookup x=some .free/\∃j:Nat,X.N[j]?=some x/\Z[j]?=some (some v))
  (Aw:swapsWith (.ListComp elt [⟨tg,iter,ifs,0⟩] scope pos) (some (.Name y py)) spos.line X.env=pure true) (hs:∀x,foldedSetIterable iter X.env x=pure x:=by intro _;rfl) :
  PS X (.Assign [.Name y py] (.ListComp elt [⟨tg,iter,ifs,0⟩] scope pos) spos) (vA (oZ wi ZY g tt te) (cB i)):=by
 intro ak s Z H D I h;obtain⟨cl,jX,c1,c2⟩:=Qy I B;rw[exec_Assign_Name_used _ _ _ _ Aw];refine aG (qG (aG ?_));show wpAny _ X.A (do let _ <-comprehension (.ListComp elt [⟨tg,iter,ifs,0⟩] scope pos) scope X.env _ (newList []) false (eval iter X.env) (some (assign (.Name y py) X.env))) _ _ s;refine aG (wpAny_comprehension_free (use:=some (assign (.Name y py) X.env)) rfl hs jX B.kind B.loc (aP (hi ak s Z H _ I h) λxv s1 h1=>aP h1 λitv s2 h2=>?_));obtain⟨it,fp,tn,bG,H2,e,I2,T,st2,f2,hq⟩:=h2;subst e;refine Qw hc B P hl hZ I2 T st2 f2 hq c1 c2 (R:=λacc C=>compPost (model X.prog X.w) X.A X.xe (some (assign (.Name y py) X.env)) _ acc C) λD' C s' H' kW a b c d e ⟨m,hm⟩ q=>?_;show wpAny _ _ (assign (.Name y py) X.env (.ref D')) _ _ s';refine wpAny_assign_Name (O5 (v:=.ref D') kW hN Av hx rfl (λs5 rR ⟨ad,sb,Zy⟩=>?_) hf);have nC:C≠ad:=by
  rcases Zy with z|z
  ·rw[z];exact c
  ·exact(d y ad z).symm
 obtain⟨ol,es,ep,e1,r1⟩:=hm;refine⟨m,⟨ol,es,ep,(sb.2 C nC).trans e1,r1⟩,λh' Zz=>bC (bC ⟨_,H',Qv (Z':=Z) rR a b c d e Zz,q⟩)⟩
end
end L2
namespace L2
open PySem PySem.Spec PyProof.Rows PySem.W
noncomputable def o_{α:Type}(lt:Nat->Nat->Option Bool):KasT α->Option α
 |.ret a=>some a
 |.ask i j k=>match lt i j with
  |some b=>o_ lt (k b)
  |none=>none
end L2
namespace L2
open PySem PySem.Spec PyProof.Rows PySem.W PySem.Calls PySem.Builtin PySem.Builtin.ObjectAttr
theorem Qz(self:Value):∀{l:List Value},aV l=true->refuseLoop self "__setattr__" l=pure ()
 |.ref c::r,e=>by rw[refuseLoop_ref];exact Qz self (by unfold aV at e;exact e)
 |[],e=>by cases e
 |.type n::r,e=>by
  have e':(Value.type n::r)=mV:=by unfold aV at e;exact gB.mp e
  rw[e'];exact PySem.F.store_ValueError.passes self
 |.none::r,e=>by unfold aV at e;cases (gB.mp e)
 |.bool _::r,e=>by unfold aV at e;cases (gB.mp e)
 |.int _ _::r,e=>by unfold aV at e;cases (gB.mp e)
 |.str _ _::r,e=>by unfold aV at e;cases (gB.mp e)
 |.bytes _ _::r,e=>by unfold aV at e;cases (gB.mp e)
 |.float _ _::r,e=>by unfold aV at e;cases (gB.mp e)
 |.builtin _::r,e=>by unfold aV at e;cases (gB.mp e)
theorem QB:∀{l:List Value},aV l=true->l.contains (.type "object")=true
 |.ref c::r,e=>by rw[Hf,QB (l:=r) (by unfold aV at e;exact e),Bool.or_true]
 |[],e=>by cases e
 |.type n::r,e=>by
  have e':(Value.type n::r)=mV:=by unfold aV at e;exact gB.mp e
  rw[e']
  decide
 |.none::r,e=>by unfold aV at e;cases (gB.mp e)
 |.bool _::r,e=>by unfold aV at e;cases (gB.mp e)
 |.int _ _::r,e=>by unfold aV at e;cases (gB.mp e)
 |.str _ _::r,e=>by unfold aV at e;cases (gB.mp e)
 |.bytes _ _::r,e=>by unfold aV at e;cases (gB.mp e)
 |.float _ _::r,e=>by unfold aV at e;cases (gB.mp e)
 |.builtin _::r,e=>by unfold aV at e;cases (gB.mp e)
section
variable {prog:Program}{w:World}{A:Around}{R:Result->Shared->Prop}{E:Value->Shared->Prop}{s:Shared}{K:W.Frag}{x C:Addr}{ox:Obj}{cd:ClassData}{name:Str}{v:Value}{mA:Str->Option Value}{ns:List Str}
theorem uf(hx:h.get? x=some ox)(hc:ox.cls=.ref C):Looks M h (typeOf (.ref x)) (.ref C):=by
 rw[<-hc];exact(Looks.ld hx).andThen .now
theorem JV(X:K.In s.heap)(hx:s.heap.get? x=some ox)(hc:ox.cls=.ref C)(pq:∀c,ox.data≠.cls c)(jX:clsIn K C=some cd)(hm:aV cd.mro=true)(pA:cd.hasDict=true)(ht:findIn K (.ref C) name=some none)
  (hd:(ox.dict=none/\∀n,mA n=none)\/∃dx,ox.dict=some dx/\dx≠x/\s.heap.Ns1 dx mA) (hw:Within mA ns) (nO:ns.length<=1000)
  (hq:∀h' tk' d,h'.get? x=some {ox with dict:=some d}->d≠x->h'.Ns1 d (λy=>if y=name then some v else mA y)->((ox.dict=none/\s.heap.objs.size<=d)\/ox.dict=some d)->(∀b o,b≠x->b≠d->s.heap.get? b=some o->h'.get? b=some o)->R (.ok (.ret .none)) {s with heap:=h',toks:=tk'}) :
  codeAny (model prog w) A (.call (.builtin "object.__setattr__") ⟨[.ref x,.str name tk,v],[]⟩) R s:=by
 have SF:=PySem.F.store_object;have ne:cd.mro.isEmpty=false:=by cases q:cd.mro with|nil=>rw[q] at hm;cases hm|cons _ _=>rfl
 have I:Looks (model prog w) s.heap (typeOf (.ref x)) (.ref C):=uf hx hc;have ao:Looks (model prog w) s.heap (isInstance (.ref x) (.type "object")) true:=I.andThen (looks_mroIn X (by unfold mroIn;rw[jX,Option.bind_some,if_neg (by rw[ne];decide),QB hm]));refine codeAny_call_builtin SF.slot.plain SF.entry (@check_slot (model prog w) _ _ s "object.__setattr__" "object" "__setattr__" (.ref x) [.str name tk,v] [] _ SF.kind SF.split ao (SF.args (.ref x) (.str name tk) v) ?_);have ZC:Looks (model prog w) s.heap (mroOf (.ref C)) cd.mro:=(looks_clsIn X jX).andThen .now;rw[osa_eq,refuse_eq];refine aG (aG (I.here (aG (ZC.here ?_))));rw[Qz _ hm];refine bC (aG (I.here (aG ((xP X ht).here (aG (bC ?_))))));obtain⟨oc,odi,oda,osl⟩:=ox;dsimp only at hc hd hq pq;subst hc;refine aG (bC (aG (aG (wpAny_loadPart hx (aG ((looks_clsIn X jX).here ?_))))));rw[pA];rcases hd with ⟨rfl,hn⟩|⟨dx,rfl,nx,n1⟩
 ·have hfr:=(Heap.get?_some_iff.mp hx).2;have hx₁:(s.heap.push {cls:=.type "dict",data:=.dict #[]}).get? x=some ⟨.ref C,none,oda,osl⟩:=cX _ hx;have JZ:x≠s.heap.objs.size:=i_ (cg hx);have key:wpAny (model prog w) A.in1 (do
    let d <-alloc {cls:=Value.type "dict",data:=Data.dict #[]}
    update x λo=>{cls:=o.cls,dict:=some d,data:=o.data,slots:=o.slots}
    dictMade (Value.ref C) x d) (λa s'=>wpAny (model prog w) A.in1 (match a with
    |some d=>storeInDict d (Value.str name tk) name v
    |none=>noDictFor (Value.ref x) (Value.ref C) name (Option.isSome (none:Option Value)))
    (λfin s'=>match fin with
     |Fin.done f=>R (Except.ok f) s'
     |Fin.again c'=>c'.quiet=true/\codeAny (model prog w) A c' R s')
    (λe s'=>R (Except.error e) s') s') (λe s'=>R (Except.error e) s') s:=by
   refine aG (wpAny_alloc' ?_);refine aG (wpAny_update' hx₁ ?_);refine bC (a:=some s.heap.objs.size) ?_;have ZD:((s.heap.push {cls:=.type "dict",data:=.dict #[]}).update x λo=>{cls:=o.cls,dict:=some s.heap.objs.size,data:=o.data,slots:=o.slots}).get? s.heap.objs.size
    =some {cls:=.type "dict",data:=.dict #[]}:=
    (Heap.get?_update_ne _ _ _ _ JZ.symm).trans (Heap.get?_push_at rfl rfl)
   have J1:((s.heap.push {cls:=.type "dict",data:=.dict #[]}).update x λo=>{cls:=o.cls,dict:=some s.heap.objs.size,data:=o.data,slots:=o.slots}).Ns s.heap.objs.size (λ_=>none):=
    ⟨_,#[],_,ZD,rfl,λe he=>absurd he MP,λ_=>rfl⟩
   show wpAny _ _ (storeInDict s.heap.objs.size (.str name tk) name v) _ _ _;unfold storeInDict newKeyGuard;refine aG (bC (aG (wpAny_nsSet1 (Heap.Ns1.of_empty J1) λh' rD hs=>?_)));obtain⟨oD,esD,epD,J3,J5,J6⟩:=rD.count (Within.cons name v Within.nil);refine aG (wpAny_lookBehind J3 (by rw[J5];exact pastItsLine_dict (jd J6 (by rw[gJ,tV,xR];lia))) ?_);refine bC (hq h' _ s.heap.objs.size ?_ JZ.symm ?_ (.inl ⟨rfl,bY _⟩) λb ob ZF _ hb=>?_)
   ·refine(hs.2 x JZ).trans (yM _ hx₁ ?_);cases oda<;>first|rfl|exact hfr
   ·obtain⟨o',es,ep,e1,e2,e3,eu,e4⟩:=rD;exact⟨o',es,ep,e1,e2,e3,eu,λy=>by rw[e4 y];by_cases hy:y=name<;>simp[hy,hn]⟩
   ·exact(hs.2 b (i_ (cg hb))).trans ((Heap.get?_update_ne _ _ _ _ ZF).trans (cX _ hb))
  cases oda<;>first|exact key|exact absurd rfl (pq _)
 ·refine bC (a:=some dx) ?_;show wpAny _ _ (storeInDict dx (.str name tk) name v) _ _ _;unfold storeInDict newKeyGuard;refine aG (bC (aG (wpAny_nsSet1 n1 λh' rD hs=>?_)));obtain⟨oD,esD,epD,J3,J5,J6⟩:=rD.count (Within.cons name v hw);refine aG (wpAny_lookBehind J3 (by rw[J5];exact pastItsLine_dict (jd J6 (by rw[gJ,xR];lia))) ?_);exact bC (hq h' _ dx ((hs.2 x nx.symm).trans hx) nx rD (.inr rfl) λb o _ nb e=>(hs.2 b nb).trans e)
theorem Ax(X:K.In s.heap)(hx:s.heap.get? x=some ox)(hc:ox.cls=.ref C)(pq:∀c,ox.data≠.cls c)(hs:findIn K (.ref C) "__setattr__"=some (some (.builtin "object.__setattr__")))(jX:clsIn K C=some cd)(hm:aV cd.mro=true)(pA:cd.hasDict=true)(ht:findIn K (.ref C) name=some none)
  (hd:(ox.dict=none/\∀n,mA n=none)\/∃dx,ox.dict=some dx/\dx≠x/\s.heap.Ns1 dx mA) (hw:Within mA ns) (nO:ns.length<=1000)
  (hq:∀h' tk' d,h'.get? x=some {ox with dict:=some d}->d≠x->h'.Ns1 d (λy=>if y=name then some v else mA y)->((ox.dict=none/\s.heap.objs.size<=d)\/ox.dict=some d)->(∀b o,b≠x->b≠d->s.heap.get? b=some o->h'.get? b=some o)->Q () {s with heap:=h',toks:=tk'}) :
  wpAny (model prog w) A (setAttr (.ref x) name v) Q E s:=by
 refine aG (wpAny_mkText (aG (aG (aG (uf hx hc _ _ _ _ (λ_ _ e=>e) (xP X hs _ _ _ _ (λ_ _ e=>e) (lO ?_)))))));rw[PySem.F.store_object.slot.bind];refine aG (bC (aG (uZ (JV (s:={s with toks:=s.toks+1}) X hx hc pq jX hm pA ht hd hw nO λh' tk' d a1 a2 a3 a4 a5=>?_))));exact bC (bC (hq h' tk' d a1 a2 a3 a4 a5))
end
end L2
namespace L2
open PySem PySem.Spec PyProof.Rows PySem.W PySem.Calls
noncomputable def nmE:Expr->Option Str
 |.Name a _=>some a
 |_=>none
noncomputable def QC:Expr->Option (Expr×Str)
 |.Attribute o x _=>some (o,x)
 |_=>none
noncomputable def asE:Stmt->Option (List Expr×Expr)
 |.Assign ts v _=>some (ts,v)
 |_=>none
noncomputable def Ay:List Expr->Option Expr
 |[]=>none
 |t::r=>if r.isEmpty then some t else none
noncomputable def vU(st:Stmt):Option (Str×Str×Str):=(asE st).bind λp=>(Ay p.1).bind λt=>(QC t).bind λq=>(nmE q.1).bind λa=>(nmE p.2).map λy=>(a,q.2,y)
theorem QD{e:Expr}{a:Str}(h:nmE e=some a):∃p,e=.Name a p:=by cases e<;>first|(cases h;exact⟨_,rfl⟩)|cases h
theorem ZG{e:Expr}{a:Expr×Str}(h:QC e=some a):∃p,e=.Attribute a.1 a.2 p:=by cases e<;>first|(cases h;exact⟨_,rfl⟩)|cases h
theorem ZJ{e:Stmt}{a:List Expr×Expr}(h:asE e=some a):∃p,e=.Assign a.1 a.2 p:=by cases e<;>first|(cases h;exact⟨_,rfl⟩)|cases h
theorem ZK{e:List Expr}{a:Expr}(h:Ay e=some a):e=[a]:=by
 cases e with
 |nil=>cases h
 |cons t r=>cases r with
  |nil=>cases h;rfl
  |cons _ _=>cases h
theorem ZL{st:Stmt}{t:Str×Str×Str}(h:vU st=some t):∃p1 p2 p3 p4,st=.Assign [.Attribute (.Name t.1 p1) t.2.1 p2] (.Name t.2.2 p3) p4:=by
 obtain⟨b,e1,h⟩:=kh.mp h;obtain⟨u,e2,h⟩:=kh.mp h;obtain⟨o,e3,h⟩:=kh.mp h;obtain⟨a,e4,h⟩:=kh.mp h;obtain⟨y,e5,h6⟩:=lN.mp h;obtain⟨p1,e1⟩:=ZJ e1;obtain⟨p2,e3⟩:=ZG e3;obtain⟨p3,e4⟩:=QD e4;obtain⟨p4,e5⟩:=QD e5;exact⟨p3,p2,p4,p1,by rw[<-h6,e1,ZK e2,e3,e4,e5]⟩
noncomputable def eZ(sf:Str):List Stmt->List Str->Bool
 |[],fs=>fs.isEmpty
 |st::rest,fs=>match fs with
  |[]=>false
  |f::fs=>vU st==some (sf,f,f)&&eZ sf rest fs
theorem QF{sf f:Str}{fs:List Str}{body:List Stmt}(h:eZ sf body (f::fs)=true):∃p1 p2 p3 p4 rest,body=.Assign [.Attribute (.Name sf p1) f p2] (.Name f p3) p4::rest/\eZ sf rest fs=true:=by
 cases body with
 |nil=>cases h
 |cons st rest=>
  have h:(vU st==some (sf,f,f)&&eZ sf rest fs)=true:=h;obtain⟨h1,h2⟩:=(bZ _ _).mp h;obtain⟨p1,p2,p3,p4,e⟩:=ZL (eq_of_beq h1);exact⟨p1,p2,p3,p4,rest,by rw[e],h2⟩
noncomputable def iB:List (Str×Value)->(Str->Option Value)->Str->Option Value
 |[],m=>m
 |(f,u)::r,m=>iB r (λy=>if y=f then some u else m y)
section
variable {prog:Program}{w:World}{K:W.Frag}{C e:Addr}{cd:ClassData}{env:Env}{m:Str->Option Value}{A:Around}{E:Value->Shared->Prop}{sf:Str}
theorem QG(hk:env.scope.kind=.function)(jY:m sf=some (.ref e))(Az:env.scope.names.lookup sf=some .local)(A_:(sf==("__debug__" : Str))=false)(pB:findIn K (.ref C) "__setattr__"=some (some (.builtin "object.__setattr__")))(jX:clsIn K C=some cd)(hm:aV cd.mro=true)(pA:cd.hasDict=true)
  (Ba:∀b o,K.lookup b=some o->b≠e) (hL:env.locals≠e):∀(fs:List Str) (us:List Value) (body:List Stmt) (ox:Obj) (mA:Str->Option Value) (ns:List Str) (s:Shared) (Q:Flow->Shared->Prop),eZ sf body fs=true->fs.length=us.length->
  (∀(i:Nat) f u,fs[i]?=some f->us[i]?=some u->m f=some u)->(∀f∈fs,env.scope.names.lookup f=some .local/\(f==("__debug__" : Str))=false/\findIn K (.ref C) f=some none)->
  K.In s.heap->s.heap.Ns env.locals m->s.heap.get? e=some ox->ox.cls=.ref C->(∀c,ox.data≠.cls c)->(∃dx,ox.dict=some dx/\dx≠e/\s.heap.Ns1 dx mA/\dx≠env.locals/\∀b o,K.lookup b=some o->b≠dx)->Within mA ns->ns.length+fs.length<=1000->
  (∀h' tk',h'.get? e=some ox->(∀dx,ox.dict=some dx->h'.Ns1 dx (iB (fs.zip us) mA))->(∀b o,b≠e->(∀dx,ox.dict=some dx->b≠dx)->s.heap.get? b=some o->h'.get? b=some o)->Q .next {s with heap:=h',toks:=tk'})->
  wpAny (model prog w) A (execs body env) Q E s
 |[],us,[],ox,mA,ns,s,Q,hb,hl,hv,hf,X,hN,he,hc,pq,⟨dx,h1,h2,h3,h4,h5⟩,hw,hz,q=>by
  cases us with
  |cons _ _=>cases hl
  |nil=>exact DP (q s.heap s.toks he (λd hd=>by rw[h1] at hd;cases hd;exact h3) λb o _ _ e=>e)
 |[],us,st::rest,ox,mA,ns,s,Q,hb,_,_,_,_,_,_,_,_,_,_,_,_=>by
  cases hb
 |f::fs,[],body,ox,mA,ns,s,Q,hb,hl,_,_,_,_,_,_,_,_,_,_,_=>by cases hl
 |f::fs,u::us,body,ox,mA,ns,s,Q,hb,hl,hv,hf,X,hN,he,hc,pq,⟨dx,h1,h2,h3,h4,h5⟩,hw,hz,q=>by
  obtain⟨p1,p2,p3,p4,rest,rfl,J7⟩:=QF hb;obtain⟨k1,k2,k3⟩:=hf _ ju;have hu:=hv 0 _ _ rfl rfl;refine wpAny_execs_cons ?_;refine plainObj_wpAny_Assign_Attribute ?_ rfl;refine uX (yN hk k1 hN hu ?_) k2;refine uX (yN hk Az hN jY ?_) A_;refine Ax (ns:=ns) X he hc pq pB jX hm pA k3 (.inr ⟨dx,h1,h2,h3⟩) hw gV λh' tk' d a1 a2 a3 a4 a5=>?_;have ed:d=dx:=by
   rcases a4 with ⟨z,_⟩|z
   ·rw[h1] at z;cases z
   ·rw[h1] at z;cases z;rfl
  subst ed;have eo:({ox with dict:=some d}:Obj)=ox:=by rw[<-h1]
  rw[eo] at a1;have X':K.In h':=λb o z=>a5 b o (Ba b o z) (h5 b o z) (X b o z);have J8:h'.Ns env.locals m:=let ⟨o,es,ep,e1,r⟩:=hN;⟨o,es,ep,a5 _ _ hL h4.symm e1,r⟩;refine QG hk jY Az A_ pB jX hm pA Ba hL fs us rest ox _ (f::ns) {s with heap:=h',toks:=tk'} Q J7 (by simpa using hl) (λi f u e1 e2=>hv (i+1) f u (by simpa using e1) (by simpa using e2)) (λf ZM=>hf f (fV _ ZM)) X' J8 a1 hc pq ⟨d,h1,h2,a3,h4,h5⟩ (Within.cons f u hw) (by simp at hz ⊢;lia) λh2' tk2 b1 b2 b3=>q h2' tk2 b1 (λZP vg=>?_) λb o nb nd e'=>b3 b o nb nd (a5 b o nb (nd d h1) e');exact b2 ZP vg
theorem ZQ(hk:env.scope.kind=.function)(jY:m sf=some (.ref e))(Az:env.scope.names.lookup sf=some .local)(A_:(sf==("__debug__" : Str))=false)(pB:findIn K (.ref C) "__setattr__"=some (some (.builtin "object.__setattr__")))(jX:clsIn K C=some cd)(hm:aV cd.mro=true)(pA:cd.hasDict=true)
  (Ba:∀b o,K.lookup b=some o->b≠e) (hL:env.locals≠e) {f:Str} {fs:List Str} {u:Value} {us:List Value} {body:List Stmt} {ox:Obj} {s:Shared} {Q:Flow->Shared->Prop} (hb:eZ sf body (f::fs)=true) (hl:fs.length=us.length) (hz:fs.length<=900)
  (hv:∀(i:Nat) g v,(f::fs)[i]?=some g->(u::us)[i]?=some v->m g=some v) (hf:∀g∈f::fs,env.scope.names.lookup g=some .local/\(g==("__debug__" : Str))=false/\findIn K (.ref C) g=some none)
  (X:K.In s.heap) (hN:s.heap.Ns env.locals m) (he:s.heap.get? e=some ox) (hc:ox.cls=.ref C) (pq:∀c,ox.data≠.cls c) (hd:ox.dict=none)
  (q:∀h' tk' d,s.heap.objs.size<=d->h'.get? e=some {ox with dict:=some d}->h'.Ns1 d (iB ((f::fs).zip (u::us)) λ_=>none)->(∀b o,b≠e->b≠d->s.heap.get? b=some o->h'.get? b=some o)->Q .next {s with heap:=h',toks:=tk'}) :
  wpAny (model prog w) A (execs body env) Q E s:=by
 obtain⟨p1,p2,p3,p4,rest,rfl,J7⟩:=QF hb;obtain⟨k1,k2,k3⟩:=hf _ ju;have hu:=hv 0 _ _ rfl rfl;refine wpAny_execs_cons ?_;refine plainObj_wpAny_Assign_Attribute ?_ rfl;refine uX (yN hk k1 hN hu ?_) k2;refine uX (yN hk Az hN jY ?_) A_;refine Ax (ns:=[]) (mA:=λ_=>none) X he hc pq pB jX hm pA k3 (.inl ⟨hd,λ_=>rfl⟩) Within.nil (xQ _) λh' tk' d a1 a2 a3 a4 a5=>?_;have fd:s.heap.objs.size<=d:=by
  rcases a4 with ⟨_,z⟩|z
  ·exact z
  ·rw[hd] at z;cases z
 have nd:∀b o,s.heap.get? b=some o->b≠d:=λb o z=>i_ (gw (cg z) fd);have X':K.In h':=λb o z=>a5 b o (Ba b o z) (nd b o (X b o z)) (X b o z);have J8:h'.Ns env.locals m:=let ⟨o,es,ep,e1,r⟩:=hN;⟨o,es,ep,a5 _ _ hL (nd _ _ e1) e1,r⟩;have nL:d≠env.locals:=let ⟨o,es,ep,e1,r⟩:=hN;(nd _ _ e1).symm;refine QG hk jY Az A_ pB jX hm pA Ba hL fs us rest {ox with dict:=some d} _ [f] {s with heap:=h',toks:=tk'} Q J7 hl (λi g v e1 e2=>hv (i+1) g v (by simpa using e1) (by simpa using e2)) (λg hg=>hf g (fV _ hg)) X' J8 a1 hc pq ⟨d,rfl,a2,a3,nL,λb o z=>nd b o (X b o z)⟩ (Within.cons f u Within.nil) (by simp;lia) λh2 tk2 b1 b2 b3=>q h2 tk2 d fd b1 (b2 d rfl) λb o n1 n2 z=>b3 b o n1 (λdx hx=>by cases hx;exact n2) (a5 b o n1 n2 z)
end
end L2
end Lake
namespace PySem
open Lake
open Sem (wp)
section
variable {prog:Program}{w:World}{A:Around}{E:Value->Shared->Prop}{h:Heap}{g:Array GenState}{d:Drawn}{t:Nat}{os:OsState}
variable {nm q:Str}{C N:Addr}{bs bm bmB:List Value}{hdct:Bool}{sn:List Str}{ao:List Value}{ab:Bool}{col:Option Bool}{dd:Option Addr}{k0 k1 k2 k3 k5:Option Value}{B Bn newId nid initId inN:String}{bmN:List Value}
theorem ZR(Fn:ExcBaseFacts Bn newId inN bmN)(qL:bmB.contains (.type Bn)=true)(F:ExcBaseFacts B nid initId bmB)(T:OwnTail h bmB bm)
  (hC:h.get? C=some (excClassObj nm q C N bs bm hdct sn ao ab col dd k0 k1 k2 k3 k5 newId)) (hn:h.Ns N mN) (hi:mN "__init__"=some (.ref fI))
  (vV:h.get? fI=some oI) (Bb:oI.cls=.type "function")
  (hq:wpAny (model prog w) A (call (.ref fI) (.ref (h.objs.size+1)::rest)) (λr s'=>r=.none/\Q (.done (.ret (.ref (h.objs.size+1)))) s') E
   ⟨(h.push {cls:=.type "tuple",data:=.seq rest.toArray}).push {cls:=.ref C,data:=.fields #[.ref h.objs.size,.none,.none,.none,.bool false,.none]},g,d,t,os⟩) (hrest:rest.length<=sizeLine:=by size_fits) :
  wpAny (model prog w) A (Builtin.«type.__call__» ⟨.ref C::rest,[]⟩) Q E ⟨h,g,d,t,os⟩:=by
 repeat (first|with_reducible refine uQ hC ?_|with_reducible refine wpAny_madeBy_exc hC ?_|wp_step)
 refine codeAny_call_builtin_code (Code.quiet_builtin _ Fn.quiet) (wpAny_check_new_subU Fn qL T hC ?_);refine codeAny_exc_new_subU Fn qL F T hC ?_ hrest;show wpAny _ _ _ _ _ _;have hC₁:=cX {cls:=.ref C,data:=.fields #[.ref h.objs.size,.none,.none,.none,.bool false,.none]}
  (cX {cls:=.type "tuple",data:=.seq rest.toArray} hC)
 have vV₁:=cX {cls:=.ref C,data:=.fields #[.ref h.objs.size,.none,.none,.none,.bool false,.none]}
  (cX {cls:=.type "tuple",data:=.seq rest.toArray} vV)
 have hn₁:((h.push {cls:=.type "tuple",data:=.seq rest.toArray}).push {cls:=.ref C,data:=.fields #[.ref h.objs.size,.none,.none,.none,.bool false,.none]}).Ns N mN:=
  let ⟨o,es,ep,e,r⟩:=hn;⟨o,es,ep,cX _ (cX _ e),r⟩
 have J9:((h.push {cls:=.type "tuple",data:=.seq rest.toArray}).push
   {cls:=.ref C,data:=.fields #[.ref h.objs.size,.none,.none,.none,.bool false,.none]}).get? (h.objs.size+1)=some
   {cls:=.ref C,data:=.fields #[.ref h.objs.size,.none,.none,.none,.bool false,.none]}:=by heap_get
 have ZS:(Value.ref C::bm).contains (.ref C)=true:=by simp
 have T₁:=T.keeps (h':=(h.push {cls:=.type "tuple",data:=.seq rest.toArray}).push {cls:=.ref C,data:=.fields #[.ref h.objs.size,.none,.none,.none,.bool false,.none]})
  λb o e=>cX _ (cX _ e)
 unfold isInstance
 repeat (first|with_reducible refine uQ J9 ?_|(with_reducible refine Dz hC₁ ?_;rw[ZS])|wp_step)
 show wpAny _ _ (typeLookup (.ref C) _) _ _ _;refine wpAny_typeLookup_tail hC₁ hn₁ T₁ F.mroIs F.init.lookup ?_;rw[hi];refine lO (aG ?_);unfold bindSpecial;refine aG (wpAny_typeOf (T:="function") ⟨_,vV₁,Bb⟩ ?_);rw[if_pos J0];refine bC (aG (gK hq (λr s' hr=>?_) λ_ _ x=>x));obtain⟨rfl,hQ⟩:=hr
 wp_walk
 exact hQ
theorem ZV(Fn:ExcBaseFacts Bn newId inN bmN)(qL:bmB.contains (.type Bn)=true)(F:ExcBaseFacts B nid initId bmB)(T:OwnTail h bmB bm)
  (hC:h.get? C=some (excClassObj nm q C N bs bm hdct sn ao ab col dd k0 k1 k2 k3 k5 newId)) (hn:h.Ns N mN) (hi:mN "__init__"=some (.ref fI))
  (vV:h.get? fI=some oI) (Bb:oI.cls=.type "function")
  (hq:wpAny (model prog w) (A.under (.builtin "type.__call__" ⟨.ref C::rest,[]⟩)) (call (.ref fI) (.ref (h.objs.size+1)::rest)) (λr s'=>r=.none/\Q (.ref (h.objs.size+1)) s') E
   ⟨(h.push {cls:=.type "tuple",data:=.seq rest.toArray}).push {cls:=.ref C,data:=.fields #[.ref h.objs.size,.none,.none,.none,.bool false,.none]},g,d,t,os⟩) (hrest:rest.length<=sizeLine:=by size_fits) :
  wpAny (model prog w) A (call (.ref C) rest) Q E ⟨h,g,d,t,os⟩:=by
 have f1:=tc_lookup;have f2:=tc_bind (.ref C);have hT:(⟨h,g,d,t,os⟩ : Shared).TypeIs (.ref C) "type":=⟨_,hC,rfl⟩;refine uZ (codeAny_of_tree ?_);show wpAny _ _ (callAny (.ref C) _) _ _ _
 repeat (any_goals (first|assumption|with_reducible refine uQ hC ?_|wp_step))
 refine⟨rfl,?_⟩;refine codeAny_call_builtin_at (Code.quiet_builtin _ Bd) entry_typeCall (wpAny_check_type_call_sub hC (ZR (hrest:=hrest) Fn qL F T hC hn hi vV Bb ?_));exact hq
end
section
variable {prog:Program}{w:World}{A:Around}{E:Value->Shared->Prop}{s:Shared}{env:Env}
variable {nm q:Str}{C N:Addr}{bs bm bmB:List Value}{hdct:Bool}{sn:List Str}{ao:List Value}{ab:Bool}{col:Option Bool}{dd:Option Addr}{k0 k1 k2 k3 k5:Option Value}{B Bn newId nid initId inN:String}{bmN:List Value}
theorem J_(bO:bm.contains (.type "BaseException")=true)(hh:A.handled=none)
  (h:wpAny M A x (λv s₁=>∃e t dx,v=.ref e/\s₁.heap.get? C=some (excClassObj nm q C N bs bm hdct sn ao ab col dd k0 k1 k2 k3 k5 newId) /\
   s₁.heap.get? e=some {cls:=.ref C,dict:=dx,data:=.fields #[.ref t,.none,.none,.none,.bool false,.none]}/\E (.ref e) s₁) E s) :
  wpAny M A (raiseStmt env (some x) none) Q E s:=by
 have ZW:(Value.ref C::bm).contains (.type "BaseException")=true:=by rw[Hf,bO,Bool.or_true]
 unfold raiseStmt;refine aG (gK h (λv s₁ h₁=>?_) λ_ _ x=>x);obtain⟨e,t,dx,rfl,hC,he,hE⟩:=h₁;obtain⟨hp,g,d,tk,os⟩:=s₁
 repeat (first|with_reducible refine uQ he ?_|with_reducible refine uQ hC ?_|(with_reducible refine Dz hC ?_;rw[ZW])|wp_step)
 exact wpAny_raiseNew_none hh hE
theorem ZX(Fn:ExcBaseFacts Bn newId inN bmN)(qL:bmB.contains (.type Bn)=true)(F:ExcBaseFacts B nid initId bmB){mN:Str->Option Value}{fI:Addr}{oI:Obj}{x:Str}{np cpos pos:Pos}{args:List Expr}{Q:Flow->Shared->Prop}
  (bO:bm.contains (.type "BaseException")=true) (hh:A.handled=none) (bw:(backTo cpos (starEach args env)).any (·.1)=false) (hi:mN "__init__"=some (.ref fI)) (Bb:oI.cls=.type "function")
  (h:wpAny (model prog w) A (eval (.Name x np) env) (λf s₁=>f=.ref C/\wpAny (model prog w) A (evalArgs (.ref C) true (backTo cpos (starEach args env)) [])
   (λa s₂=>a.kw=[]/\a.pos.length<=sizeLine/\s₂.heap.get? C=some (excClassObj nm q C N bs bm hdct sn ao ab col dd k0 k1 k2 k3 k5 newId)/\s₂.heap.Ns N mN/\OwnTail s₂.heap bmB bm/\s₂.heap.get? fI=some oI /\
    wpAny (model prog w) (A.under (.builtin "type.__call__" ⟨.ref C::a.pos,[]⟩)) (call (.ref fI) (.ref (s₂.heap.objs.size+1)::a.pos)) (λr s'=>r=.none/\(∃dx t0,s'.heap.get? (s₂.heap.objs.size+1)=some {cls:=.ref C,dict:=dx,data:=.fields #[.ref t0,.none,.none,.none,.bool false,.none]})/\s'.heap.get? C=some (excClassObj nm q C N bs bm hdct sn ao ab col dd k0 k1 k2 k3 k5 newId)/\E (.ref (s₂.heap.objs.size+1)) s') E
     {s₂ with heap:=(s₂.heap.push {cls:=.type "tuple",data:=.seq a.pos.toArray}).push {cls:=.ref C,data:=.fields #[.ref s₂.heap.objs.size,.none,.none,.none,.bool false,.none]}}) E s₁) E s) :
  wpAny (model prog w) A (exec (.Raise (some (.Call (.Name x np) args [] cpos)) none pos) env) Q E s:=by
 rw[arm_exec_Raise]
 first
  |refine aG (qG (J_ (C:=C) (nm:=nm) (q:=q) (N:=N) (bs:=bs) (bm:=bm) (hdct:=hdct) (sn:=sn) (ao:=ao) (ab:=ab) (col:=col) (dd:=dd) (k0:=k0) (k1:=k1) (k2:=k2) (k3:=k3) (k5:=k5) (newId:=newId) bO hh (aG (gK (wpAny_Call_ofName (gK h (λf s₁ h₁=>?_) λ_ _ x=>x)) (λv s₃ h₃=>aG (qG (bC h₃))) λ_ _ x=>x))))
  |(simp only[evalOpt,Option.map];refine aG (qG (J_ (C:=C) (nm:=nm) (q:=q) (N:=N) (bs:=bs) (bm:=bm) (hdct:=hdct) (sn:=sn) (ao:=ao) (ab:=ab) (col:=col) (dd:=dd) (k0:=k0) (k1:=k1) (k2:=k2) (k3:=k3) (k5:=k5) (newId:=newId) bO hh (aG (gK (wpAny_Call_ofName (gK h (λf s₁ h₁=>?_) λ_ _ x=>x)) (λv s₃ h₃=>aG (qG (bC h₃))) λ_ _ x=>x)))))
  |(refine aG (qG (J_ (C:=C) (nm:=nm) (q:=q) (N:=N) (bs:=bs) (bm:=bm) (hdct:=hdct) (sn:=sn) (ao:=ao) (ab:=ab) (col:=col) (dd:=dd) (k0:=k0) (k1:=k1) (k2:=k2) (k3:=k3) (k5:=k5) (newId:=newId) bO hh ?_));refine aG (gK (wpAny_Call_ofName (gK h (λf s₁ h₁=>?_) λ_ _ x=>x)) (λv s₃ h₃=>aG (qG (bC h₃))) λ_ _ x=>x))
 obtain⟨rfl,h₁⟩:=h₁;unfold callWith;refine aG (lO (gK h₁ (λa s₂ h₂=>aG (qG ?_)) λ_ _ x=>x));obtain⟨apos,akw⟩:=a;obtain⟨Z0,hlen,hC,hn,T,vV,h₂⟩:=h₂;obtain rfl:akw=[]:=Z0;obtain⟨hp,g,d,tk,os⟩:=s₂;simp only[bw];refine aG (wpAny_keeperOf_exc hC ?_);refine aG (ZV (hrest:=hlen) Fn qL F T hC hn hi vV Bb (gK h₂ (λr s' hr=>?_) λ_ _ x=>x));obtain⟨rfl,⟨dx,t0,ht⟩,Z9,hE⟩:=hr;exact⟨rfl,aG (lO (wpAny_point (bC ⟨_,t0,dx,rfl,Z9,ht,hE⟩)))⟩
end
end PySem
namespace Lake
namespace L2
open PySem PySem.Spec PyProof.Rows PySem.W PySem.Calls
theorem Ka{α:Type}:∀{l:List (Str×α)} {f:Str} {u:α},(l.map (·.1)).Nodup->(f,u)∈l->l.lookup f=some u
 |(g,v)::r,f,u,hn,hm=>by
  rw[nG,qF] at hn;rw[jO];rcases iQ.mp hm with e|hm
  ·cases e;simp
  ·have:f≠g:=λz=>hn.1 (by rw[<-z];exact List.mem_map.mpr ⟨(f,u),hm,rfl⟩);rw[show (f==g)=false by simpa using this];exact Ka hn.2 hm
theorem QJ{α:Type}{fs:List Str}{us:List α}{i:Nat}{f:Str}{u:α}(h1:fs[i]?=some f)(h2:us[i]?=some u):(f,u)∈fs.zip us:=by
 refine jh (i:=i) ?_;exact(List.getElem?_zip_eq_some (z:=(f,u))).mpr ⟨h1,h2⟩
theorem QK{α:Type}{fs:List Str}{us:List α}(h:fs.length=us.length):(fs.zip us).map (·.1)=fs:=by
 rw[List.map_fst_zip]
 lia
theorem Z_{α:Type}{fs:List Str}{us:List α}(hn:fs.Nodup)(hl:fs.length=us.length){i:Nat}{f:Str}{u:α}(h1:fs[i]?=some f)(h2:us[i]?=some u):(fs.zip us).reverse.lookup f=some u:=by
 refine Ka ?_ (List.mem_reverse.mpr (QJ h1 h2));rw[List.map_reverse,QK hl,List.Nodup,List.pairwise_reverse];exact List.Pairwise.imp (λh=>h.symm) hn
theorem QL:∀{l:List (Str×Value)} {m:Str->Option Value} {f:Str},(l.map (·.1)).Nodup->iB l m f=match l.lookup f with|some u=>some u|none=>m f
 |[],m,f,_=>rfl
 |(g,v)::r,m,f,hn=>by
  rw[nG,qF] at hn;unfold iB;rw[QL hn.2,jO];by_cases e:f=g
  ·subst e;have:r.lookup f=none:=by
    cases z:r.lookup f with
    |none=>rfl
    |some u=>
     exfalso
     apply hn.1;clear hn
     induction r with
     |nil=>cases z
     |cons p r ih=>
      rw[jO] at z;by_cases e:f=p.1
      ·rw[e];exact ju
      ·rw[show (f==p.1)=false by simpa using e] at z;exact fV _ (ih z)
   rw[this];simp
  ·rw[show (f==g)=false by simpa using e,if_neg e]
theorem zeZ{fs:List Str}:∀{vs:List V} {us:List Value},Vals vs us->∀f,vd ((fs.zip vs).lookup f) ((fs.zip us).lookup f):=by
 induction fs with
 |nil=>intro vs us _ f;exact trivial
 |cons g r ih=>
  intro vs us h f;cases h with
  |nil=>exact trivial
  |cons h t=>
   rw[yO,yO,jO,jO];by_cases e:f=g
   ·rw[show (f==g)=true by simpa using e];exact h
   ·rw[show (f==g)=false by simpa using e];exact ih t f
theorem zfv{K:Frag}{h:Heap}{C fI:Addr}(XI:K.In h)(q:jx K C fI=true) :
  ∃bm N nm qn bs hdct sn ao ab col dd k0 k1 k2 k3 k5 mN,h.get? C=some (excClassObj nm qn C N bs bm hdct sn ao ab col dd k0 k1 k2 k3 k5 "ValueError.__new__")/\h.Ns N mN/\mN "__init__"=some (.ref fI)/\OwnTail h mV bm:=by
 obtain⟨bm,N,nm,qn,bs,hdct,sn,ao,ab,col,dd,k0,k1,k2,k3,k5,hc,E_,Jj,tl⟩:=Qm XI q;have QM:h.Ns N (h.nsMap N):=.of_isNs (isNs_of_in XI E_);exact⟨bm,N,nm,qn,bs,hdct,sn,ao,ab,col,dd,k0,k1,k2,k3,k5,_,hc,QM,kY XI QM Jj,tl⟩
where
 kY {K:Frag} {h:Heap} {N:Addr} {x:Str} {v:Value} {m:Str->Option Value} (X:K.In h) (G:h.Ns N m) (e:nsIn K N x=some (some v)):m x=some v:=by
  obtain⟨o,es,ep,ho,hd,_,hf⟩:=G;unfold nsIn at e;split at e
  ·rename_i c d es' n' sl q;have:=X _ _ q;rw[ho] at this;cases this;cases hd;rw[<-hf x];split at e
   ·rename_i z;cases e;unfold nsFind findBy;rw[<-Array.find?_toList,z];rfl
   ·split at e<;>cases e
  ·cases e
structure iC(K:Frag)(C:Addr)(ar:Arguments)(bd:List Stmt)(sc:Scope)(fs:List Str):Prop where
 ex:∃(fI:Addr) (od:Option Addr) (kV doc pm:Value) (an:Option Addr) (cdv ct:Value) (osl:Array (Option Value)) (qual:Str) (cd:ClassData),
  K.lookup fI=some ⟨.type "function",od,.func (fnOf "__init__" qual ar bd sc .none kV doc pm an cdv ct),osl⟩/\codeIn K cdv qual=true/\jx K C fI=true/\clsIn K C=some cd/\aV cd.mro=true/\cd.hasDict=true /\
  (∀us:List Value,us.length=fs.length+1->bindArgs (fnOf "__init__" qual ar bd sc .none kV doc pm an cdv ct) ⟨us,[]⟩=pure ((("self" : Str)::fs).zip us))
 set:findIn K (.ref C) "__setattr__"=some (some (.builtin "object.__setattr__"))
 nd:("self"::fs:List Str).Nodup
 ne:fs≠[]
 few:fs.length<=900
 body:eZ "self" bd fs=true
 kZ:∀x∈sc.names,x.2≠.cell
 loc:∀f∈("self"::fs:List Str),sc.names.lookup f=some .local/\(f==("__debug__" : Str))=false
 fld:∀f∈fs,findIn K (.ref C) f=some none
 co:sc.isCoroutine=false
 gen:sc.isGenerator=false
 kind:sc.kind=.function
section
variable {X:Cx}{EX:XS}{C:Addr}{ar:Arguments}{bd:List Stmt}{sc:Scope}{fs:List Str}{t:TA}{x:Str}{p apos pos:Pos}{e:Expr}{es:List Expr}
noncomputable def rT(EX:XS)(C:Addr)(fs:List Str)(t:TA):TS:=λ_ Z H=>t Z H λvs H1=>vs.length=fs.length/\vs.length<=sizeLine/\∀d,H1 d=none->EX Z (.ref C) (some d) (upd H1 d (.xd (fs.zip vs)))
theorem zeF{k:Nat}(hr:bI k X.A)(hc:X.aj=true)(IO:iC X.K C ar bd sc fs)(hg:Gl X x)(hm:X.mg x=some (.ref C))
  (R:Raises X EX) (ha:PA X (e::es) t) (iw:(x==("__debug__" : Str))=false:=by decide) (he:starEach (e::es) X.env=(false,eval e X.env)::starEach es X.env:=by rfl) (bW:(backTo apos (starEach es X.env)).any (·.1)=false:=by rfl) :
  PS X (.Raise (some (.Call (.Name x p) (e::es) [] apos)) none pos) (rT EX C fs t):=by
 intro ak s Z H D I h;obtain⟨fI,od,kV,doc,pm,an,cdv,ct,osl,qual,cd,lk,jQ,hX,jX,Kc,pA,oV⟩:=IO.ex;obtain⟨bm,N,nm,qn,bs,hdct,sn,ao,ab,col,dd,k0,k1,k2,k3,k5,mN,hC,hN,Jk,T⟩:=zfv I.mod.tX hX;refine ZX (C:=C) (nm:=nm) (q:=qn) (N:=N) (bs:=bs) (bm:=bm) (hdct:=hdct) (sn:=sn) (ao:=ao) (ab:=ab) (col:=col) (dd:=dd) (k0:=k0) (k1:=k1) (k2:=k2) (k3:=k3) (k5:=k5) (bmB:=mV)
  yL Bd yL (mN:=mN) (fI:=fI) (T.hasType yL.hasBase) (I.ok.hd hc) (by rw[he];show (false||(backTo apos (starEach es X.env)).any (·.1))=false;rw[bW];rfl) Jk (oI:=⟨.type "function",od,.func (fnOf "__init__" qual ar bd sc .none kV doc pm an cdv ct),osl⟩) rfl (zy I hg hm ⟨rfl,?_⟩ iw)
 have h2:=ha apos ak s Z H _ I h;rw[he] at h2 ⊢;refine G6 (aP h2 λus s2 ⟨vs,H2,I2,r,hl,z,q⟩=>⟨rfl,by rw[<-r.length];exact z,I2.bk _ _ hC,hN.keeps I2.bk,T.keeps I2.bk,I2.mY _ _ lk,?_⟩);have yd:us.length=fs.length:=by rw[<-r.length];exact hl
 dsimp only;generalize hS:({s2 with heap:=(s2.heap.push {cls:=.type "tuple",data:=.seq us.toArray}).push {cls:=.ref C,data:=.fields #[.ref s2.heap.objs.size,.none,.none,.none,.bool false,.none]}}:Shared)=s3;have Bc:s3.heap.objs.size=s2.heap.objs.size+2:=by rw[<-hS];simp[Heap.size_push]
 have pC:∀b o,s2.heap.get? b=some o->s3.heap.get? b=some o:=λb o q=>by rw[<-hS];exact cX _ (cX _ q)
 have he3:s3.heap.get? (s2.heap.objs.size+1)=some {cls:=.ref C,data:=.fields #[.ref s2.heap.objs.size,.none,.none,.none,.bool false,.none]}:=by
  rw[<-hS];have:=ji (s2.heap.push {cls:=.type "tuple",data:=.seq us.toArray}) (o:={cls:=.ref C,data:=.fields #[.ref s2.heap.objs.size,.none,.none,.none,.bool false,.none]}) rfl;rw[Heap.size_push] at this;exact this
 have Ke:X.K.In s3.heap:=I2.mY.keeps pC;have Kf:s3.heap.NoLimit:=I2.nolimit.keeps pC;have nK:∀b o,X.K.lookup b=some o->b≠s2.heap.objs.size+1:=λb o q=>i_ (DG (cg (I2.mY b o q)));have hlen:("self"::fs:List Str).length=(Value.ref (s2.heap.objs.size+1)::us).length:=by simp[yd]
 refine uZ (codeAny_call_def (fd:=fnOf "__init__" qual ar bd sc .none kV doc pm an cdv ct) (binds:=(("self" : Str)::fs).zip (Value.ref (s2.heap.objs.size+1)::us)) (by have:=hr.dp;show X.A.depth+(Code.builtin "type.__call__" {pos:=Value.ref C::us}).weight<recursionLimit;have w:(Code.builtin "type.__call__" {pos:=Value.ref C::us}).weight<=1:=(by show (Code.builtin "type.__call__" {pos:=Value.ref C::us}).weight<=1;first|exact bY _|exact xQ _|exact G4 (by kernel_rfl)|(simp[Code.weight,Code.frames,Code.isGuard,Code.isCaller]));lia) (Ke _ _ lk) rfl Kf (codeRec_of Ke jQ) rfl
  (.of_eq (oV _ (by simp[yd]))) IO.kZ (λy hy=>(IO.loc y.1 (DQ hy).1).1) (λh₀ Ae Kg=>?_) IO.co IO.gen IO.kind)
 obtain⟨f0,fr,rfl⟩ : ∃f0 fr,fs=f0::fr:=by
  cases hfs:fs with
  |nil=>exact absurd hfs IO.ne
  |cons a b=>exact⟨a,b,rfl⟩
 obtain⟨u0,ur,rfl⟩ : ∃u0 ur,us=u0::ur:=by
  cases hus:us with
  |nil=>rw[hus] at yd;cases yd
  |cons a b=>exact⟨a,b,rfl⟩
 have get:∀(i:Nat) g v,("self"::f0::fr:List Str)[i]?=some g->(Value.ref (s2.heap.objs.size+1)::u0::ur)[i]?=some v->((("self" : Str)::f0::fr).zip (Value.ref (s2.heap.objs.size+1)::u0::ur)).reverse.lookup g=some v:=λi g v e1 e2=>Z_ IO.nd hlen e1 e2;refine ZQ (K:=X.K) (C:=C) (cd:=cd) (sf:="self") (e:=s2.heap.objs.size+1) (m:=λx=>((("self" : Str)::f0::fr).zip (Value.ref (s2.heap.objs.size+1)::u0::ur)).reverse.lookup x) (fs:=fr) (us:=ur) (ox:={cls:=.ref C,data:=.fields #[.ref s2.heap.objs.size,.none,.none,.none,.bool false,.none]})
  IO.kind (get 0 _ _ rfl rfl) (IO.loc _ ju).1 (IO.loc _ ju).2 IO.set jX Kc pA nK (Nat.ne_of_gt (by show _<s3.heap.objs.size;rw[Bc];lia)) IO.body (by simpa using yd.symm) (by have:=IO.few;simp at this;lia)
  (λi g v e1 e2=>get (i+1) g v (by simpa using e1) (by simpa using e2)) (λg hg=>⟨(IO.loc g (fV _ hg)).1,(IO.loc g (fV _ hg)).2,IO.fld g hg⟩)
  (Ke.keeps Kg) Ae (Kg _ _ he3) rfl (λc z=>by cases z) rfl λh' tk' d hd a1 a2 a3=>?_
 have hd3:s3.heap.objs.size<=d:=by
  refine jd ?_ hd;by_cases z:h₀.objs.size<s3.heap.objs.size
  ·exfalso
   have e1:=Ae.lt;exact absurd (Nat.lt_trans e1 z) (mU _)
  ·exact yS z
 have jG:∀b o,s2.heap.get? b=some o->h'.get? b=some o:=λb o q=>a3 b o (i_ (DG (cg q))) (i_ (gw (cg q) (by rw[Bc] at hd3;lia))) (Kg _ _ (pC _ _ q));have hne:d≠s2.heap.objs.size+1:=by lia
 have und:H2 d=none:=I2.hok.fresh gV;refine⟨rfl,⟨some d,_,a1⟩,jG _ _ (I2.bk _ _ hC),?_⟩;have new:aO X.prog X.w (upd H2 d (.xd ((f0::fr).zip vs))) h' d (.xd ((f0::fr).zip vs)):=⟨_,a2,λf=>by
  rw[QL (by rw[QK yd.symm];exact(qF.mp IO.nd).2)];have:=zeZ (fs:=f0::fr) r f
  revert this
  cases ((f0::fr).zip (u0::ur)).lookup f<;>exact id⟩
 have I3:Inv X ak Z (upd H2 d (.xd ((f0::fr).zip vs))) {s3 with heap:=h',toks:=tk'}:=by
  have:=I2.laid (t':=tk') jG gV new;rw[<-hS];exact this
 have une:upd H2 d (.xd ((f0::fr).zip vs)) (s2.heap.objs.size+1)=none:=by
  rw[dB (Ne.symm hne)];exact I2.hok.fresh (Nat.le_succ _)
 refine R ak Z _ _ s2.heap (s2.heap.objs.size+1) C (some d) I3 (λb ob z n=>I2.base.there b ob z n) (λq hq=>⟨q.2,(I2.pin q hq).1⟩) (λb ob z=>⟨ob,jG b ob z⟩) ⟨Dw (Nat.le_succ _),une,_,_,_,a1,rfl,rfl,rfl,rfl,.inl rfl⟩ (q d und)
end
section
variable {prog:Program}{w:World}{A:Around}{E:Value->Shared->Prop}{s:Shared}{K:Frag}{x C:Addr}{ox:Obj}{od:Option Obj}{name:Str}
theorem zfC{v:Value}{Q:Value->Shared->Prop}(XI:K.In s.heap)(I:InstAt s.heap x ox C od)(hb:mroIn K C (.type "BaseException")=some true)(Jp:findIn K (.ref C) "__getattribute__"=some (some (.builtin "BaseException.__getattribute__")))
  (Jq:findIn K (.ref C) "__getattr__"=some none) (hf:findObj K C od name=some (.value v)) (h:wpAny (model prog w) A (handedOut v) Q E {s with toks:=s.toks+1}) :
  wpAny (model prog w) A (getAttr (.ref x) name true) Q E s:=by
 obtain⟨hh,g,d,t,os⟩:=s;have L0:=I.type (M:=model prog w);have L1:=xP (M:=model prog w) XI Jp;have L2:=xP (M:=model prog w) XI Jq;have yc:(Value.builtin "BaseException.__getattribute__"==Value.builtin "object.__getattribute__")=false:=by decide +kernel
 unfold getAttr getAttrBy;refine aG (wpAny_mkText (lO (aG (L0.at (aG (L1.at ?_))))));show wpAny _ _ (if (onTheHeap (.ref C)&&(Value.builtin "BaseException.__getattribute__"==Value.builtin "object.__getattribute__"))=true then _ else getAttrByItsOwn _ _ _ _ _ _) _ _ _;rw[yc,DW,if_neg J0];unfold getAttrByItsOwn hookBefore callGetattribute boundAndCalled;refine aG (L2.at ?_);refine aG (wpAny_attempt (lO (aG (wpAny_of_eq (F.attr_ValueError.ga.bind (.ref x)) ?_))));refine uZ (Qq XI I hb hf ?_);exact h
end
structure XF(K:Frag)(C:Addr)(f:Str):Prop where
 ga:findIn K (.ref C) "__getattribute__"=some (some (.builtin "BaseException.__getattribute__"))
 gn:findIn K (.ref C) "__getattr__"=some none
 mb:mroIn K C (.type "BaseException")=some true
 no:findIn K (.ref C) f=some none
 hd:hasDictIn K C=true
theorem handed{M:Model}{A:Around}{E:Value->Shared->Prop}{s:Shared}{x:V}{u:Value}{Q:Value->Shared->Prop}(r:RelV x u)(h:Q u s):wpAny M A (handedOut u) Q E s:=by
 cases x with
 |non=>cases (show u=Value.none from r);exact bC h
 |bl b=>cases (show u=Value.bool b from r);exact bC h
 |int i=>obtain⟨t,rfl⟩:=r;exact bC h
 |str i=>obtain⟨t,rfl⟩:=r;exact bC h
 |zm i=>obtain⟨t,rfl⟩:=r;exact bC h
 |flt i=>obtain⟨t,rfl⟩:=r;exact bC h
 |ref a=>cases (show u=Value.ref a from r);exact bC h
 |ty n=>cases (show u=Value.type n from r);exact bC h
theorem zdt{h:Heap}{d:Addr}{mA:Str->Option Value}(n:h.Ns1 d mA):∃o,h.get? d=some o/\∀f v,mA f=some v->lookIn f o=some (some v):=by
 obtain⟨o,es,ep,ho,hd,hk,hu,hf⟩:=n;refine⟨o,ho,λf v e=>?_⟩;unfold lookIn;rw[hd];dsimp only;have e':=(hf f).trans e;unfold nsFind findBy at e';rw[<-Array.find?_toList] at e';cases z:es.toList.find? (·.key.isStr f) with
 |none=>
  have e2:(List.find? (λx=>x.key.isStr f) es.toList).map (·.val)=some v:=e';rw[z] at e2;cases e2
 |some en=>
  have e2:(List.find? (λx=>x.key.isStr f) es.toList).map (·.val)=some v:=e';rw[z] at e2;cases e2;rfl
section
variable {X:Cx}{e:Expr}{f:Str}{pos:Pos}{ta:TE}
noncomputable def tXf(K:Frag)(ta:TE)(f:Str):TE:=λZ H Q=>ta Z H λx H1=>∃a C dx fs v,x=.ref a/\H1 a=some (fM a C (some dx))/\H1 dx=some (.xd fs)/\XF K C f/\fs.lookup f=some v/\Q v H1
theorem zj0(he:PE X e ta)(hb:attributeBase e f X.env (eval e X.env)=eval e X.env):PE X (.Attribute e f pos) (tXf X.K ta f):=by
 intro ak s Z H Q I h;refine Xh hb (aP (he ak s Z H _ I h) λu s1 hz=>?_);obtain⟨x,H1,I1,rx,a,C,dx,fs,v,ex,ea,ed,c,l,q⟩:=hz;subst ex;obtain rfl:u=Value.ref a:=rx;obtain⟨⟨oe,vs,q1,c1,d1,f1⟩,_,_⟩:=(show aO X.prog X.w H1 s1.heap a (fM a C (some dx)) from I1.hok a _ ea);obtain⟨mA,n1,rl⟩:=(show aO X.prog X.w H1 s1.heap dx (.xd fs) from I1.hok dx _ ed);have rf:=rl f;rw[l] at rf;cases em:mA f with
 |none=>rw[em] at rf;exact rf.elim
 |some uv=>
  rw[em] at rf;obtain⟨od,ho,Jx⟩:=zdt n1;have IA:InstAt s1.heap a oe C (some od):=⟨q1,c1,by obtain⟨_,_,_,_⟩:=oe;cases f1;rfl,by rw[d1];exact ho⟩;refine zfC I1.mY IA c.mb c.ga c.gn (findObj_own c.hd c.no rfl (Jx f uv em)) (handed rf ?_);exact⟨v,H1,I1.kept (t':=s1.toks+1) λb o z=>z,rf,q⟩
end
end L2
set_option genSizeOf false
set_option genInjectivity false
namespace Mi
open PySem
inductive D where
 |non|bl (b:Bool)|int (i:Int)|str (s:Str)|tup (xs:List D)|fl (xs:List D)|fd (ks vs:List D)|exc (c:Nat) (fs:List D)|ob (c:Nat) (fs:List D)|any
inductive Xv where
 |d (x:D)|l (n:Nat)
inductive Kx where
 |non|int (i:Int)|row (is:List Int)
deriving DecidableEq
inductive SO where
 |lst (xs:List D)
 |dct (kvs:List (List Kx×D))
noncomputable abbrev S:=List SO
inductive Rs (α:Type) where
 |ok (a:α)|er (c:Nat) (fs:List D)
noncomputable abbrev M(α:Type):=S->Option (Rs α×S)
noncomputable def M.ret{α:Type}(a:α):M α:=λs=>some (.ok a,s)
noncomputable def M.bd{α β:Type}(m:M α)(k:α->M β):M β:=λs=>match m s with
 |some (.ok a,s')=>k a s'
 |some (.er c f,s')=>some (.er c f,s')
 |none=>none
noncomputable def M.qt{α:Type}(m:M α):M α:=λs=>match m s with
 |some (.ok a,s')=>some (.ok a,s')
 |_=>none
noncomputable def M.no{α:Type}:M α:=λ_=>none
noncomputable def M.opt{α:Type}:Option α->M α
 |some a=>M.ret a
 |none=>M.no
inductive Rz where
 |dat (d:D)|nw (xs:List D)
inductive Pr where
 |add|ao|mul|fdiv|mod|pow|neg
 |eq|ne|lt|le|gt|ge|inn|nin
 |rW|noN
 |len|abs|max2|min2|Bf|Bg|Bh|QS|rY|divmod|all|sum|list|tuple|sorted|mq|pD|str1
 |ix|rev|QT|Bj|mult|ug
 |count|index|repr
 |nir|Kh|Kl|shl|shr|band|isT|Bk|isF|Bl|vW|vX
 |pF|iD|vY|pG|rZ|part|pH|sint|cat
inductive Kd where
 |int|bool|str|tuple|list|dict|cls (c:Nat)|k_
mutual
inductive E where
 |c (d:D)
 |v (i:Nat)
 |pr (fz:Bool) (p:Pr) (xs:Es)
 |rQ (p q:Pr) (a b c:E)
 |vZ (p q r:Pr) (a b c d:E)
 |and (a b:E)
 |or (a b:E)
 |not (a:E)
 |ite (c a b:E)
 |tup (xs:Es)
 |lst (fz:Bool) (xs:Es)
 |pI (k:Str) (i:Int)
 |call (f:Nat) (xs:Es)
 |dJ (a:E) (k:Kd)
 |sl (fz:Bool) (a:E) (lo hi:Eo)
 |meth (fz:Bool) (p:Pr) (k:Kd) (o:E) (xs:Es)
 |push (o a:E)
 |pop (o:E)
 |comp (fz:Bool) (elt:E) (tg:List Nat) (it:Wk) (fr:List Nat) (many:Nat) (cond:Eo)
 |Bm (fz:Bool) (elt:E) (tg:List Nat) (it:Wk) (QV:List Nat) (QW:Wk) (fr:List Nat) (many:Nat) (cond:Eo)
 |fld (o:E) (cs:List Nat) (i:Nat)
 |of (o:E) (c i:Nat)
 |mk (c f:Nat) (xs:Es)
 |cm (c f:Nat) (o:E) (xs:Es)
 |Km
 |din (b:Bool) (k d:E)
 |Ko (d k:E)
 |tru (a:E)
 |Bo (fz:Bool) (a:E) (b:E)
 |orv (a b:E)
 |ins (o i a:E)
 |no
inductive Wk where
 |seq (e:E)
 |rg (a b:E)
 |zip (a b:E)
 |enum (a:E)
 |rrg (a:E)
inductive Es where
 |nil
 |cons (a:E) (r:Es)
inductive Eo where
 |no
 |yes (a:E)
end
noncomputable abbrev Ea(a:E):Es:=.cons a .nil
noncomputable abbrev Eb(a b:E):Es:=.cons a (.cons b .nil)
noncomputable abbrev Ec(a b c:E):Es:=.cons a (.cons b (.cons c .nil))
noncomputable abbrev Ei(a b:E):E:=.pr true .ix (.cons a (.cons b .nil))
noncomputable abbrev Ci(i:Int):E:=.c (.int i)
noncomputable def Es.len:Es->Nat
 |.nil=>0
 |.cons _ r=>r.len+1
inductive Tg where
 |nm (i:Nat)
 |tp (is:List Nat)
 |ao (o i:E)
mutual
inductive St where
 |pass
 |ex (e:E)
 |asg (t:Tg) (e:E)
 |par (i j:Nat) (a b:E)
 |aug (i:Nat) (e:E)
 |ret (e:E)
 |rise (c:Nat) (kp:Bool) (xs:Es)
 |iff (c:E) (t e:cj)
 |wh (c:E) (b:cj)
 |fr (t:Tg) (w:Wk) (b:cj)
 |lq (b:cj) (d:Nat) (i:Nat) (h:cj)
 |dput (d k v:E)
 |no
inductive cj where
 |nil
 |cons (a:St) (r:cj)
end
noncomputable def dW(eq:D->D->Option Bool):List D->List D->Option Bool
 |[],[]=>some true
 |[],_::_=>some false
 |_::_,[]=>some false
 |x::xs,y::ys=>match eq x y,dW eq xs ys with
  |some a,some b=>some (a&&b)
  |_,_=>none
noncomputable def kq:D->Option Nat
 |.non=>some 0
 |.bl _=>some 1
 |.int _=>some 1
 |.str _=>some 2
 |.tup _=>some 3
 |.fl _=>some 4
 |_=>none
noncomputable def b_:Nat->D->D->Option Bool
 |n+1,.tup xs,.tup ys=>dW (b_ n) xs ys
 |n+1,.fl xs,.fl ys=>dW (b_ n) xs ys
 |_,.non,.non=>some true
 |_,.bl a,.bl b=>some (a==b)
 |_,.int a,.int b=>some (a==b)
 |_,.str a,.str b=>some (a==b)
 |_,.bl a,.int b=>some ((if a then 1 else 0)==b)
 |_,.int a,.bl b=>some (a==(if b then 1 else 0))
 |_,a,b=>match kq a,kq b with
  |some i,some j=>if i=j then none else some false
  |_,_=>none
noncomputable def dM:List D->Option (List Int)
 |[]=>some []
 |.int i::r=>(dM r).map (i::·)
 |_=>none
noncomputable def ltI:List Int->List Int->Bool
 |_,[]=>false
 |[],_::_=>true
 |x::xs,y::ys=>if x=y then ltI xs ys else decide (x<y)
noncomputable def fj:List D->Option (List Bool)
 |[]=>some []
 |.bl b::r=>(fj r).map (b::·)
 |_=>none
noncomputable def cut{α:Type}(xs:List α)(lo hi:Option Int):List α:=(xs.drop (HT.bD xs.length 0 lo)).take (HT.bD xs.length xs.length hi-HT.bD xs.length 0 lo)
noncomputable def iG:D->Option (List D)
 |.tup xs=>some xs
 |.fl xs=>some xs
 |_=>none
noncomputable def cutD(x:D)(lo hi:Option Int):Option Rz:=match x with
 |.tup xs=>some (.dat (.tup (cut xs lo hi)))
 |.fl xs=>some (.nw (cut xs lo hi))
 |_=>none
noncomputable def memD(d:D):List D->Option Bool
 |[]=>some false
 |x::r=>match b_ 50 x d,memD d r with
  |some a,some b=>some (a||b)
  |_,_=>none
noncomputable def m8(d:D):List D->Nat
 |[]=>0
 |x::r=>m8 d r+(if b_ 50 x d=some true then 1 else 0)
noncomputable def jH:Kd->D->Bool
 |.list,.fl _=>true
 |.str,.str _=>true
 |.dict,.fd _ _=>true
 |.tuple,.tup _=>true
 |_,_=>false
noncomputable def insI(x:Int):List Int->List Int
 |[]=>[x]
 |y::r=>if x<y then x::y::r else y::insI x r
noncomputable def sortI:List Int->List Int
 |[]=>[]
 |x::r=>insI x (sortI r)
noncomputable def bJ(f:Int->Int->Option D):List D->Option Rz
 |[.int i,.int j]=>(f i j).map .dat
 |_=>none
noncomputable def pJ(f:Int->D):List D->Option Rz
 |[.int i]=>some (.dat (f i))
 |_=>none
noncomputable def su(f:List D->Option Rz):List D->Option Rz
 |[a]=>(iG a).bind f
 |_=>none
noncomputable def v7:List D->Option Rz
 |[.int i,.int j]=>some (.dat (.int (i+j)))
 |[.tup xs,.tup ys]=>if xs.length+ys.length<=sizeLine then some (.dat (.tup (xs++ys))) else none
 |[.fl xs,.fl ys]=>if xs.length+ys.length<=sizeLine then some (.nw (xs++ys)) else none
 |[.str x,.str y]=>if x.length+y.length<=sizeLine then some (.dat (.str (x++y))) else none
 |_=>none
noncomputable def Bp:List D->Option Rz
 |[.int i,.int j]=>some (.dat (.bl (decide (i<j))))
 |[.tup xs,.tup ys]=>match dM xs,dM ys with
  |some a,some b=>some (.dat (.bl (ltI a b)))
  |_,_=>none
 |_=>none
noncomputable def v8(f:Bool->Bool):List D->Option Rz
 |[a,b]=>(b_ 50 a b).map λk=>.dat (.bl (f k))
 |_=>none
noncomputable def Bq(f:Bool->Bool):List D->Option Rz
 |[a,b]=>((iG b).bind (memD a)).map λk=>.dat (.bl (f k))
 |_=>none
noncomputable def D.uh:D->Bool
 |.non=>true
 |_=>false
noncomputable def v9(f:Bool->Bool):List D->Option Rz
 |[a]=>some (.dat (.bl (f a.uh)))
 |_=>none
noncomputable def Br:List D->Option Rz
 |[.int i]=>some (.dat (.int i))
 |[.bl k]=>some (.dat (.int (if k then 1 else 0)))
 |_=>none
noncomputable def wg:List D->Option Rz
 |[.fl xs]=>(fj xs).map λbs=>.dat (.bl (bs.all id))
 |_=>none
noncomputable def fP:List D->Option (List Int)
 |[]=>some []
 |.int i::r=>(fP r).map (i::·)
 |_=>none
noncomputable def best(bt:Int->Int->Bool)(i:Int)(is:List Int):Int:=is.foldl (λm j=>if bt j m then j else m) i
noncomputable def Bs(bt:Int->Int->Bool):Option (List Int)->Option Rz
 |some (i::is)=>some (.dat (.int (best bt i is)))
 |_=>none
noncomputable def uo(bt:Int->Int->Bool):List D->Option Rz
 |[a]=>(iG a).bind λxs=>Bs bt (fP xs)
 |_=>none
noncomputable def okR(i j:Int):Bool:=decide (-(2^62)<=i/\i<2^62/\-(2^62)<=j/\j<2^62/\(j-i).toNat<=65536)
noncomputable def Kp(i:Int)(n:Nat):List D:=(List.range n).map λk=>.int (i+(k:Nat))
noncomputable def Kq:List D->Option Rz
 |[.int j]=>if okR 0 j then some (.nw (Kp 0 (j-0).toNat)) else none
 |[.int i,.int j]=>if okR i j then some (.nw (Kp i (j-i).toNat)) else none
 |_=>none
noncomputable def Kr:List D->Option Rz
 |[.int j]=>if okR 0 j then some (.dat (.tup (Kp 0 (j-0).toNat))) else none
 |_=>none
noncomputable def wj:List D->Option Rz
 |[a]=>(iG a).map λxs=>.dat (.tup xs)
 |_=>none
noncomputable def Ks:List D->Option Rz
 |[a,.int i]=>((iG a).bind λxs=>L2.oR xs i).map .dat
 |_=>none
noncomputable def Bt:List D->List D->Option Bool
 |[],ys=>some (decide (0<ys.length))
 |_::_,[]=>some false
 |.int x::xs,.int y::ys=>if x=y then Bt xs ys else some (decide (x<y))
 |_::_,_::_=>none
noncomputable def ltD(xs:List D)(i j:Nat):Option Bool:=match xs[i]?,xs[j]? with
 |some (.int x),some (.int y)=>some (decide (x<y))
 |some (.tup us),some (.tup ws)=>Bt us ws
 |_,_=>none
noncomputable def uq(b:List Int):List (List Int)->List Int
 |[]=>b
 |x::r=>uq (if ltI x b=true then x else b) r
noncomputable def uw:List D->Option (List (List Int))
 |[]=>some []
 |.tup xs::r=>match dM xs,uw r with
  |some a,some b=>some (a::b)
  |_,_=>none
 |_=>none
noncomputable def Bu:List D->Option Rz
 |[.fl xs]=>match uw xs with
  |some (x::r)=>some (.dat (.tup ((uq x r).map .int)))
  |_=>none
 |_=>none
noncomputable def pK:D->Bool
 |.int _=>true
 |_=>false
noncomputable def wk:D->Bool
 |.tup (.int _::_)=>true
 |_=>false
noncomputable def ux(lt:Nat->Nat->Option Bool)(xs:List D):Option (List D):=if xs.length<2 then some xs else if xs.length<64 then (match L2.o_ lt (PySem.W.kas_sort xs.length) with
  |some p=>if p.size=xs.length then some (p.toList.map λi=>xs.getD i .non) else none
  |none=>none) else none
noncomputable def QX(xs:List D):Option (List D):=if xs.all pK||xs.all wk then ux (ltD xs) xs else none
noncomputable def sy:List D->Option Rz
 |[.fl xs]=>(QX xs).map .nw
 |_=>none
noncomputable def ltK(ks:List Int)(i j:Nat):Option Bool:=match ks[i]?,ks[j]? with
 |some x,some y=>some (decide (x<y))
 |_,_=>none
noncomputable def Ku:List D->Option Rz
 |[.tup xs]=>some (.dat (.tup xs.reverse))
 |_=>none
noncomputable def lu:List D->Option Rz
 |[.fl xs,d]=>(memD d xs).map λ_=>.dat (.int (m8 d xs:Nat))
 |_=>none
noncomputable def lA:List D->Option Rz
 |[.fl xs,.bl b]=>((fj xs).bind λbs=>bs.idxOf? b).map λ(i:Nat)=>.dat (.int i)
 |_=>none
noncomputable def jf:List D->Option Rz
 |[.int i]=>if i.natAbs<2^62 then some (.dat (.str (Str.ofString (toString i)))) else none
 |_=>none
noncomputable def Fd(f:D->Option PyData):List D->Option (List PyData)
 |[]=>some []
 |x::r=>match f x,Fd f r with
  |some a,some b=>some (a::b)
  |_,_=>none
noncomputable def pd:Nat->D->Option PyData
 |n+1,.tup xs=>(Fd (pd n) xs).map .tuple
 |n+1,.fl xs=>(Fd (pd n) xs).map .list
 |_,.non=>some .none
 |_,.bl b=>some (.bool b)
 |_,.int i=>some (.int i)
 |_,.str x=>some (.str x)
 |_,_=>none
noncomputable def pe:Nat->D->Option PyData
 |n+1,.tup xs=>(Fd (pe n) xs).map .tuple
 |n+1,.fd [.str k] [.int i]=>some (.dict [(.str k,.int i)])
 |_,.non=>some .none
 |_,.bl b=>some (.bool b)
 |_,.int i=>some (.int i)
 |_,.str x=>some (.str x)
 |_,_=>none
noncomputable def orE(a b:Option PyData):Option PyData:=match a with
 |some d=>some d
 |none=>b
noncomputable def pdT:D->Option PyData
 |.fd [.str k] [.int i]=>some (.dict [(.str k,.int i)])
 |x=>orE (pd 40 x) (pe 40 x)
noncomputable def shw(d:PyData):Option Rz:=if d.showable=true/\d.shown.length<=sizeLine then some (.dat (.str d.shown)) else none
noncomputable def Bv:List D->Option Rz
 |[x]=>(pdT x).bind shw
 |_=>none
noncomputable def uy:List (Int×Int):=[(0,1),(0,2),(0,3),(0,4),(0,5),(0,6),(0,7),(1,2),(1,3),(1,4),(1,5),(1,6),(1,7),(2,3),(2,4),(2,5),(2,6),(2,7),(3,4),(3,5),(3,6),(3,7),(4,5),(4,6),(4,7),(5,6),(5,7),(6,7)]
noncomputable def ss(ts:List (Int×Int)):List (Int×Int):=uy.filter λt=>ts.contains t
noncomputable def Kv:D->Option (Int×Int)
 |.tup [.int a,.int b]=>if 0<=a/\a<b/\b<8 then some (a,b) else none
 |_=>none
noncomputable def uz:List D->Option (List (Int×Int))
 |[]=>some []
 |x::r=>match Kv x,uz r with
  |some a,some b=>some (a::b)
  |_,_=>none
noncomputable def pSs:List D->Option Rz
 |[.tup xs]=>(uz xs).map λts=>.nw ((ss ts).map λp=>.tup [.int p.1,.int p.2])
 |_=>none
noncomputable def Bw(is:List Int):Bool:=decide (is.length<=1000)&&is.all λi=>decide (-1000000<=i/\i<=1000000)
noncomputable def Kw(is:List Int):Option Rz:=match Bw is with
 |true=>some (.dat (.int is.sum))
 |false=>none
noncomputable def Ky:List D->Option Rz
 |[a]=>(iG a).bind λxs=>(fP xs).bind Kw
 |_=>none
noncomputable def gP:List Int->List Int
 |[]=>[]
 |x::r=>if r.contains x then gP r else x::gP r
noncomputable def BJ(x:Int):Bool:=decide (-1<=x/\x<=34)||decide (100000000000000000000<=x/\x<=100000000000000000034)
noncomputable def Kz(is:List Int):Bool:=decide (is.length<=18)&&is.all BJ
noncomputable def BK(is:List Int):Option Rz:=match Kz is with
 |true=>some (.dat (.int (gP is).length))
 |false=>none
noncomputable def BL:List D->Option Rz
 |[.tup xs]=>(fP xs).bind BK
 |_=>none
noncomputable def KC(is:List Int):Option Rz:=match Kz is with
 |true=>some (.nw ((sortI (gP is)).map .int))
 |false=>none
noncomputable def KD:List D->Option Rz
 |[.tup xs]=>(fP xs).bind KC
 |_=>none
noncomputable def sE:List D->Option Rz
 |[.fl xs,.int i]=>((fP xs).bind λis=>is.idxOf? i).map λ(k:Nat)=>.dat (.int k)
 |_=>none
noncomputable def rep{α:Type}(xs:List α)(n:Nat):List α:=(List.replicate n xs).flatten
noncomputable def BP:List D->Option Rz
 |[.fl xs,.int n]=>if 0<=n/\n<=1000/\xs.length<=1000 then some (.nw (rep xs n.toNat)) else none
 |_=>none
noncomputable def wu:List D->Option Rz
 |[.tup xs]=>if xs.all pK=true then (QX xs).map .nw else none
 |_=>none
noncomputable def BR:List D->Option Rz
 |[.tup xs,.int n]=>if 1<=n/\n<=1000/\1<=xs.length/\xs.length<=1000 then some (.dat (.tup (rep xs n.toNat))) else none
 |_=>none
noncomputable def KH(xs ys:List D):List D:=List.zipWith (λp q=>.tup [p,q]) xs ys
noncomputable def zlO(xs ys:List D):Option Rz:=if xs.length<=65536 then some (.nw (KH xs ys)) else none
noncomputable def BW:List D->Option Rz
 |[a,b]=>match iG a,iG b with
  |some xs,some ys=>zlO xs ys
  |_,_=>none
 |_=>none
noncomputable def BX:List D->Option Rz
 |[.fl xs]=>some (.nw (xs.drop 1).reverse)
 |_=>none
noncomputable def D.uD(b:Bool):D->Bool
 |.bl c=>b==c
 |_=>false
noncomputable def wz(b:Bool)(f:Bool->Bool):List D->Option Rz
 |[a]=>some (.dat (.bl (f (a.uD b))))
 |_=>none
noncomputable def Bl:List D->Option Nat
 |[]=>none
 |.tup []::_=>some 0
 |.tup (_::_)::r=>(Bl r).map (·+1)
 |.non::r=>(Bl r).map (·+1)
 |_=>none
noncomputable def KJ:List D->Option Rz
 |[.tup xs,.tup []]=>(Bl xs).map λ(i:Nat)=>.dat (.int i)
 |_=>none
noncomputable def cT(x:Str)(lo hi st:Option Int):Str:=if (st.getD 1==1&&(Builtin.Str.strSliceIndices lo hi (st.getD 1) x.length).length==x.length)=true then x else ⟨((Builtin.Str.strSliceIndices lo hi (st.getD 1) x.length).filterMap λi=>x.cps[i]?).toArray⟩
noncomputable def qM(b:Bool)(x:Str):Option Rz:=match b with
 |true=>some (.dat (.str x))
 |false=>none
noncomputable def cZ(x:Str):Bool:=decide (x.length<=600)
noncomputable def pL:List D->Option Rz
 |[.str x]=>match cZ x with
  |true=>some (.dat (.int x.length))
  |false=>none
 |_=>none
noncomputable def lB:List D->Option Rz
 |[.str x,.int j]=>qM (cZ x) (cT x (some j) none none)
 |_=>none
noncomputable def wA:List D->Option Rz
 |[.str x,.int j]=>qM (cZ x) (cT x none (some j) none)
 |_=>none
noncomputable def pN:List D->Option Rz
 |[.str x]=>qM (cZ x) (cT x none none (some (-1)))
 |_=>none
noncomputable def wB:List D->Option Rz
 |[.str x,.int j]=>if 0<=j/\j<1000 then (x.cps[j.toNat]?).map λc=>.dat (.str ⟨#[c]⟩) else none
 |_=>none
noncomputable def fu(y:Str):Bool:=decide (y.length=1)&&decide (Builtin.Str.strKind y=1)
noncomputable def wC(p:Str×Str×Str):D:=.tup [.str p.1,.str p.2.1,.str p.2.2]
noncomputable def pO:List D->Option Rz
 |[.str x,.str y]=>match cZ x&&fu y with
  |true=>some (.dat (wC (Txt.partition x y)))
  |false=>none
 |_=>none
noncomputable def bF(x y:Str):List Str:=match decide (x.length<1)||(Builtin.Str.occurrences x y 0 x.length (x.length+1)).isEmpty with
 |true=>[x]
 |false=>Builtin.Str.partsBetween x (Builtin.Str.occurrences x y 0 x.length (x.length+1)) y.length
noncomputable def pP:List D->Option Rz
 |[.str x,.str y]=>match cZ x&&fu y&&decide ((bF x y).length<=1000) with
  |true=>some (.nw ((bF x y).map .str))
  |false=>none
 |_=>none
noncomputable def pQ:List D->Option Rz
 |[.str x]=>match cZ x with
  |true=>(intText? x).map λn=>.dat (.int n)
  |false=>none
 |_=>none
noncomputable def sG:List D->Option Rz
 |[.str a,.str b,.str c]=>qM (cZ a&&cZ b&&cZ c) (Str.empty++a++b++c)
 |_=>none
noncomputable def BZ:D->Option Bool
 |.non=>some false
 |.bl b=>some b
 |.int i=>some (i != 0)
 |.tup xs=>some (!xs.isEmpty)
 |.fl xs=>some (!xs.isEmpty)
 |_=>none
noncomputable def prim:Pr->List D->Option Rz
 |.add=>v7
 |.ao=>bJ λi j=>some (.int (i-j))
 |.mul=>bJ λi j=>if (-(2^64)<i/\i<2^64)\/(-(2^64)<j/\j<2^64) then some (.int (i*j)) else none
 |.fdiv=>bJ λi j=>if 0<j/\j<1073741824 then some (.int (i/j)) else none
 |.mod=>bJ λi j=>if 0<j then some (.int (i%j)) else none
 |.pow=>bJ λi j=>if 0<=j/\j<=1000000/\i.natAbs<2^64 then some (.int (i^j.toNat)) else none
 |.neg=>pJ λi=>.int (-i)
 |.eq=>v8 id
 |.ne=>v8 not
 |.lt=>Bp
 |.le=>bJ λi j=>some (.bl (decide (i<=j)))
 |.gt=>bJ λi j=>some (.bl (decide (j<i)))
 |.ge=>bJ λi j=>some (.bl (decide (j<=i)))
 |.inn=>Bq id
 |.nin=>Bq not
 |.rW=>v9 id
 |.noN=>v9 not
 |.len=>su λxs=>some (.dat (.int xs.length))
 |.abs=>pJ λi=>.int (if i<0 then -i else i)
 |.max2=>bJ λi j=>some (.int (if j>i then j else i))
 |.min2=>bJ λi j=>some (.int (if j<i then j else i))
 |.rY=>Br
 |.divmod=>bJ λi j=>if 0<j/\j<1073741824 then some (.tup [.int (i/j),.int (i%j)]) else none
 |.all=>wg
 |.QT=>Kq
 |.Bf=>uo λa b=>decide (a>b)
 |.Bg=>uo λa b=>decide (a<b)
 |.Bh=>Bu
 |.QS=>Kr
 |.list=>su λxs=>some (.nw xs)
 |.tuple=>wj
 |.ix=>Ks
 |.rev=>Ku
 |.sorted=>sy
 |.mq=>pSs
 |.Bj=>BP
 |.mult=>BR
 |.ug=>wu
 |.sum=>Ky
 |.pD=>BL
 |.count=>lu
 |.index=>lA
 |.repr=>Bv
 |.str1=>jf
 |.nir=>bJ λi j=>some (.bl (!decide (0<=i/\i<j)))
 |.Kh=>BW
 |.Kl=>BX
 |.shl=>bJ λi j=>if 0<=j/\j<=64/\i.natAbs<2^64 then some (.int (i*2^j.toNat)) else none
 |.shr=>bJ λi j=>if 0<=j/\j<=64/\0<=i then some (.int (i/2^j.toNat)) else none
 |.band=>bJ λi j=>if j=1/\0<=i then some (.int (i%2)) else none
 |.isT=>wz true id
 |.Bk=>wz true not
 |.isF=>wz false id
 |.Bl=>KJ
 |.vW=>KD
 |.vX=>sE
 |.pF=>pL
 |.iD=>lB
 |.vY=>wA
 |.pG=>pN
 |.rZ=>wB
 |.part=>pO
 |.pH=>pP
 |.sint=>pQ
 |.cat=>sG
noncomputable def fX(ao:Nat->Nat->Bool):D->Kd->Option Bool
 |.exc c _,.cls e=>some (ao c e)
 |.exc _ _,.k_=>some true
 |.exc _ _,_=>none
 |.ob _ _,_=>none
 |.any,_=>none
 |_,.cls _=>none
 |_,.k_=>none
 |.bl _,.bool=>some true
 |.bl _,.int=>some true
 |.bl _,_=>some false
 |.int _,.int=>some true
 |.int _,_=>some false
 |.non,_=>some false
 |.str _,.str=>some true
 |.str _,_=>some false
 |.tup _,.tuple=>some true
 |.tup _,_=>some false
 |.fl _,.list=>some true
 |.fl _,_=>some false
 |.fd _ _,.dict=>some true
 |.fd _ _,_=>some false
noncomputable def rd(x:Xv):M D:=λs=>match x with
 |.d v=>some (.ok v,s)
 |.l n=>match s[n]? with
  |some (.lst xs)=>some (.ok (.fl xs),s)
  |_=>none
noncomputable def cJ:List Xv->M (List D)
 |[]=>M.ret []
 |x::r=>M.bd (rd x) λd=>M.bd (cJ r) λds=>M.ret (d::ds)
noncomputable def dat(x:Xv):M D:=match x with
 |.d v=>M.ret v
 |.l _=>M.no
noncomputable def cF:List Xv->M (List D)
 |[]=>M.ret []
 |x::r=>M.bd (dat x) λd=>M.bd (cF r) λds=>M.ret (d::ds)
noncomputable def bool(x:Xv):M Bool:=match x with
 |.d (.bl b)=>M.ret b
 |_=>M.no
noncomputable def int(x:Xv):M Int:=match x with
 |.d (.int b)=>M.ret b
 |_=>M.no
noncomputable def newL(fz:Bool)(xs:List D):M Xv:=match fz with
 |true=>M.ret (.d (.fl xs))
 |false=>λs=>some (.ok (.l s.length),s++[.lst xs])
noncomputable def aX(fz:Bool)(o:Option Rz):M Xv:=match o with
 |some (.dat d)=>M.ret (.d d)
 |some (.nw xs)=>newL fz xs
 |none=>M.no
noncomputable def bU(x:Xv):M (Nat×List D):=λs=>match x with
 |.l n=>match s[n]? with
  |some (.lst xs)=>some (.ok (n,xs),s)
  |_=>none
 |_=>none
noncomputable def putL(n:Nat)(xs:List D):M Unit:=λs=>some (.ok (),s.set n (.lst xs))
noncomputable def KN:D->Option Kx
 |.non=>some .non
 |.int i=>some (.int i)
 |.tup xs=>(dM xs).map .row
 |_=>none
noncomputable def QZ:List D->Option (List Kx)
 |[]=>some []
 |x::r=>match KN x,QZ r with
  |some a,some b=>some (a::b)
  |_,_=>none
noncomputable def kOf:D->Option (List Kx)
 |.tup xs=>QZ xs
 |_=>none
noncomputable abbrev qN:=List (List Kx×D)
noncomputable def sH(k:List Kx):qN->Option D
 |[]=>none
 |p::r=>if p.1=k then some p.2 else sH k r
noncomputable def KQ(k:List Kx)(d:D)(r:qN):qN:=if (sH k r).isSome=true then r.map λp=>if p.1=k then (p.1,d) else p else r++[(k,d)]
noncomputable def pR(x:Xv):M (Nat×qN):=λs=>match x with
 |.l n=>match s[n]? with
  |some (.dct kvs)=>some (.ok (n,kvs),s)
  |_=>none
 |_=>none
noncomputable def putD(n:Nat)(kvs:qN):M Unit:=λs=>some (.ok (),s.set n (.dct kvs))
noncomputable def key(x:Xv):M (List Kx):=match x with
 |.d v=>M.opt (kOf v)
 |.l _=>M.no
noncomputable def enumFrom:Nat->List D->List D
 |_,[]=>[]
 |i,x::r=>.tup [.int i,x]::enumFrom (i+1) r
inductive Src where
 |fix (xs:List D)|live (n:Nat)|uE (n:Nat)
noncomputable def Src.at(c:Src)(i:Nat)(s:S):Option (Option D):=match c with
 |.fix xs=>some xs[i]?
 |.live n=>match s[n]? with
  |some (.lst xs)=>some xs[i]?
  |_=>none
 |.uE n=>match s[n]? with
  |some (.lst xs)=>some (xs[i]?.map λx=>.tup [.int i,x])
  |_=>none
noncomputable def pU(x:Xv):M (Src×Nat):=λs=>match x with
 |.d (.tup xs)=>some (.ok (.fix (enumFrom 0 xs),(enumFrom 0 xs).length),s)
 |.d (.fl xs)=>some (.ok (.fix (enumFrom 0 xs),(enumFrom 0 xs).length),s)
 |.l n=>match s[n]? with
  |some (.lst xs)=>some (.ok (.uE n,xs.length),s)
  |_=>none
 |_=>none
noncomputable def src(x:Xv):M (Src×Nat):=λs=>match x with
 |.d (.tup xs)=>some (.ok (.fix xs,xs.length),s)
 |.d (.fl xs)=>some (.ok (.fix xs,xs.length),s)
 |.l n=>match s[n]? with
  |some (.lst xs)=>some (.ok (.live n,xs.length),s)
  |_=>none
 |_=>none
noncomputable def m9(x:Xv):M (List D):=match x with
 |.d (.tup xs)=>M.ret xs
 |.d (.fl xs)=>M.ret xs
 |_=>M.no
noncomputable def fZ(a b:Int):List D:=(List.range (b-a).toNat).map λ(i:Nat)=>.int (a+i)
noncomputable def eF(a:Int):Bool:=decide (-(2^62)<a)&&decide (a<2^62)
noncomputable def walk(c:Src)(f:D->List D->M (List D)):Nat->Nat->List D->M (List D)
 |0,_,_=>M.no
 |k+1,i,acc=>λs=>match c.at i s with
  |none=>none
  |some none=>some (.ok acc,s)
  |some (some x)=>M.bd (f x acc) (λacc'=>walk c f k (i+1) acc') s
noncomputable def uF(f:D->M Xv):List D->Option (List Int)
 |[]=>some []
 |x::r=>match f x [] with
  |some (.ok (.d (.int k)),[])=>(uF f r).map (k::·)
  |_=>none
noncomputable abbrev Vs:=List (Option Xv)
noncomputable abbrev Fn:=Nat->List Xv->M Xv
noncomputable def locs:List Xv->List Nat
 |[]=>[]
 |.d _::r=>locs r
 |.l n::r=>n::locs r
noncomputable def cC:Nat->List Xv->List Xv
 |_,[]=>[]
 |k,.d v::r=>.d v::cC k r
 |k,.l _::r=>.l k::cC (k+1) r
noncomputable def fQ(s:S):List Nat->Option S
 |[]=>some []
 |n::r=>match s[n]?,fQ s r with
  |some o,some q=>some (o::q)
  |_,_=>none
noncomputable def bV(s:S):List Nat->S->S
 |n::r,o::q=>bV (s.set n o) r q
 |_,_=>s
noncomputable def bM(F:List Xv->M Xv)(xs:List Xv):M Xv:=λs=>
 if (locs xs).Nodup then match fQ s (locs xs) with
  |none=>none
  |some s0=>match F (cC 0 xs) s0 with
   |none=>none
   |some (.er c fs,s1)=>some (.er c fs,bV s (locs xs) s1)
   |some (.ok (.d v),s1)=>some (.ok (.d v),bV s (locs xs) s1)
   |some (.ok (.l n),s1)=>match (locs xs)[n]? with
    |some m=>some (.ok (.l m),bV s (locs xs) s1)
    |none=>match s1[n]? with
     |some o=>some (.ok (.l s.length),bV s (locs xs) s1++[o])
     |none=>none
 else none
noncomputable def mkW(F:List Xv->M Xv)(c:Nat)(vs:List Xv):M Xv:=λs=>
 if locs vs=[] then match F (.d .any::vs) [] with
  |some (.ok (.d (.tup ds)),_)=>some (.ok (.d (.ob c ds)),s)
  |_=>none
 else none
noncomputable def B_(c:Nat)(x:Xv):M (List D):=match x with
 |.d (.ob e fs)=>if e=c then M.ret fs else M.no
 |_=>M.no
noncomputable def cU{α:Type}:List Nat->List α->List (Option α)->Option (List (Option α))
 |[],[],J=>some J
 |i::is,d::ds,J=>cU is ds (J.set i (some d))
 |_,_,_=>none
noncomputable def f9:D->Option (List D)
 |.tup xs=>some xs
 |_=>none
noncomputable def iH(tg:List Nat)(x:D)(J:Vs):Option Vs:=match tg with
 |[i]=>some (J.set i (some (.d x)))
 |is=>(f9 x).bind λds=>cU is (ds.map .d) J
noncomputable def blk(many:Nat)(fr:List Nat)(J:Vs):Vs:=List.replicate many none++fr.map λj=>J[j]?.join
section
variable (ao:Nat->Nat->Bool)(aj:Bool)(F:Fn)
mutual
noncomputable def ev:E->Vs->M Xv
 |.c d,_=>M.ret (.d d)
 |.v i,J=>M.opt (J[i]?.join)
 |.pr fz p xs,J=>M.bd (evs xs J) λvs=>M.bd (cJ vs) λds=>aX fz (prim p ds)
 |.rQ p q a b c,J=>M.bd (ev a J) λx=>M.bd (ev b J) λy=>M.bd (cJ [x,y]) λds=>M.bd (aX true (prim p ds)) λt=>M.bd (bool t) λk=>
   if k=true then M.bd (ev c J) λz=>M.bd (cJ [y,z]) λds=>aX true (prim q ds) else M.ret (.d (.bl false))
 |.vZ p q r a b c d,J=>M.bd (ev a J) λx=>M.bd (ev b J) λy=>M.bd (cJ [x,y]) λds=>M.bd (aX true (prim p ds)) λt=>M.bd (bool t) λk=>
   if k=true then M.bd (ev c J) λz=>M.bd (cJ [y,z]) λds=>M.bd (aX true (prim q ds)) λt=>M.bd (bool t) λk2=>
    if k2=true then M.bd (ev d J) λw=>M.bd (cJ [z,w]) λds=>aX true (prim r ds) else M.ret (.d (.bl false))
   else M.ret (.d (.bl false))
 |.and a b,J=>M.bd (ev a J) λx=>M.bd (bool x) λk=>if k=true then ev b J else M.ret (.d (.bl false))
 |.or a b,J=>M.bd (ev a J) λx=>M.bd (bool x) λk=>if k=true then M.ret (.d (.bl true)) else ev b J
 |.not a,J=>M.bd (ev a J) λx=>M.bd (bool x) λk=>M.ret (.d (.bl (!k)))
 |.ite c a b,J=>M.bd (ev c J) λx=>M.bd (bool x) λk=>if k=true then ev a J else ev b J
 |.tup xs,J=>M.bd (evs xs J) λvs=>M.bd (cF vs) λds=>M.ret (.d (.tup ds))
 |.lst fz xs,J=>M.bd (evs xs J) λvs=>M.bd (cF vs) λds=>newL fz ds
 |.pI k i,_=>M.ret (.d (.fd [.str k] [.int i]))
 |.call f xs,J=>M.bd (evs xs J) λvs=>bM (F f) vs
 |.dJ a k,J=>M.bd (ev a J) λx=>M.bd (rd x) λd=>M.bd (M.opt (fX ao d k)) λb=>M.ret (.d (.bl b))
 |.sl fz a lo hi,J=>M.bd (ev a J) λx=>M.bd (sJ lo J) λl=>M.bd (sJ hi J) λh=>M.bd (rd x) λd=>aX fz (cutD d l h)
 |.meth fz p k o xs,J=>M.bd (ev o J) λx=>M.bd (rd x) λd=>if jH k d=true then M.bd (evs xs J) λys=>M.bd (cJ (x::ys)) λds=>aX fz (prim p ds) else M.no
 |.push o a,J=>M.bd (ev o J) λx=>M.bd (bU x) λ_=>M.bd (ev a J) λy=>M.bd (dat y) λd=>M.bd (bU x) λnx=>if nx.2.length<sizeLine then M.bd (putL nx.1 (nx.2++[d])) λ_=>M.ret (.d .non) else M.no
 |.pop o,J=>M.bd (ev o J) λx=>M.bd (bU x) λnx=>match nx.2.getLast? with
   |some d=>M.bd (putL nx.1 nx.2.dropLast) λ_=>M.ret (.d d)
   |none=>M.no
 |.comp fz elt tg it fr many cond,J=>if aj=true then M.bd (j8 it J) λcn=>
   M.bd (walk cn.1 (λd acc=>M.bd (M.opt (iH tg d (blk many fr J))) λJ'=>M.bd (M.qt (nQ cond J')) λok=>
    if ok=true then M.bd (M.qt (ev elt J')) λy=>M.bd (dat y) λe=>if acc.length<sizeLine then M.ret (acc++[e]) else M.no else M.ret acc) (cn.2+1) 0 []) λxs=>newL fz xs
  else M.no
 |.Bm fz elt tg it QV QW fr many cond,J=>if aj=true then M.bd (j8 it J) λcn=>
   M.bd (walk cn.1 (λd acc=>M.bd (M.opt (iH tg d (blk many fr J))) λJ'=>M.bd (M.qt (j8 QW J')) λQ0=>
    walk Q0.1 (λd2 acc=>M.bd (M.opt (iH QV d2 J')) λQ5=>M.bd (M.qt (nQ cond Q5)) λok=>
     if ok=true then M.bd (M.qt (ev elt Q5)) λy=>M.bd (dat y) λe=>if acc.length<sizeLine then M.ret (acc++[e]) else M.no else M.ret acc) (Q0.2+1) 0 acc) (cn.2+1) 0 []) λxs=>newL fz xs
  else M.no
 |.fld o cs i,J=>M.bd (ev o J) λx=>match x with
   |.d (.exc c fs)=>if cs.contains c=true then M.opt (fs[i]?.map .d) else M.no
   |_=>M.no
 |.of o c i,J=>M.bd (ev o J) λx=>M.bd (B_ c x) λfs=>M.opt (fs[i]?.map .d)
 |.mk c f xs,J=>M.bd (evs xs J) λvs=>mkW (F f) c vs
 |.cm c f o xs,J=>M.bd (ev o J) λx=>M.bd (B_ c x) λ_=>M.bd (evs xs J) λvs=>M.qt (bM (F f) (x::vs))
 |.Km,_=>λs=>some (.ok (.l s.length),s++[.dct []])
 |.din b k d,J=>M.bd (ev k J) λx=>M.bd (ev d J) λy=>M.bd (key x) λkx=>M.bd (pR y) λnk=>M.ret (.d (.bl ((sH kx nk.2).isSome==b)))
 |.Ko d k,J=>M.bd (ev d J) λy=>M.bd (ev k J) λx=>M.bd (key x) λkx=>M.bd (pR y) λnk=>M.opt ((sH kx nk.2).map .d)
 |.tru a,J=>M.bd (ev a J) λx=>M.bd (rd x) λd=>M.bd (M.opt (BZ d)) λk=>M.ret (.d (.bl k))
 |.Bo fz a b,J=>if aj=true then M.bd (ev a J) λx=>match x with
   |.d (.fl xs)=>M.bd (M.opt (uF (λd=>ev b [some (.d d)]) xs)) λks=>M.bd (M.opt (ux (ltK ks) xs)) λys=>newL fz ys
   |_=>M.no else M.no
 |.orv a b,J=>M.bd (ev a J) λx=>M.bd (rd x) λd=>M.bd (M.opt (BZ d)) λk=>if k=true then M.ret x else ev b J
 |.ins o i a,J=>M.bd (ev o J) λx=>M.bd (bU x) λ_=>M.bd (ev i J) λz=>M.bd (int z) λj=>M.bd (ev a J) λy=>M.bd (dat y) λd=>M.bd (bU x) λnx=>if 0<=j/\j<=nx.2.length/\nx.2.length<sizeLine then M.bd (putL nx.1 (nx.2.take j.toNat++d::nx.2.drop j.toNat)) λ_=>M.ret (.d .non) else M.no
 |.no,_=>M.no
noncomputable def j8:Wk->Vs->M (Src×Nat)
 |.seq e,J=>M.bd (ev e J) src
 |.rg a b,J=>M.bd (ev a J) λx=>M.bd (ev b J) λy=>M.bd (int x) λi=>M.bd (int y) λj=>if eF i&&eF j then M.ret (.fix (fZ i j),(fZ i j).length) else M.no
 |.zip a b,J=>M.bd (ev a J) λx=>M.bd (ev b J) λy=>M.bd (m9 x) λxs=>M.bd (m9 y) λys=>M.ret (.fix (List.zipWith (λp q=>.tup [p,q]) xs ys),(List.zipWith (λ(p q:D)=>D.tup [p,q]) xs ys).length)
 |.enum a,J=>M.bd (ev a J) pU
 |.rrg a,J=>M.bd (ev a J) λx=>M.bd (int x) λi=>if eF i then M.ret (.fix (fZ 0 i).reverse,(fZ 0 i).length) else M.no
noncomputable def sJ:Eo->Vs->M (Option Int)
 |.no,_=>M.ret none
 |.yes a,J=>M.bd (ev a J) λx=>M.bd (int x) λi=>M.ret (some i)
noncomputable def nQ:Eo->Vs->M Bool
 |.no,_=>M.ret true
 |.yes a,J=>M.bd (ev a J) bool
noncomputable def evs:Es->Vs->M (List Xv)
 |.nil,_=>M.ret []
 |.cons a r,J=>M.bd (ev a J) λx=>M.bd (evs r J) λxs=>M.ret (x::xs)
end
end
inductive Out where
 |nx (J:Vs)|rt (x:Xv)|bk (J:Vs)|ct (J:Vs)|er (c:Nat) (fs:List D) (J:Vs)
noncomputable abbrev MS:=S->Option (Out×S)
noncomputable def ofM{α:Type}(m:M α)(J:Vs)(k:α->MS):MS:=λs=>match m s with
 |some (.ok a,s')=>k a s'
 |some (.er c fs,s')=>some (.er c fs J,s')
 |none=>none
noncomputable def bQ(m:MS)(k:Vs->MS):MS:=λs=>match m s with
 |some (.nx J,s')=>k J s'
 |r=>r
section
variable (ao:Nat->Nat->Bool)
noncomputable def store(aj:Bool)(F:Fn)(t:Tg)(x:Xv)(J:Vs):MS:=match t with
 |.nm i=>λs=>some (.nx (J.set i (some x)),s)
 |.tp is=>if aj=true then ofM (M.bd (dat x) λd=>M.opt ((f9 d).bind λds=>cU is (ds.map .d) J)) J (λJ' s=>some (.nx J',s)) else λ_=>none
 |.ao o i=>ofM (M.bd (dat x) λd=>M.bd (ev ao aj F o J) λy=>M.bd (ev ao aj F i J) λz=>M.bd (int z) λj=>M.bd (bU y) λnx=>
   match L2.rM nx.2.length j with
   |some q=>putL nx.1 (nx.2.set q d)
   |none=>M.no) J (λ_ s=>some (.nx J,s))
noncomputable def lC(c:Vs->M Bool)(b:Vs->MS):Nat->Vs->MS
 |0,_=>λ_=>none
 |k+1,J=>ofM (c J) J λok=>if ok=true then λs=>match b J s with
   |some (.nx J',s')=>lC c b k J' s'
   |some (.ct J',s')=>lC c b k J' s'
   |some (.bk J',s')=>some (.nx J',s')
   |r=>r
  else λs=>some (.nx J,s)
noncomputable def cG(c:Src)(b:D->Vs->MS):Nat->Nat->Vs->MS
 |0,_,_=>λ_=>none
 |k+1,i,J=>λs=>match c.at i s with
  |none=>none
  |some none=>some (.nx J,s)
  |some (some d)=>match b d J s with
   |some (.nx J',s')=>cG c b k (i+1) J' s'
   |some (.ct J',s')=>cG c b k (i+1) J' s'
   |some (.bk J',s')=>some (.nx J',s')
   |r=>r
noncomputable def goes(i:Nat):Out->Out
 |.nx J=>.nx (J.set i none)
 |.bk J=>.bk (J.set i none)
 |.ct J=>.ct (J.set i none)
 |r=>r
noncomputable def Cd:Nat:=1000000000000
mutual
noncomputable def ex(aj:Bool)(F:Bool->Fn):St->Vs->MS
 |.pass,J=>λs=>some (.nx J,s)
 |.ex e,J=>ofM (ev ao aj (F aj) e J) J λ_ s=>some (.nx J,s)
 |.asg t e,J=>ofM (ev ao aj (F aj) e J) J λx=>store ao aj (F aj) t x J
 |.par i j a b,J=>if aj=true then ofM (M.bd (ev ao aj (F aj) a J) λx=>M.bd (ev ao aj (F aj) b J) λy=>M.ret (x,y)) J λxy s=>some (.nx ((J.set i (some xy.1)).set j (some xy.2)),s) else λ_=>none
 |.aug i e,J=>ofM (M.bd (M.opt (J[i]?.join)) λx=>M.bd (ev ao aj (F aj) e J) λy=>M.bd (int x) λp=>M.bd (int y) λq=>M.ret (p+q)) J λr s=>some (.nx (J.set i (some (.d (.int r)))),s)
 |.ret e,J=>ofM (ev ao aj (F aj) e J) J λx s=>some (.rt x,s)
 |.rise c kp xs,J=>if aj=true then ofM (M.bd (evs ao aj (F aj) xs J) cF) J λds s=>some (.er c (if kp=true then ds else []) J,s) else λ_=>none
 |.iff c t e,J=>ofM (M.bd (ev ao aj (F aj) c J) bool) J λb=>if b=true then exs aj F t J else exs aj F e J
 |.wh c b,J=>lC (λJ=>M.bd (ev ao aj (F aj) c J) bool) (λJ=>exs aj F b J) Cd J
 |.fr t w b,J=>if aj=true then ofM (j8 ao aj (F aj) w J) J λcn=>cG cn.1 (λd J=>bQ (store ao aj (F aj) t (.d d) J) λJ'=>exs aj F b J') (cn.2+1) 0 J else λ_=>none
 |.lq b d i h,J=>if aj=true then λs=>match exs aj F b J s with
   |some (.er c fs J',s')=>if ao c d=true then (match exs false F h (J'.set i (some (.d (.exc c fs)))) s' with
    |some (r,s'')=>(match r with
     |.er _ _ _=>none
     |r=>some (goes i r,s''))
    |none=>none) else none
   |r=>r
  else λ_=>none
 |.dput d k v,J=>ofM (M.bd (ev ao aj (F aj) v J) λz=>M.bd (dat z) λw=>M.bd (ev ao aj (F aj) d J) λy=>M.bd (ev ao aj (F aj) k J) λx=>M.bd (key x) λkx=>M.bd (pR y) λnk=>if nk.2.length<sizeLine then putD nk.1 (KQ kx w nk.2) else M.no) J (λ_ s=>some (.nx J,s))
 |.no,_=>λ_=>none
noncomputable def exs(aj:Bool)(F:Bool->Fn):cj->Vs->MS
 |.nil,J=>λs=>some (.nx J,s)
 |.cons a r,J=>bQ (ex aj F a J) λJ'=>exs aj F r J'
end
structure Df where
 many:Nat
 fB:Nat
 body:cj
noncomputable def call(T:Nat->Option Df):Nat->Bool->Fn
 |0,_,_,_=>M.no
 |k+1,aj,f,xs=>match T f with
  |none=>M.no
  |some d=>if xs.length=d.fB then λs=>match exs ao aj (λc=>call T k c) d.body (xs.map some++List.replicate (d.many-d.fB) none) s with
    |some (.nx _,s')=>some (.ok (.d .non),s')
    |some (.rt v,s')=>some (.ok v,s')
    |some (.er c fs _,s')=>some (.er c fs,s')
    |_=>none
   else M.no
end
end Mi
namespace Mi
open PySem L2
structure Ph where
 z:Addr->Prop
 l:List Addr
structure Cl where
 a:Nat->Addr
 f:Nat->List Str
 b:Nat->Addr
 g:Nat->List Str
section
variable (K:W.Frag)(cA:Cl)
def KT(a:Addr)(vs:List V):Prop:=iR K (λ_=>none) a vs
def KL(a:Addr)(vs:List V):Prop:=dU K (λ_=>none) a vs
def TupAt(U:Ph)(H:Hp)(a:Addr)(vs:List V):Prop:=(Rd H a (.tup vs)/\¬U.z a)\/KT K a vs
def LstAt(U:Ph)(H:Hp)(a:Addr)(vs:List V):Prop:=(Rd H a (.lst vs)/\¬U.z a)\/KL K a vs
def ExcAt(U:Ph)(H:Hp)(a:Addr)(c:Nat)(vs:List V):Prop:=¬U.z a/\((cA.f c=[]/\vs=[]/\H a=some (fM a (cA.a c) none))\/∃dx,H a=some (fM a (cA.a c) (some dx))/\¬U.z dx/\H dx=some (.xd ((cA.f c).zip vs))/\(cA.f c).length=vs.length)
def lD(U:Ph)(H:Hp)(a:Addr)(c:Nat)(vs:List V):Prop:=¬U.z a/\∃dx,H a=some (.ins (cA.b c) dx ((cA.g c).zip vs))/\(cA.g c).length=vs.length
mutual
inductive Rep (U:Ph) (H:Hp):D->V->Prop where
 |non:Rep U H .non .non
 |bl (b:Bool):Rep U H (.bl b) (.bl b)
 |int (i:Int):Rep U H (.int i) (.int i)
 |str (x:Str):Rep U H (.str x) (.str x)
 |tup {a:Addr} {xs:List D} {vs:List V} (h:TupAt K U H a vs) (r:aC U H xs vs):Rep U H (.tup xs) (.ref a)
 |fl {a:Addr} {xs:List D} {vs:List V} (h:LstAt K U H a vs) (r:aC U H xs vs):Rep U H (.fl xs) (.ref a)
 |fd {a:Addr} {k:Str} {i:Int} (h:H a=some (.dK [(.inr k,.int i)])) (n:¬U.z a):Rep U H (.fd [.str k] [.int i]) (.ref a)
 |exc {a:Addr} {c:Nat} {xs:List D} {vs:List V} (h:ExcAt cA U H a c vs) (r:aC U H xs vs):Rep U H (.exc c xs) (.ref a)
 |ob {a:Addr} {c:Nat} {xs:List D} {vs:List V} (h:lD cA U H a c vs) (r:aC U H xs vs):Rep U H (.ob c xs) (.ref a)
 |any (a:Addr):Rep U H .any (.ref a)
inductive aC (U:Ph) (H:Hp):List D->List V->Prop where
 |nil:aC U H [] []
 |cons {d:D} {v:V} {ds:List D} {vs:List V} (h:Rep U H d v) (r:aC U H ds vs):aC U H (d::ds) (v::vs)
end
inductive bf (U:Ph) (H:Hp):Xv->V->Prop where
 |d {x:D} {v:V} (h:Rep K cA U H x v):bf U H (.d x) v
 |l {n:Nat} {a:Addr} (h:U.l[n]?=some a):bf U H (.l n) (.ref a)
inductive bK (U:Ph) (H:Hp):List Xv->List V->Prop where
 |nil:bK U H [] []
 |cons {d:Xv} {v:V} {ds:List Xv} {vs:List V} (h:bf K cA U H d v) (r:bK U H ds vs):bK U H (d::ds) (v::vs)
noncomputable def kxH:Kx->Int
 |.non=>reduceHash 0xFCA86420
 |.int i=>hashInt i
 |.row is=>reduceHash (Builtin.Tuple.tupleHashOf (is.map hashInt))
noncomputable def Ce(k:List Kx):Int:=reduceHash (Builtin.Tuple.tupleHashOf (k.map kxH))
noncomputable def kxD:Kx->D
 |.non=>.non
 |.int i=>.int i
 |.row is=>.tup (is.map .int)
noncomputable def KR(k:List Kx):D:=.tup (k.map kxD)
noncomputable abbrev m_:=List (List Kx×Addr×Value)
noncomputable def DcO(a:Addr)(xs:m_):HO:=.ext λh=>(a==sysModules)=false/\xs.length<=sizeLine/\∃o es ep,h.get? a=some o/\o.ExactDict/\o.data=.dict es ep/\es.toList=xs.map (λx=>⟨Ce x.1,.ref x.2.1,x.2.2⟩)/\(xs.map (·.1)).Nodup
inductive wD (U:Ph) (H:Hp):qN->m_->Prop where
 |nil:wD U H [] []
 |cons {k:List Kx} {d:D} {ka:Addr} {u:Value} {v:V} {r:qN} {xs:m_} (hk:Rep K cA U H (KR k) (.ref ka)) (hu:RelV v u) (hv:Rep K cA U H d v) (q:wD U H r xs):wD U H ((k,d)::r) ((k,ka,u)::xs)
noncomputable def iU(U:Ph)(H:Hp)(a:Addr):SO->Prop
 |.lst xs=>∃vs,H a=some (.lst vs)/\aC K cA U H xs vs
 |.dct kvs=>∃xs,H a=some (DcO a xs)/\wD K cA U H kvs xs
structure aB(U:Ph)(H:Hp)(s:S):Prop where
 len:U.l.length=s.length
 obj:∀(n:Nat) o a,s[n]?=some o->U.l[n]?=some a->iU K cA U H a o
 uniq:U.l.Nodup
 lz:∀a∈U.l,U.z a
 zt:∀a,U.z a->∃o,H a=some o
structure Ext(U:Ph)(H:Hp)(U':Ph)(H':Hp):Prop where
 more:∃r,U'.l=U.l++r/\∀b∈r,H b=none
 qO:∀a,U.z a->U'.z a
 jZ:∀a,U'.z a->U.z a\/H a=none
 frame:∀a o,H a=some o->a∉U.l->H' a=some o
 stay:∀a o,H a=some o->∃o',H' a=some o'
def aU(U:Ph)(H:Hp)(Z:L2.St)(J:Vs):Prop:=Z.length=J.length/\∀(i:Nat) (x:Xv),J[i]?=some (some x)->∃v,Z[i]?=some (some v)/\bf K cA U H x v
end
section
variable {K:W.Frag}{cA:Cl}{U U' KY:Ph}{H H' KZ:Hp}{s:S}{Z:L2.St}{J:Vs}
theorem Ext.refl:Ext U H U H:=⟨⟨[],by simp,by simp⟩,λ_ h=>h,λ_ h=>.inl h,λ_ _ h _=>h,λ_ o h=>⟨o,h⟩⟩
theorem Ext.jo(x:Ext U H U' H'){a:Addr}(h:H' a=none):H a=none:=by
 cases e:H a with
 |none=>rfl
 |some o=>obtain⟨o',q⟩:=x.stay a o e;rw[h] at q;cases q
theorem Ext.trans(x:Ext U H U' H')(y:Ext U' H' KY KZ):Ext U H KY KZ:=by
 obtain⟨r,e,hr⟩:=x.more;obtain⟨r',e',Cg⟩:=y.more;refine⟨⟨r++r',by rw[e',e,Hj],λb hb=>?_⟩,λa h=>y.qO a (x.qO a h),λa h=>?_,λa o h n=>y.frame a o (x.frame a o h n) ?_,λa o h=>?_⟩
 ·rcases mR.mp hb with z|z
  ·exact hr b z
  ·exact x.jo (Cg b z)
 ·rcases y.jZ a h with z|z
  ·exact x.jZ a z
  ·exact .inr (x.jo z)
 ·rw[e];intro z;rcases mR.mp z with z|z
  ·exact n z
  ·rw[hr a z] at h;cases h
 ·obtain⟨o',q⟩:=x.stay a o h;exact y.stay a o' q
theorem Ext.get(x:Ext U H U' H'){n:Nat}{a:Addr}(h:U.l[n]?=some a):U'.l[n]?=some a:=by
 obtain⟨r,e,_⟩:=x.more;rw[e,lM (gR.mp h).1];exact h
theorem Ext.out(x:Ext U H U' H')(hz:∀a∈U.l,U.z a){a:Addr}{o:HO}(h:H a=some o)(n:¬U.z a):H' a=some o/\¬U'.z a:=
 ⟨x.frame a o h λz=>n (hz a z),λz=>by
  rcases x.jZ a z with y|y
  ·exact n y
  ·rw[h] at y;cases y⟩
theorem TupAt.mono(x:Ext U H U' H')(hz:∀a∈U.l,U.z a){a:Addr}{vs:List V}(h:TupAt K U H a vs):TupAt K U' H' a vs:=by
 rcases h with ⟨h|⟨o,h⟩,n⟩|h
 ·obtain⟨p,q⟩:=x.out hz h n;exact .inl ⟨.inl p,q⟩
 ·obtain⟨p,q⟩:=x.out hz h n;exact .inl ⟨.inr ⟨o,p⟩,q⟩
 ·exact .inr h
theorem LstAt.mono(x:Ext U H U' H')(hz:∀a∈U.l,U.z a){a:Addr}{vs:List V}(h:LstAt K U H a vs):LstAt K U' H' a vs:=by
 rcases h with ⟨h|⟨o,h⟩,n⟩|h
 ·obtain⟨p,q⟩:=x.out hz h n;exact .inl ⟨.inl p,q⟩
 ·obtain⟨p,q⟩:=x.out hz h n;exact .inl ⟨.inr ⟨o,p⟩,q⟩
 ·exact .inr h
theorem ExcAt.mono(x:Ext U H U' H')(hz:∀a∈U.l,U.z a){a:Addr}{c:Nat}{vs:List V}(h:ExcAt cA U H a c vs):ExcAt cA U' H' a c vs:=by
 obtain⟨n,⟨e1,e2,h⟩|⟨dx,h,n2,h2,h3⟩⟩:=h
 ·obtain⟨p,q⟩:=x.out hz h n;exact⟨q,.inl ⟨e1,e2,p⟩⟩
 ·obtain⟨p,q⟩:=x.out hz h n;obtain⟨p2,q2⟩:=x.out hz h2 n2;exact⟨q,.inr ⟨dx,p,q2,p2,h3⟩⟩
theorem lD.mono(x:Ext U H U' H')(hz:∀a∈U.l,U.z a){a:Addr}{c:Nat}{vs:List V}(h:lD cA U H a c vs):lD cA U' H' a c vs:=by
 obtain⟨n,dx,h,h3⟩:=h;obtain⟨p,q⟩:=x.out hz h n;exact⟨q,dx,p,h3⟩
theorem Rep.mono(x:Ext U H U' H')(hz:∀a∈U.l,U.z a){d:D}{v:V}(h:Rep K cA U H d v):Rep K cA U' H' d v:=
 Rep.rec (motive_1:=λd v _=>Rep K cA U' H' d v) (motive_2:=λd v _=>aC K cA U' H' d v) .non .bl .int .str (λh _ i=>.tup (h.mono x hz) i) (λh _ i=>.fl (h.mono x hz) i) (λh n=>.fd (x.out hz h n).1 (x.out hz h n).2) (λh _ i=>.exc (h.mono x hz) i) (λh _ i=>.ob (h.mono x hz) i) .any .nil (λ_ _ i j=>.cons i j) h
theorem aC.mono(x:Ext U H U' H')(hz:∀a∈U.l,U.z a){d:List D}{v:List V}(h:aC K cA U H d v):aC K cA U' H' d v:=
 aC.rec (motive_1:=λd v _=>Rep K cA U' H' d v) (motive_2:=λd v _=>aC K cA U' H' d v) .non .bl .int .str (λh _ i=>.tup (h.mono x hz) i) (λh _ i=>.fl (h.mono x hz) i) (λh n=>.fd (x.out hz h n).1 (x.out hz h n).2) (λh _ i=>.exc (h.mono x hz) i) (λh _ i=>.ob (h.mono x hz) i) .any .nil (λ_ _ i j=>.cons i j) h
theorem aC.map(m:∀d v,Rep K cA U H d v->Rep K cA U' H' d v):∀{d:List D} {v:List V},aC K cA U H d v->aC K cA U' H' d v:=by
 intro d
 induction d with
 |nil=>intro v h;cases h;exact .nil
 |cons a d ih=>intro v h;cases h with|cons h r=>exact .cons (m _ _ h) (ih r)
theorem wD.map(m:∀d v,Rep K cA U H d v->Rep K cA U' H' d v){d:qN}{v:m_}(h:wD K cA U H d v):wD K cA U' H' d v:=by
 induction h with
 |nil=>exact .nil
 |cons a b c _ ih=>exact .cons (m _ _ a) b (m _ _ c) ih
theorem iU.map{a:Addr}{o:SO}(h:iU K cA U H a o)(e:∀u,H a=some u->H' a=some u)(m:∀d v,Rep K cA U H d v->Rep K cA U' H' d v):iU K cA U' H' a o:=by
 cases o with
 |lst xs=>obtain⟨vs,q,r⟩:=h;exact⟨vs,e _ q,r.map m⟩
 |dct xs=>obtain⟨vs,q,r⟩:=h;exact⟨vs,e _ q,r.map m⟩
theorem bf.mono(x:Ext U H U' H')(hz:∀a∈U.l,U.z a){d:Xv}{v:V}(h:bf K cA U H d v):bf K cA U' H' d v:=by
 cases h with
 |d h=>exact .d (h.mono x hz)
 |l h=>exact .l (x.get h)
theorem aU.mono(x:Ext U H U' H')(hz:∀a∈U.l,U.z a)(h:aU K cA U H Z J):aU K cA U' H' Z J:=⟨h.1,λi d e=>let ⟨v,a,b⟩:=h.2 i d e;⟨v,a,b.mono x hz⟩⟩
theorem aC.len{ds:List D}{vs:List V}(r:aC K cA U H ds vs):ds.length=vs.length:=by
 induction ds generalizing vs with
 |nil=>cases r;rfl
 |cons a d ih=>cases r with|cons _ r=>rw[gJ,gJ,ih r]
theorem bK.len{ds:List Xv}{vs:List V}(r:bK K cA U H ds vs):ds.length=vs.length:=by
 induction r with
 |nil=>rfl
 |cons _ _ ih=>rw[gJ,gJ,ih]
theorem aC.get{ds:List D}{vs:List V}{i:Nat}{d:D}(r:aC K cA U H ds vs)(e:ds[i]?=some d):∃v,vs[i]?=some v/\Rep K cA U H d v:=by
 induction ds generalizing vs i with
 |nil=>cases e
 |cons a ds ih=>
  cases r with
  |cons h r=>cases i with
   |zero=>cases e;exact⟨_,rfl,h⟩
   |succ i=>obtain⟨w,p,q⟩:=ih r e;exact⟨w,p,q⟩
theorem bK.get{ds:List Xv}{vs:List V}{i:Nat}{d:Xv}(r:bK K cA U H ds vs)(e:ds[i]?=some d):∃v,vs[i]?=some v/\bf K cA U H d v:=by
 induction r generalizing i with
 |nil=>cases e
 |cons h _ ih=>cases i with
  |zero=>cases e;exact⟨_,rfl,h⟩
  |succ i=>obtain⟨w,p,q⟩:=ih e;exact⟨w,p,q⟩
theorem aC.none:∀{ds:List D} {vs:List V} {i:Nat},aC K cA U H ds vs->ds[i]?=none->vs[i]?=none:=λ{ds vs i} r e=>by
 have:=r.len;have h2:ds.length<=i:=qW.mp e;exact qW.mpr gV
theorem aC.app{ds es:List D}{vs us:List V}(h:aC K cA U H ds vs)(s:aC K cA U H es us):aC K cA U H (ds++es) (vs++us):=by
 induction ds generalizing vs with
 |nil=>cases h;exact s
 |cons a d ih=>cases h with|cons h r=>exact .cons h (ih r)
theorem aC.take{ds:List D}{vs:List V}(n:Nat)(r:aC K cA U H ds vs):aC K cA U H (ds.take n) (vs.take n):=by
 induction n generalizing ds vs with
 |zero=>exact .nil
 |succ n ih=>cases r with
  |nil=>exact .nil
  |cons h r=>exact .cons h (ih r)
theorem aC.drop{ds:List D}{vs:List V}(n:Nat)(r:aC K cA U H ds vs):aC K cA U H (ds.drop n) (vs.drop n):=by
 induction n generalizing ds vs with
 |zero=>exact r
 |succ n ih=>cases r with
  |nil=>exact .nil
  |cons h r=>exact ih r
theorem aC.set{d:D}{v:V}(h:Rep K cA U H d v){ds:List D}{vs:List V}(i:Nat)(r:aC K cA U H ds vs):aC K cA U H (ds.set i d) (vs.set i v):=by
 induction i generalizing ds vs with
 |zero=>cases r with
  |nil=>exact .nil
  |cons _ r=>exact .cons h r
 |succ i ih=>cases r with
  |nil=>exact .nil
  |cons q r=>exact .cons q (ih r)
theorem aC.cut{ds:List D}{vs:List V}{l h:Option Int}(r:aC K cA U H ds vs):aC K cA U H (Mi.cut ds l h) (jD vs l h):=by
 unfold Mi.cut jD;rw[<-r.len];exact(r.drop _).take _
def bx(H H':Hp):Prop:=∀a o,H a=some o->H' a=some o
theorem bx.refl:bx H H:=λ_ _ h=>h
theorem bx.new{p:Addr}{o:HO}(hp:H p=none):bx H (upd H p o):=λa u h=>by rw[dB (xT h hp)];exact h
theorem bx.ext(g:bx H H'):Ext U H U H':=⟨⟨[],by simp,by simp⟩,λ_ h=>h,λ_ h=>.inl h,λa o h _=>g a o h,λa o h=>⟨o,g a o h⟩⟩
theorem iU.grow{a:Addr}{o:SO}(g:bx H H')(hz:∀a∈U.l,U.z a)(h:iU K cA U H a o):iU K cA U H' a o:=h.map (g _) λ_ _ r=>r.mono g.ext hz
theorem aB.grow(g:bx H H')(h:aB K cA U H s):aB K cA U H' s:=
 ⟨h.len,λn o a e1 e2=>(h.obj n o a e1 e2).grow g h.lz,h.uniq,h.lz,λa z=>let ⟨o,e⟩:=h.zt a z;⟨o,g _ _ e⟩⟩
theorem aB.nz(h:aB K cA U H s){p:Addr}(hp:H p=none):¬U.z p:=λz=>by obtain⟨o,e⟩:=h.zt p z;rw[hp] at e;cases e
noncomputable def Ph.add(U:Ph)(p:Addr):Ph:=⟨λa=>U.z a\/a=p,U.l++[p]⟩
theorem Ext.add{p:Addr}{o:HO}(hp:H p=none):Ext U H (U.add p) (upd H p o):=
 ⟨⟨[p],rfl,by simpa using hp⟩,λ_ h=>.inl h,λa h=>h.imp id λe=>by rw[e];exact hp,λa u h _=>bx.new hp a u h,λa u h=>⟨u,bx.new hp a u h⟩⟩
theorem aB.K1{p:Addr}{so:SO}{ho:HO}(h:aB K cA U H s)(hp:H p=none)(hr:iU K cA (U.add p) (upd H p ho) p so):aB K cA (U.add p) (upd H p ho) (s++[so]):=by
 have pn:p∉U.l:=λz=>h.nz hp (h.lz p z);refine⟨by show (U.l++[p]).length=_;rw[jt,jt,h.len];rfl,λn o a e1 e2=>?_,?_,λa ha=>?_,λa ha=>?_⟩
 ·have e2:(U.l++[p])[n]?=some a:=e2;by_cases hn:n<s.length
  ·rw[lM hn] at e1;rw[lM (by rw[h.len];exact hn)] at e2;exact(h.obj n o a e1 e2).map (bx.new hp _) λ_ _ r=>r.mono (Ext.add hp) h.lz
  ·have hl:n=s.length:=by
    have z:=(gR.mp e1).1;rw[jt] at z;simp at z
    lia
   subst hl;rw[mQ (bY _)] at e1;rw[mQ (by rw[h.len];exact bY _)] at e2;simp at e1;simp[h.len] at e2;subst e1 e2;exact hr
 ·show (U.l++[p]).Nodup;rw[Hl];refine⟨h.uniq,by simp,λa ha b hb e=>?_⟩;simp at hb;subst hb e;exact pn ha
 ·have ha:a∈U.l++[p]:=ha;rcases mR.mp ha with z|z
  ·exact .inl (h.lz a z)
  ·simp at z;exact .inr z
 ·rcases ha with z|z
  ·obtain⟨o,e⟩:=h.zt a z;exact⟨o,bx.new hp _ _ e⟩
  ·subst z;exact⟨_,jz⟩
theorem aB.add{p:Addr}{xs:List D}{vs:List V}(h:aB K cA U H s)(hp:H p=none)(r:aC K cA U H xs vs):aB K cA (U.add p) (upd H p (.lst vs)) (s++[.lst xs]):=h.K1 hp ⟨vs,jz,r.mono (Ext.add hp) h.lz⟩
theorem Ext.write{n:Nat}{p:Addr}{o:HO}(hp:U.l[n]?=some p)(hv:∃u,H p=some u):Ext U H U (upd H p o):=by
 have hm:p∈U.l:=jh hp;refine⟨⟨[],by simp,by simp⟩,λ_ h=>h,λ_ h=>.inl h,λa u h n=>by
  have ne:a≠p:=λe=>n (by rw[e];exact hm);rw[dB ne];exact h,λa u h=>?_⟩
 by_cases e:a=p
 ·subst e;exact⟨o,jz⟩
 ·exact⟨u,by rw[dB e];exact h⟩
theorem aB.wF{n:Nat}{p:Addr}{so:SO}{ho:HO}(h:aB K cA U H s)(hl:n<s.length)(hp:U.l[n]?=some p)(hr:iU K cA U (upd H p ho) p so):aB K cA U (upd H p ho) (s.set n so):=by
 have hv:=h.zt p (h.lz p (jh hp));have x:Ext U H U (upd H p ho):=Ext.write hp hv;refine⟨by rw[jP];exact h.len,λm o a e1 e2=>?_,h.uniq,h.lz,λa ha=>?_⟩
 ·by_cases hm:n=m
  ·subst hm;rw[tU hl] at e1;cases e1;rw[hp] at e2;cases e2;exact hr
  ·rw[kj hm] at e1;have ne:a≠p:=λy=>by
    subst y;exact hm ((Ho (gR.mp hp).1 h.uniq).mp (hp.trans e2.symm))
   exact(h.obj m o a e1 e2).map (λ_ q=>by rw[dB ne];exact q) λ_ _ r=>r.mono x h.lz
 ·obtain⟨o,e⟩:=h.zt a ha;obtain⟨o',e'⟩:=x.stay a o e;exact⟨o',e'⟩
theorem aB.write{n:Nat}{p:Addr}{xs ys:List D}{us:List V}(h:aB K cA U H s)(hn:s[n]?=some (.lst xs))(hp:U.l[n]?=some p)(r:aC K cA U H ys us):aB K cA U (upd H p (.lst us)) (s.set n (.lst ys)):=
 h.wF (gR.mp hn).1 hp ⟨us,jz,r.mono (Ext.write hp (h.zt p (h.lz p (jh hp)))) h.lz⟩
theorem aU.set{i:Nat}{d:Xv}{v:V}(hL:aU K cA U H Z J)(r:bf K cA U H d v):aU K cA U H (Z.set i (some v)) (J.set i (some d)):=by
 refine⟨by rw[jP,jP];exact hL.1,λj e h=>?_⟩;by_cases hij:i=j
 ·subst hij;by_cases hl:i<J.length
  ·rw[tU hl] at h;cases h;exact⟨v,by rw[tU (by rw[hL.1];exact hl)],r⟩
  ·rw[Dv (by rw[jP];lia)] at h;cases h
 ·rw[kj hij] at h;obtain⟨u,a,b⟩:=hL.2 j e h;exact⟨u,by rw[kj hij];exact a,b⟩
theorem aU.unset{i:Nat}(hL:aU K cA U H Z J):aU K cA U H (Z.set i none) (J.set i none):=by
 refine⟨by rw[jP,jP];exact hL.1,λj e h=>?_⟩;by_cases hij:i=j
 ·subst hij;by_cases hl:i<J.length
  ·rw[tU hl] at h;cases h
  ·rw[Dv (by rw[jP];lia)] at h;cases h
 ·rw[kj hij] at h;obtain⟨u,a,b⟩:=hL.2 j e h;exact⟨u,by rw[kj hij];exact a,b⟩
theorem TupAt.jR{a:Addr}{vs:List V}(h:TupAt K U H a vs):iR K H a vs:=by
 rcases h with ⟨h,_⟩|(h|h)
 ·exact .inl h
 ·rcases h with h|⟨o,h⟩<;>cases h
 ·exact .inr h
theorem LstAt.sO{a:Addr}{vs:List V}(h:LstAt K U H a vs):dU K H a vs:=by
 rcases h with ⟨h,_⟩|(h|h)
 ·exact .inl h
 ·rcases h with h|⟨o,h⟩<;>cases h
 ·exact .inr h
theorem TupAt.new{p:Addr}{vs:List V}(hz:¬U.z p):TupAt K U (upd H p (.tup vs)) p vs:=.inl ⟨.inl jz,hz⟩
theorem LstAt.new{p:Addr}{vs:List V}(hz:¬U.z p):LstAt K U (upd H p (.lst vs)) p vs:=.inl ⟨.inl jz,hz⟩
end
end Mi
namespace Mi
open PySem PySem.Spec PyProof.Rows L2
theorem un{α β γ:Type}{A B C:α->β->γ->Prop}{R:Prop}(h:∃a b c,A a b c/\B a b c/\C a b c)(f:∀a b c,A a b c->B a b c->C a b c->R):R:=by
 obtain⟨a,b,c,x,y,z⟩:=h;exact f a b c x y z
section
variable (K:W.Frag)(cA:Cl)
def Run{α:Type}(m:M α)(U:Ph)(H:Hp)(s:S)(P:α->S->Ph->Hp->Prop)(Ee:Nat->List D->S->Ph->Hp->Prop):Prop:=
 match m s with
 |some (.ok a,s')=>∀U' H',Ext U H U' H'->aB K cA U' H' s'->P a s' U' H'
 |some (.er c f,s')=>∀U' H',Ext U H U' H'->aB K cA U' H' s'->Ee c f s' U' H'
 |none=>False
def iI(U:Ph)(H:Hp)(c:Nat)(fs:List D)(dx:Option Addr):Prop:=
 (cA.f c=[]/\fs=[]/\dx=none)\/∃d vs,dx=some d/\¬U.z d/\H d=some (.xd ((cA.f c).zip vs))/\(cA.f c).length=vs.length/\aC K cA U H fs vs
noncomputable def eX(EX:XS)(Z:L2.St):Nat->List D->S->Ph->Hp->Prop:=λc fs _ U' H'=>∀dx,iI K cA U' H' c fs dx->EX Z (.ref (cA.a c)) dx H'
noncomputable def tE(EX:XS)(m:Vs->M Xv):TE:=λZ H Q=>∃U J s,aU K cA U H Z J/\aB K cA U H s/\Run K cA (m J) U H s (λd _ U' H'=>∀v,bf K cA U' H' d v->Q v H') (eX K cA EX Z)
noncomputable def K3(EX:XS)(m:Vs->M (List Xv)):TA:=λZ H Q=>∃U J s,aU K cA U H Z J/\aB K cA U H s/\Run K cA (m J) U H s (λd _ U' H'=>∀v,bK K cA U' H' d v->Q v H') (eX K cA EX Z)
noncomputable def sS(EX:XS)(m:Vs->M Bool):TT:=λZ H Q=>∃U J s,aU K cA U H Z J/\aB K cA U H s/\Run K cA (m J) U H s (λd _ U' H'=>Q d H') (eX K cA EX Z)
def Rv(U:Ph)(H:Hp)(d:D)(v:V):Prop:=match d with
 |.fl xs=>∃a vs,v=.ref a/\dU K H a vs/\aC K cA U H xs vs
 |d=>Rep K cA U H d v
inductive qP (U:Ph) (H:Hp):List D->List V->Prop where
 |nil:qP U H [] []
 |cons {d:D} {v:V} {ds:List D} {vs:List V} (h:Rv K cA U H d v) (r:qP U H ds vs):qP U H (d::ds) (v::vs)
def aQ(U:Ph)(H:Hp)(o:Option Rz)(Q:VK):Prop:=match o with
 |none=>False
 |some (.dat d)=>∀H' v,bx H H'->Rep K cA U H' d v->Q v H'
 |some (.nw xs)=>∀p vs,H p=none->aC K cA U H xs vs->Q (.ref p) (upd H p (.lst vs))
structure Zt(U:Ph)(H:Hp):Prop where
 lz:∀a∈U.l,U.z a
 zt:∀a,U.z a->∃o,H a=some o
def aW(p:Pr)(r:List V->Hp->VK->Prop):Prop:=∀(U:Ph) (H:Hp) (ds:List D) (vs:List V) (Q:VK),Zt U H->qP K cA U H ds vs->aQ K cA U H (prim p ds) Q->r vs H Q
end
section
variable {K:W.Frag}{cA:Cl}{U U':Ph}{H H':Hp}{s:S}{Z:L2.St}{J:Vs}{EX:XS}
theorem aB.zs(h:aB K cA U H s):Zt U H:=⟨h.lz,h.zt⟩
theorem Zt.nz(h:Zt U H)(hp:H p=none):¬U.z p:=λz=>by obtain⟨o,e⟩:=h.zt p z;rw[hp] at e;cases e
theorem Rep.rv{d:D}{v:V}(h:Rep K cA U H d v):Rv K cA U H d v:=by
 cases h with
 |fl h r=>exact⟨_,_,rfl,h.sO,r⟩
 |non=>exact .non
 |bl b=>exact .bl b
 |int b=>exact .int b
 |str b=>exact .str b
 |tup h r=>exact .tup h r
 |fd h n=>exact .fd h n
 |exc h r=>exact .exc h r
 |ob h r=>exact .ob h r
 |any v=>exact .any v
theorem Run.bd{α β:Type}{m:M α}{k:α->M β}{P:β->S->Ph->Hp->Prop}{Ee:Nat->List D->S->Ph->Hp->Prop}(h:Run K cA (M.bd m k) U H s P Ee):Run K cA m U H s (λa s1 U1 H1=>Ext U H U1 H1/\aB K cA U1 H1 s1/\Run K cA (k a) U1 H1 s1 P Ee) Ee:=by
 unfold Run M.bd at *;cases e:m s with
 |none=>rw[e] at h;exact h
 |some r=>
  obtain⟨r,s1⟩:=r;rw[e] at h;cases r with
  |er c f=>exact h
  |ok a=>
   intro U1 H1 x1 r1;refine⟨x1,r1,?_⟩;dsimp only at h ⊢;cases e2:k a s1 with
   |none=>rw[e2] at h;exact h
   |some q=>
    obtain⟨q,s2⟩:=q;rw[e2] at h;cases q with
    |ok b=>exact λU2 H2 x2 r2=>h U2 H2 (x1.trans x2) r2
    |er c f=>exact λU2 H2 x2 r2=>h U2 H2 (x1.trans x2) r2
theorem Run.imp{α:Type}{m:M α}{P P':α->S->Ph->Hp->Prop}{Ee:Nat->List D->S->Ph->Hp->Prop}(h:Run K cA m U H s P Ee)(f:∀a s' U' H',P a s' U' H'->P' a s' U' H'):Run K cA m U H s P' Ee:=by
 unfold Run at *;split at h
 ·exact λU' H' x r=>f _ _ _ _ (h U' H' x r)
 ·exact h
 ·exact h
theorem Run.bA{α:Type}{a:α}{P:α->S->Ph->Hp->Prop}{Ee:Nat->List D->S->Ph->Hp->Prop}(r:aB K cA U H s)(h:Run K cA (M.ret a) U H s P Ee):P a s U H:=h U H Ext.refl r
theorem Run.opt{α:Type}{o:Option α}{P:α->S->Ph->Hp->Prop}{Ee:Nat->List D->S->Ph->Hp->Prop}(r:aB K cA U H s)(h:Run K cA (M.opt o) U H s P Ee):∃a,o=some a/\P a s U H:=by
 cases o with
 |none=>exact h.elim
 |some a=>exact⟨a,rfl,h U H Ext.refl r⟩
theorem Q6(h:Run K cA (M.bd (M.opt o) k) U H s P Ee):∃a,o=some a/\Run K cA (k a) U H s P Ee:=by
 cases o with
 |none=>exact h.elim
 |some a=>exact⟨a,rfl,h⟩
theorem yg{β:Type}{x:Xv}{v:V}{k:Bool->M β}{P:β->S->Ph->Hp->Prop}{Ee:Nat->List D->S->Ph->Hp->Prop}(r:bf K cA U H x v)(h:Run K cA (M.bd (bool x) k) U H s P Ee):∃b,x=.d (.bl b)/\v=.bl b/\Run K cA (k b) U H s P Ee:=by
 cases r with
 |l _=>exact h.elim
 |d r=>cases r with
  |bl b=>exact⟨b,rfl,rfl,h⟩
  |_=>exact h.elim
theorem Cj(r:bf K cA U H x v)(h:Run K cA (M.bd (int x) k) U H s P Ee):∃b,x=.d (.int b)/\v=.int b/\Run K cA (k b) U H s P Ee:=by
 cases r with
 |l _=>exact h.elim
 |d r=>cases r with
  |int b=>exact⟨b,rfl,rfl,h⟩
  |_=>exact h.elim
theorem K4(r:bf K cA U H x v)(h:Run K cA (M.bd (dat x) k) U H s P Ee):∃d,x=.d d/\Rep K cA U H d v/\Run K cA (k d) U H s P Ee:=by
 cases r with
 |l _=>exact h.elim
 |d r=>exact⟨_,rfl,r,h⟩
theorem Fe:∀{xs:List Xv} {vs:List V} {k:List D->M β} {P:β->S->Ph->Hp->Prop} {Ee:Nat->List D->S->Ph->Hp->Prop},bK K cA U H xs vs->Run K cA (M.bd (cF xs) k) U H s P Ee->∃ds,xs=ds.map .d/\aC K cA U H ds vs/\Run K cA (k ds) U H s P Ee:=by
 intro xs
 induction xs with
 |nil=>intro vs k P Ee r h;cases r;exact⟨[],rfl,.nil,h⟩
 |cons x xs ih=>
  intro vs k P Ee r h;cases r with
  |cons a r=>
   cases a with
   |l _=>exact h.elim
   |@d y v a=>
    have h2:Run K cA (M.bd (cF xs) λds=>k (y::ds)) U H s P Ee:=by
     unfold Run M.bd cF dat at h;unfold Run M.bd;simp only[M.bd,M.ret] at h;cases e:cF xs s with
     |none=>simp only[e] at h
     |some q=>
      obtain⟨q,s1⟩:=q;simp only[e] at h;cases q with
      |ok ds=>exact h
      |er c f=>exact h
    obtain⟨ds,e,rs,h3⟩:=ih r h2;exact⟨y::ds,by rw[e];rfl,.cons a rs,h3⟩
theorem Fg(hS:aB K cA U H s)(r:bf K cA U H x v)(h:Run K cA (M.bd (rd x) k) U H s P Ee):∃d,Rv K cA U H d v/\Run K cA (k d) U H s P Ee:=by
 cases r with
 |d r=>exact⟨_,r.rv,h⟩
 |@l n a hl=>
  unfold Run M.bd rd at h;dsimp only at h;cases e:s[n]? with
  |none=>rw[e] at h;exact h.elim
  |some o=>
   rw[e] at h;cases o with
   |lst xs=>
    obtain⟨vs,q1,q2⟩:=hS.obj n _ _ e hl;exact⟨.fl xs,⟨a,vs,rfl,dU.of q1,q2⟩,h⟩
   |_=>exact h.elim
theorem gD{α β γ:Type}(m:M α)(f:α->M β)(g:β->M γ):M.bd (M.bd m f) g=M.bd m λx=>M.bd (f x) g:=by
 funext s
 unfold M.bd;cases m s with
 |none=>rfl
 |some r=>
  obtain⟨r,s1⟩:=r;cases r<;>rfl
theorem lE{β:Type}:∀{xs:List Xv} {vs:List V} {k:List D->M β} {P:β->S->Ph->Hp->Prop} {Ee:Nat->List D->S->Ph->Hp->Prop},aB K cA U H s->bK K cA U H xs vs->Run K cA (M.bd (cJ xs) k) U H s P Ee->∃ds,qP K cA U H ds vs/\Run K cA (k ds) U H s P Ee:=by
 intro xs
 induction xs with
 |nil=>intro vs k P Ee hS r h;cases r;exact⟨[],.nil,h⟩
 |cons x xs ih=>
  intro vs k P Ee hS r h;cases r with
  |cons a r=>
   have h2:Run K cA (M.bd (rd x) λd=>M.bd (cJ xs) λds=>k (d::ds)) U H s P Ee:=by
    have e:M.bd (cJ (x::xs)) k=M.bd (rd x) λd=>M.bd (cJ xs) λds=>k (d::ds):=by
     show M.bd (M.bd (rd x) λd=>M.bd (cJ xs) λds=>M.ret (d::ds)) k=_;rw[gD]
     congr 1
     funext d
     rw[gD];rfl
    rw[e] at h;exact h
   obtain⟨d,rd,h3⟩:=Fg hS a h2;obtain⟨ds,rs,h4⟩:=ih hS r h3;exact⟨d::ds,.cons rd rs,h4⟩
theorem lF{fz:Bool}{o:Option Rz}{Q:VK}{Ee:Nat->List D->S->Ph->Hp->Prop}(hS:aB K cA U H s)(h:Run K cA (aX fz o) U H s (λx _ U' H'=>∀v,bf K cA U' H' x v->Q v H') Ee):aQ K cA U H o Q:=by
 cases o with
 |none=>exact h.elim
 |some z=>
  cases z with
  |dat d=>exact λH' v g r=>h U H' g.ext (hS.grow g) v (.d r)
  |nw xs=>
   intro p vs hp r;cases fz with
   |true=>exact h U _ (bx.new hp).ext (hS.grow (bx.new hp)) _ (.d (.fl (LstAt.new (hS.nz hp)) (r.mono (bx.new hp).ext hS.lz)))
   |false=>exact h (U.add p) _ (Ext.add hp) (hS.add hp r) _ (.l (by show (U.l++[p])[s.length]?=_;rw[<-hS.len];simp))
theorem zfr{fz:Bool}{xs:List D}{Q:VK}{Ee:Nat->List D->S->Ph->Hp->Prop}(hS:aB K cA U H s)(h:Run K cA (newL fz xs) U H s (λx _ U' H'=>∀v,bf K cA U' H' x v->Q v H') Ee):∀p vs,H p=none->aC K cA U H xs vs->Q (.ref p) (upd H p (.lst vs)):=
 lF (o:=some (.nw xs)) hS h
theorem aY{β:Type}{ma:Vs->M Xv}{k:Xv->M β}{P:β->S->Ph->Hp->Prop}(hL:aU K cA U H Z J)(hS:aB K cA U H s)(h:Run K cA (M.bd (ma J) k) U H s P (eX K cA EX Z)){Q:VK}
  (f:∀x H1 U1 d s1,Ext U H U1 H1->aU K cA U1 H1 Z J->aB K cA U1 H1 s1->bf K cA U1 H1 d x->Run K cA (k d) U1 H1 s1 P (eX K cA EX Z)->Q x H1):tE K cA EX ma Z H Q:=
 ⟨U,J,s,hL,hS,h.bd.imp λd s1 U1 H1 ⟨x1,r1,h1⟩ v rv=>f v H1 U1 d s1 x1 (hL.mono x1 hS.lz) r1 rv h1⟩
theorem pW{β:Type}{ma:Vs->M (List Xv)}{k:List Xv->M β}{P:β->S->Ph->Hp->Prop}(hL:aU K cA U H Z J)(hS:aB K cA U H s)(h:Run K cA (M.bd (ma J) k) U H s P (eX K cA EX Z)){Q:List V->Hp->Prop}
  (f:∀x H1 U1 d s1,Ext U H U1 H1->aU K cA U1 H1 Z J->aB K cA U1 H1 s1->bK K cA U1 H1 d x->Run K cA (k d) U1 H1 s1 P (eX K cA EX Z)->Q x H1):K3 K cA EX ma Z H Q:=
 ⟨U,J,s,hL,hS,h.bd.imp λd s1 U1 H1 ⟨x1,r1,h1⟩ v rv=>f v H1 U1 d s1 x1 (hL.mono x1 hS.lz) r1 rv h1⟩
theorem sU(hL:aU K cA U H Z J)(hS:aB K cA U H s)(h:Run K cA (M.bd (ma J) k) U H s P (eX K cA EX Z))
  (f:∀b H1 U1 s1,Ext U H U1 H1->aU K cA U1 H1 Z J->aB K cA U1 H1 s1->Run K cA (k b) U1 H1 s1 P (eX K cA EX Z)->Q b H1):sS K cA EX ma Z H Q:=
 ⟨U,J,s,hL,hS,h.bd.imp λd s1 U1 H1 ⟨x1,r1,h1⟩=>f d H1 U1 s1 x1 (hL.mono x1 hS.lz) r1 h1⟩
end
section
variable (X:Cx)(cA:Cl)(ao:Nat->Nat->Bool)(aj:Bool)(F:Fn)(EX:XS)
def SE(e:Expr)(m:E):Prop:=PE X e (tE X.K cA EX (ev ao aj F m))
def SA(es:List Expr)(m:Es):Prop:=PA X es (K3 X.K cA EX (evs ao aj F m))
def ST(e:Expr)(m:E):Prop:=PT X e (sS X.K cA EX (λJ=>M.bd (ev ao aj F m J) bool))
def SW(e:Expr)(m:E):Prop:=PW X e (sS X.K cA EX (λJ=>M.bd (ev ao aj F m J) bool))
end
section
variable {X:Cx}{cA:Cl}{ao:Nat->Nat->Bool}{aj:Bool}{F:Fn}{EX:XS}{a b c d e:Expr}{A B C Dd E':E}{pos:Pos}{es:List Expr}{Xs:Es}{fz:Bool}{p:Pr}
theorem PE.weak{t t':TE}(h:PE X e t)(f:∀Z H Q,t' Z H Q->t Z H Q):PE X e t':=λak s Z H Q I q=>h ak s Z H Q I (f Z H Q q)
theorem PT.weak{t t':TT}(h:PT X e t)(f:∀Z H Q,t' Z H Q->t Z H Q):PT X e t':=λak s Z H Q I q=>h ak s Z H Q I (f Z H Q q)
theorem PW.weak{t t':TT}(h:PW X e t)(f:∀Z H Q,t' Z H Q->t Z H Q):PW X e t':=λwh ak s Z H Q I q=>h wh ak s Z H Q I (f Z H Q q)
theorem PA.weak{t t':TA}(h:PA X es t)(f:∀Z H Q,t' Z H Q->t Z H Q):PA X es t':=λp ak s Z H Q I q=>h p ak s Z H Q I (f Z H Q q)
theorem zh7{i j p}:SE X cA ao aj F EX (.Constant (.int i) j p) (.c (.int i)):=PE.weak HN λZ H Q hh=>un hh λU J s hL hS h=>h.bA hS _ (.d (.int i))
theorem zkf{i j p}:SE X cA ao aj F EX (.Constant (.bool i) j p) (.c (.bl i)):=PE.weak V_ λZ H Q hh=>un hh λU J s hL hS h=>h.bA hS _ (.d (.bl i))
theorem zio{j p}:SE X cA ao aj F EX (.Constant .none j p) (.c .non):=PE.weak Wa λZ H Q hh=>un hh λU J s hL hS h=>h.bA hS _ (.d .non)
theorem zi4{i j p}:SE X cA ao aj F EX (.Constant (.str i) j p) (.c (.str i)):=PE.weak HS λZ H Q hh=>un hh λU J s hL hS h=>h.bA hS _ (.d (.str i))
theorem K5{α:Type}{o:Option (Option α)}{x:α}(h:o.join=some x):o=some (some x):=by
 cases o with
 |none=>cases h
 |some y=>cases y with
  |none=>cases h
  |some z=>cases h;rfl
theorem Q7(i:Nat){x:Str}(hN:X.N[i]?=some x:=by rfl)(hv:Hw X.env.scope x:=by first|exact Or.inl rfl|exact Or.inr (Or.inl rfl)|exact Or.inr (Or.inr rfl))(hd:(x==("__debug__" : Str))=false:=by decide)
  (jQ:(x==("__classdict__" : Str))=false:=by decide):SE X cA ao aj F EX (.Name x pos) (.v i):=PE.weak (V9 hN hv hd jQ) λZ H Q hh=>un hh λU J s hL hS h=>by
 obtain⟨dd,e1,q⟩:=Run.opt hS h;obtain⟨v,q1,q2⟩:=hL.2 i dd (K5 e1);exact⟨v,q1,q v q2⟩
theorem zgC{x:Str}{i:Int}{t:Tok}(hg:Gl X x)(hm:X.mg x=some (.int i t))(hd:(x==("__debug__" : Str))=false:=by decide):SE X cA ao aj F EX (.Name x pos) (.c (.int i)):=PE.weak (zev (v:=.int i) hg hm ⟨t,rfl⟩ hd) λZ H Q hh=>un hh λU J s hL hS h=>h.bA hS _ (.d (.int i))
theorem zhD:SA X cA ao aj F EX [] .nil:=PA.weak Eu λZ H Q hh=>un hh λU J s hL hS h=>h.bA hS _ .nil
theorem zgl(ha:SE X cA ao aj F EX a A)(hr:SA X cA ao aj F EX es Xs)(hs:starEach (a::es) X.env=(false,eval a X.env)::starEach es X.env:=by rfl):SA X cA ao aj F EX (a::es) (.cons A Xs):=PA.weak (xX ha hr hs) λZ H Q hh=>un hh λU J s hL hS h=>by
 refine aY hL hS h λx H1 U1 d1 s1 x1 hL1 aD r1 h1=>pW hL1 aD h1 λys H2 U2 d2 s2 x2 hL2 aM r2 h2=>h2.bA aM _ (.cons (r1.mono x2 aD.lz) r2)
theorem yh{U U1 U2:Ph}{H1 H2:Hp}{s1 s2:S}{d1 d2:Xv}{x y:V}{Q:VK}{Ee:Nat->List D->S->Ph->Hp->Prop}(x2:Ext U1 H1 U2 H2)(aD:aB X.K cA U1 H1 s1)(aM:aB X.K cA U2 H2 s2)(r1:bf X.K cA U1 H1 d1 x)(r2:bf X.K cA U2 H2 d2 y)
  (h:Run X.K cA (M.bd (cJ [d1,d2]) λds=>aX fz (prim p ds)) U2 H2 s2 (λx _ U' H'=>∀v,bf X.K cA U' H' x v->Q v H') Ee) {r:List V->Hp->VK->Prop} (hp:aW X.K cA p r):r [x,y] H2 Q:=by
 obtain⟨ds,rs,h2⟩:=lE aM (.cons (r1.mono x2 aD.lz) (.cons r2 .nil)) h;exact hp U2 H2 ds _ Q aM.zs rs (lF aM h2)
noncomputable def r2(r:R2):List V->Hp->VK->Prop:=λvs H Q=>∃x y,vs=[x,y]/\r x y H Q
theorem qQ{r:R2}{x y:V}{H:Hp}{Q:VK}(h:r2 r [x,y] H Q):r x y H Q:=by
 obtain⟨_,_,e,q⟩:=h;cases e;exact q
theorem zjS{op:Operator}{r:R2}(ho:cR X (binaryOp op) r)(hp:aW X.K cA p (r2 r))(ha:SE X cA ao aj F EX a A)(hb:SE X cA ao aj F EX b B):SE X cA ao aj F EX (.BinOp a op b pos) (.pr fz p (.cons A (.cons B .nil))):=PE.weak (W0 ho ha hb) λZ H Q hh=>un hh λU J s hL hS h=>by
 have h:Run X.K cA (M.bd (M.bd (ev ao aj F A J) λx=>M.bd (M.bd (ev ao aj F B J) λy=>M.bd (M.ret []) λz=>M.ret (y::z)) λys=>M.ret (x::ys)) λvs=>M.bd (cJ vs) λds=>aX fz (prim p ds)) U H s _ _:=h;simp only[gD] at h;refine aY hL hS h λx H1 U1 d1 s1 x1 hL1 aD r1 h1=>aY hL1 aD h1 λy H2 U2 d2 s2 x2 hL2 aM r2' h2=>?_;exact qQ (yh (fz:=fz) (U:=U) x2 aD aM r1 r2' h2 hp)
theorem zje{op:CmpOp}{r:R2}(ho:cR X (compareOp op) r)(hp:aW X.K cA p (r2 r))(ha:SE X cA ao aj F EX a A)(hb:SE X cA ao aj F EX b B)(hm:behindInMarks op b=false):SE X cA ao aj F EX (.Compare a [op] [b] pos) (.pr true p (.cons A (.cons B .nil))):=PE.weak (Xa ho ha hb hm) λZ H Q hh=>un hh λU J s hL hS h=>by
 have h:Run X.K cA (M.bd (M.bd (ev ao aj F A J) λx=>M.bd (M.bd (ev ao aj F B J) λy=>M.bd (M.ret []) λz=>M.ret (y::z)) λys=>M.ret (x::ys)) λvs=>M.bd (cJ vs) λds=>aX true (prim p ds)) U H s _ _:=h;simp only[gD] at h;refine aY hL hS h λx H1 U1 d1 s1 x1 hL1 aD r1 h1=>aY hL1 aD h1 λy H2 U2 d2 s2 x2 hL2 aM r2' h2=>?_;exact qQ (yh (fz:=true) (U:=U) x2 aD aM r1 r2' h2 hp)
theorem iT{A B:Prop}(h:A):if true=true then A else B:=by rw[if_pos rfl];exact h
theorem iF{A B:Prop}(h:B):if false=true then A else B:=by rw[if_neg Bool.false_ne_true];exact h
theorem zjh{op:CmpOp}{r:R2}(ho:cR X (compareOp op) r)(hp:aW X.K cA p (r2 r))(ha:SE X cA ao aj F EX a A)(hb:SE X cA ao aj F EX b B)(hm:behindInMarks op b=false):ST X cA ao aj F EX (.Compare a [op] [b] pos) (.pr true p (.cons A (.cons B .nil))):=PT.weak (Xb ho ha hb hm) λZ H Q hh=>un hh λU J s hL hS h=>by
 have h:Run X.K cA (M.bd (M.bd (M.bd (ev ao aj F A J) λx=>M.bd (M.bd (ev ao aj F B J) λy=>M.bd (M.ret []) λz=>M.ret (y::z)) λys=>M.ret (x::ys)) λvs=>M.bd (cJ vs) λds=>aX true (prim p ds)) bool) U H s _ _:=h;simp only[gD] at h;refine aY hL hS h λx H1 U1 d1 s1 x1 hL1 aD r1 h1=>aY hL1 aD h1 λy H2 U2 d2 s2 x2 hL2 aM r2' h2=>?_;obtain⟨ds,rs,h3⟩:=lE aM (.cons (r1.mono x2 aD.lz) (.cons r2' .nil)) h2;refine qQ (hp U2 H2 ds _ _ aM.zs rs (lF (Ee:=eX X.K cA EX Z) aM (h3.bd.imp λt s3 U3 H3 ⟨x3,jJ,h4⟩ v rv=>?_)));cases rv with
 |l _=>exact h4.elim
 |d rv=>cases rv with
  |bl k=>exact⟨k,rfl,h4 U3 H3 Ext.refl jJ⟩
  |_=>exact h4.elim
theorem ziV{op op':CmpOp}{r r':R2}{q:Pr}(ho:cR X (compareOp op) r)(hp:aW X.K cA p (r2 r))(oG:cR X (compareOp op') r')(hp':aW X.K cA q (r2 r'))(ha:SE X cA ao aj F EX a A)(hb:SE X cA ao aj F EX b B)(hc:SE X cA ao aj F EX c C)(hm:lastMarks [op,op'] [b,c]=false:=by with_unfolding_all rfl) :
  SE X cA ao aj F EX (.Compare a [op,op'] [b,c] pos) (.rQ p q A B C):=PE.weak (Xc ho oG ha hb hc hm) λZ H Q hh=>un hh λU J s hL hS h=>by
 refine aY hL hS h λx H1 U1 d1 s1 x1 hL1 aD r1 h1=>aY hL1 aD h1 λy H2 U2 d2 s2 x2 hL2 aM r2' h2=>?_;obtain⟨ds,rs,h3⟩:=lE aM (.cons (r1.mono x2 aD.lz) (.cons r2' .nil)) h2;refine qQ (hp U2 H2 ds _ _ aM.zs rs (lF (Ee:=eX X.K cA EX Z) aM (h3.bd.imp λt s3 U3 H3 ⟨x3,jJ,h4⟩ v rv=>?_)));obtain⟨k,_,e,h5⟩:=yg rv h4;refine⟨k,e,?_⟩;cases k with
 |false=>exact iF (h5.bA jJ _ (.d (.bl _)))
 |true=>
  have sV:=hL2.mono x3 aM.lz;refine iT (aY sV jJ h5 λz H4 U4 d4 s4 x4 Q8 mz r4 h6=>?_);exact qQ (yh (fz:=true) (U:=U) x4 jJ mz (r2'.mono x3 aM.lz) r4 h6 hp')
theorem zh4{op op' ni:CmpOp}{r r' r'':R2}{q u:Pr}(h1:cR X (compareOp op) r)(p1:aW X.K cA p (r2 r))(h2:cR X (compareOp op') r')(p2:aW X.K cA q (r2 r'))(h3:cR X (compareOp ni) r'')(p3:aW X.K cA u (r2 r''))(ha:SE X cA ao aj F EX a A)(hb:SE X cA ao aj F EX b B)(hc:SE X cA ao aj F EX c C)(hd:SE X cA ao aj F EX d Dd)
  (hm:lastMarks [op,op',ni] [b,c,d]=false:=by with_unfolding_all rfl):SE X cA ao aj F EX (.Compare a [op,op',ni] [b,c,d] pos) (.vZ p q u A B C Dd):=by
 have key:PE X (.Compare a [op,op',ni] [b,c,d] pos) (λZ H Q=>tE X.K cA EX (ev ao aj F A) Z H λx H1=>tE X.K cA EX (ev ao aj F B) Z H1 λy H2=>r x y H2 λz H3=>∃k,z=.bl k /\
   (if k=true then tE X.K cA EX (ev ao aj F C) Z H3 λw' H4=>r' y w' H4 λz2 H5=>∃k2,z2=.bl k2/\(if k2=true then tE X.K cA EX (ev ao aj F Dd) Z H5 λw2 H6=>r'' w' w2 H6 Q else Q (.bl false) H5) else Q (.bl false) H3)):=by
  intro ak s Z H Q I h;refine Compare_chain (aP (ha ak s Z H _ I h) λv s1 hx=>dj hx λx H1 I1 r1 q1=>chain_link (aP (hb ak s1 Z H1 _ I1 q1) λu s2 hx=>dj hx λy H2 I2 r2 q2=>
   aP (h1 ak s2 Z H2 x y v u _ I2 r1 r2 q2) λd s3 hx=>zj hx λz H3 I3 r3 k e q3=>?_)) hm
  subst e;cases r3;refine qX ?_;cases k with
  |false=>exact ite_ff ⟨.bl false,H3,I3,rfl,q3⟩
  |true=>
   refine ite_tt (chain_link (aP (hc ak s3 Z H3 _ I3 q3) λw' s4 hx=>dj hx λz' H4 I4 r4 q4=>aP (h2 ak s4 Z H4 y z' u w' _ I4 r2 r4 q4) λd' s5 hx=>zj hx λz2 H5 I5 r5 k2 e2 q5=>?_));subst e2;cases r5;refine qX ?_;cases k2 with
   |false=>exact ite_ff ⟨.bl false,H5,I5,rfl,q5⟩
   |true=>exact ite_tt (chain_last (aP (hd ak s5 Z H5 _ I5 q5) λw2 s6 hx=>dj hx λz3 H6 I6 r6 q6=>h3 ak s6 Z H6 z' z3 w' w2 Q I6 r4 r6 q6))
 refine PE.weak key λZ H Q hh=>un hh λU J s hL hS h=>?_;refine aY hL hS h λx H1 U1 d1 s1 x1 hL1 aD r1 h1=>aY hL1 aD h1 λy H2 U2 d2 s2 x2 hL2 aM r2' h2=>?_;obtain⟨ds,rs,h3⟩:=lE aM (.cons (r1.mono x2 aD.lz) (.cons r2' .nil)) h2;refine qQ (p1 U2 H2 ds _ _ aM.zs rs (lF (Ee:=eX X.K cA EX Z) aM (h3.bd.imp λt s3 U3 H3 ⟨x3,jJ,h4⟩ v rv=>?_)));obtain⟨k,_,e,h5⟩:=yg rv h4;refine⟨k,e,?_⟩;cases k with
 |false=>exact iF (h5.bA jJ _ (.d (.bl _)))
 |true=>
  have sV:=hL2.mono x3 aM.lz;refine iT (aY sV jJ h5 λz H4 U4 d4 s4 x4 Q8 mz r4 h6=>?_);obtain⟨ds,rs,h7⟩:=lE mz (.cons ((r2'.mono x3 aM.lz).mono x4 jJ.lz) (.cons r4 .nil)) h6;refine qQ (p2 U4 H4 ds _ _ mz.zs rs (lF (Ee:=eX X.K cA EX Z) mz (h7.bd.imp λt s5 U5 H5 ⟨x5,Ck,h8⟩ v rv=>?_)));obtain⟨k2,_,e,h9⟩:=yg rv h8;refine⟨k2,e,?_⟩;cases k2 with
  |false=>exact iF (h9.bA Ck _ (.d (.bl _)))
  |true=>
   have hL5:=Q8.mono x5 mz.lz;refine iT (aY hL5 Ck h9 λz H6 U6 d6 s6 x6 hL6 hS6 r6 h10=>?_);exact qQ (yh (fz:=true) (U:=U) x6 Ck hS6 (r4.mono x5 mz.lz) r6 h10 p3)
theorem zjV(ha:SE X cA ao aj F EX a A):SE X cA ao aj F EX (.UnaryOp .Not a pos) (.not A):=PE.weak (Wq ha) λZ H Q hh=>un hh λU J s hL hS h=>by
 refine aY hL hS h λx H1 U1 d1 s1 x1 hL1 aD r1 h1=>?_;obtain⟨i,_,e,h3⟩:=yg r1 h1;exact⟨i,e,h3.bA aD _ (.d (.bl _))⟩
theorem zjt{op}(ha:SE X cA ao aj F EX a A):SE X cA ao aj F EX (.BoolOp op [a] pos) A:=Wn ha
theorem ziJ{rest:List Expr}(ha:SE X cA ao aj F EX a A)(hb:SE X cA ao aj F EX (.BoolOp .And (b::rest) pos) B):SE X cA ao aj F EX (.BoolOp .And (a::b::rest) pos) (.and A B):=PE.weak (Wo ha hb) λZ H Q hh=>un hh λU J s hL hS h=>by
 refine aY hL hS h λx H1 U1 d1 s1 x1 hL1 aD r1 h1=>?_;obtain⟨i,_,e,h3⟩:=yg r1 h1;refine⟨i,e,?_⟩;cases i with
 |true=>exact iT ⟨U1,J,s1,hL1,aD,h3⟩
 |false=>exact iF (h3.bA aD _ (.d (.bl _)))
end
section
variable {X:Cx}{cA:Cl}{ao:Nat->Nat->Bool}{aj:Bool}{F:Fn}{EX:XS}{a b c d e o:Expr}{A B C Dd E' O:E}{pos pp p2 apos:Pos}{es:List Expr}{Xs:Es}{fz:Bool}{p:Pr}{x:Str}
theorem zil(ha:SE X cA ao aj F EX a A)(he:∀whole,isTrue a X.env whole=(do let v <-whole;standAt a.pos;holding [v] (truthy v)):=by intro _;rfl):ST X cA ao aj F EX a A:=PT.weak (Wd ha he) λZ H Q hh=>un hh λU J s hL hS h=>by
 refine aY hL hS h λx H1 U1 d1 s1 x1 hL1 aD r1 h1=>?_;have h1:Run X.K cA (M.bd (bool d1) M.ret) U1 H1 s1 (λd _ U' H'=>Q d H') (eX X.K cA EX Z):=by
  cases d1 with
  |l n=>exact h1
  |d v=>cases v<;>exact h1
 obtain⟨k,_,e,q⟩:=yg r1 h1;exact⟨k,e,q.bA aD⟩
theorem zfq{m:M Xv}{g:Bool->Bool}:M.bd (M.bd m λx=>M.bd (bool x) λk=>M.ret (Xv.d (.bl (g k)))) bool=M.bd (M.bd m bool) λk=>M.ret (g k):=by
 rw[gD,gD]
 congr 1
 funext x
 rw[gD];rfl
theorem zhU(ha:ST X cA ao aj F EX a A):ST X cA ao aj F EX (.UnaryOp .Not a pos) (.not A):=PT.weak (Wm ha) λZ H Q hh=>un hh λU J s hL hS h=>by
 have h:Run X.K cA (M.bd (M.bd (ev ao aj F A J) λx=>M.bd (bool x) λk=>M.ret (Xv.d (.bl (!k)))) bool) U H s _ _:=h;rw[zfq (g:=λk=>!k)] at h;exact sU hL hS h λk H1 U1 s1 x1 hL1 aD h1=>h1.bA aD
theorem zgO(ha:ST X cA ao aj F EX a A):SW X cA ao aj F EX (.BoolOp .And [a] pos) A:=Wg ha
theorem zij(ha:ST X cA ao aj F EX a A):SW X cA ao aj F EX (.BoolOp .Or [a] pos) A:=Wh ha
theorem Q9{m:M Xv}{k:Bool->M Xv}:M.bd (M.bd m λx=>M.bd (bool x) k) bool=M.bd (M.bd m bool) λb=>M.bd (k b) bool:=by
 rw[gD,gD]
 congr 1
 funext x
 rw[gD]
theorem zhN{rest:List Expr}(ha:ST X cA ao aj F EX a A)(hb:SW X cA ao aj F EX (.BoolOp .And (b::rest) pos) B):SW X cA ao aj F EX (.BoolOp .And (a::b::rest) pos) (.and A B):=PW.weak (Wi ha hb) λZ H Q hh=>un hh λU J s hL hS h=>by
 have h:Run X.K cA (M.bd (M.bd (ev ao aj F A J) λx=>M.bd (bool x) λk=>if k=true then ev ao aj F B J else M.ret (Xv.d (.bl false))) bool) U H s _ _:=h;rw[Q9] at h;refine sU hL hS h λk H1 U1 s1 x1 hL1 aD h3=>?_;cases k with
 |true=>exact iT ⟨U1,J,s1,hL1,aD,h3⟩
 |false=>exact iF (Run.bA aD (a:=false) h3)
theorem zkH{rest:List Expr}(ha:ST X cA ao aj F EX a A)(hb:SW X cA ao aj F EX (.BoolOp .Or (b::rest) pos) B):SW X cA ao aj F EX (.BoolOp .Or (a::b::rest) pos) (.or A B):=PW.weak (Wj ha hb) λZ H Q hh=>un hh λU J s hL hS h=>by
 have h:Run X.K cA (M.bd (M.bd (ev ao aj F A J) λx=>M.bd (bool x) λk=>if k=true then M.ret (Xv.d (.bl true)) else ev ao aj F B J) bool) U H s _ _:=h;rw[Q9] at h;refine sU hL hS h λk H1 U1 s1 x1 hL1 aD h3=>?_;cases k with
 |true=>exact iT (Run.bA aD (a:=true) h3)
 |false=>exact iF ⟨U1,J,s1,hL1,aD,h3⟩
theorem zk9(h:SW X cA ao aj F EX a A):ST X cA ao aj F EX a A:=V8 h
theorem zgI:(M.bd m λx=>M.bd (bool x) k)=M.bd (M.bd m bool) k:=by rw[gD]
theorem zi8(hc:ST X cA ao aj F EX c C)(ha:SE X cA ao aj F EX a A)(hb:SE X cA ao aj F EX b B):SE X cA ao aj F EX (.IfExp c a b pos) (.ite C A B):=PE.weak (Ws hc ha hb) λZ H Q hh=>un hh λU J s hL hS h=>by
 have h:Run X.K cA (M.bd (ev ao aj F C J) λx=>M.bd (bool x) λk=>if k=true then ev ao aj F A J else ev ao aj F B J) U H s _ _:=h;rw[zgI] at h;refine sU hL hS h λk H1 U1 s1 x1 hL1 aD h3=>?_;cases k with
 |true=>exact iT ⟨U1,J,s1,hL1,aD,h3⟩
 |false=>exact iF ⟨U1,J,s1,hL1,aD,h3⟩
theorem Q_:∀(Xs:Es) (J:Vs) (s:S) (ds:List Xv) (s':S),evs ao aj F Xs J s=some (.ok ds,s')->ds.length=Es.len Xs
 |.nil,J,s,ds,s',h=>by cases h;rfl
 |.cons a r,J,s,ds,s',h=>by
  have h:M.bd (ev ao aj F a J) (λx=>M.bd (evs ao aj F r J) λxs=>M.ret (x::xs)) s=some (.ok ds,s'):=h;unfold M.bd at h;cases e1:ev ao aj F a J s with
  |none=>rw[e1] at h;cases h
  |some q=>
   obtain⟨q,s1⟩:=q;rw[e1] at h;cases q with
   |er c f=>cases h
   |ok d=>
    dsimp only at h;cases e2:evs ao aj F r J s1 with
    |none=>rw[e2] at h;cases h
    |some q=>
     obtain⟨q,s2⟩:=q;rw[e2] at h;cases q with
     |er c f=>cases h
     |ok ds'=>
      cases h;rw[gJ,Q_ r J s1 ds' _ e2];rfl
theorem sW{β:Type}{K:W.Frag}{U:Ph}{H:Hp}{s:S}{Z:L2.St}{J:Vs}{k:List Xv->M β}{P:β->S->Ph->Hp->Prop}(hL:aU K cA U H Z J)(hS:aB K cA U H s)(h:Run K cA (M.bd (evs ao aj F Xs J) k) U H s P (eX K cA EX Z)){Q:List V->Hp->Prop}
  (f:∀x H1 U1 d s1,d.length=Es.len Xs->Ext U H U1 H1->aU K cA U1 H1 Z J->aB K cA U1 H1 s1->bK K cA U1 H1 d x->Run K cA (k d) U1 H1 s1 P (eX K cA EX Z)->Q x H1):K3 K cA EX (evs ao aj F Xs) Z H Q:=by
 refine⟨U,J,s,hL,hS,?_⟩;have h2:=h.bd;unfold Run at h2 ⊢;cases e:evs ao aj F Xs J s with
 |none=>rw[e] at h2;exact h2
 |some r=>
  obtain⟨r,s1⟩:=r;rw[e] at h2;cases r with
  |er c f=>exact h2
  |ok ds=>
   intro U1 H1 x1 r1 v rv;obtain⟨_,_,h3⟩:=h2 U1 H1 x1 r1;exact f v H1 U1 ds s1 (Q_ Xs J s ds s1 e) x1 (hL.mono x1 hS.lz) r1 rv h3
theorem zhV{k}(ha:SA X cA ao aj F EX es Xs)(hz:Es.len Xs<=sizeLine):SE X cA ao aj F EX (.Tuple es k pos) (.tup Xs):=PE.weak (Xi ha) λZ H Q hh=>un hh λU J s hL hS h=>by
 refine sW hL hS h λvs H1 U1 xs s1 hl x1 hL1 aD rv h1=>?_;obtain⟨ds,e,rs,h2⟩:=Fe rv h1;refine⟨by rw[<-rv.len,hl];exact hz,λp hp=>?_⟩;exact h2 U1 (upd H1 p (.tup vs)) (bx.new hp).ext (aD.grow (bx.new hp)) _ (.d (.tup (TupAt.new (aD.nz hp)) (rs.mono (bx.new hp).ext aD.lz)))
theorem zjw(ha:SA X cA ao aj F EX es Xs)(hz:Es.len Xs<=sizeLine):SE X cA ao aj F EX (.List es pos) (.lst fz Xs):=PE.weak (Xj ha) λZ H Q hh=>un hh λU J s hL hS h=>by
 refine sW hL hS h λvs H1 U1 xs s1 hl x1 hL1 aD rv h1=>?_;obtain⟨ds,e,rs,h2⟩:=Fe rv h1;exact⟨by rw[<-rv.len,hl];exact hz,λp hp=>zfr aD h2 p vs hp rs⟩
theorem Cm{id:String}{r:List V->Hp->VK->Prop}(hc:cO X (.builtin id) r)(hp:aW X.K cA p r)
  (hg:Gl X x) (hm:X.mg x=none) (hv:bootBuiltins x=some (.builtin id)) (ha:SA X cA ao aj F EX (e::es) Xs) (hn:x≠"__name__":=by decide) (iw:(x==("__debug__" : Str))=false:=by decide)
  (he:starEach (e::es) X.env=(false,eval e X.env)::starEach es X.env:=by rfl) (bW:(backTo pos (starEach es X.env)).any (·.1)=false:=by rfl):SE X cA ao aj F EX (.Call (.Name x pp) (e::es) [] pos) (.pr fz p Xs):=PE.weak (PL hc hg hm hv ha hn iw he bW) λZ H Q hh=>un hh λU J s hL hS h=>
 pW hL hS h λvs H1 U1 ds s1 x1 hL1 aD r1 h1=>by
  obtain⟨ds,rs,h3⟩:=lE aD r1 h1;exact hp U1 H1 ds _ _ aD.zs rs (lF aD h3)
theorem K6{id:String}{r:List V->Hp->VK->Prop}(hc:cO X (.type id) r)(hp:aW X.K cA p r)
  (hg:Gl X x) (hm:X.mg x=none) (hv:bootBuiltins x=some (.type id)) (ha:SA X cA ao aj F EX (e::es) Xs) (hn:x≠"__name__":=by decide) (iw:(x==("__debug__" : Str))=false:=by decide)
  (he:starEach (e::es) X.env=(false,eval e X.env)::starEach es X.env:=by rfl) (bW:(backTo pos (starEach es X.env)).any (·.1)=false:=by rfl):SE X cA ao aj F EX (.Call (.Name x pp) (e::es) [] pos) (.pr fz p Xs):=PE.weak (Xm hc hg hm hv ha hn iw he bW) λZ H Q hh=>un hh λU J s hL hS h=>
 pW hL hS h λvs H1 U1 ds s1 x1 hL1 aD r1 h1=>by
  obtain⟨ds,rs,h3⟩:=lE aD r1 h1;exact hp U1 H1 ds _ _ aD.zs rs (lF aD h3)
theorem zkG(hp:aW X.K cA p (r2 (IV X.K)))(ha:SE X cA ao aj F EX a A)(hb:SE X cA ao aj F EX b B)(hs:lX b:=by intro _ _;rfl):SE X cA ao aj F EX (.Subscript a b pos) (.pr true p (.cons A (.cons B .nil))):=PE.weak (Qd X6 ha hb hs) λZ H Q hh=>un hh λU J s hL hS h=>by
 have h:Run X.K cA (M.bd (M.bd (ev ao aj F A J) λx=>M.bd (M.bd (ev ao aj F B J) λy=>M.bd (M.ret []) λz=>M.ret (y::z)) λys=>M.ret (x::ys)) λvs=>M.bd (cJ vs) λds=>aX true (prim p ds)) U H s _ _:=h;simp only[gD] at h;refine aY hL hS h λx H1 U1 d1 s1 x1 hL1 aD r1 h1=>aY hL1 aD h1 λy H2 U2 d2 s2 x2 hL2 aM r2' h2=>?_;exact qQ (yh (fz:=true) (U:=U) x2 aD aM r1 r2' h2 hp)
theorem zkM(ho:Ep X (unaryOp op) r)(hp:aW X.K cA p (λvs H Q=>∃x,vs=[x]/\r x H Q))(ha:SE X cA ao aj F EX a A):SE X cA ao aj F EX (.UnaryOp op a pos) (.pr true p (.cons A .nil)):=PE.weak (Pk ho ha) λZ H Q hh=>un hh λU J s hL hS h=>by
 have h:Run X.K cA (M.bd (M.bd (ev ao aj F A J) λx=>M.bd (M.ret []) λz=>M.ret (x::z)) λvs=>M.bd (cJ vs) λds=>aX true (prim p ds)) U H s _ _:=h;simp only[gD] at h;refine aY hL hS h λx H1 U1 d1 s1 x1 hL1 aD r1 h1=>?_;obtain⟨ds,rs,h3⟩:=lE aD (.cons r1 .nil) h1;obtain⟨_,e,q⟩:=hp U1 H1 ds _ _ aD.zs rs (lF aD h3);cases e;exact q
theorem zja{j p'}(ha:SE X cA ao aj F EX a A):SE X cA ao aj F EX (.Compare a [.Is] [.Constant .none j p'] pos) (.pr true .rW (.cons A .nil)):=PE.weak (Wb (O9 ha)) λZ H Q hh=>un hh λU J s hL hS h=>by
 have h:Run X.K cA (M.bd (M.bd (ev ao aj F A J) λx=>M.bd (M.ret []) λz=>M.ret (x::z)) λvs=>M.bd (cJ vs) λds=>aX true (prim .rW ds)) U H s _ _:=h;simp only[gD] at h;refine aY hL hS h λx H1 U1 d1 s1 x1 hL1 aD r1 h1=>?_;obtain⟨ds,rs,h3⟩:=lE aD (.cons r1 .nil) h1;cases rs with
 |cons r rs=>cases rs with
  |nil=>
   rename_i d;have h4:=lF aD h3;have q:=h4 H1 _ bx.refl (.bl _);cases d<;>first
    |(obtain⟨_,_,rfl,_,_⟩:=r;exact q)
    |(cases (show Rep _ _ _ _ _ x from r)<;>exact q)
theorem zfb(q:Pr)(hq:prim q=v9 f)(hh:sS X.K cA EX (λJ=>M.bd (ev ao aj F (.pr true q (.cons A .nil)) J) bool) Z H Q):tE X.K cA EX (ev ao aj F A) Z H λx H1=>Q (f (decide (x=.non))) H1:=un hh λU J s hL hS h=>by
 have h:Run X.K cA (M.bd (M.bd (M.bd (ev ao aj F A J) λx=>M.bd (M.ret []) λz=>M.ret (x::z)) λvs=>M.bd (cJ vs) λds=>aX true (prim q ds)) bool) U H s _ _:=h;simp only[gD] at h;refine aY hL hS h λx H1 U1 d1 s1 x1 hL1 aD r1 h1=>?_;obtain⟨ds,rs,h3⟩:=lE aD (.cons r1 .nil) h1;cases rs with
 |cons r rs=>cases rs with
  |nil=>
   rename_i d;rw[hq] at h3;have h4:Run X.K cA (M.bd (M.ret (Xv.d (.bl (f d.uh)))) bool) U1 H1 s1 (λd _ U' H'=>Q d H') (eX X.K cA EX Z):=h3;have q:=h4 U1 H1 Ext.refl aD;cases d<;>first
    |(obtain⟨_,_,rfl,_,_⟩:=r;exact q)
    |(cases (show Rep _ _ _ _ _ x from r)<;>exact q)
theorem zir{j p'}(ha:SE X cA ao aj F EX a A):ST X cA ao aj F EX (.Compare a [.Is] [.Constant .none j p'] pos) (.pr true .rW (.cons A .nil)):=PT.weak (Wc (O9 ha)) λZ H Q hh=>by
 have:=zfb .rW (f:=id) rfl hh;obtain⟨U,J,s,a,b,c⟩:=this;exact⟨U,J,s,a,b,c.imp λd s' U' H' k v rv=>⟨_,rfl,k v rv⟩⟩
end
mutual
inductive Is (h:Heap):D->Value->Prop where
 |non:Is h .non .none
 |bl (b:Bool):Is h (.bl b) (.bool b)
 |int (i:Int) (t:Tok):Is h (.int i) (.int i t)
 |str (x:Str) (t:Tok):Is h (.str x) (.str x t)
 |tup {a:Addr} {xs:List D} {its:List Value} (p:h.IsTuple a its.toArray) (r:gF h xs its):Is h (.tup xs) (.ref a)
 |fl {a:Addr} {xs:List D} {its:List Value} (p:h.IsList a its.toArray) (r:gF h xs its):Is h (.fl xs) (.ref a)
 |oth {d:D} {u:Value} (k:kq d=none):Is h d u
inductive gF (h:Heap):List D->List Value->Prop where
 |nil:gF h [] []
 |cons {d:D} {u:Value} {ds:List D} {us:List Value} (a:Is h d u) (r:gF h ds us):gF h (d::ds) (u::us)
end
section
variable {X:Cx}{cA:Cl}{ak:List (Addr×Obj)}{Z:L2.St}{H:Hp}{s:Shared}{U:Ph}{h:Heap}
theorem K7(I:Inv X ak Z H s){ds:List D}{vs:List V}{us:List Value}(h:aC X.K cA U H ds vs)(r:Vals vs us):gF s.heap ds us:=
 aC.rec (motive_1:=λd v _=>∀{u:Value},RelV v u->Is s.heap d u) (motive_2:=λd v _=>∀{u:List Value},Vals v u->gF s.heap d u) (λr=>by cases r;exact .non) (λb _ r=>by cases r;exact .bl b) (λi _ r=>by obtain⟨t,rfl⟩:=r;exact .int i t) (λi _ r=>by obtain⟨t,rfl⟩:=r;exact .str i t)
 (λh _ ih _ r=>by
  cases r;obtain⟨its,rv,ht,_⟩:=I.tuple h.jR;exact .tup ht (ih rv))
 (λh _ ih _ r=>by
  cases r;obtain⟨its,rv,ht,_⟩:=I.list h.sO;exact .fl ht.isList (ih rv))
 (λ_ _ _ _=>.oth rfl) (λ_ _ _ _ _=>.oth rfl) (λ_ _ _ _ _=>.oth rfl) (λ_ _ _=>.oth rfl)
 (λr=>by cases r;exact .nil)
 (λ_ _ i j _ r=>by
  cases r with
  |cons a b=>exact .cons (i a) (j b)) h r
theorem sX(I:Inv X ak Z H s){d:D}{v:V}{u:Value}(h:Rep X.K cA U H d v)(r:RelV v u):Is s.heap d u:=by
 cases h with
 |non=>cases r;exact .non
 |bl b=>cases r;exact .bl b
 |int i=>obtain⟨t,rfl⟩:=r;exact .int i t
 |str i=>obtain⟨t,rfl⟩:=r;exact .str i t
 |tup h q=>
  cases r;obtain⟨its,rv,ht,_⟩:=I.tuple h.jR;exact .tup ht (K7 I q rv)
 |fl h q=>
  cases r;obtain⟨its,rv,ht,_⟩:=I.list h.sO;exact .fl ht.isList (K7 I q rv)
 |fd _ _=>exact .oth rfl
 |exc _ _=>exact .oth rfl
 |ob _ _=>exact .oth rfl
 |any _=>exact .oth rfl
theorem uG(I:Inv X ak Z H s){d:D}{v:V}{u:Value}(q:Rv X.K cA U H d v)(r:RelV v u):Is s.heap d u:=by
 cases d with
 |fl xs=>
  obtain⟨a,vs,rfl,sq,rs⟩:=q;cases r;obtain⟨its,rv,ht,_⟩:=I.list sq;exact .fl ht.isList (K7 I rs rv)
 |non=>exact sX I q r
 |bl b=>exact sX I q r
 |int b=>exact sX I q r
 |str b=>exact sX I q r
 |tup b=>exact sX I q r
 |fd b c=>exact sX I q r
 |exc b c=>exact sX I q r
 |ob b c=>exact sX I q r
 |any=>exact sX I q r
theorem gF.len{ds:List D}{us:List Value}(r:gF h ds us):ds.length=us.length:=by
 induction ds generalizing us with
 |nil=>cases r;rfl
 |cons a d ih=>cases r with|cons _ r=>rw[gJ,gJ,ih r]
theorem gF.get:∀{ds:List D} {us:List Value} {i:Nat} {d:D},gF h ds us->ds[i]?=some d->∃u,us[i]?=some u/\Is h d u
 |_,_,_,_,.nil,e=>by simp at e
 |_,_,0,_,.cons h _,e=>by simp at e;subst e;exact⟨_,rfl,h⟩
 |_,_,i+1,d,.cons _ r,e=>by
  obtain⟨v,a,b⟩:=gF.get (i:=i) (d:=d) r (by simpa using e);exact⟨v,by simpa using a,b⟩
theorem Ra{a:Addr}{is js:Array Value}(p:h.IsTuple a is)(q:h.IsTuple a js):is=js:=by
 obtain⟨o,e,c,n,d⟩:=p;obtain⟨o',e',c',n',d'⟩:=q;rw[e] at e';cases e';rw[d] at d';cases d';rfl
theorem Rb{a:Addr}{is js:Array Value}(p:h.IsList a is)(q:h.IsList a js):is=js:=by
 obtain⟨o,e,c,n,d⟩:=p;obtain⟨o',e',c',n',d'⟩:=q;rw[e] at e';cases e';rw[d] at d';cases d';rfl
theorem yj{a:Addr}{is js:Array Value}(p:h.IsList a is)(q:h.IsTuple a js):False:=by
 obtain⟨o,e,c,n,d⟩:=p;obtain⟨o',e',c',n',d'⟩:=q;rw[e] at e';cases e';rw[c] at c';exact absurd c' MP
theorem Cp{eq:D->D->Option Bool}:∀{xs ys:List D} {b:Bool},dW eq xs ys=some b->∃e:Nat->Bool,(∀(j:Nat) x y,xs[j]?=some x->ys[j]?=some y->eq x y=some (e j))/\b=((List.range (min xs.length ys.length)).all e&&xs.length==ys.length)
 |[],[],b,h=>by cases h;exact⟨λ_=>true,λj x y q=>by simp at q,by simp⟩
 |[],y::ys,b,h=>by cases h;exact⟨λ_=>true,λj x y q=>by simp at q,by simp⟩
 |x::xs,[],b,h=>by cases h;exact⟨λ_=>true,λj x y q r=>by simp at r,by simp⟩
 |x::xs,y::ys,b,h=>by
  simp only[dW] at h;cases e1:eq x y with
  |none=>rw[e1] at h;cases h
  |some a=>
   cases e2:dW eq xs ys with
   |none=>rw[e1,e2] at h;cases h
   |some c=>
    rw[e1,e2] at h;cases h;obtain⟨e,h1,h2⟩:=Cp e2;refine⟨λj=>match j with|0=>a|j+1=>e j,λj p q r1 r2=>?_,?_⟩
    ·cases j with
     |zero=>
      simp at r1 r2;subst r1 r2;exact e1
     |succ j=>exact h1 j p q (by simpa using r1) (by simpa using r2)
    ·rw[h2];simp only[gJ,Nat.succ_min_succ,List.range_succ_eq_map,n8,List.all_map,Function.comp_def];rw[Bool.and_assoc]
     congr 2
     simp
theorem nR{n:Nat}{d e:D}(k:kq d=none):b_ n d e=none:=by
 cases n<;>cases d<;>first|cases k;done|(cases e<;>rfl)
theorem eO{n:Nat}{d e:D}(k:kq e=none):b_ n d e=none:=by
 cases n<;>cases e<;>first|cases k;done|(cases d<;>rfl)
theorem Rf:∀(n:Nat) {d1 d2:D} {u:Value} {b:Bool},Is h d1 u->Is h d2 u->b_ n d1 d2=some b->b=true:=by
 intro n;have rows:∀(n:Nat),(∀{d1 d2:D} {u:Value} {b:Bool},Is h d1 u->Is h d2 u->b_ n d1 d2=some b->b=true)->∀{xs ys:List D} {is js:List Value} {b:Bool},gF h xs is->gF h ys js->is.toArray=js.toArray->dW (b_ n) xs ys=some b->b=true:=by
  intro n ih xs ys is js b q1 q2 e hd;have e:is=js:=by simpa using e
  subst e;obtain⟨e,a1,a2⟩:=Cp (eq:=b_ n) hd;rw[a2];have hl:_=_:=q1.len.trans q2.len.symm;rw[bZ];refine⟨iM.mpr λj hj=>?_,by rw[hl];simp⟩;have hj:=jk.mp hj;obtain⟨x,hx⟩ : ∃x,_=some x:=⟨_,gU (gw hj (Nat.min_le_left _ _))⟩;obtain⟨y,hy⟩ : ∃y,_=some y:=⟨_,gU (gw hj (Nat.min_le_right _ _))⟩;obtain⟨v1,e1,p1⟩:=q1.get hx;obtain⟨v2,e2,p2⟩:=q2.get hy;rw[e1] at e2;cases e2;exact ih p1 p2 (a1 j x y hx hy)
 induction n with
 |zero=>
  intro d1 d2 u b r1 r2 hd;cases r1 with
  |oth k=>rw[nR k] at hd;cases hd
  |non=>cases r2 with
   |oth k=>rw[eO k] at hd;cases hd
   |non=>cases hd;rfl
  |bl x=>cases r2 with
   |oth k=>rw[eO k] at hd;cases hd
   |bl y=>cases hd;simp
  |int x t=>cases r2 with
   |oth k=>rw[eO k] at hd;cases hd
   |int y=>cases hd;simp
  |str x t=>cases r2 with
   |oth k=>rw[eO k] at hd;cases hd
   |str y=>cases hd;simp
  |tup p q=>cases r2 with
   |oth k=>rw[eO k] at hd;cases hd
   |tup p2 q2=>cases hd
   |fl p2 q2=>exact(yj p2 p).elim
  |fl p q=>cases r2 with
   |oth k=>rw[eO k] at hd;cases hd
   |fl p2 q2=>cases hd
   |tup p2 q2=>exact(yj p p2).elim
 |succ n ih=>
  intro d1 d2 u b r1 r2 hd;cases r1 with
  |oth k=>rw[nR k] at hd;cases hd
  |non=>cases r2 with
   |oth k=>rw[eO k] at hd;cases hd
   |non=>cases hd;rfl
  |bl x=>cases r2 with
   |oth k=>rw[eO k] at hd;cases hd
   |bl y=>cases hd;simp
  |int x t=>cases r2 with
   |oth k=>rw[eO k] at hd;cases hd
   |int y=>cases hd;simp
  |str x t=>cases r2 with
   |oth k=>rw[eO k] at hd;cases hd
   |str y=>cases hd;simp
  |tup p q=>cases r2 with
   |oth k=>rw[eO k] at hd;cases hd
   |tup p2 q2=>exact rows n ih q q2 (Ra p p2) hd
   |fl p2 q2=>exact(yj p2 p).elim
  |fl p q=>cases r2 with
   |oth k=>rw[eO k] at hd;cases hd
   |fl p2 q2=>exact rows n ih q q2 (Rb p p2) hd
   |tup p2 q2=>exact(yj p p2).elim
theorem parts{n:Nat}{A:Around}{xs ys:List D}{is js:List Value}{b:Bool}(r1:gF s.heap xs is)(r2:gF s.heap ys js)(hd:dW (b_ n) xs ys=some b)
  (ih:∀{d1 d2:D} {u1 u2:Value} {b:Bool},Is s.heap d1 u1->Is s.heap d2 u2->b_ n d1 d2=some b->SeqAt.EqAt A s u1 u2 b) :
  ∃e:Nat->Bool,(∀j (h1:j<is.toArray.size) (h2:j<js.toArray.size),SeqAt.EqAt A s is.toArray[j] js.toArray[j] (e j))/\b=((List.range (min is.toArray.size js.toArray.size)).all e&&is.toArray.size==js.toArray.size):=by
 obtain⟨e,a1,a2⟩:=Cp hd;have z1:=r1.len;have z2:=r2.len;refine⟨e,λj h1 h2=>?_,by simp only[fW,<-z1,<-z2];exact a2⟩;simp only[fW] at h1 h2;obtain⟨x,hx⟩ : ∃x,xs[j]?=some x:=⟨_,gU (by rw[z1];exact h1)⟩;obtain⟨y,hy⟩ : ∃y,ys[j]?=some y:=⟨_,gU (by rw[z2];exact h2)⟩;obtain⟨u,f1,g1⟩:=r1.get hx;obtain⟨u',f2,g2⟩:=r2.get hy;have k1:is.toArray[j]=u:=by
  have:=gR.mp f1;simpa using this.2
 have k2:js.toArray[j]=u':=by
  have:=gR.mp f2;simpa using this.2
 rw[k1,k2];exact ih g1 g2 (a1 j x y hx hy)
theorem Rg{A:Around}{l m:Addr}{is js:Array Value}{e:Nat->Bool}{b:Bool}(p1:s.heap.IsList l is)(p2:s.heap.IsList m js)(hu:A.units<cLine)(he:∀j (h1:j<is.size) (h2:j<js.size),SeqAt.EqAt A.in1 s is[j] js[j] (e j))(hb:b=((List.range (min is.size js.size)).all e&&is.size==js.size)):SeqAt.RcAt A s (.ref l) (.ref m) b:=by
 by_cases hz:is.size=js.size
 ·have:b=(List.range is.size).all e:=by rw[hb,hz];simp
  rw[this];exact SeqAt.RcAt.lists p1 p2 hz hu he
 ·have K8:(is.size != js.size)=true:=by simpa using hz
  have:b=false:=by rw[hb];simp[hz]
  rw[this];exact SeqAt.RcAt.lists_lengths p1 p2 K8 hu
theorem zed{A:Around}{l m:Addr}{is js:Array Value}{e:Nat->Bool}{b:Bool}(p1:s.heap.IsList l is)(p2:s.heap.IsList m js)(hu:A.units<cLine)(he:∀j (h1:j<is.size) (h2:j<js.size),SeqAt.EqAt A.in1 s is[j] js[j] (e j))(hb:b=((List.range (min is.size js.size)).all e&&is.size==js.size)):SeqAt.RcNeAt A s (.ref l) (.ref m) (!b):=by
 by_cases hz:is.size=js.size
 ·have:b=(List.range is.size).all e:=by rw[hb,hz];simp
  rw[this];exact SeqAt.RcNeAt.lists p1 p2 hz hu he
 ·have K8:(is.size != js.size)=true:=by simpa using hz
  have:b=false:=by rw[hb];simp[hz]
  rw[this];exact SeqAt.RcNeAt.lists_lengths p1 p2 K8 hu
open SeqAt in
theorem Cq:∀(n:Nat) {A:Around} {d1 d2:D} {u1 u2:Value} {b:Bool},A.units+n<cLine->Is s.heap d1 u1->Is s.heap d2 u2->b_ n d1 d2=some b->SeqAt.EqAt A s u1 u2 b:=by
 intro n
 induction n with
 |zero=>
  intro A d1 d2 u1 u2 b hu r1 r2 hd;have hu:A.units<cLine:=by lia
  cases r1 with
  |oth k=>rw[nR k] at hd;cases hd
  |non=>cases r2 with
   |oth k=>rw[eO k] at hd;cases hd
   |non=>cases hd;exact EqAt.same _
   |bl y=>cases hd;exact EqAt.none_bool _
   |int y t=>cases hd;exact EqAt.none_int _ _
   |str y t=>cases hd;exact EqAt.none_str _ _
   |tup p q=>cases hd;exact EqAt.none_tuple p hu
   |fl p q=>cases hd;exact EqAt.none_list p hu
  |bl x=>cases r2 with
   |oth k=>rw[eO k] at hd;cases hd
   |non=>cases hd;exact EqAt.bool_none _
   |bl y=>cases hd;exact EqAt.bool_bool _ _
   |int y t=>cases hd;exact EqAt.bool_int _ _ _
   |str y t=>cases hd;exact EqAt.bool_str _ _ _
   |tup p q=>cases hd;exact EqAt.bool_tuple _ p hu
   |fl p q=>cases hd;exact EqAt.bool_list _ p hu
  |int x t=>cases r2 with
   |oth k=>rw[eO k] at hd;cases hd
   |non=>cases hd;exact EqAt.int_none _ _
   |bl y=>cases hd;exact EqAt.int_bool _ _ _
   |int y t=>cases hd;exact EqAt.int_int _ _ _ _
   |str y t=>cases hd;exact EqAt.int_str _ _ _ _
   |tup p q=>cases hd;exact EqAt.int_tuple _ _ p hu
   |fl p q=>cases hd;exact EqAt.int_list _ _ p hu
  |str x t=>cases r2 with
   |oth k=>rw[eO k] at hd;cases hd
   |non=>cases hd;exact EqAt.str_none _ _
   |bl y=>cases hd;exact EqAt.str_bool _ _ _
   |int y t=>cases hd;exact EqAt.str_int _ _ _ _
   |str y t=>cases hd;exact EqAt.str_str _ _ _ _
   |tup p q=>cases hd;exact EqAt.str_tuple _ _ p hu
   |fl p q=>cases hd;exact EqAt.str_list _ _ p hu
  |tup p q=>cases r2 with
   |oth k=>rw[eO k] at hd;cases hd
   |non=>cases hd;exact EqAt.tuple_none p hu
   |bl y=>cases hd;exact EqAt.tuple_bool _ p hu
   |int y t=>cases hd;exact EqAt.tuple_int _ _ p hu
   |str y t=>cases hd;exact EqAt.tuple_str _ _ p hu
   |tup p2 q2=>cases hd
   |fl p2 q2=>cases hd;exact EqAt.tuple_list p p2 hu
  |fl p q=>cases r2 with
   |oth k=>rw[eO k] at hd;cases hd
   |non=>cases hd;exact EqAt.list_none p hu
   |bl y=>cases hd;exact EqAt.list_bool _ p hu
   |int y t=>cases hd;exact EqAt.list_int _ _ p hu
   |str y t=>cases hd;exact EqAt.list_str _ _ p hu
   |tup p2 q2=>cases hd;exact EqAt.list_tuple p p2 hu
   |fl p2 q2=>cases hd
 |succ n ih=>
  intro A d1 d2 u1 u2 b hu0 r1 r2 hd;have hu:A.units<cLine:=by lia
  have gb:A.in1.units+n<cLine:=by show A.units+1+n<cLine;lia
  cases r1 with
  |oth k=>rw[nR k] at hd;cases hd
  |non=>cases r2 with
   |oth k=>rw[eO k] at hd;cases hd
   |non=>cases hd;exact EqAt.same _
   |bl y=>cases hd;exact EqAt.none_bool _
   |int y t=>cases hd;exact EqAt.none_int _ _
   |str y t=>cases hd;exact EqAt.none_str _ _
   |tup p q=>cases hd;exact EqAt.none_tuple p hu
   |fl p q=>cases hd;exact EqAt.none_list p hu
  |bl x=>cases r2 with
   |oth k=>rw[eO k] at hd;cases hd
   |non=>cases hd;exact EqAt.bool_none _
   |bl y=>cases hd;exact EqAt.bool_bool _ _
   |int y t=>cases hd;exact EqAt.bool_int _ _ _
   |str y t=>cases hd;exact EqAt.bool_str _ _ _
   |tup p q=>cases hd;exact EqAt.bool_tuple _ p hu
   |fl p q=>cases hd;exact EqAt.bool_list _ p hu
  |int x t=>cases r2 with
   |oth k=>rw[eO k] at hd;cases hd
   |non=>cases hd;exact EqAt.int_none _ _
   |bl y=>cases hd;exact EqAt.int_bool _ _ _
   |int y t=>cases hd;exact EqAt.int_int _ _ _ _
   |str y t=>cases hd;exact EqAt.int_str _ _ _ _
   |tup p q=>cases hd;exact EqAt.int_tuple _ _ p hu
   |fl p q=>cases hd;exact EqAt.int_list _ _ p hu
  |str x t=>cases r2 with
   |oth k=>rw[eO k] at hd;cases hd
   |non=>cases hd;exact EqAt.str_none _ _
   |bl y=>cases hd;exact EqAt.str_bool _ _ _
   |int y t=>cases hd;exact EqAt.str_int _ _ _ _
   |str y t=>cases hd;exact EqAt.str_str _ _ _ _
   |tup p q=>cases hd;exact EqAt.str_tuple _ _ p hu
   |fl p q=>cases hd;exact EqAt.str_list _ _ p hu
  |@tup a1 xs is p q=>cases r2 with
   |oth k=>rw[eO k] at hd;cases hd
   |non=>cases hd;exact EqAt.tuple_none p hu
   |bl y=>cases hd;exact EqAt.tuple_bool _ p hu
   |int y t=>cases hd;exact EqAt.tuple_int _ _ p hu
   |str y t=>cases hd;exact EqAt.tuple_str _ _ p hu
   |@tup a2 ys js p2 q2=>
    by_cases ea:a1=a2
    ·subst ea;have:=Rf (n+1) (.tup p q) (.tup p2 q2) hd;subst this;exact EqAt.same _
    ·obtain⟨e,he,hb⟩:=parts (A:=A.in1) q q2 hd λa b c=>ih gb a b c;rw[hb];exact EqAt.of_refs ea (RcAt.tuples p p2 hu he)
   |fl p2 q2=>cases hd;exact EqAt.tuple_list p p2 hu
  |@fl a1 xs is p q=>cases r2 with
   |oth k=>rw[eO k] at hd;cases hd
   |non=>cases hd;exact EqAt.list_none p hu
   |bl y=>cases hd;exact EqAt.list_bool _ p hu
   |int y t=>cases hd;exact EqAt.list_int _ _ p hu
   |str y t=>cases hd;exact EqAt.list_str _ _ p hu
   |tup p2 q2=>cases hd;exact EqAt.list_tuple p p2 hu
   |@fl a2 ys js p2 q2=>
    by_cases ea:a1=a2
    ·subst ea;have:=Rf (n+1) (.fl p q) (.fl p2 q2) hd;subst this;exact EqAt.same _
    ·obtain⟨e,he,hb⟩:=parts (A:=A.in1) q q2 hd λa b c=>ih gb a b c;exact EqAt.of_refs ea (Rg p p2 hu he hb)
end
section
variable {X:Cx}{cA:Cl}{ak:List (Addr×Obj)}{Z:L2.St}{H:Hp}{s:Shared}{U:Ph}{h:Heap}
open SeqAt in
theorem Rh(hu0:A.units+(n+1)<cLine)(r1:Is s.heap d1 u1)(r2:Is s.heap d2 u2)(hd:b_ (n+1) d1 d2=some b):RcAt A s u1 u2 b/\RcNeAt A s u1 u2 (!b):=by
 have hu:A.units<cLine:=by lia
 have gb:A.in1.units+n<cLine:=by show A.units+1+n<cLine;lia
 cases r1 with
 |oth k=>rw[nR k] at hd;cases hd
 |non=>cases r2 with
  |oth k=>rw[eO k] at hd;cases hd
  |non=>cases hd;exact⟨RcAt.none_none,RcNeAt.none_none⟩
  |bl y=>cases hd;exact⟨RcAt.none_bool _,RcNeAt.none_bool _⟩
  |int y t=>cases hd;exact⟨RcAt.none_int _ _,RcNeAt.none_int _ _⟩
  |str y t=>cases hd;exact⟨RcAt.none_str _ _,RcNeAt.none_str _ _⟩
  |tup p q=>cases hd;exact⟨RcAt.none_tuple p hu,RcNeAt.none_tuple p hu⟩
  |fl p q=>cases hd;exact⟨RcAt.none_list p hu,RcNeAt.none_list p hu⟩
 |bl x=>cases r2 with
  |oth k=>rw[eO k] at hd;cases hd
  |non=>cases hd;exact⟨RcAt.bool_none _,RcNeAt.bool_none _⟩
  |bl y=>cases hd;exact⟨RcAt.bool_bool _ _,RcNeAt.bool_bool _ _⟩
  |int y t=>cases hd;exact⟨RcAt.bool_int _ _ _,RcNeAt.bool_int _ _ _⟩
  |str y t=>cases hd;exact⟨RcAt.bool_str _ _ _,RcNeAt.bool_str _ _ _⟩
  |tup p q=>cases hd;exact⟨RcAt.bool_tuple _ p hu,RcNeAt.bool_tuple _ p hu⟩
  |fl p q=>cases hd;exact⟨RcAt.bool_list _ p hu,RcNeAt.bool_list _ p hu⟩
 |int x t=>cases r2 with
  |oth k=>rw[eO k] at hd;cases hd
  |non=>cases hd;exact⟨RcAt.int_none _ _,RcNeAt.int_none _ _⟩
  |bl y=>cases hd;exact⟨RcAt.int_bool _ _ _,RcNeAt.int_bool _ _ _⟩
  |int y t=>cases hd;exact⟨RcAt.int_int _ _ _ _,RcNeAt.int_int _ _ _ _⟩
  |str y t=>cases hd;exact⟨RcAt.int_str _ _ _ _,RcNeAt.int_str _ _ _ _⟩
  |tup p q=>cases hd;exact⟨RcAt.int_tuple _ _ p hu,RcNeAt.int_tuple _ _ p hu⟩
  |fl p q=>cases hd;exact⟨RcAt.int_list _ _ p hu,RcNeAt.int_list _ _ p hu⟩
 |str x t=>cases r2 with
  |oth k=>rw[eO k] at hd;cases hd
  |non=>cases hd;exact⟨RcAt.str_none _ _,RcNeAt.str_none _ _⟩
  |bl y=>cases hd;exact⟨RcAt.str_bool _ _ _,RcNeAt.str_bool _ _ _⟩
  |int y t=>cases hd;exact⟨RcAt.str_int _ _ _ _,RcNeAt.str_int _ _ _ _⟩
  |str y t=>cases hd;exact⟨RcAt.str_str _ _ _ _,RcNeAt.str_str _ _ _ _⟩
  |tup p q=>cases hd;exact⟨RcAt.str_tuple _ _ p hu,RcNeAt.str_tuple _ _ p hu⟩
  |fl p q=>cases hd;exact⟨RcAt.str_list _ _ p hu,RcNeAt.str_list _ _ p hu⟩
 |@tup a1 xs is p q=>cases r2 with
  |oth k=>rw[eO k] at hd;cases hd
  |non=>cases hd;exact⟨RcAt.tuple_none p hu,RcNeAt.tuple_none p hu⟩
  |bl y=>cases hd;exact⟨RcAt.tuple_bool _ p hu,RcNeAt.tuple_bool _ p hu⟩
  |int y t=>cases hd;exact⟨RcAt.tuple_int _ _ p hu,RcNeAt.tuple_int _ _ p hu⟩
  |str y t=>cases hd;exact⟨RcAt.tuple_str _ _ p hu,RcNeAt.tuple_str _ _ p hu⟩
  |@tup a2 ys js p2 q2=>
   obtain⟨e,he,hb⟩:=parts (A:=A.in1) q q2 hd λa b c=>Cq n gb a b c;rw[hb];exact⟨RcAt.tuples p p2 hu he,RcNeAt.tuples p p2 hu he⟩
  |fl p2 q2=>cases hd;exact⟨RcAt.tuple_list p p2 hu,RcNeAt.tuple_list p p2 hu⟩
 |@fl a1 xs is p q=>cases r2 with
  |oth k=>rw[eO k] at hd;cases hd
  |non=>cases hd;exact⟨RcAt.list_none p hu,RcNeAt.list_none p hu⟩
  |bl y=>cases hd;exact⟨RcAt.list_bool _ p hu,RcNeAt.list_bool _ p hu⟩
  |int y t=>cases hd;exact⟨RcAt.list_int _ _ p hu,RcNeAt.list_int _ _ p hu⟩
  |str y t=>cases hd;exact⟨RcAt.list_str _ _ p hu,RcNeAt.list_str _ _ p hu⟩
  |tup p2 q2=>cases hd;exact⟨RcAt.list_tuple p p2 hu,RcNeAt.list_tuple p p2 hu⟩
  |@fl a2 ys js p2 q2=>
   obtain⟨e,he,hb⟩:=parts (A:=A.in1) q q2 hd λa b c=>Cq n gb a b c;exact⟨Rg p p2 hu he hb,zed p p2 hu he hb⟩
noncomputable def sY(K:W.Frag)(cA:Cl)(f:Bool->Bool):R2:=λx y H Q=>∃U d1 d2 b,Rv K cA U H d1 x/\Rv K cA U H d2 y/\b_ 50 d1 d2=some b/\Q (.bl (f b)) H
theorem zi0(hu:X.A.units+60<cLine):cR X (compareOp .Eq) (sY X.K cA id):=by
 rintro ak s Z H x y v u Q I rx ry ⟨U,d1,d2,b,r1,r2,hd,q⟩;exact(Rh (n:=49) gV (uG I r1 rx) (uG I r2 ry) hd).1 X.prog X.w X.xe _ ⟨.bl b,H,I,rfl,q⟩
theorem ziM(hu:X.A.units+60<cLine):cR X (compareOp .NotEq) (sY X.K cA not):=by
 rintro ak s Z H x y v u Q I rx ry ⟨U,d1,d2,b,r1,r2,hd,q⟩;exact(Rh (n:=49) gV (uG I r1 rx) (uG I r2 ry) hd).2 X.prog X.w X.xe _ ⟨.bl (!b),H,I,rfl,q⟩
theorem Ri:∀(n:Nat) {d d' x:D} {u:Value} {b b':Bool},Is h d u->Is h d' u->b_ n d x=some b->b_ n d' x=some b'->b=b':=by
 intro n;have tn:∀{n:Nat} {xs xs':List D} {x:D},(∀ys,x=.tup ys->False)->b_ n (.tup xs) x=b_ n (.tup xs') x:=λ{n xs xs' x} hx=>by
  cases n<;>cases x<;>first|rfl|exact(hx _ rfl).elim
 have ln:∀{n:Nat} {xs xs':List D} {x:D},(∀ys,x=.fl ys->False)->b_ n (.fl xs) x=b_ n (.fl xs') x:=λ{n xs xs' x} hx=>by
  cases n<;>cases x<;>first|rfl|exact(hx _ rfl).elim
 have main:∀{n:Nat},(∀{xs xs' ys:List D} {is js:List Value} {b b':Bool},gF h xs is->gF h xs' js->is.toArray=js.toArray->b_ n (.tup xs) (.tup ys)=some b->b_ n (.tup xs') (.tup ys)=some b'->b=b')->(∀{xs xs' ys:List D} {is js:List Value} {b b':Bool},gF h xs is->gF h xs' js->is.toArray=js.toArray->b_ n (.fl xs) (.fl ys)=some b->b_ n (.fl xs') (.fl ys)=some b'->b=b')->∀{d d' x:D} {u:Value} {b b':Bool},Is h d u->Is h d' u->b_ n d x=some b->b_ n d' x=some b'->b=b':=by
  intro n R L d d' x u b b' r1 r2 h1 h2;cases r1 with
  |oth k=>rw[nR k] at h1;cases h1
  |non=>cases r2 with
   |oth k=>rw[nR k] at h2;cases h2
   |non=>rw[h1] at h2;exact dh h2
  |bl y=>cases r2 with
   |oth k=>rw[nR k] at h2;cases h2
   |bl=>rw[h1] at h2;exact dh h2
  |int y=>cases r2 with
   |oth k=>rw[nR k] at h2;cases h2
   |int=>rw[h1] at h2;exact dh h2
  |str y=>cases r2 with
   |oth k=>rw[nR k] at h2;cases h2
   |str=>rw[h1] at h2;exact dh h2
  |tup p q=>cases r2 with
   |oth k=>rw[nR k] at h2;cases h2
   |tup p2 q2=>
    cases x with
    |tup ys=>exact R q q2 (Ra p p2) h1 h2
    |_=>rw[tn (by intro ys z;cases z),h2] at h1;exact(dh h1).symm
   |fl p2 q2=>exact(yj p2 p).elim
  |fl p q=>cases r2 with
   |oth k=>rw[nR k] at h2;cases h2
   |fl p2 q2=>
    cases x with
    |fl ys=>exact L q q2 (Rb p p2) h1 h2
    |_=>rw[ln (by intro ys z;cases z),h2] at h1;exact(dh h1).symm
   |tup p2 q2=>exact(yj p p2).elim
 induction n with
 |zero=>
  intro d d' x u b b' r1 r2;exact main (n:=0) (λ_ _ _ z=>by cases z) (λ_ _ _ z=>by cases z) r1 r2
 |succ n ih=>
  have rows:∀{xs xs' ys:List D} {is js:List Value} {b b':Bool},gF h xs is->gF h xs' js->is.toArray=js.toArray->dW (b_ n) xs ys=some b->dW (b_ n) xs' ys=some b'->b=b':=by
   intro xs xs' ys is js b b' q1 q2 e h1 h2;have e:is=js:=by simpa using e
   subst e;obtain⟨e1,a1,b1⟩:=Cp h1;obtain⟨e2,a2,b2⟩:=Cp h2;have hl:xs.length=xs'.length:=q1.len.trans q2.len.symm;rw[b1,b2,hl]
   congr 1
   rw[Bool.eq_iff_iff,iM,iM];have key:∀j∈List.range (min xs'.length ys.length),e1 j=e2 j:=λj hj=>by
    have hj:=jk.mp hj;obtain⟨x1,Rj⟩ : ∃x,xs[j]?=some x:=⟨_,gU (by rw[hl];exact gw hj (Nat.min_le_left _ _))⟩;obtain⟨x2,yc⟩ : ∃x,xs'[j]?=some x:=⟨_,gU (gw hj (Nat.min_le_left _ _))⟩;obtain⟨y,hy⟩ : ∃y,ys[j]?=some y:=⟨_,gU (gw hj (Nat.min_le_right _ _))⟩;obtain⟨v1,f1,p1⟩:=q1.get Rj;obtain⟨v2,f2,p2⟩:=q2.get yc;rw[f1] at f2;cases f2;exact ih p1 p2 (a1 j x1 y Rj hy) (a2 j x2 y yc hy)
   exact⟨λz j hj=>by rw[<-key j hj];exact z j hj,λz j hj=>by rw[key j hj];exact z j hj⟩
  intro d d' x u b b' r1 r2;exact main (n:=n+1) rows rows r1 r2
theorem K9:∀{xs:List D} {b:Bool},memD x xs=some b->∀d∈xs,∃k,b_ 50 d x=some k
 |[],_,_,d,hd=>by cases hd
 |y::xs,b,h,d,hd=>by
  unfold memD at h;cases e1:b_ 50 y x with
  |none=>simp only[e1] at h;cases h
  |some a=>
   cases e2:memD x xs with
   |none=>simp only[e1,e2] at h;cases h
   |some c=>
    rcases iQ.mp hd with rfl|hd
    ·exact⟨a,e1⟩
    ·exact K9 e2 d hd
theorem K_:∀{xs:List D} {us:List Value} {b:Bool},memD x xs=some b->gF h xs us->∃e:Value->Bool,(∀u∈us,∃d,Is h d u/\b_ 50 d x=some (e u))/\us.any e=b:=by
 intro xs us b hm r;have ex:∀u∈us,∃d k,Is h d u/\b_ 50 d x=some k:=by
  intro u hu;obtain⟨i,hi,e⟩:=G9 hu;have hl:=r.len;obtain⟨d,hd⟩ : ∃d,xs[i]?=some d:=⟨_,gU gV⟩;obtain⟨u',e1,q⟩:=r.get hd;rw[gU hi,e] at e1;cases e1;obtain⟨k,hk⟩:=K9 hm d (jh hd);exact⟨d,k,q,hk⟩
 refine⟨λu=>by classical exact if z:∃k,∃d,Is h d u/\b_ 50 d x=some k then z.choose else false,λu hu=>?_,?_⟩
 ·obtain⟨d,k,q,hk⟩:=ex u hu;have z:∃k,∃d,Is h d u/\b_ 50 d x=some k:=⟨k,d,q,hk⟩;dsimp only;rw[dif_pos z];exact z.choose_spec
 ·clear ex;have key:∀(xs:List D) (us:List Value) (b:Bool),memD x xs=some b->gF h xs us->us.any (λu=>by classical exact if z:∃k,∃d,Is h d u/\b_ 50 d x=some k then z.choose else false)=b:=by
   intro xs
   induction xs with
   |nil=>intro us b hm r;cases r;cases hm;rfl
   |cons d ds ih=>
    intro us b hm r;cases r with
    |@cons _ u _ us a r=>
     unfold memD at hm;cases e1:b_ 50 d x with
     |none=>simp only[e1] at hm;cases hm
     |some k=>
      cases e2:memD x ds with
      |none=>simp only[e1,e2] at hm;cases hm
      |some c=>
       simp only[e1,e2] at hm;cases hm;rw[List.any_cons];have z:∃k,∃d,Is h d u/\b_ 50 d x=some k:=⟨k,d,a,e1⟩;have hk:z.choose=k:=by
        obtain⟨d',q,vg⟩:=z.choose_spec;exact Ri 50 q a vg e1
       rw[dif_pos z,hk,ih us c e2 r]
  exact key xs us b hm r
noncomputable def Cr(K:W.Frag)(cA:Cl)(f:Bool->Bool):R2:=λx y H Q=>∃U d1 d2 xs b,Rv K cA U H d1 x/\Rv K cA U H d2 y/\iG d2=some xs/\memD d1 xs=some b/\Q (.bl (f b)) H
theorem zg5(hu:X.A.units+60<cLine):cR X (compareOp .NotIn) (Cr X.K cA not):=by
 rintro ak s Z H x y v u Q I rx ry ⟨U,d1,d2,xs,b,r1,r2,hq,hm,q⟩;have gb:X.A.in1.units+50<cLine:=by show X.A.units+1+50<cLine;lia
 have i1:=uG I r1 rx;cases uG I r2 ry with
 |tup p r=>
  cases hq;obtain⟨e,he,hb⟩:=K_ hm r;refine SeqAt.notIn_tupleAt e p (λw hw=>?_) ⟨.bl (!b),H,I,by rw[<-hb];simp[L2.RelV],q⟩;obtain⟨d,q1,q2⟩:=he w (by simpa using hw);exact Cq 50 gb q1 i1 q2
 |fl p r=>
  cases hq;obtain⟨e,he,hb⟩:=K_ hm r;refine SeqAt.notIn_listAt e p (λw hw=>?_) ⟨.bl (!b),H,I,by rw[<-hb];simp[L2.RelV],q⟩;obtain⟨d,q1,q2⟩:=he w (by simpa using hw);exact Cq 50 gb q1 i1 q2
 |oth k=>cases d2<;>cases hq<;>cases k
 |_=>cases hq
end
end Mi
namespace HT
open PySem PyProof.Rows
section
variable {prog:Program}{w:World}{A:Around}{E:Value->Shared->Prop}{s:Shared}
theorem pX{t b:Addr}{vs ws:List Value}{Q:Value->Shared->Prop}(ht:IsTup s.heap t vs.toArray)(hb:IsTup s.heap b ws.toArray)(hv:vs=[])
  (h1:Q (.ref b) s):wpAny (model prog w) A (binaryOp .Add (.ref t) (.ref b)) Q E s:=by
 obtain⟨⟨cls,dd,data,sl⟩,ho,hc,n,hd⟩:=id ht;obtain⟨⟨cls2,dd2,data2,sl2⟩,m6,oO,n2,hd2⟩:=id hb;simp only at hc hd oO hd2;subst hc hd oO hd2;exact concat_meets ⟨_,ho,rfl⟩ ⟨_,m6,rfl⟩ noFill_tuple_add seq_tuple_add GZ GK (GF _ _)
   (tuple_addW0 t b vs.toArray ws.toArray n n2 dd dd2 sl sl2 (by simp[hv])) ⟨ho,m6,h1⟩
theorem dX{t sl:Addr}{items:Array Value}{vl vu:Value}{lo hi:Option Int}{Q:Value->Shared->Prop}(ht:IsTup s.heap t items)(hs:s.heap.IsSliceOf sl vl vu .none)(pl:IsPart vl lo)(pu:IsPart vu hi)
  (hw:bD items.size 0 lo=0/\bD items.size items.size hi=items.size) (h:Q (.ref t) s):wpAny (model prog w) A (getItem (.ref t) (.ref sl)) Q E s:=by
 obtain⟨os,vJ,Ez,zX⟩:=id hs;have Iw:s.TypeIs (.ref sl) "slice":=⟨os,vJ,Ez⟩;unfold getItem
 try with_reducible refine lO ?_
 first|refine aG (bC ?_)|skip
 refine aG (wpAny_sequenceKey ht.typeIs J0 ?_);refine aG (wpAny_callSpecial?_slot (name:=Str.ofString "__getitem__") ht.typeIs xH
  (wpAny_call_entry xH ht.typeIs entry_tuple_getitem ?_ (args_tuple_getitem _ _)))
 show wpAny _ _ (Builtin.Tuple.tupleItemsOf (.ref t) >>= _) _ _ s;refine aG (tupleItemsOf_ ht ?_);refine aG (wpAny_typeOf Iw ?_);rw[if_pos J0];refine aG (P0 hs pl pu ?_);have La:(((bD items.size 0 lo:Nat):Int)==0&&(1:Int)==1&&(bD items.size items.size hi-bD items.size 0 lo)==items.size)=true:=by
  rw[hw.1,hw.2];simp
 show wpAny _ _ (if (((bD items.size 0 lo:Nat):Int)==0&&(1:Int)==1&&(bD items.size items.size hi-bD items.size 0 lo)==items.size)=true then _ else _) _ _ s;rw[if_pos La];refine aG ?_;unfold Builtin.Tuple.tupleIsExact;refine aG (wpAny_typeOf ht.typeIs ?_);refine bC ?_;rw[if_pos J0];refine aG (wpAny_rule ?_);exact bC ⟨_,rfl,bC h⟩
end
end HT
namespace L2
open PySem PySem.Spec PyProof.Rows
section
variable {X:Cx}{e:Expr}{te:TE}{pos p2:Pos}
noncomputable def pY(K:W.Frag):R2:=λx y H Q=>∃a b xs ys,x=.ref a/\y=.ref b/\iR K H a xs/\iR K H b ys/\xs.length+ys.length<=sizeLine /\
 (xs=[]->Q (.ref b) H)/\(ys=[]->Q (.ref a) H)/\∀p,H p=none->Q (.ref p) (upd H p (.tup (xs++ys)))
theorem pZ:cR X (binaryOp .Add) (pY X.K):=by
 intro ak s Z H x y v u Q I rx ry h;obtain⟨a,b,xs,ys,rfl,rfl,ha,hb,hz,q0,q1,q2⟩:=h;cases rx;cases ry;obtain⟨its,r1,p1,_⟩:=I.tuple ha;obtain⟨its2,r2,p2,_⟩:=I.tuple hb;by_cases hx:xs=[]
 ·exact HT.pX p1 p2 (r1.jE.mpr hx) ⟨.ref b,H,I,rfl,q0 hx⟩
 ·refine HT.rJ p1 p2 (λz=>hx (r1.jE.mp z)) (λz=>⟨.ref a,H,I,rfl,q1 (r2.jE.mp z)⟩) (λz=>?_) (by rw[<-r1.length,<-r2.length];exact hz);refine⟨.ref s.heap.objs.size,_,I.laid (t':=s.toks) (o:=.tup (xs++ys)) (λb ob q=>cX _ q) (bY _) ?_,rfl,q2 _ (I.hok.fresh (bY _))⟩;exact⟨by rw[jt];exact hz,_,r1.append r2,gZ.new _ _⟩
noncomputable def uH(K:W.Frag):V->Option Int->Option Int->Hp->VK->Prop:=λx lo hi H Q=>∃a xs,x=.ref a/\iR K H a xs /\
 ((HT.bD xs.length 0 lo=0/\HT.bD xs.length xs.length hi=xs.length)->Q (.ref a) H)/\∀p,H p=none->Q (.ref p) (upd H p (.tup (jD xs lo hi)))
theorem zgo:rK X (uH X.K):=by
 intro ak s Z H x v vl vu lo hi sl Q I rx hs pl pu h;obtain⟨a,xs,rfl,hx,hw,q⟩:=h;by_cases hz:HT.bD xs.length 0 lo=0/\HT.bD xs.length xs.length hi=xs.length
 ·cases rx;obtain⟨its,r,ht,_⟩:=I.tuple hx;have hlen:its.toArray.size=xs.length:=by rw[fW];exact r.length.symm
  refine⟨"tuple",_,xH.lookup,ht.typeIs,?_⟩;exact HT.dX ht hs pl pu (by rw[hlen];exact hz) ⟨.ref a,H,I,rfl,hw hz⟩
 ·exact X3 ak s Z H (.ref a) v vl vu lo hi sl Q I rx hs pl pu ⟨a,xs,rfl,hx,hz,q⟩
end
section
variable {X:Cx}
noncomputable def uI(K:W.Frag):R2:=λx y H Q=>∃l b xs zs,x=.ref l/\y=.ref b/\dU K H l xs/\dU K H b zs/\xs.length+zs.length<=sizeLine/\∀p,H p=none->Q (.ref p) (upd H p (.lst (xs++zs)))
theorem sZ:cR X (binaryOp .Add) (uI X.K):=by
 intro ak s Z H x y v u Q I rx ry h;obtain⟨l,b,xs,zs,rfl,rfl,hH,hB,hz,q⟩:=h;cases rx;cases ry;obtain⟨its,r,pl,_⟩:=I.list hH;obtain⟨its2,r2,pl2,_⟩:=I.list hB;obtain⟨⟨cls,dd,data,sl⟩,ho,hc,n,hd⟩:=pl.isList;obtain⟨⟨cls2,dd2,data2,sl2⟩,m6,oO,n2,hd2⟩:=pl2.isList;simp only at hc hd oO hd2;subst hc hd oO hd2;refine concat_meets ⟨_,ho,rfl⟩ ⟨_,m6,rfl⟩ noFill_list_add seq_list_add PySem.F.slot_list_add PySem.F.entry_list_add (PySem.F.args_list_add_2 _ _) (list_addW l b its.toArray its2.toArray n n2 dd dd2 sl sl2 (by rw[fW,fW,<-r.length,<-r2.length];exact hz)) ⟨ho,m6,?_⟩;have ea:its.toArray++its2.toArray=(its++its2).toArray:=by simp
 rw[ea];exact⟨.ref _,_,I.I_ (t':=s.toks) (r.append r2) (by rw[jt];omega),rfl,q _ I.fresh⟩
noncomputable def mC(K:W.Frag):R2:=λx y H Q=>kJ (λi j=>.int (i+j)) x y H Q\/uI K x y H Q\/pY K x y H Q\/∃i j,x=.str i/\y=.str j/\i.length+j.length<=sizeLine/\Q (.str (i++j)) H
theorem zdR:cR X (binaryOp .Add) (mC X.K):=vG.or (sZ.or (pZ.or Xd))
end
end L2
namespace Mi
open PySem PySem.Spec PyProof.Rows L2
section
variable {K:W.Frag}{cA:Cl}{U:Ph}{H:Hp}{Q:VK}{p:Pr}
theorem aQ.some'{o:Option Rz}(h:aQ K cA U H o Q):∃z,o=some z:=by
 cases o with
 |none=>exact h.elim
 |some z=>exact⟨z,rfl⟩
theorem aQ.of{o:Option Rz}{z:Rz}(h:aQ K cA U H o Q)(e:o=some z):aQ K cA U H (some z) Q:=e▸h
theorem aQ.here{d:D}{v:V}(h:aQ K cA U H (some (.dat d)) Q)(r:Rep K cA U H d v):Q v H:=h H v bx.refl r
theorem aQ.tup{xs:List D}{vs:List V}{a:Addr}(h:aQ K cA U H (some (.dat (.tup xs))) Q)(z:Zt U H)(r:aC K cA U H xs vs)(hp:H a=none):Q (.ref a) (upd H a (.tup vs)):=
 h _ _ (bx.new hp) (.tup (TupAt.new (z.nz hp)) (r.mono (bx.new hp).ext z.lz))
theorem qP.two{ds:List D}{vs:List V}{d d':D}(h:qP K cA U H [d,d'] vs):∃v v',vs=[v,v']/\Rv K cA U H d v/\Rv K cA U H d' v':=by
 cases h with
 |cons a r=>cases r with
  |cons b r=>cases r;exact⟨_,_,rfl,a,b⟩
theorem qP.one(h:qP K cA U H [d] vs):∃v,vs=[v]/\Rv K cA U H d v:=by
 cases h with
 |cons a r=>cases r;exact⟨_,rfl,a⟩
theorem Rv.int{i:Int}{v:V}(h:Rv K cA U H (.int i) v):v=.int i:=by cases (show Rep K cA U H (.int i) v from h);rfl
theorem Rv.bl{i:Bool}{v:V}(h:Rv K cA U H (.bl i) v):v=.bl i:=by cases (show Rep K cA U H (.bl i) v from h);rfl
theorem Rv.str{i:Str}{v:V}(h:Rv K cA U H (.str i) v):v=.str i:=by cases (show Rep K cA U H (.str i) v from h);rfl
theorem Rv.tup{xs:List D}{v:V}(h:Rv K cA U H (.tup xs) v):∃a vs,v=.ref a/\TupAt K U H a vs/\aC K cA U H xs vs:=by
 cases (show Rep K cA U H (.tup xs) v from h) with
 |tup a r=>exact⟨_,_,rfl,a,r⟩
theorem Rv.sq{d:D}{xs:List D}{v:V}(h:Rv K cA U H d v)(e:iG d=some xs):∃a vs,v=.ref a/\(dU K H a vs\/iR K H a vs)/\aC K cA U H xs vs:=by
 cases d with
 |tup ys=>
  cases e;obtain⟨a,vs,e,t,r⟩:=Rv.tup h;exact⟨a,vs,e,.inr t.jR,r⟩
 |fl ys=>
  cases e;obtain⟨a,vs,e,l,r⟩:=h;exact⟨a,vs,e,.inl l,r⟩
 |_=>cases e
theorem Rk{f:Int->Int->Option D}{ds:List D}{z:Rz}(h:bJ f ds=some z):∃i j d,ds=[.int i,.int j]/\f i j=some d/\z=.dat d:=by
 cases ds with
 |nil=>cases h
 |cons a t=>
 cases a with
 |int i=>
  cases t with
  |nil=>cases h
  |cons b t=>
  cases b with
  |int j=>
   cases t with
   |cons _ _=>cases h
   |nil=>
    obtain⟨d,e1,e2⟩:=lN.mp h;exact⟨_,_,d,rfl,e1,e2.symm⟩
  |_=>cases h
 |_=>cases h
theorem Cu{f:Int->Int->Option D}(hp:prim p=bJ f){C:Int->Int->Prop}{g:Int->Int->V}(hf:∀i j d,f i j=some d->C i j/\∀U H,Rep K cA U H d (g i j)):aW K cA p (r2 (rI C g)):=by
 intro U H ds vs Q zt rs o;rw[hp] at o;obtain⟨z,e⟩:=o.some';obtain⟨i,j,d,rfl,e1,rfl⟩:=Rk e;obtain⟨c,r⟩:=hf i j d e1;obtain⟨v,v',rfl,r1,r2⟩:=rs.two (ds:=[]);rw[r1.int,r2.int];exact⟨_,_,rfl,i,j,rfl,rfl,c,(o.of e).here (r U H)⟩
theorem Cv{f:Int->Int->D}(hp:prim p=bJ λi j=>some (f i j)){g:Int->Int->V}(hf:∀i j U H,Rep K cA U H (f i j) (g i j)):aW K cA p (r2 (kJ g)):=by
 intro U H ds vs Q zt rs o;obtain⟨x,y,e,i,j,a,b,_,q⟩:=Cu (K:=K) (cA:=cA) (C:=λ_ _=>True) hp (λi j d e=>⟨trivial,λU H=>by cases e;exact hf i j U H⟩) U H ds vs Q zt rs o;exact⟨x,y,e,i,j,a,b,q⟩
theorem Cw{α:Type}{c:Prop}[Decidable c]{x y:α}(h:(if c then some x else none)=some y):c/\y=x:=by
 split at h
 ·rename_i z;cases h;exact⟨z,rfl⟩
 ·cases h
theorem zjR:aW K cA .ao (r2 (kJ λi j=>.int (i-j))):=Cv (f:=λi j=>.int (i-j)) rfl λi j _ _=>.int _
theorem zhT:aW K cA .mul (r2 (rI rG λi j=>.int (i*j))):=Cu rfl λi j d e=>by obtain⟨c,rfl⟩:=Cw e;exact⟨c,λ_ _=>.int _⟩
theorem zhv:aW K cA .fdiv (r2 (rI rF λi j=>.int (i/j))):=Cu rfl λi j d e=>by obtain⟨c,rfl⟩:=Cw e;exact⟨c,λ_ _=>.int _⟩
theorem zjK:aW K cA .mod (r2 (rI (λ_ j=>0<j) λi j=>.int (i%j))):=Cu rfl λi j d e=>by obtain⟨c,rfl⟩:=Cw e;exact⟨c,λ_ _=>.int _⟩
theorem zhC:aW K cA .pow (r2 (rI zO λi j=>.int (i^j.toNat))):=Cu rfl λi j d e=>by obtain⟨c,rfl⟩:=Cw e;exact⟨c,λ_ _=>.int _⟩
theorem zj2:aW K cA .le (r2 (kJ λi j=>.bl (decide (i<=j)))):=Cv (f:=λi j=>.bl (decide (i<=j))) rfl λi j _ _=>.bl _
theorem zke:aW K cA .gt (r2 (kJ λi j=>.bl (decide (j<i)))):=Cv (f:=λi j=>.bl (decide (j<i))) rfl λi j _ _=>.bl _
theorem zj6:aW K cA .ge (r2 (kJ λi j=>.bl (decide (j<=i)))):=Cv (f:=λi j=>.bl (decide (j<=i))) rfl λi j _ _=>.bl _
theorem zjQ:aW K cA .neg (λvs H Q=>∃x,vs=[x]/\rU (λi=>.int (-i)) x H Q):=by
 intro U H ds vs Q zt rs o;obtain⟨z,e⟩:=o.some';have e:pJ (λi=>.int (-i)) ds=some z:=e;cases ds with
 |nil=>cases e
 |cons a t=>
 cases a with
 |int i=>
  cases t with
  |cons _ _=>cases e
  |nil=>
   cases e;obtain⟨v,rfl,r1⟩:=rs.one;exact⟨_,rfl,_,r1.int,aQ.here (o.of rfl) (.int _)⟩
 |_=>cases e
theorem zko:aW K cA .eq (r2 (sY K cA id)):=by
 intro U H ds vs Q zt rs o;obtain⟨z,e⟩:=o.some';have e:v8 id ds=some z:=e;unfold v8 at e;split at e
 ·obtain⟨b,e1,e2⟩:=lN.mp e;obtain⟨v,v',rfl,r1,r2⟩:=rs.two (ds:=[]);subst e2;exact⟨_,_,rfl,U,_,_,b,r1,r2,e1,(o.of e).here (.bl _)⟩
 ·cases e
theorem zkB:aW K cA .ne (r2 (sY K cA not)):=by
 intro U H ds vs Q zt rs o;obtain⟨z,e⟩:=o.some';have e:v8 not ds=some z:=e;unfold v8 at e;split at e
 ·obtain⟨b,e1,e2⟩:=lN.mp e;obtain⟨v,v',rfl,r1,r2⟩:=rs.two (ds:=[]);subst e2;exact⟨_,_,rfl,U,_,_,b,r1,r2,e1,(o.of e).here (.bl _)⟩
 ·cases e
theorem zgG{f:Bool->Bool}{ds:List D}{z:Rz}(h:Bq f ds=some z):∃a b xs k,ds=[a,b]/\iG b=some xs/\memD a xs=some k/\z=.dat (.bl (f k)):=by
 unfold Bq at h;split at h
 ·obtain⟨k,e1,e2⟩:=lN.mp h;obtain⟨xs,e3,e4⟩:=kh.mp e1;exact⟨_,_,xs,k,rfl,e3,e4,e2.symm⟩
 ·cases h
theorem zhH:aW K cA .nin (r2 (Cr K cA not)):=by
 intro U H ds vs Q zt rs o;obtain⟨z,e⟩:=o.some';obtain⟨a,b,xs,k,rfl,e1,e2,rfl⟩:=zgG (show Bq not ds=some z from e);obtain⟨v,v',rfl,r1,r2⟩:=rs.two (ds:=[]);exact⟨_,_,rfl,U,_,_,xs,k,r1,r2,e1,e2,(o.of e).here (.bl _)⟩
theorem Lb:∀{xs:List D} {ns:List Int} {vs:List V},dM xs=some ns->aC K cA U H xs vs->vs=ns.map V.int
 |[],ns,vs,h,r=>by cases h;cases r;rfl
 |d::xs,ns,vs,h,r=>by
  cases d with
  |int i=>
   simp only[dM,lN] at h;obtain⟨ns',h1,rfl⟩:=h;cases r with
   |cons a r=>cases a;rw[Lb h1 r];rfl
  |_=>simp[dM] at h
theorem Rm:∀(a b:List Int),ltI a b=HT.lexLt a b
 |_,[]=>by cases ‹List Int›<;>rfl
 |[],_::_=>rfl
 |x::xs,y::ys=>by
  unfold ltI;rw[Rm xs ys,HT.iy]
theorem zkj:aW K cA .lt (r2 λx y H Q=>kJ (λi j=>.bl (decide (i<j))) x y H Q\/zZ K x y H Q):=by
 intro U H ds vs Q zt rs o;obtain⟨z,e⟩:=o.some';have e:Bp ds=some z:=e;unfold Bp at e;split at e
 ·cases e;obtain⟨v,v',rfl,r1,r2⟩:=rs.two (ds:=[]);exact⟨_,_,rfl,.inl ⟨_,_,r1.int,r2.int,aQ.here (o.of rfl) (.bl _)⟩⟩
 ·split at e
  ·rename_i a b h1 h2;cases e;obtain⟨v,v',rfl,r1,r2⟩:=rs.two (ds:=[]);obtain⟨p,us,rfl,t1,q1⟩:=r1.tup;obtain⟨p',us',rfl,t2,q2⟩:=r2.tup;have o2:aQ K cA U H (some (.dat (.bl (ltI a b)))) Q:=by
    have o3:aQ K cA U H (Bp [.tup _,.tup _]) Q:=o;unfold Bp at o3;simp only[h1,h2] at o3;exact o3
   refine⟨_,_,rfl,.inr ⟨p,p',a,b,rfl,rfl,by rw[<-Lb h1 q1];exact t1.jR,by rw[<-Lb h2 q2];exact t2.jR,?_⟩⟩;rw[<-Rm];exact o2.here (.bl _)
  ·cases e
 ·cases e
theorem zji:aW K cA .add (r2 (mC K)):=by
 intro U H ds vs Q zt rs o;have o:aQ K cA U H (v7 ds) Q:=o;cases ds with
 |nil=>exact False.elim o
 |cons a t=>
 cases a with
 |int i=>
  cases t with
  |nil=>exact False.elim o
  |cons b t=>
  cases b with
  |int j=>
   cases t with
   |cons _ _=>exact False.elim o
   |nil=>
    obtain⟨v,v',rfl,r1,r2⟩:=rs.two (ds:=[]);exact⟨_,_,rfl,.inl ⟨_,_,r1.int,r2.int,aQ.here o (.int _)⟩⟩
  |_=>exact False.elim o
 |tup xs=>
  cases t with
  |nil=>exact False.elim o
  |cons b t=>
  cases b with
  |tup ys=>
   cases t with
   |cons _ _=>exact False.elim o
   |nil=>
    obtain⟨v,v',rfl,r1,r2⟩:=rs.two (ds:=[]);obtain⟨p,us,rfl,t1,q1⟩:=r1.tup;obtain⟨p',us',rfl,t2,q2⟩:=r2.tup;have o:aQ K cA U H (if xs.length+ys.length<=sizeLine then some (.dat (.tup (xs++ys))) else none) Q:=o;by_cases hz:xs.length+ys.length<=sizeLine
    ·rw[if_pos hz] at o;refine⟨_,_,rfl,.inr (.inr (.inl ⟨p,p',us,us',rfl,rfl,t1.jR,t2.jR,by rw[<-q1.len,<-q2.len];exact hz,λe=>?_,λe=>?_,λa ha=>o.tup zt (q1.app q2) ha⟩))⟩
     ·subst e;cases q1;exact o.here (.tup t2 q2)
     ·subst e;cases q2;rw[uU] at o;exact o.here (.tup t1 q1)
    ·rw[if_neg hz] at o;exact o.elim
  |_=>exact False.elim o
 |fl xs=>
  cases t with
  |nil=>exact False.elim o
  |cons b t=>
  cases b with
  |fl ys=>
   cases t with
   |cons _ _=>exact False.elim o
   |nil=>
    obtain⟨v,v',rfl,⟨p,us,rfl,t1,q1⟩,⟨p',us',rfl,t2,q2⟩⟩:=rs.two (ds:=[]);have o:aQ K cA U H (if xs.length+ys.length<=sizeLine then some (.nw (xs++ys)) else none) Q:=o;by_cases hz:xs.length+ys.length<=sizeLine
    ·rw[if_pos hz] at o;exact⟨_,_,rfl,.inr (.inl ⟨p,p',us,us',rfl,rfl,t1,t2,by rw[<-q1.len,<-q2.len];exact hz,λa ha=>o a _ ha (q1.app q2)⟩)⟩
    ·rw[if_neg hz] at o;exact o.elim
  |_=>exact False.elim o
 |str x=>
  cases t with
  |nil=>exact False.elim o
  |cons b t=>
  cases b with
  |str y=>
   cases t with
   |cons _ _=>exact False.elim o
   |nil=>
    obtain⟨v,v',rfl,r1,r2⟩:=rs.two (ds:=[]);have o:aQ K cA U H (if x.length+y.length<=sizeLine then some (.dat (.str (x++y))) else none) Q:=o;by_cases hz:x.length+y.length<=sizeLine
    ·rw[if_pos hz] at o;exact⟨_,_,rfl,.inr (.inr (.inr ⟨_,_,r1.str,r2.str,hz,o.here (.str _)⟩))⟩
    ·rw[if_neg hz] at o;exact o.elim
  |_=>exact False.elim o
 |_=>exact False.elim o
theorem ziR:aW K cA .len (λxs H Q=>∃p ys,xs=[.ref p]/\(dU K H p ys\/iR K H p ys)/\Q (.int ys.length) H):=by
 intro U H ds vs Q zt rs o;have o:aQ K cA U H (su (λxs=>some (.dat (.int xs.length))) ds) Q:=o;unfold su at o;split at o
 ·obtain⟨v,rfl,r1⟩:=rs.one;obtain⟨z,e⟩:=o.some';obtain⟨xs,e1,e2⟩:=kh.mp e;obtain⟨a,us,rfl,sq,q⟩:=r1.sq e1;cases e2;refine⟨a,us,rfl,sq,?_⟩;rw[<-q.len];exact(o.of e).here (.int _)
 ·exact o.elim
theorem zgE:aW K cA .rY (λxs H Q=>(∃i,xs=[.int i]/\Q (.int i) H)\/∃k,xs=[.bl k]/\Q (.int (if k then 1 else 0)) H):=by
 intro U H ds vs Q zt rs o;have o:aQ K cA U H (Br ds) Q:=o;cases ds with
 |nil=>exact False.elim o
 |cons a t=>
 cases a with
 |int i=>
  cases t with
  |cons _ _=>exact False.elim o
  |nil=>
   obtain⟨v,rfl,r1⟩:=rs.one;rw[r1.int];exact .inl ⟨_,rfl,aQ.here o (.int _)⟩
 |bl k=>
  cases t with
  |cons _ _=>exact False.elim o
  |nil=>
   obtain⟨v,rfl,r1⟩:=rs.one;rw[r1.bl];exact .inr ⟨_,rfl,aQ.here o (.int _)⟩
 |_=>exact False.elim o
theorem zgp:aW K cA .max2 (λxs H Q=>∃i j,xs=[.int i,.int j]/\Q (.int (if j>i then j else i)) H):=by
 intro U H ds vs Q zt rs o;obtain⟨x,y,e,i,j,rfl,rfl,q⟩:=Cv (K:=K) (cA:=cA) (p:=.max2) (f:=λi j=>.int (if j>i then j else i)) rfl (λi j _ _=>.int _) U H ds vs Q zt rs o;exact⟨i,j,e,q⟩
theorem zee:aW K cA .divmod (λxs H Q=>∃i j,xs=[.int i,.int j]/\rF i j/\∀p,H p=none->Q (.ref p) (upd H p (.tup [.int (i/j),.int (i%j)]))):=by
 intro U H ds vs Q zt rs o;have o:aQ K cA U H (bJ (λi j=>if 0<j/\j<1073741824 then some (.tup [.int (i/j),.int (i%j)]) else none) ds) Q:=o;obtain⟨z,e⟩:=o.some';obtain⟨i,j,d,rfl,e1,rfl⟩:=Rk e;obtain⟨c,rfl⟩:=Cw e1;obtain⟨v,v',rfl,r1,r2⟩:=rs.two (ds:=[]);rw[r1.int,r2.int];exact⟨i,j,rfl,c,λp hp=>(o.of e).tup zt (.cons (.int _) (.cons (.int _) .nil)) hp⟩
theorem Ld:∀{xs:List D} {bs:List Bool} {vs:List V},fj xs=some bs->aC K cA U H xs vs->vs=bs.map V.bl
 |[],bs,vs,h,r=>by cases h;cases r;rfl
 |d::xs,bs,vs,h,r=>by
  cases d with
  |bl b=>
   simp only[fj,lN] at h;obtain⟨bs',h1,rfl⟩:=h;cases r with
   |cons q r=>cases q;rw[Ld h1 r];rfl
  |_=>simp[fj] at h
theorem zjZ:aW K cA .ix (r2 (IV K)):=by
 intro U H ds vs Q zt rs o;have o:aQ K cA U H (Ks ds) Q:=o;unfold Ks at o;split at o
 ·rename_i d i _;obtain⟨v,v',rfl,r1,r2⟩:=rs.two (ds:=[]);obtain⟨z,e⟩:=o.some';obtain⟨y,e1,e2⟩:=lN.mp e;obtain⟨xs,e3,e4⟩:=kh.mp e1;obtain⟨a,us,rfl,sq,q⟩:=r1.sq e3;have key:∃w,L2.oR us i=some w/\Rep K cA U H y w:=by
   unfold L2.oR at *;rw[<-q.len];obtain⟨j,h1,h2⟩:=kh.mp e4;obtain⟨w,h3,h4⟩:=q.get h2;exact⟨w,by rw[h1];exact h3,h4⟩
  obtain⟨w,hw,oU⟩:=key;subst e2;have q':=(o.of e).here oU;rcases sq with sq|sq
  ·exact⟨_,_,rfl,.inl ⟨a,us,i,w,rfl,r2.int,sq,hw,q'⟩⟩
  ·exact⟨_,_,rfl,.inr (.inl ⟨a,us,i,w,rfl,r2.int,sq,hw,q'⟩)⟩
 ·exact o.elim
noncomputable def Rn(K:W.Frag):V->Option Int->Option Int->Hp->VK->Prop:=λx lo hi H Q=>Ad K x lo hi H Q\/uH K x lo hi H Q
theorem zim:rK X (Rn X.K):=rO.or zgo
theorem zf8{d:D}{lo hi:Option Int}{v:V}(zt:Zt U H)(r:Rv K cA U H d v)(o:aQ K cA U H (cutD d lo hi) Q):Rn K v lo hi H Q:=by
 cases d with
 |tup xs=>
  obtain⟨a,us,rfl,t,q⟩:=r.tup;refine .inr ⟨a,us,rfl,t.jR,λe=>?_,λp hp=>aQ.tup o zt q.cut hp⟩;have hc:cut xs lo hi=xs:=by
   unfold cut;rw[q.len,e.1,e.2,List.drop_zero,Nat.sub_zero,<-q.len,List.take_length]
  have o:aQ K cA U H (some (.dat (.tup (cut xs lo hi)))) Q:=o;rw[hc] at o;exact o.here (.tup t q)
 |fl xs=>
  obtain⟨a,us,rfl,t,q⟩:=r;exact .inl ⟨a,us,rfl,t,λp hp=>o p _ hp q.cut⟩
 |_=>exact o.elim
end
end Mi
namespace L2
open PySem PySem.Spec PyProof.Rows
section
variable {κ:Type}[DecidableEq κ]
noncomputable def putK(kvs:List (κ×V))(k:κ)(v:V):List (κ×V):=
 if (kvs.any λkv=>decide (kv.1=k))=true then kvs.map (λkv=>if kv.1=k then (kv.1,v) else kv) else kvs++[(k,v)]
theorem zcF(kvs:List (κ×V))(k:κ)(v:V):(putK kvs k v).length<=kvs.length+1:=by
 unfold putK
 split
 ·rw[n6];lia
 ·rw[jt,gJ,tV];lia
theorem KV.any(r:KV kvs vs)(k:κ):(kvs.any λkv=>decide (kv.1=k))=vs.any λkv=>decide (kv.1=k):=by
 unfold KV at r
 induction r with
 |nil=>rfl
 |cons h t ih=>rw[List.any_cons,List.any_cons,ih,h.1]
theorem KV.repl(r:KV kvs vs)(k:κ)(ry:RelV y u) :
  KV (kvs.map λkv=>if kv.1=k then (kv.1,y) else kv) (vs.map λkv=>if kv.1=k then (kv.1,u) else kv):=by
 unfold KV at r ⊢
 induction r with
 |nil=>exact .nil
 |@cons p q ps qs h t ih=>
  rw[nG,nG];refine .cons ?_ ih;obtain⟨h1,h2⟩:=h;by_cases e:p.1=k
  ·rw[if_pos e,if_pos (h1.symm.trans e)];exact⟨h1,ry⟩
  ·rw[if_neg e,if_neg (λz=>e (h1.trans z))];exact⟨h1,h2⟩
theorem KV.put(r:KV kvs vs)(k:κ)(ry:RelV y u):KV (putK kvs k y) (stored vs k u):=by
 unfold putK stored;rw[r.any k];by_cases e:(vs.any λkv=>decide (kv.1=k))=true
 ·rw[if_pos e,if_pos e];exact r.repl k ry
 ·rw[if_neg e,if_neg e];exact Paired.snoc r ⟨rfl,ry⟩
end
theorem zkx(r:RelV (kV k) u):(bN P w).is k u=true:=by
 cases k with
 |inl i=>obtain⟨t,e⟩:=(show ∃t,u=Value.int i t from r);subst e;exact V2 P w i t
 |inr x=>obtain⟨t,e⟩:=(show ∃t,u=Value.str x t from r);subst e;exact V3 P w x t
section
variable {P:Program}{w:World}{H:Hp}{h:Heap}{a:Addr}
theorem zkk(ok:eN P w H h)(e:Rd H a u):aO P w H h a u:=e.ok ok
theorem zkn(ok:eN P w H h)(e:Rd H a (.dK kvs)):kvs.length<=sizeLine/\(a==sysModules)=false/\∃vs,KV kvs vs/\h.DictOf (bN P w) a vs:=
 show aO P w H h a (.dK kvs) from zkk ok e
theorem zkp(ok:eN P w H h)(e:H a=some (.dK kvs)):kvs.length<=sizeLine/\(a==sysModules)=false/\∃vs,KV kvs vs/\h.DictOf (bN P w) a vs:=zkn ok (.inl e)
end
section
variable {X:Cx}{ak:List (Addr×Obj)}{Z:St}{H:Hp}{s:Shared}{a:Addr}{y v:V}{u r:Value}{o:Option V}{A:Around}{E:Value->Shared->Prop}
theorem Inv.big(I:Inv X ak Z H s):sysModules<s.heap.objs.size:=by
 have h:mainGlobals<s.heap.objs.size:=(I.mod.glob.keeps I.bk).lt;exact Nat.lt_trans J0 h
theorem zgW(I:Inv X ak Z H s)(mu:zp (H a))(hs:Heap.SameBut a s.heap h')(he:∃q,h'.get? a=some q)(new:aO X.prog X.w (upd H a ob) h' a ob) :
  Inv X ak Z (upd H a ob) {s with heap:=h',toks:=t'}:=
 I.write (x:=a) (e:=a) mu (.inl rfl) (λb q hb z=>(hs.2 b hb).trans z) he new
theorem zjO(z:kvs.length<=sizeLine)(hd:(a==sysModules)=false)(rel:KV kvs vs)(dd:h'.DictOf (bN P w) a vs) :
  aO P w H' h' a (.dK kvs):=⟨z,hd,vs,rel,dd⟩
end
theorem zfa(h:Heap)(hb:sysModules<h.objs.size):aO P w H (h.push {cls:=.type "dict",data:=.dict #[]}) h.objs.size (.dK []):=
 ⟨xQ _,beq_eq_false_iff_ne.mpr (Ne.symm (i_ hb)),[],.nil,Heap.DictOf.new h⟩
noncomputable def lG:List (TE×TE)->St->Hp->(List (V×V)->Hp->Prop)->Prop
 |[],_,H,Q=>Q [] H
 |(tk,tv)::r,Z,H,Q=>tk Z H λx H1=>tv Z H1 λy H2=>lG r Z H2 λps H3=>Q ((x,y)::ps) H3
noncomputable abbrev VV:List (V×V)->List (Value×Value)->Prop:=Paired λp q=>RelV p.1 q.1/\RelV p.2 q.2
def Fi(X:Cx)(pos:Pos)(keys:List (Option Expr))(values:List Expr)(wG:List (TE×TE)):Prop:=
 ∀(ak:List (Addr×Obj)) (s:Shared) (Z:St) (H:Hp) (Q:List (V×V)->Hp->Prop),Inv X ak Z H s->lG wG Z H Q->
  wpAny (model X.prog X.w) X.A (evalPairs (pairTrees keys values X.env pos)) (λvs s'=>∃ps H',Inv X ak Z H' s'/\VV ps vs/\Q ps H') X.xe s
theorem zgf:Fi X pos [] [] []:=λak s Z H Q I h=>pairTrees_nil_walk ⟨[],H,I,.nil,h⟩
theorem zfm(hk:PE X k tk)(hv:PE X v tv)(hr:Fi X pos ks vs wG) :
  Fi X pos (some k::ks) (v::vs) ((tk,tv)::wG):=λak s Z H Q I h=>
 pairTrees_cons_walk (aP (hk ak s Z H _ I h) λu s1 hx=>dj hx λx H1 I1 rx q1=>aP (hv ak s1 Z H1 _ I1 q1) λw2 s2 hx=>dj hx λy H2 I2 ry q2=>
  aP (hr ak s2 Z H2 _ I2 q2) λws s3 hx=>dj hx λps H3 I3 rel q3=>⟨(x,y)::ps,H3,I3,.cons ⟨rx,ry⟩ rel,q3⟩)
noncomputable def iJ(kvs more:List (Key×V)):List (Key×V):=more.foldl (λacc kv=>putK acc kv.1 kv.2) kvs
theorem KV.merge:∀{more:List (Key×V)} {rs:List (Key×Value)} {kvs:List (Key×V)} {vs:List (Key×Value)},KV more rs->KV kvs vs->KV (iJ kvs more) (merged vs rs):=by
 intro more rs kvs vs r;unfold KV at r
 induction r generalizing kvs vs with
 |nil=>intro q;exact q
 |@cons p q ps qs h t ih=>
  intro r0;have e:KV (putK kvs p.1 p.2) (stored vs q.1 q.2):=by
   have:=r0.put p.1 h.2;rw[<-h.1];exact this
  exact ih e
theorem Ro:∀(more kvs:List (Key×V)),(iJ kvs more).length<=kvs.length+more.length
 |[],kvs=>by show kvs.length<=kvs.length+0;lia
 |p::r,kvs=>by
  have h1:=Ro r (putK kvs p.1 p.2);have h2:=zcF kvs p.1 p.2;show (iJ (putK kvs p.1 p.2) r).length<=_;rw[gJ];lia
theorem Rp:∀{kvs:List (Key×V)} {ws:List (Value×Value)},VV (kvs.map λkv=>(kV kv.1,kv.2)) ws->∃rs,Carries (bN P w) ws rs/\KV kvs rs
 |[],_,r=>by rw[List.map_nil] at r;cases r;exact⟨[],True.intro,.nil⟩
 |p::kvs,_,r=>by
  rw[nG] at r;cases r with
  |@cons a b as bs h t=>
   obtain⟨rs,c,q⟩:=Rp (P:=P) (w:=w) t;obtain⟨b1,b2⟩:=b;exact⟨(p.1,b2)::rs,⟨zkx h.1,rfl,c⟩,.cons ⟨rfl,h.2⟩ q⟩
noncomputable def Cy(wG:List (TE×TE)):TE:=λZ H Q=>∀p,H p=none->lG wG Z (upd H p (.dK [])) λps H2=>H2 p=some (.dK [])/\∃kvs:List (Key×V),ps=kvs.map (λkv=>(kV kv.1,kv.2))/\kvs.length<=15/\Q (.ref p) (upd H2 p (.dK (iJ [] kvs)))
theorem zg0(h:Fi X pos keys values wG)(vM:keys.all (·.isSome)=true)(hl:keys.length=values.length)(h0:keys≠[])
  (h15:keys.length<=15):PE X (.Dict keys values pos) (Cy wG):=by
 intro ak s Z H Q I q;have hn:=I.hok.fresh (bY s.heap.objs.size);have I1:=I.laid (a:=s.heap.objs.size) (o:=.dK []) (h':=s.heap.push {cls:=.type "dict",data:=.dict #[]}) (t':=s.toks) (λ_ _ q=>cX _ q) (bY _) (zfa s.heap I.big);refine wpAny_Dict_walk (knd:=bN X.prog X.w) vM hl h0 h15 (aP (h ak _ Z _ _ I1 (q _ hn)) λws s2 hz=>?_);obtain⟨ps,H2,I2,rel,e,kvs,ep,lk,q2⟩:=hz;subst ep;obtain⟨rs,c,rk⟩:=Rp (P:=X.prog) (w:=X.w) rel;obtain⟨z,hd,vs0,r0,dd⟩:=zkp I2.hok e;cases r0;refine⟨rs,c,dd,λh' Jl hs=>⟨.ref s.heap.objs.size,_,?_,rfl,q2⟩⟩;have hz:(iJ [] kvs).length<=sizeLine:=by
  have h1:=Ro kvs [];rw[tV] at h1;rw[xR];lia
 have he:∃q,h'.get? s.heap.objs.size=some q:=let ⟨q,_,_,hq,_⟩:=Jl;⟨q,hq⟩;exact zgW I2 (by rw[e];exact True.intro) hs he (zjO hz hd (rk.merge .nil) Jl)
end L2
namespace Mi
open PySem PySem.Spec PyProof.Rows L2
section
variable {X:Cx}{cA:Cl}{ao:Nat->Nat->Bool}{aj:Bool}{F:Fn}{EX:XS}{a b c d e o:Expr}{A B C Dd E' O:E}{pos pp p2 apos cpos:Pos}{es:List Expr}{Xs:Es}{fz:Bool}{p:Pr}{x:Str}{U:Ph}{H:Hp}{s:S}{lo hi:Option Expr}{Lo Hi:Eo}
def Fj(X:Cx)(cA:Cl)(ao:Nat->Nat->Bool)(aj:Bool)(F:Fn)(EX:XS)(oe:Option Expr)(m:Eo):Prop:=
 PO X oe (λZ H Q=>∃U J s,aU X.K cA U H Z J/\aB X.K cA U H s/\Run X.K cA (sJ ao aj F m J) U H s (λi _ U' H'=>Q i H') (eX X.K cA EX Z))
theorem PO.weak{oe:Option Expr}{t t':TO}(h:PO X oe t)(f:∀Z H Q,t' Z H Q->t Z H Q):PO X oe t':=by
 intro ak s Z H Q I q;exact h ak s Z H Q I (f Z H Q q)
theorem ziU(ha:SE X cA ao aj F EX a A):Fj X cA ao aj F EX (some a) (.yes A):=PO.weak (XM ha) λZ H Q hh=>un hh λU J s hL hS h=>by
 refine aY hL hS h λx H1 U1 d1 s1 x1 hL1 aD r1 h1=>?_;obtain⟨i,_,e,h3⟩:=Cj r1 h1;exact⟨i,e,h3.bA aD⟩
theorem Cz{β:Type}{Z:L2.St}{J:Vs}{m:Eo}{k:Option Int->M β}{P:β->S->Ph->Hp->Prop}(hL:aU X.K cA U H Z J)(hS:aB X.K cA U H s)(h:Run X.K cA (M.bd (sJ ao aj F m J) k) U H s P (eX X.K cA EX Z)){Q:Option Int->Hp->Prop}
  (f:∀i H1 U1 s1,Ext U H U1 H1->aU X.K cA U1 H1 Z J->aB X.K cA U1 H1 s1->Run X.K cA (k i) U1 H1 s1 P (eX X.K cA EX Z)->Q i H1) :
  ∃U J s,aU X.K cA U H Z J/\aB X.K cA U H s/\Run X.K cA (sJ ao aj F m J) U H s (λi _ U' H'=>Q i H') (eX X.K cA EX Z):=
 ⟨U,J,s,hL,hS,h.bd.imp λi s1 U1 H1 ⟨x1,r1,h1⟩=>f i H1 U1 s1 x1 (hL.mono x1 hS.lz) r1 h1⟩
theorem zku(ha:SE X cA ao aj F EX a A)(hl:Fj X cA ao aj F EX lo Lo)(hh:Fj X cA ao aj F EX hi Hi):SE X cA ao aj F EX (.Subscript a (.Slice lo hi none p2) pos) (.sl fz A Lo Hi):=PE.weak (XR zim ha hl hh) λZ H Q hh=>un hh λU J s hL hS h=>by
 refine aY hL hS h λx H1 U1 d1 s1 x1 hL1 aD r1 h1=>Cz hL1 aD h1 λl H2 U2 s2 x2 hL2 aM h2=>Cz hL2 aM h2 λu H3 U3 s3 x3 sV jJ h3=>?_;obtain⟨dd,rv,h4⟩:=Fg jJ ((r1.mono x2 aD.lz).mono x3 aM.lz) h3;exact zf8 jJ.zs rv (lF jJ h4)
theorem Rq:∀bs:List Bool,(List.range bs.length).all (λi=>(bs[i]?).getD false)=bs.all id
 |[]=>rfl
 |b::r=>by
  rw[gJ,List.range_succ_eq_map,n8,List.all_map,n8];have:=Rq r;simp only[Function.comp_def,List.getElem?_cons_succ,List.getElem?_cons_zero,Option.getD_some,id];rw[this]
theorem zeh(hc:X.aj=true):cO X (.builtin "all") (λxs H Q=>∃(p:Addr) (bs:List Bool),xs=[.ref p]/\dU X.K H p (bs.map V.bl)/\Q (.bl (bs.all id)) H):=by
 rintro ak s Z H xs us Q I r ⟨p,bs,e,hp,q⟩;subst e;obtain⟨u,rfl,ru⟩:=Vals.one r;cases (show u=Value.ref p from ru);obtain⟨its,rv,pl,hz⟩:=I.list hp;have hl:s.heap.IsList p its.toArray:=pl.isList;have hpn:p≠s.heap.objs.size:=by
  obtain⟨o,hg,_⟩:=hl;exact i_ (cg hg)
 refine call_all_walk (wpAny_pyIter_list hl ?_);refine⟨_,_,_,_,_,_,λi=>(bs[i]?).getD false,rfl,Walks.list (A:=X.A.in1) (I.ok.hd hc) _ p hpn its.toArray,⟨⟨_,ji _ rfl,rfl,rfl⟩,hl.push _⟩,?_,λh' tk hk=>?_⟩
 ·intro i v s' Q' E' hP hQ;have hi:its[i]?=some v:=by simpa using hP
  have hb:∃b,bs[i]?=some b:=by
   have nj:i<its.length:=(gR.mp hi).1;have z:=rv.length;rw[n6] at z;exact⟨_,gU gV⟩
  obtain⟨b,hb⟩:=hb;obtain⟨u,e1,e2⟩:=rv.get (i:=i) (x:=V.bl b) (by rw[nF,hb];rfl);rw[hi] at e1;cases e1;cases (show v=Value.bool b from e2);have hQ:Q' ((bs[i]?).getD false) s':=hQ;rw[hb] at hQ;exact qX hQ
 ·have ez:(List.range its.toArray.size).all (λi=>(bs[i]?).getD false)=bs.all id:=by
   have z:=rv.length;rw[n6] at z;rw[fW,<-z];exact Rq bs
  rw[ez];refine⟨.bl (bs.all id),H,I.kept (h':=h') (t':=tk) (old_kept hk),rfl,q⟩
theorem zi5{K:W.Frag}:aW K cA .all (λxs H Q=>∃(p:Addr) (bs:List Bool),xs=[.ref p]/\dU K H p (bs.map V.bl)/\Q (.bl (bs.all id)) H):=by
 intro U H ds vs Q zt rs o;have o:aQ K cA U H (wg ds) Q:=o;unfold wg at o;split at o
 ·obtain⟨v,rfl,⟨ad,us,rfl,l,q⟩⟩:=rs.one;obtain⟨z,e⟩:=o.some';obtain⟨bs,e1,e2⟩:=lN.mp e;subst e2;exact⟨ad,bs,rfl,by rw[<-Ld e1 q];exact l,(o.of e).here (.bl _)⟩
 ·exact o.elim
noncomputable def uD(k:Bool):Value->Bool
 |.bool c=>c==k
 |_=>false
theorem zjx{A:Around}{sh:Shared}{k:Bool}{bs:List Bool}{its:List Value}(rv:Vals (bs.map V.bl) its):∀y,y∈its.toArray->SeqAt.EqAt A sh y (.bool k) (uD k y):=λy hy=>by
 have hy:y∈its:=by simpa using hy
 obtain⟨i,hi,e⟩:=G9 hy;have hl:=rv.length;rw[n6] at hl;obtain⟨u,e1,e2⟩:=rv.get (i:=i) (x:=V.bl (bs[i]' gV)) (by rw[nF,gU gV];rfl);rw[gU hi,e] at e1;cases e1;cases e2;exact SeqAt.EqAt.bool_bool _ _
theorem ze2{h:Heap}{x:D}{e:Value->Bool}:∀{xs:List D} {us:List Value},gF h xs us->(∀u∈us,∃d,Is h d u/\b_ 50 d x=some (e u))->(∀d∈xs,∃k,b_ 50 d x=some k)->us.countP e=m8 x xs:=by
 intro xs
 induction xs with
 |nil=>intro us r _ _;cases r;rfl
 |cons d ds ih=>
  intro us r he hk;cases r with
  |@cons _ u _ us a r=>
   rw[List.countP_cons,ih r (λu hu=>he u (fV _ hu)) λd hd=>hk d (fV _ hd)];obtain⟨d',q,vg⟩:=he u ju;obtain⟨k,Rr⟩:=hk d ju;have:=Ri 50 q a vg Rr;show _+_=m8 x ds+(if b_ 50 d x=some true then 1 else 0);rw[Rr,this];cases k<;>rfl
def CG(K:W.Frag)(cA:Cl)(x:V)(xs:List V)(H:Hp)(Q:VK):Prop:=∃U ds d v b,xs=[v]/\Rv K cA U H (.fl ds) x/\Rv K cA U H d v/\memD d ds=some b/\Q (.int (m8 d ds:Nat)) H
theorem zec(hu:X.A.units+60<cLine):xZ X "list.count" (CG X.K cA):=by
 rintro ak sh Z H x xs v us Q I rx r ⟨U,ds,d,y,b,e2,r1,r2,hm,q⟩;subst e2;obtain⟨u,rfl,ru⟩:=Vals.one r;have gb:X.A.in1.units+50<cLine:=by show X.A.units+1+50<cLine;lia
 have i1:=uG I r2 ru;cases uG I r1 rx with
 |@fl l _ its p rr=>
  obtain⟨e,he,_⟩:=K_ hm rr;obtain⟨⟨cls,dd,data,sl⟩,hg,hc,n,hd⟩:=p;simp only at hc hd;subst hc hd;refine uY PySem.F.slot_list_count ⟨_,hg,rfl⟩ PySem.F.entry_list_count (PySem.F.args_list_count_2 _ _) (SeqAt.list_countAt l _ n dd sl u e) ⟨hg,λw hw=>?_,?_⟩
  ·obtain⟨d',q1,q2⟩:=he w (by simpa using hw);exact Cq 50 gb q1 i1 q2
  ·refine⟨.int (m8 d ds:Nat),H,I.tok _,?_,q⟩;rw[<-ze2 rr he (K9 hm)];exact⟨_,rfl⟩
 |oth k=>cases k
theorem Rt:∀{bs:List Bool} {its:List Value} {j:Nat},Vals (bs.map V.bl) its->bs.idxOf? k=some j->∃hj:j<its.length,uD k its[j]=true/\∀m (hm:m<its.length),m<j->uD k its[m]=false
 |[],_,j,.nil,h=>by simp at h
 |b::bs,_,j,.cons r t,h=>by
  cases r;rw[List.idxOf?_cons] at h;by_cases hb:b=k
  ·subst hb;simp at h;subst h;exact⟨DK _,by simp[uD],λm hm z=>absurd z (Nat.not_lt_zero _)⟩
  ·have hb':(b==k)=false:=by simpa using hb
   rw[hb'] at h;simp at h;obtain⟨j',h1,h2⟩:=h;subst h2;obtain⟨hj,a1,a2⟩:=Rt t h1;refine⟨by simpa using hj,by simpa using a1,λm hm z=>?_⟩;cases m with
   |zero=>simp[uD,hb']
   |succ m=>simpa using a2 m (by simpa using hm) gV
theorem zey:xZ X "list.index" (λx xs H Q=>∃(l:Addr) (bs:List Bool) (b:Bool) (j:Nat),x=.ref l/\xs=[.bl b]/\dU X.K H l (bs.map V.bl)/\bs.idxOf? b=some j/\Q (.int j) H):=by
 rintro ak sh Z H x xs v us Q I rx r ⟨l,bs,b,j,e1,e2,hl,hj,q⟩;subst e1 e2;cases (show v=Value.ref l from rx);obtain⟨u,rfl,ru⟩:=Vals.one r;cases (show u=Value.bool b from ru);obtain⟨its,rv,pl,hz⟩:=I.list hl;obtain⟨⟨cls,dd,data,sl⟩,hg,hc,n,hd⟩:=pl.isList;simp only at hc hd;subst hc hd;obtain⟨nj,h1,h2⟩:=Rt rv hj;have hs:(j:Int)<2^63-1:=by
  have z:=rv.length;rw[xR] at hz
  lia
 refine uY PySem.F.slot_list_index ⟨_,hg,rfl⟩ PySem.F.entry_list_index (PySem.F.args_list_index_2 _ _) (SeqAt.list_indexAt l its.toArray n dd sl (.bool b) (uD b) j (by simpa using nj) hs (by simpa using h1) (λm hm z=>by simpa using h2 m (by simpa using hm) z)) ⟨hg,zjx rv,?_⟩;exact⟨.int j,H,I.tok _,⟨_,rfl⟩,q⟩
def CJ(K:W.Frag)(cA:Cl)(p:Pr)(r:V->List V->Hp->VK->Prop):Prop:=aW K cA p (λvs H Q=>∃x xs,vs=x::xs/\r x xs H Q)
theorem ze9{K:W.Frag}:CJ K cA .count (CG K cA):=by
 intro U H ds vs Q zt rs o;have o:aQ K cA U H (lu ds) Q:=o;unfold lu at o;split at o
 ·obtain⟨v,v',rfl,r1,r2⟩:=rs.two (ds:=[]);obtain⟨z,e⟩:=o.some';obtain⟨b,e1,e2⟩:=lN.mp e;subst e2;exact⟨_,_,rfl,U,_,_,_,b,rfl,r1,r2,e1,(o.of e).here (.int _)⟩
 ·exact o.elim
theorem zfj{K:W.Frag}:CJ K cA .index (λx xs H Q=>∃(l:Addr) (bs:List Bool) (b:Bool) (j:Nat),x=.ref l/\xs=[.bl b]/\dU K H l (bs.map V.bl)/\bs.idxOf? b=some j/\Q (.int j) H):=by
 intro U H ds vs Q zt rs o;have o:aQ K cA U H (lA ds) Q:=o;unfold lA at o;split at o
 ·obtain⟨v,v',rfl,⟨ad,us,rfl,l,q⟩,r2⟩:=rs.two (ds:=[]);obtain⟨z,e⟩:=o.some';obtain⟨j,e1,e2⟩:=lN.mp e;obtain⟨bs,e3,e4⟩:=kh.mp e1;subst e2;exact⟨_,_,rfl,ad,bs,_,j,rfl,by rw[r2.bl],by rw[<-Ld e3 q];exact l,e4,(o.of e).here (.int _)⟩
 ·exact o.elim
noncomputable def kdT:Kd->String
 |.list=>"list"
 |.str=>"str"
 |.tuple=>"tuple"
 |_=>"dict"
theorem zf1{K:W.Frag}{k:Kd}{dd:D}{v:V}(h:jH k dd=true)(r:Rv K cA U H dd v):IW K (kdT k) v H:=by
 cases k<;>cases dd<;>first
  |(cases h;done)
  |(obtain⟨a,vs,rfl,l,_⟩:=r;exact .inl ⟨rfl,vs,l⟩)
  |(rw[r.str];exact rfl)
  |(cases (show Rep K cA U H (.fd _ _) v from r) with|@fd _ _ _ q n=>exact .inr (.inr (.inl ⟨rfl,.inl ⟨_,q⟩⟩)))
  |(cases (show Rep K cA U H (.tup _) v from r) with|tup l _=>exact .inr (.inl ⟨rfl,_,l.jR⟩))
theorem Fl{k:Kd}{id:String}{name:Str}{r:V->List V->Hp->VK->Prop}(pa:PlainAttrs (kdT k))(slot:Slot (kdT k) name id)(I8:typeOf (.builtin id)=pure (.type "method_descriptor"))(hm:xZ X id r)(hr:CJ X.K cA p r)
  (ho:SE X cA ao aj F EX o O) (ha:SA X cA ao aj F EX (e::es) Xs)
  (bO:attributeBase o name X.env (eval o X.env)=eval o X.env:=by rfl)
  (iz:((backTo cpos (starEach (e::es) X.env)).all (λx=>!x.1)&&(backToKw cpos (keywordEach [] X.env)).all (λx=>x.1.isSome)
  &&decide ((e::es).length+([]:List Keyword).length+(if ([]:List Keyword).isEmpty then 0 else 1)<30))=true:=by rfl)
  (dG:(apos.endLine==cpos.line)=true:=by rfl) (hs:starEach (e::es) X.env=(false,eval e X.env)::starEach es X.env:=by rfl) (bw:(backTo cpos (starEach es X.env)).any (·.1)=false:=by rfl) :
  SE X cA ao aj F EX (.Call (.Attribute o name apos) (e::es) [] cpos) (.meth fz p k O Xs):=PE.weak (Yh pa slot I8 hm ho ha bO iz dG hs bw) λZ H Q hh=>un hh λU J s hL hS h=>by
 refine aY hL hS h λx H1 U1 d1 s1 x1 hL1 aD r1 h1=>?_;obtain⟨dd,rv,h2⟩:=Fg aD r1 h1;by_cases hk:jH k dd=true
 ·rw[if_pos hk] at h2;refine⟨zf1 hk rv,pW hL1 aD h2 λys H2 U2 ds s2 x2 hL2 aM r2 h3=>?_⟩;obtain⟨ds,rs,h4⟩:=lE aM (.cons (r1.mono x2 aD.lz) r2) h3;obtain⟨_,_,e,q⟩:=hr U2 H2 ds _ _ aM.zs rs (lF aM h4);cases e;exact q
 ·rw[if_neg hk] at h2;exact h2.elim
noncomputable def Fp:Kd->String->Bool
 |.int,"int"=>true
 |.int,"bool"=>true
 |.bool,"bool"=>true
 |.str,"str"=>true
 |.tuple,"tuple"=>true
 |.list,"list"=>true
 |.dict,"dict"=>true
 |_,_=>false
noncomputable def qR:Kd->Option Value
 |.int=>some (.type "int")
 |.bool=>some (.type "bool")
 |.str=>some (.type "str")
 |.tuple=>some (.type "tuple")
 |.list=>some (.type "list")
 |.dict=>some (.type "dict")
 |_=>none
theorem zhQ{K:W.Frag}{k:Kd}{cu:Value}(h:qR k=some cu){T:String}(hT:T∈["NoneType","bool","int","str","tuple","list","dict"]):PySem.W.kitOne K (.type T) cu=some (Fp k T):=by
 simp only[iQ,List.mem_nil_iff,tW] at hT;cases k<;>simp only[qR] at h<;>cases h<;>rcases hT with rfl|rfl|rfl|rfl|rfl|rfl|rfl<;>rfl
structure p7(K:W.Frag)(cA:Cl)(ao:Nat->Nat->Bool):Prop where
 xc:∀c,XC K (cA.a c)
 ao:∀c e,PySem.W.kitOne K (.ref (cA.a c)) (.ref (cA.a e))=some (ao c e)
 k_:∀c,PySem.W.kitOne K (.ref (cA.a c)) (.type "ValueError")=some true
noncomputable def yp(cA:Cl):Kd->V
 |.cls e=>.ref (cA.a e)
 |.k_=>.ty "ValueError"
 |.int=>.ty "int"
 |.bool=>.ty "bool"
 |.str=>.ty "str"
 |.tuple=>.ty "tuple"
 |.list=>.ty "list"
 |.dict=>.ty "dict"
theorem zfi(Cs:qR k=none->p7 X.K cA ao) :
  cO X (.builtin "isinstance") (λxs H Q=>∃U d v bb,xs=[v,yp cA k]/\Rv X.K cA U H d v/\fX ao d k=some bb/\Q (.bl bb) H):=by
 rintro ak sh Z H xs us Q I r ⟨U,d,v,bb,e,rd,hi,q⟩;subst e;obtain⟨u,w,rfl,ru,Le⟩:=Vals.two r;have p8:∀tk,EP X ak Z Q (.bool bb) {sh with toks:=tk}:=λtk=>⟨.bl bb,H,I.tok tk,rfl,q⟩;have bt:∀{T:String} {Hh:Heap->Prop},PySem.W.KitX X.K u (.type T) Hh->Hh sh.heap->T∈["NoneType","bool","int","str","tuple","list","dict"]->u≠Value.builtin "__main__.__loader__#opaque"->(∃cu,qR k=some cu/\w=cu/\Fp k T=bb)->wpAny (model X.prog X.w) X.A (PySem.call (.builtin "isinstance") [u,w]) (EP X ak Z Q) X.xe sh:=λ{T Hh} zzZ hh hT hx ⟨cu,h1,h2,h3⟩=>by
  subst h2 h3;exact PySem.W.kia_one zzZ I.mY hh (zhQ h1 hT) hx p8
 have wv:∀cu,qR k=some cu->w=cu:=λcu h=>by
  cases k<;>simp only[qR] at h<;>cases h<;>exact Le
 have fin:∀T,fX ao d k=(match qR k with|some _=>some (Fp k T)|none=>none)->∃cu,qR k=some cu/\w=cu/\Fp k T=bb:=λT h=>by
  rw[hi] at h;cases z:qR k with
  |none=>rw[z] at h;cases h
  |some cu=>rw[z] at h;cases h;exact⟨cu,rfl,wv cu z,rfl⟩
 cases d with
 |non=>
  cases (show Rep X.K cA U H .non v from rd);cases (show u=Value.none from ru);exact bt PySem.W.kitx_none trivial MP (λz=>nomatch z) (fin "NoneType" (by cases k<;>rfl))
 |bl b=>
  cases rd.bl;cases (show u=Value.bool b from ru);exact bt PySem.W.kitx_bool trivial MP (λz=>nomatch z) (fin "bool" (by cases k<;>rfl))
 |int i=>
  cases rd.int;obtain⟨t,z⟩:=(show ∃t,u=Value.int i t from ru);cases z;exact bt PySem.W.kitx_int trivial MP (λz=>nomatch z) (fin "int" (by cases k<;>rfl))
 |str y=>
  cases rd.str;obtain⟨t,z⟩:=(show ∃t,u=Value.str y t from ru);cases z;exact bt PySem.W.kitx_str trivial MP (λz=>nomatch z) (fin "str" (by cases k<;>rfl))
 |tup xs=>
  obtain⟨ad,vs,rfl,h1,h2⟩:=rd.tup;cases (show u=Value.ref ad from ru);obtain⟨its,_,ht,_⟩:=I.tuple h1.jR;obtain⟨o,q1,q2,_⟩:=ht;exact bt PySem.W.kitx_tuple ⟨o,q1,q2⟩ MP (λz=>nomatch z) (fin "tuple" (by cases k<;>rfl))
 |fl xs=>
  obtain⟨ad,vs,rfl,h1,h2⟩:=rd;cases (show u=Value.ref ad from ru);obtain⟨its,_,ht,_⟩:=I.list h1;obtain⟨o,q1,q2,_⟩:=ht.isList;exact bt PySem.W.kitx_list ⟨o,q1,q2⟩ MP (λz=>nomatch z) (fin "list" (by cases k<;>rfl))
 |fd ks vs=>
  cases (show Rep X.K cA U H (.fd ks vs) v from rd) with
  |@fd ad kk ii q1 n=>
   cases (show u=Value.ref ad from ru);obtain⟨_,_,vs,_,o,es',ep,g1,g2,_⟩:=(show aO X.prog X.w H sh.heap ad (.dK [(.inr kk,.int ii)]) from I.hok ad _ q1);exact bt PySem.W.kitx_dict ⟨o,g1,g2.1⟩ MP (λz=>nomatch z) (fin "dict" (by cases k<;>rfl))
 |ob c fs=>cases k<;>cases hi
 |any=>cases k<;>cases hi
 |exc c fs=>
  cases (show Rep X.K cA U H (.exc c fs) v from rd) with
  |@exc ad _ _ vs hx rs=>
   cases (show u=Value.ref ad from ru);have hI:∃ox od,PySem.W.InstAt sh.heap ad ox (cA.a c) od:=by
    obtain⟨_,⟨_,_,hx⟩|⟨dx,hx,_,hd,_⟩⟩:=hx
    ·obtain⟨⟨oe,vs,g1,g2,g3,g4⟩,_⟩:=(show aO X.prog X.w H sh.heap ad (fM ad (cA.a c) none) from I.hok ad _ hx);exact⟨oe,none,g1,g2,by unfold PySem.W.notCls;rw[g4],by rw[g3];trivial⟩
    ·obtain⟨⟨oe,vs,g1,g2,g3,g4⟩,_⟩:=(show aO X.prog X.w H sh.heap ad (fM ad (cA.a c) (some dx)) from I.hok ad _ hx);obtain⟨mA,⟨od,es,ep,e1,c1⟩,_⟩:=(show aO X.prog X.w H sh.heap dx (.xd _) from I.hok dx _ hd);exact⟨oe,some od,g1,g2,by unfold PySem.W.notCls;rw[g4],by rw[g3];exact e1⟩
   cases k with
   |cls e=>
    cases (show w=Value.ref (cA.a e) from Le);have z:some (ao c e)=some bb:=hi;cases z;exact PySem.W.kia_one (Qs ((Cs rfl).xc c)) I.mY hI ((Cs rfl).ao c e) (λz=>nomatch z) p8
   |k_=>
    cases (show w=Value.type "ValueError" from Le);have z:some true=some bb:=hi;cases z;exact PySem.W.kia_one (Qs ((Cs rfl).xc c)) I.mY hI ((Cs rfl).k_ c) (λz=>nomatch z) p8
   |_=>cases hi
theorem ziI(Cs:qR k=none->p7 X.K cA ao)(hg:Gl X "isinstance")(hm:X.mg "isinstance"=none)(ha:SE X cA ao aj F EX a A)(hk:PE X kx (tC (yp cA k)))(h1:starEach [a,kx] X.env=(false,eval a X.env)::starEach [kx] X.env:=by rfl)(h2:starEach [kx] X.env=(false,eval kx X.env)::starEach [] X.env:=by rfl)
  (bW:(backTo pos (starEach [kx] X.env)).any (·.1)=false:=by rfl):SE X cA ao aj F EX (.Call (.Name "isinstance" pp) [a,kx] [] pos) (.dJ A k):=PE.weak (PL (zfi (cA:=cA) (k:=k) Cs) hg hm PyProof.Rows.boot_isinstance (xX ha (xX hk Eu h2) h1) J0 J0 h1 bW) λZ H Q hh=>un hh λU J s hL hS h=>
 aY hL hS h λv H1 U1 d s1 x1 hL1 aD r1 h1=>by
  show ∃U d' v' bb,[v,yp cA k]=[v',yp cA k]/\_;obtain⟨dd,rv,h2⟩:=Fg aD r1 h1;obtain⟨bb,e,h3⟩:=Q6 h2;exact⟨U1,dd,v,bb,rfl,rv,e,h3.bA aD _ (.d (.bl bb))⟩
theorem zhA{j p1 j2 p3}:SE X cA ao aj F EX (.Dict [some (.Constant (.str k) j p1)] [.Constant (.int i) j2 p3] pos) (.pI k i):=PE.weak (zg0 (zfm HS HN zgf) rfl rfl MP (G4 rfl)) λZ H Q hh=>un hh λU J s hL hS h=>by
 intro p hp;refine⟨jz,[(.inr k,.int i)],rfl,G4 rfl,?_⟩;rw[OD];exact h U _ (bx.new hp).ext (hS.grow (bx.new hp)) _ (.d (.fd jz (hS.nz hp)))
end
section
variable {K:W.Frag}{cA:Cl}{U U':Ph}{H H':Hp}{s:S}
theorem TupAt.iV(e:∀a,U'.z a->U.z a){a:Addr}{vs:List V}(h:TupAt K U H a vs):TupAt K U' H a vs:=h.imp (λ⟨p,n⟩=>⟨p,λz=>n (e a z)⟩) id
theorem LstAt.iV(e:∀a,U'.z a->U.z a){a:Addr}{vs:List V}(h:LstAt K U H a vs):LstAt K U' H a vs:=h.imp (λ⟨p,n⟩=>⟨p,λz=>n (e a z)⟩) id
theorem ExcAt.iV(e:∀a,U'.z a->U.z a){a:Addr}{c:Nat}{vs:List V}(h:ExcAt cA U H a c vs):ExcAt cA U' H a c vs:=
 ⟨λz=>h.1 (e a z),h.2.imp id λ⟨dx,p,n,q,l⟩=>⟨dx,p,λz=>n (e dx z),q,l⟩⟩
theorem lD.iV(e:∀a,U'.z a->U.z a){a:Addr}{c:Nat}{vs:List V}(h:lD cA U H a c vs):lD cA U' H a c vs:=⟨λz=>h.1 (e a z),h.2⟩
theorem Rep.iV(e:∀a,U'.z a->U.z a){d:D}{v:V}(h:Rep K cA U H d v):Rep K cA U' H d v:=
 Rep.rec (motive_1:=λd v _=>Rep K cA U' H d v) (motive_2:=λd v _=>aC K cA U' H d v) .non .bl .int .str (λh _ i=>.tup (h.iV e) i) (λh _ i=>.fl (h.iV e) i) (λh n=>.fd h (λz=>n (e _ z))) (λh _ i=>.exc (h.iV e) i) (λh _ i=>.ob (h.iV e) i) .any .nil (λ_ _ i j=>.cons i j) h
theorem aC.iV(e:∀a,U'.z a->U.z a){d:List D}{v:List V}(h:aC K cA U H d v):aC K cA U' H d v:=
 aC.rec (motive_1:=λd v _=>Rep K cA U' H d v) (motive_2:=λd v _=>aC K cA U' H d v) .non .bl .int .str (λh _ i=>.tup (h.iV e) i) (λh _ i=>.fl (h.iV e) i) (λh n=>.fd h (λz=>n (e _ z))) (λh _ i=>.exc (h.iV e) i) (λh _ i=>.ob (h.iV e) i) .any .nil (λ_ _ i j=>.cons i j) h
theorem iU.iV(e:∀a,U'.z a->U.z a){a:Addr}{o:SO}(h:iU K cA U H a o):iU K cA U' H a o:=h.map (λ_ q=>q) λ_ _ r=>r.iV e
theorem Rep.zl{d:D}{v:V}(h:Rep K cA U H d v)(l:List Addr):Rep K cA ⟨U.z,l⟩ H d v:=Rep.iV (U:=U) (U':=⟨U.z,l⟩) (λ_ z=>z) h
theorem aC.zl{d:List D}{v:List V}(h:aC K cA U H d v)(l:List Addr):aC K cA ⟨U.z,l⟩ H d v:=aC.iV (U:=U) (U':=⟨U.z,l⟩) (λ_ z=>z) h
theorem iU.zl{a:Addr}{o:SO}(h:iU K cA U H a o)(l:List Addr):iU K cA ⟨U.z,l⟩ H a o:=iU.iV (U:=U) (U':=⟨U.z,l⟩) (λ_ z=>z) h
noncomputable def adr(l:List Addr):List Nat->List Addr
 |[]=>[]
 |n::r=>match l[n]? with
  |some a=>a::adr l r
  |none=>adr l r
theorem yq{l:List Addr}:∀{ns:List Nat} {a:Addr},a∈adr l ns->∃n∈ns,l[n]?=some a
 |[],a,h=>by cases h
 |n::r,a,h=>by
  unfold adr at h;cases e:l[n]? with
  |none=>
   simp only[e] at h;obtain⟨m,h1,h2⟩:=yq h;exact⟨m,fV _ h1,h2⟩
  |some b=>
   simp only[e] at h;rcases iQ.mp h with rfl|h
   ·exact⟨n,ju,e⟩
   ·obtain⟨m,h1,h2⟩:=yq h;exact⟨m,fV _ h1,h2⟩
theorem Ru{s:S}:∀{ns:List Nat} {s0:S} {i n:Nat},fQ s ns=some s0->ns[i]?=some n->s0[i]?=s[n]?/\∃o,s[n]?=some o
 |[],s0,i,n,h,e=>by simp at e
 |m::r,s0,i,n,h,e=>by
  unfold fQ at h;cases e1:s[m]? with
  |none=>simp only[e1] at h;cases h
  |some o=>
   cases e2:fQ s r with
   |none=>simp only[e1,e2] at h;cases h
   |some q=>
    simp only[e1,e2] at h;cases h;cases i with
    |zero=>simp at e;subst e;exact⟨by simp[e1],o,e1⟩
    |succ i=>simpa using Ru e2 (by simpa using e)
theorem Rw{s:S}:∀{ns:List Nat} {s0:S},fQ s ns=some s0->s0.length=ns.length
 |[],s0,h=>by cases h;rfl
 |m::r,s0,h=>by
  unfold fQ at h;cases e1:s[m]? with
  |none=>simp only[e1] at h;cases h
  |some o=>
   cases e2:fQ s r with
   |none=>simp only[e1,e2] at h;cases h
   |some q=>
    simp only[e1,e2] at h;cases h;rw[gJ,gJ,Rw e2]
theorem CK{l:List Addr}:∀{ns:List Nat} {i n:Nat},(∀n∈ns,∃a,l[n]?=some a)->ns[i]?=some n->(adr l ns)[i]?=l[n]?
 |[],i,n,_,e=>by simp at e
 |m::r,i,n,h,e=>by
  obtain⟨a,ha⟩:=h m ju;unfold adr;simp only[ha];cases i with
  |zero=>simp at e;subst e;simp[ha]
  |succ i=>simpa using CK (λn hn=>h n (fV _ hn)) (by simpa using e)
theorem CP{l:List Addr}:∀{ns:List Nat},(∀n∈ns,∃a,l[n]?=some a)->(adr l ns).length=ns.length
 |[],_=>rfl
 |m::r,h=>by
  obtain⟨a,ha⟩:=h m ju;unfold adr;simp only[ha];rw[gJ,gJ,CP (λn hn=>h n (fV _ hn))]
theorem Rx{l:List Addr}(hl:l.Nodup):∀{ns:List Nat},ns.Nodup->(∀n∈ns,∃a,l[n]?=some a)->(adr l ns).Nodup
 |[],_,_=>yW
 |m::r,hn,h=>by
  obtain⟨a,ha⟩:=h m ju;unfold adr;simp only[ha];obtain⟨h1,h2⟩:=qF.mp hn;refine qF.mpr ⟨λz=>?_,Rx hl h2 (λn hn=>h n (fV _ hn))⟩;obtain⟨n,q1,q2⟩:=yq z;have:m=n:=(Ho (gR.mp ha).1 hl).mp (ha.trans q2.symm);exact h1 (this▸q1)
theorem yr{s:S}:∀{ns:List Nat} {s1:S},(bV s ns s1).length=s.length
 |[],s1=>by cases s1<;>rfl
 |n::r,[]=>rfl
 |n::r,o::q=>by
  show (bV (s.set n o) r q).length=_;rw[yr,jP]
theorem Lf{s:S}:∀{ns:List Nat} {s1:S} {m:Nat},m∉ns->(bV s ns s1)[m]?=s[m]?
 |[],s1,m,_=>by cases s1<;>rfl
 |n::r,[],m,_=>rfl
 |n::r,o::q,m,h=>by
  show (bV (s.set n o) r q)[m]?=_;rw[Lf (λz=>h (fV _ z)),kj (λz=>h (by rw[z];exact ju))]
theorem Ry{s:S}:∀{ns:List Nat} {s1:S} {i m:Nat} {o:SO},ns.Nodup->ns[i]?=some m->s1[i]?=some o->m<s.length->(bV s ns s1)[m]?=some o
 |[],s1,i,m,o,_,e,_,_=>by simp at e
 |n::r,[],i,m,o,_,_,e,_=>by simp at e
 |n::r,q::qs,i,m,o,hn,e1,e2,hm=>by
  show (bV (s.set n q) r qs)[m]?=_;obtain⟨h1,h2⟩:=qF.mp hn;cases i with
  |zero=>
   simp at e1 e2;subst e1 e2;rw[Lf h1,tU hm]
  |succ i=>exact Ry h2 (by simpa using e1) (by simpa using e2) (by rw[jP];exact hm)
theorem zek:∀{xs:List Xv} {vs:List V} (l0:List Addr) (z:Addr->Prop) (k:Nat),bK K cA U H xs vs->U.z=z->(∀i n,(locs xs)[i]?=some n->l0[k+i]?=U.l[n]?)->bK K cA ⟨z,l0⟩ H (cC k xs) vs
 :=by
 intro xs vs l0 z k r0
 induction r0 generalizing k with
 |nil=>exact λ_ _=>.nil
 |@cons x v xs vs a q ih=>
  intro ez h;cases a with
  |d a=>exact .cons (.d (a.iV λb hb=>by rw[ez];exact hb)) (ih k ez h)
  |@l n a' a=>
   refine .cons (.l ?_) (ih (k+1) ez λi m e=>?_)
   ·have:=h 0 n rfl;rw[Nat.add_zero] at this;show l0[k]?=_;rw[this];exact a
   ·have:=h (i+1) m (by simpa [locs] using e);rw[<-this]
    congr 1
    lia
theorem zdy:∀{xs:List Xv} {vs:List V},bK K cA U H xs vs->∀n∈locs xs,∃a,U.l[n]?=some a
 :=by
 intro xs vs r0
 induction r0 with
 |nil=>exact λn h=>by cases h
 |cons a q ih=>
  intro n h;cases a with
  |d a=>exact ih n h
  |l a=>
   rcases iQ.mp h with rfl|h
   ·exact⟨_,a⟩
   ·exact ih n h
theorem RB{xs:List Xv}{U1:Ph}{s0 s1:S}(hS:aB K cA U H s)(hn:(locs xs).Nodup)(ht:∀n∈locs xs,∃a,U.l[n]?=some a)(x:Ext ⟨U.z,adr U.l (locs xs)⟩ H U1 H')(r1:aB K cA U1 H' s1) :
  Ext U H ⟨U1.z,U.l⟩ H'/\aB K cA ⟨U1.z,U.l⟩ H' (bV s (locs xs) s1):=by
 have ao:∀a∈adr U.l (locs xs),a∈U.l:=λa ha=>by obtain⟨n,_,q⟩:=yq ha;exact jh q
 obtain⟨r,er,hr⟩:=x.more;have er:U1.l=adr U.l (locs xs)++r:=er;refine⟨⟨⟨[],by simp,by simp⟩,λa h=>x.qO a h,λa h=>x.jZ a h,λa o h n=>x.frame a o h λz=>n (ao a z),x.stay⟩,?_⟩;refine⟨by rw[yr];exact hS.len,λn o a e1 e2=>?_,hS.uniq,λa ha=>x.qO a (hS.lz a ha),r1.zt⟩;have e2:U.l[n]?=some a:=e2;by_cases gb:n∈locs xs
 ·obtain⟨i,hi,ei⟩:=G9 gb;have ei:(locs xs)[i]?=some n:=by rw[gU hi,ei]
  have ha:(adr U.l (locs xs))[i]?=some a:=by rw[CK ht ei];exact e2
  have RD:U1.l[i]?=some a:=by rw[er,lM (gR.mp ha).1];exact ha
  have nj:i<s1.length:=by rw[<-r1.len];exact(gR.mp RD).1
  have hb:=Ry (s:=s) (s1:=s1) hn ei (gU nj) (by rw[<-hS.len];exact(gR.mp e2).1);rw[hb] at e1;cases e1;exact iU.zl (r1.obj i _ a (gU nj) RD) _
 ·rw[Lf gb] at e1;have Lg:a∉adr U.l (locs xs):=λz=>by
   obtain⟨m,q1,q2⟩:=yq z;have:n=m:=(Ho (gR.mp e2).1 hS.uniq).mp (e2.trans q2.symm);exact gb (this▸q1)
  exact(hS.obj n o a e1 e2).map (λ_ q=>x.frame a _ q Lg) λ_ _ r=>Rep.zl ((Rep.zl r _).mono x λa ha=>hS.lz a (ao a ha)) _
theorem zfB{F:List Xv->M Xv}{xs:List Xv}{vs:List V}{Q:VK}{EE:Nat->List D->Ph->Hp->Prop}(hS:aB K cA U H s)(r:bK K cA U H xs vs)
  (hE:∀c fs U1 U2 H',U1.z=U2.z->EE c fs U1 H'->EE c fs U2 H')
  (h:Run K cA (bM F xs) U H s (λx _ U' H'=>∀v,bf K cA U' H' x v->Q v H') (λc fs _ U' H'=>EE c fs U' H')) :
  ∃U0 s0,bK K cA U0 H (cC 0 xs) vs/\aB K cA U0 H s0/\Run K cA (F (cC 0 xs)) U0 H s0 (λx _ U' H'=>∀v,bf K cA U' H' x v->Q v H') (λc fs _ U' H'=>EE c fs U' H'):=by
 unfold Run bM at h;by_cases hn:(locs xs).Nodup
 ·simp only[if_pos hn] at h;have ht:=zdy r;have ao:∀a∈adr U.l (locs xs),a∈U.l:=λa ha=>by obtain⟨n,_,q⟩:=yq ha;exact jh q
  cases e0:fQ s (locs xs) with
  |none=>simp only[e0] at h
  |some s0=>
   simp only[e0] at h;refine⟨⟨U.z,adr U.l (locs xs)⟩,s0,zek _ _ 0 r rfl (λi n e=>by rw[Nat.zero_add];exact CK ht e),?_,?_⟩
   ·refine⟨by rw[Rw e0];exact CP ht,λi o a e1 e2=>?_,Rx hS.uniq hn ht,λa ha=>hS.lz a (ao a ha),hS.zt⟩;have e2:(adr U.l (locs xs))[i]?=some a:=e2;have hi:i<(locs xs).length:=by rw[<-CP ht];exact(gR.mp e2).1
    have ei:(locs xs)[i]?=some ((locs xs)[i]):=gU hi;rw[CK ht ei] at e2;rw[(Ru e0 ei).1] at e1;exact iU.zl (hS.obj _ o a e1 e2) _
   ·unfold Run;cases e1:F (cC 0 xs) s0 with
    |none=>simp only[e1] at h
    |some q=>
     obtain⟨q,s1⟩:=q;simp only[e1] at h;cases q with
     |er c fs=>
      intro U1 H' x r1;obtain⟨x2,r2⟩:=RB (s0:=s0) hS hn ht x r1;exact hE c fs ⟨U1.z,U.l⟩ U1 H' rfl (h ⟨U1.z,U.l⟩ H' x2 r2)
     |ok y=>
      intro U1 H' x r1 v rv;obtain⟨x2,r2⟩:=RB (s0:=s0) hS hn ht x r1;cases y with
      |d w=>
       cases rv with
       |d rv=>exact h ⟨U1.z,U.l⟩ H' x2 r2 v (.d (Rep.zl rv _))
      |l n=>
       cases rv with
       |@l _ a hl=>
        obtain⟨rr,er,hr⟩:=x.more;have er:U1.l=adr U.l (locs xs)++rr:=er;cases em:(locs xs)[n]? with
        |some m=>
         simp only[em] at h;refine h _ H' x2 r2 _ (.l ?_);show U.l[m]?=some a;have ha:(adr U.l (locs xs))[n]?=U.l[m]?:=CK ht em;have nj:n<(adr U.l (locs xs)).length:=by rw[CP ht];exact(gR.mp em).1
         rw[er,lM nj] at hl;rw[<-ha];exact hl
        |none=>
         simp only[em] at h;have hge:(adr U.l (locs xs)).length<=n:=by rw[CP ht];exact qW.mp em
         have RG:a∈rr:=by
          rw[er,mQ hge] at hl;exact jh hl
         have Lg:a∉U.l:=λz=>by
          obtain⟨o,eo⟩:=hS.zt a (hS.lz a z);rw[hr a RG] at eo;cases eo
         cases eo:s1[n]? with
         |none=>simp only[eo] at h
         |some o=>
          simp only[eo] at h;have ho:=r1.obj n o a eo hl;refine h ⟨U1.z,U.l++[a]⟩ H' ⟨⟨[a],rfl,by simpa using hr a RG⟩,x2.qO,x2.jZ,x2.frame,x2.stay⟩ ?_ _ (.l (by show (U.l++[a])[s.length]?=_;rw[<-hS.len];simp));refine⟨by show (U.l++[a]).length=_;rw[jt,jt,yr,hS.len];rfl,λm o' a' e1 e2=>?_,?_,λb hb=>?_,r1.zt⟩
          ·have e2:(U.l++[a])[m]?=some a':=e2;by_cases hm:m<s.length
           ·rw[lM (by rw[yr];exact hm)] at e1;rw[lM (by rw[hS.len];exact hm)] at e2;exact iU.zl (r2.obj m o' a' e1 e2) _
           ·have Ai:m=s.length:=by
             have z:=(gR.mp e2).1;rw[jt,hS.len] at z;simp at z
             lia
            subst Ai;rw[mQ (by rw[yr];exact bY _)] at e1;rw[mQ (by rw[hS.len];exact bY _)] at e2;simp[yr] at e1;simp[hS.len] at e2;subst e1 e2;exact iU.zl ho _
          ·show (U.l++[a]).Nodup;rw[Hl];refine⟨hS.uniq,by simp,λb hb c hc e=>?_⟩;simp at hc;subst hc e;exact Lg hb
          ·have hb:b∈U.l++[a]:=hb;rcases mR.mp hb with z|z
           ·exact x2.qO b (hS.lz b z)
           ·simp at z;subst z;exact r1.lz _ (jh hl)
 ·simp only[if_neg hn] at h
end
section
variable {X:Cx}{cA:Cl}{ao:Nat->Nat->Bool}{aj:Bool}{F:Fn}{EX:XS}{a b c d e o:Expr}{A B C Dd E' O:E}{pos pp p2 apos cpos:Pos}{es:List Expr}{Xs:Es}{fz:Bool}{p:Pr}{x:Str}{U:Ph}{H:Hp}{s:S}
theorem zew{K:W.Frag}{β:Type}{x:Xv}{v:V}{k:Nat×List D->M β}{P:β->S->Ph->Hp->Prop}{Ee:Nat->List D->S->Ph->Hp->Prop}(hS:aB K cA U H s)(r:bf K cA U H x v)(h:Run K cA (M.bd (bU x) k) U H s P Ee) :
  ∃n ad xs vs,x=.l n/\v=.ref ad/\s[n]?=some (.lst xs)/\U.l[n]?=some ad/\H ad=some (.lst vs)/\aC K cA U H xs vs/\Run K cA (k (n,xs)) U H s P Ee:=by
 cases r with
 |d _=>exact h.elim
 |@l n ad hl=>
  unfold Run M.bd bU at h;dsimp only at h;cases e:s[n]? with
  |none=>rw[e] at h;exact h.elim
  |some o=>
   rw[e] at h;cases o with
   |lst xs=>
    obtain⟨vs,q1,q2⟩:=hS.obj n _ _ e hl;exact⟨n,ad,xs,vs,rfl,rfl,e,hl,q1,q2,h⟩
   |_=>exact h.elim
noncomputable def nU(K:W.Frag)(cA:Cl)(m:List Xv->M Xv):Sp:=λvs H Q E=>∃U xs s,bK K cA U H xs vs/\aB K cA U H s/\Run K cA (m xs) U H s (λd _ U' H'=>∀v,bf K cA U' H' d v->Q v H') (λc fs _ U' H'=>∀dx,iI K cA U' H' c fs dx->E (.ref (cA.a c)) dx H')
theorem zhd{K:W.Frag}{U1 U2:Ph}{c:Nat}{fs:List D}{dx:Option Addr}(e:U1.z=U2.z)(h:iI K cA U2 H c fs dx):iI K cA U1 H c fs dx:=h.imp id λ⟨d,vs,a,b,c,l,r⟩=>⟨d,vs,a,by rw[e];exact b,c,l,r.iV λ_ z=>by rw[<-e];exact z⟩
theorem zhi{cm:Bool}{k f:Nat}{fa:Addr}{fd:FuncData}{ps:List Str}(Fo:dw X.prog X.w X.K X.mg X.base (je X.prog X.w) cm k fa fd ps (nU X.K cA (F f)))(m5:cm=true->X.aj=true)(hr:bI k X.A)(hg:Gl X x)(hm:X.mg x=some (.ref fa))(hk:PySem.W.keepIn X.K (.ref fa)=true)(hb:Binds X.K fd ps [])(R:Raises X EX)
  (ha:SA X cA ao aj F EX (e::es) Xs) (iw:(x==("__debug__" : Str))=false:=by decide) (he:starEach (e::es) X.env=(false,eval e X.env)::starEach es X.env:=by rfl) (bW:(backTo pos (starEach es X.env)).any (·.1)=false:=by rfl) :
  SE X cA ao aj F EX (.Call (.Name x pp) (e::es) [] pos) (.call f Xs):=PE.weak (YG Fo m5 hr hg hm hk hb R ha iw he bW) λZ H Q hh=>un hh λU J s hL hS h=>
 pW hL hS h λvs H1 U1 ds s1 x1 hL1 aD r1 h1=>by
  obtain⟨U0,s0,a1,a2,a3⟩:=zfB (EE:=λc fs U' H'=>∀dx,iI X.K cA U' H' c fs dx->EX Z (.ref (cA.a c)) dx H') aD r1 (λc fs U1 U2 H' ez z dx q=>z dx (zhd ez q)) h1;exact⟨U0,_,s0,a1,a2,a3⟩
end
section
variable {K:W.Frag}{cA:Cl}{U U':Ph}{H H':Hp}{s:S}
def dN(U:Ph)(H H':Hp):Prop:=∀a o,H a=some o->¬U.z a->H' a=some o
theorem Rep.out(x:dN U H H'){d:D}{v:V}(h:Rep K cA U H d v):Rep K cA U H' d v:=
 Rep.rec (motive_1:=λd v _=>Rep K cA U H' d v) (motive_2:=λd v _=>aC K cA U H' d v) .non .bl .int .str
  (λh _ r=>.tup (h.imp (λz=>⟨z.1.imp (λq=>x _ _ q z.2) λw=>w.elim λo q=>⟨o,x _ _ q z.2⟩,z.2⟩) id) r)
  (λh _ r=>.fl (h.imp (λz=>⟨z.1.imp (λq=>x _ _ q z.2) λw=>w.elim λo q=>⟨o,x _ _ q z.2⟩,z.2⟩) id) r)
  (λh n=>.fd (x _ _ h n) n)
  (λh _ r=>.exc ⟨h.1,h.2.imp (λz=>z.elim λa z=>z.elim λb q=>⟨a,b,x _ _ q h.1⟩) λz=>z.elim λdx z=>⟨dx,x _ _ z.1 h.1,z.2.1,x _ _ z.2.2.1 z.2.1,z.2.2.2⟩⟩ r)
  (λh _ r=>.ob ⟨h.1,h.2.elim λdx z=>⟨dx,x _ _ z.1 h.1,z.2⟩⟩ r) .any .nil (λ_ _ a b=>.cons a b) h
theorem aC.out(x:dN U H H'){ds:List D}{vs:List V}(h:aC K cA U H ds vs):aC K cA U H' ds vs:=
 aC.rec (motive_1:=λ_ _ _=>True) (motive_2:=λd v _=>aC K cA U H' d v) trivial (λ_=>trivial) (λ_=>trivial) (λ_=>trivial) (λ_ _ _=>trivial) (λ_ _ _=>trivial) (λ_ _=>trivial) (λ_ _ _=>trivial) (λ_ _ _=>trivial) (λ_=>trivial) .nil (λh _ _ r=>.cons (h.out x) r) h
theorem dN.refl:dN U H H:=λa o e _=>e
structure mD(K:W.Frag)(cA:Cl)(c:Src)(U:Ph)(H:Hp)(bG:L2.It):Prop where
 stop:∀U' H₁ H' s' i,Ext U H U' H₁->dN U' H₁ H'->aB K cA U' H' s'->c.at i s'=some none->bG.stop i H'
 go:∀U' H₁ H' s' i x,Ext U H U' H₁->dN U' H₁ H'->aB K cA U' H' s'->c.at i s'=some (some x)->bG.go i H'
 vB:∀U' H₁ H' s' i x v H2,Ext U H U' H₁->dN U' H₁ H'->aB K cA U' H' s'->c.at i s'=some (some x)->bG.vB i H' v H2->bx H' H2/\Rep K cA U' H2 x v
theorem LstAt.later(hz:∀a∈U.l,U.z a)(h:LstAt K U H a vs)(x:Ext U H U' H₁)(o:dN U' H₁ H'):LstAt K U' H' a vs:=
 (h.mono x hz).imp (λ⟨p,n⟩=>⟨p.imp (λq=>o _ _ q n) λ⟨w,q⟩=>⟨w,o _ _ q n⟩,n⟩) id
theorem TupAt.later(hz:∀a∈U.l,U.z a)(h:TupAt K U H a vs)(x:Ext U H U' H₁)(o:dN U' H₁ H'):TupAt K U' H' a vs:=
 (h.mono x hz).imp (λ⟨p,n⟩=>⟨p.imp (λq=>o _ _ q n) λ⟨w,q⟩=>⟨w,o _ _ q n⟩,n⟩) id
theorem mD.list(hz:∀a∈U.l,U.z a)(h:LstAt K U H a vs)(r:aC K cA U H xs vs):mD K cA (.fix xs) U H (El K a):=by
 refine⟨λU' H₁ H' s' i x o hS e=>⟨vs,(h.later hz x o).sO,?_⟩,λU' H₁ H' s' i d x o hS e=>?_,λU' H₁ H' s' i d v H2 x o hS e y=>?_⟩
 ·have e:xs[i]?=none:=dh e;exact qW.mp ((r.mono x hz).none e)
 ·have e:xs[i]?=some d:=dh e;obtain⟨v,q,_⟩:=r.get e;exact⟨vs,v,(h.later hz x o).sO,q⟩
 ·have e:xs[i]?=some d:=dh e;obtain⟨rfl,y⟩:=y;obtain⟨w,q,oU⟩:=((r.mono x hz).out o).get e;have:=y vs (h.later hz x o).sO;rw[q] at this;cases this;exact⟨bx.refl,oU⟩
theorem mD.tuple(hz:∀a∈U.l,U.z a)(h:TupAt K U H a vs)(r:aC K cA U H xs vs):mD K cA (.fix xs) U H (Ik K a):=by
 refine⟨λU' H₁ H' s' i x o hS e=>⟨vs,(h.later hz x o).jR,?_⟩,λU' H₁ H' s' i d x o hS e=>?_,λU' H₁ H' s' i d v H2 x o hS e y=>?_⟩
 ·have e:xs[i]?=none:=dh e;exact qW.mp ((r.mono x hz).none e)
 ·have e:xs[i]?=some d:=dh e;obtain⟨v,q,_⟩:=r.get e;exact⟨vs,v,(h.later hz x o).jR,q⟩
 ·have e:xs[i]?=some d:=dh e;obtain⟨rfl,y⟩:=y;obtain⟨w,q,oU⟩:=((r.mono x hz).out o).get e;have:=y vs (h.later hz x o).jR;rw[q] at this;cases this;exact⟨bx.refl,oU⟩
theorem Lh(h:(Src.live n).at i s=some o):∃xs,s[n]?=some (.lst xs)/\xs[i]?=o:=by
 unfold Src.at at h;dsimp only at h;cases e:s[n]? with
 |none=>rw[e] at h;cases h
 |some ob=>
  rw[e] at h;cases ob with
  |lst xs=>exact⟨xs,rfl,dh h⟩
  |_=>cases h
theorem mD.live(h:U.l[n]?=some a):mD K cA (.live n) U H (El K a):=by
 refine⟨λU' H₁ H' s' i x o hS e=>?_,λU' H₁ H' s' i d x o hS e=>?_,λU' H₁ H' s' i d v H2 x o hS e y=>?_⟩
 ·obtain⟨xs,e1,e2⟩:=Lh e;obtain⟨vs,q1,q2⟩:=hS.obj n _ a e1 (x.get h);exact⟨vs,dU.of q1,qW.mp (q2.none e2)⟩
 ·obtain⟨xs,e1,e2⟩:=Lh e;obtain⟨vs,q1,q2⟩:=hS.obj n _ a e1 (x.get h);obtain⟨v,q3,_⟩:=q2.get e2;exact⟨vs,v,dU.of q1,q3⟩
 ·obtain⟨xs,e1,e2⟩:=Lh e;obtain⟨vs,q1,q2⟩:=hS.obj n _ a e1 (x.get h);obtain⟨w,q3,oU⟩:=q2.get e2;obtain⟨rfl,y⟩:=y;have:=y vs (dU.of q1);rw[q3] at this;cases this;exact⟨bx.refl,oU⟩
theorem Li:(fZ a b)[i]?=if i<(b-a).toNat then some (.int (a+i)) else none:=by
 unfold fZ;rw[nF,List.getElem?_range']
where
 List.getElem?_range' {n i:Nat}:Option.map (λ(i:Nat)=>D.int (a+i)) (List.range n)[i]?=if i<n then some (.int (a+i)) else none:=by
  by_cases h:i<n
  ·rw[if_pos h,List.getElem?_range h];rfl
  ·rw[if_neg h,Dv (by simp;lia)];rfl
theorem mD.range{a b:Int}:mD K cA (.fix (fZ a b)) U H (zK a (b-a).toNat):=by
 refine⟨λU' H₁ H' s' i x o hS e=>?_,λU' H₁ H' s' i d x o hS e=>?_,λU' H₁ H' s' i d v H2 x o hS e y=>?_⟩
 ·have e:(fZ a b)[i]?=none:=dh e;rw[Li] at e;split at e
  ·cases e
  ·exact yS (by assumption)
 ·have e:(fZ a b)[i]?=some d:=dh e;rw[Li] at e;split at e
  ·assumption
  ·cases e
 ·have e:(fZ a b)[i]?=some d:=dh e;rw[Li] at e;split at e
  ·cases e;obtain⟨rfl,rfl⟩:=y;exact⟨bx.refl,.int _⟩
  ·cases e
end
noncomputable def Lj(K:W.Frag)(te:TE):TI:=λZ H R=>te Z H λv H1=>∃a,v=.ref a/\(((∃xs,dU K H1 a xs)/\R (El K a) H1)\/((∃xs,iR K H1 a xs)/\R (Ik K a) H1))
theorem zi6(he:PE X l te):PI X tg l (Lj X.K te):=by
 intro ak s Z H R I h;refine aP (he ak s Z H _ I h) λv s1 hx=>zj hx λx H1 I1 r1 a e q=>?_;subst e;cases r1;rcases q with ⟨⟨xs,hq⟩,q⟩|⟨⟨xs,hq⟩,q⟩
 ·obtain⟨its,rv,p,hz⟩:=I1.list hq;refine wpAny_pyIter_list p.isList ?_;refine⟨s1.heap.objs.size,[s1.heap.objs.size],_,_,H1,rfl,I1.kept (t':=s1.toks) λb o e=>cX _ e,WD a _,⟨_,ji _ rfl,rfl,rfl⟩,λb hb=>?_,q⟩;have e:b=s1.heap.objs.size:=by simpa using hb
  subst e;exact I1.vC (bY _) (I1.hok.fresh (bY _))
 ·obtain⟨its,rv,p,hz⟩:=I1.tuple hq;refine wpAny_pyIter_tuple (show s1.heap.IsTuple a its.toArray from p) ?_;refine⟨s1.heap.objs.size,[s1.heap.objs.size],_,_,H1,rfl,I1.kept (t':=s1.toks) λb o e=>cX _ e,WK a _,⟨_,ji _ rfl,rfl,rfl⟩,λb hb=>?_,q⟩;have e:b=s1.heap.objs.size:=by simpa using hb
  subst e;exact I1.vC (bY _) (I1.hok.fresh (bY _))
section
variable {X:Cx}{cA:Cl}{ao:Nat->Nat->Bool}{aj:Bool}{F:Fn}{EX:XS}{a b tg:Expr}{A B:E}{pos pp:Pos}
noncomputable def tI(K:W.Frag)(cA:Cl)(EX:XS)(m:Vs->M (Src×Nat)):TI:=λZ H R=>∃U J s,aU K cA U H Z J/\aB K cA U H s/\Run K cA (m J) U H s (λcn _ U1 H1=>∀bG,mD K cA cn.1 U1 H1 bG->R bG H1) (eX K cA EX Z)
def SI(X:Cx)(cA:Cl)(ao:Nat->Nat->Bool)(aj:Bool)(F:Fn)(EX:XS)(tg iter:Expr)(w:Wk):Prop:=PI X tg iter (tI X.K cA EX (j8 ao aj F w))
theorem PI.weak{iter:Expr}{t t':TI}(h:PI X tg iter t)(f:∀Z H Q,t' Z H Q->t Z H Q):PI X tg iter t':=λak s Z H Q I q=>h ak s Z H Q I (f Z H Q q)
theorem zh1(ha:SE X cA ao aj F EX a A):SI X cA ao aj F EX tg a (.seq A):=PI.weak (zi6 ha) λZ H R hh=>un hh λU J s hL hS h=>by
 refine aY hL hS h λv H1 U1 d s1 x1 hL1 aD r1 h1=>?_;cases r1 with
 |@l n ad hl=>
  unfold Run src at h1;dsimp only at h1;cases e:s1[n]? with
  |none=>rw[e] at h1;exact h1.elim
  |some o=>
   rw[e] at h1;cases o with
   |lst xs=>
    obtain⟨vs,q1,q2⟩:=aD.obj n _ _ e hl;exact⟨ad,rfl,.inl ⟨⟨vs,dU.of q1⟩,h1 U1 H1 Ext.refl aD _ (mD.live hl)⟩⟩
   |_=>exact h1.elim
 |d r1=>
  cases r1 with
  |tup q r=>exact⟨_,rfl,.inr ⟨⟨_,q.jR⟩,h1 U1 H1 Ext.refl aD _ (mD.tuple aD.lz q r)⟩⟩
  |fl q r=>exact⟨_,rfl,.inl ⟨⟨_,q.sO⟩,h1 U1 H1 Ext.refl aD _ (mD.list aD.lz q r)⟩⟩
  |_=>exact h1.elim
theorem RJ{i:Int}(h:eF i=true) : -(2^62)<=i/\i<2^62:=by
 unfold eF at h;rw[bZ,yP,yP] at h;exact⟨by lia,h.2⟩
theorem RK{K:W.Frag}{U:Ph}{H:Hp}{s:S}{i j:Int}{P:Src×Nat->S->Ph->Hp->Prop}{Ee:Nat->List D->S->Ph->Hp->Prop}(hS:aB K cA U H s)(h:Run K cA (if (eF i&&eF j)=true then M.ret (Src.fix (fZ i j),(fZ i j).length) else M.no) U H s P Ee):(-(2^62)<=i/\i<2^62/\-(2^62)<=j/\j<2^62)/\P (.fix (fZ i j),(fZ i j).length) s U H:=by
 by_cases hk:(eF i&&eF j)=true
 ·rw[if_pos hk] at h;rw[bZ] at hk;obtain⟨a,b⟩:=RJ hk.1;obtain⟨c,d⟩:=RJ hk.2;exact⟨⟨a,b,c,d⟩,h.bA hS⟩
 ·rw[if_neg hk] at h;exact h.elim
theorem zkw(wH:Gl X "range")(hmg:X.mg "range"=none)(ha:SE X cA ao aj F EX a A)(hb:SE X cA ao aj F EX b B)(h1:starEach [a,b] X.env=(false,eval a X.env)::starEach [b] X.env)(h2:starEach [b] X.env=(false,eval b X.env)::starEach [] X.env) :
  SI X cA ao aj F EX tg (.Call (.Name "range" pp) [a,b] [] pos) (.rg A B):=PI.weak (WQ wH hmg (xX ha (xX hb Eu h2) h1) (by rw[h1,h2];rfl) (by rw[h2];rfl)) λZ H R hh=>un hh λU J s hL hS h=>by
 refine aY hL hS h λx H1 U1 d1 s1 x1 hL1 aD r1 h1=>aY hL1 aD h1 λy H2 U2 d2 s2 x2 hL2 aM r2 h2=>?_;obtain⟨i,_,e1,h3⟩:=Cj (r1.mono x2 aD.lz) h2;obtain⟨j,_,e2,h4⟩:=Cj r2 h3;obtain⟨hz,q⟩:=RK aM h4;subst e1 e2;exact⟨i,j,rfl,hz,q _ mD.range⟩
theorem zjH(wH:Gl X "range")(hmg:X.mg "range"=none)(hb:SE X cA ao aj F EX b B)(h2:starEach [b] X.env=(false,eval b X.env)::starEach [] X.env) :
  SI X cA ao aj F EX tg (.Call (.Name "range" pp) [b] [] pos) (.rg (.c (.int 0)) B):=PI.weak (WM wH hmg (xX hb Eu h2) (by rw[h2];rfl)) λZ H R hh=>un hh λU J s hL hS h=>by
 have h:Run X.K cA (M.bd (ev ao aj F B J) λy=>M.bd (int (.d (.int 0))) λi=>M.bd (int y) λj=>if (eF i&&eF j)=true then M.ret (Src.fix (fZ i j),(fZ i j).length) else M.no) U H s _ _:=h;refine aY hL hS h λy H2 U2 d2 s2 x2 hL2 aM r2 h2=>?_;obtain⟨j,_,e2,h4⟩:=Cj r2 (show Run X.K cA (M.bd (int d2) λj=>if (eF 0&&eF j)=true then M.ret (Src.fix (fZ 0 j),(fZ 0 j).length) else M.no) U2 H2 s2 _ _ from h2);obtain⟨hz,q⟩:=RK aM h4;subst e2;refine⟨j,rfl,hz.2.2.1,hz.2.2.2,q _ ?_⟩;have:=mD.range (K:=X.K) (cA:=cA) (U:=U2) (H:=H2) (a:=0) (b:=j);rw[Int.sub_zero] at this;exact this
end
section
variable {K:W.Frag}{cA:Cl}{U U' U0:Ph}{H H' H0:Hp}{s:S}
theorem Run.bd0(x:Ext U0 H0 U H)(h:Run K cA (M.bd m k) U0 H0 s P Ee) :
  Run K cA m U H s (λa s1 U1 H1=>Ext U H U1 H1/\aB K cA U1 H1 s1/\Run K cA (k a) U0 H0 s1 P Ee) Ee:=by
 unfold Run M.bd at *;cases e:m s with
 |none=>rw[e] at h;exact h
 |some r=>
  obtain⟨r,s1⟩:=r;rw[e] at h;cases r with
  |er c f=>exact λU1 H1 x1 r1=>h U1 H1 (x.trans x1) r1
  |ok a=>exact λU1 H1 x1 r1=>⟨x1,r1,h⟩
theorem RL{α β:Type}{m:M α}{k:α->M β}{P:β->S->Ph->Hp->Prop}{Ee Ee':Nat->List D->S->Ph->Hp->Prop}(x:Ext U0 H0 U H)(h:Run K cA (M.bd (M.qt m) k) U0 H0 s P Ee) :
  Run K cA m U H s (λa s1 U1 H1=>Ext U H U1 H1/\aB K cA U1 H1 s1/\Run K cA (k a) U0 H0 s1 P Ee) Ee':=by
 have h2:=h.bd0 x;unfold Run at h2 ⊢;unfold M.qt at h2;cases e:m s with
 |none=>rw[e] at h2;exact h2
 |some r=>
  obtain⟨r,s1⟩:=r;rw[e] at h2;cases r with
  |ok a=>exact h2
  |er c f=>exact h2.elim
theorem zhR{α β:Type}{m m':M α}{k:α->M β}{P:β->S->Ph->Hp->Prop}{Ee:Nat->List D->S->Ph->Hp->Prop}(e:m s=m' s)(h:Run K cA (M.bd m k) U H s P Ee):Run K cA (M.bd m' k) U H s P Ee:=by
 unfold Run M.bd at *;rw[<-e];exact h
end
section
variable {X:Cx}{cA:Cl}{ao:Nat->Nat->Bool}{aj:Bool}{F:Fn}{EX:XS}{elt iter tg:Expr}{A B:E}{pos p:Pos}{ifs:List Expr}{scope:Scope}{N:List Str}{cond:Eo}{fr cP:List Nat}{many:Nat}{fz:Bool}{w:Wk}
def Fq(X:Cx)(cA:Cl)(ao:Nat->Nat->Bool)(aj:Bool)(F:Fn)(EX:XS)(ifs:List Expr)(m:Eo):Prop:=Jy X ifs (sS X.K cA EX (nQ ao aj F m))
theorem ziE:Fq X cA ao aj F EX [] .no:=λak s Z H Q I ⟨U,J,st,hL,hS,h⟩=>Zk ak s Z H Q I (h.bA hS)
structure jK(K:W.Frag)(cA:Cl)(g:TG)(cP:List Nat):Prop where
 run:∀(U:Ph) (H:Hp) (s:S) (Z:L2.St) (J J':Vs) (d:D) (v:V) (Q:L2.St->Hp->Prop),aU K cA U H Z J->aB K cA U H s->Rep K cA U H d v->iH cP d J=some J'->
  (∀Z',aU K cA U H Z' J'->Z'.length=Z.length->(∀i,i∉cP->Z'[i]?=Z[i]?)->Q Z' H)->g v Z H Q
theorem Ft{K:W.Frag}(i:Nat):jK K cA (cB i) [i] where
 run:=λU H s Z J J' d v Q hL hS r e k=>by
  cases e;exact k _ (hL.set (.d r)) (jP ..) λj hj=>kj (by simpa using λz=>hj (by simp[z]))
theorem zgg{K:W.Frag}(i j:Nat):jK K cA (oN K 2 (dZ (cB i) (dZ (cB j) oM))) [i,j] where
 run:=λU H s Z J J' d v Q hL hS r e k=>by
  have e:(f9 d).bind (λds=>cU [i,j] (ds.map Xv.d) J)=some J':=e;obtain⟨ds,e1,e2⟩:=kh.mp e;cases r with
  |@tup ad xs vs h1 h2=>
   have e1:xs=ds:=dh e1;subst e1;cases h2 with
   |nil=>cases e2
   |cons r1 t1=>
    cases t1 with
    |nil=>cases e2
    |cons r2 t2=>
     cases t2 with
     |nil=>
      have e2:=dh e2;subst e2;refine⟨ad,_,rfl,h1.jR,rfl,_,_,rfl,_,_,rfl,rfl,k _ ((hL.set (.d r1)).set (.d r2)) (by rw[jP,jP]) λm hm=>?_⟩;rw[kj (λz=>hm (by simp[z])),kj (λz=>hm (by simp[z]))]
     |cons r3 t3=>cases e2
  |_=>cases e1
noncomputable def bT(many:Nat)(fr:List Nat)(Z:L2.St):L2.St:=List.replicate many none++fr.map λj=>(Z[j]?).join
theorem zgZ{U:Ph}{H:Hp}{Z:L2.St}{J:Vs}(hL:aU X.K cA U H Z J){Z':L2.St}(hl:Z'.length=many+fr.length)(hf:∀(i:Nat) j v,fr[i]?=some j->Z[j]?=some (some v)->Z'[many+i]?=some (some v)):aU X.K cA U H Z' (blk many fr J):=by
 refine⟨by unfold blk;simp[hl],λi d e=>?_⟩;unfold blk at e;by_cases hi:i<many
 ·rw[lM (by simpa using hi),Ds,if_pos hi] at e;cases e
 ·rw[mQ (by simpa using yS hi),Du,nF] at e;cases z:fr[i-many]? with
  |none=>rw[z] at e;cases e
  |some j=>
   rw[z] at e;have e3:J[j]?.join=some d:=by simpa using e
   obtain⟨v,q1,q2⟩:=hL.2 j d (K5 e3);refine⟨v,?_,q2⟩;have:=hf (i-many) j v z q1;rw[show many+(i-many)=i by omega] at this;exact this
structure gj(U:Ph)(H:Hp)(Dd:Addr)(o:HO):Prop where
 at_:H Dd=some o
 nl:Dd∉U.l
 z:U.z Dd
abbrev Keep(U:Ph)(H:Hp)(Dd:Addr)(vs:List V):Prop:=gj U H Dd (.lst vs)
theorem gj.mono{U U':Ph}{H H':Hp}{Dd:Addr}{o:HO}(x:Ext U H U' H')(k:gj U H Dd o):gj U' H' Dd o:=by
 refine⟨x.frame _ _ k.at_ k.nl,λz=>?_,x.qO _ k.z⟩;obtain⟨r,er,hr⟩:=x.more;rw[er] at z;rcases mR.mp z with z|z
 ·exact k.nl z
 ·have:=hr _ z;rw[k.at_] at this;cases this
theorem gj.ext{U:Ph}{H:Hp}{Dd:Addr}{o u:HO}(k:gj U H Dd o):(∀a o,H a=some o->¬U.z a->(upd H Dd u) a=some o)/\gj U (upd H Dd u) Dd u:=
 ⟨λa o e n=>by rw[dB (λz=>n (by rw[z];exact k.z))];exact e,jz,k.nl,k.z⟩
end
section
variable {K:W.Frag}{cA:Cl}{U U':Ph}{H H':Hp}
theorem aB.keep{s:S}{Dd:Addr}{o u:HO}(h:aB K cA U H s)(k:gj U H Dd o):aB K cA U (upd H Dd u) s:=by
 have x:dN U H (upd H Dd u):=k.ext.1;refine⟨h.len,λn o a e1 e2=>?_,h.uniq,h.lz,λa z=>?_⟩
 ·have na:a≠Dd:=λy=>k.nl (by rw[<-y];exact jh e2);exact(h.obj n o a e1 e2).map (λ_ q=>by rw[dB na];exact q) λ_ _ r=>r.out x
 ·by_cases e:a=Dd
  ·subst e;exact⟨_,jz⟩
  ·obtain⟨o,q⟩:=h.zt a z;exact⟨o,by rw[dB e];exact q⟩
theorem Ext.keep{U1:Ph}{H1:Hp}{Dd:Addr}{vs:List V}{u:HO}(x:Ext U1 H1 U H)(hD:H1 Dd=none):Ext U1 H1 U (upd H Dd u):=by
 refine⟨x.more,x.qO,x.jZ,λa o h n=>?_,λa o h=>?_⟩
 ·rw[dB (λz=>by rw[z,hD] at h;cases h)];exact x.frame a o h n
 ·rw[dB (λz=>by rw[z,hD] at h;cases h)];exact x.stay a o h
theorem zdK{U1:Ph}{H1:Hp}{s':S}{fz:Bool}{acc:List D}{vs:List V}{Dd:Addr}{Q:VK}{Ee:Nat->List D->S->Ph->Hp->Prop}(h:Run K cA (newL fz acc) U1 H1 s' (λd _ U' H'=>∀v,bf K cA U' H' d v->Q v H') Ee)
  (x2:Ext U1 H1 U' H') (hD:H1 Dd=none) (nz:¬U1.z Dd) (aM:aB K cA U' H' s') (k:Keep U' H' Dd vs) (uJ:aC K cA U' H' acc vs):Q (.ref Dd) H':=by
 cases fz with
 |true=>
  have zq:∀a,(λa=>U'.z a/\a≠Dd) a->U'.z a:=λa z=>z.1;refine h ⟨λa=>U'.z a/\a≠Dd,U'.l⟩ H' ⟨x2.more,λa z=>⟨x2.qO a z,λe=>nz (by rw[<-e];exact z)⟩,λa z=>x2.jZ a z.1,x2.frame,x2.stay⟩ ?_ _ (.d (.fl (.inl ⟨.inl k.at_,λz=>z.2 rfl⟩) (aC.iV (U:=U') zq uJ)));refine⟨aM.len,λn o a e1 e2=>iU.iV (U:=U') zq (aM.obj n o a e1 e2),aM.uniq,λa ha=>⟨aM.lz a ha,λe=>k.nl (by rw[<-e];exact ha)⟩,λa z=>aM.zt a z.1⟩
 |false=>
  obtain⟨r,er,hr⟩:=x2.more;refine h ⟨U'.z,U'.l++[Dd]⟩ H' ⟨⟨r++[Dd],by show U'.l++[Dd]=_;rw[er,Hj],λb hb=>?_⟩,x2.qO,x2.jZ,x2.frame,x2.stay⟩ ?_ _ (.l (by show (U'.l++[Dd])[s'.length]?=_;rw[<-aM.len];simp))
  ·rcases mR.mp hb with z|z
   ·exact hr b z
   ·simp at z;subst z;exact hD
  ·refine⟨by show (U'.l++[Dd]).length=_;rw[jt,jt,aM.len];rfl,λm o' a' e1 e2=>?_,?_,λb hb=>?_,aM.zt⟩
   ·have e2:(U'.l++[Dd])[m]?=some a':=e2;by_cases hm:m<s'.length
    ·rw[lM hm] at e1;rw[lM (by rw[aM.len];exact hm)] at e2;exact iU.zl (aM.obj m o' a' e1 e2) _
    ·have Ai:m=s'.length:=by
      have z:=(gR.mp e2).1;rw[jt,aM.len] at z;simp at z;omega
     subst Ai;rw[mQ (bY _)] at e1;rw[mQ (by rw[aM.len];exact bY _)] at e2;simp at e1;simp[aM.len] at e2;subst e1 e2;exact⟨vs,k.at_,aC.zl uJ _⟩
   ·show (U'.l++[Dd]).Nodup;rw[Hl];refine⟨aM.uniq,by simp,λb hb c hc e=>?_⟩;simp at hc;subst hc e;exact k.nl hb
   ·have hb:b∈U'.l++[Dd]:=hb;rcases mR.mp hb with z|z
    ·exact aM.lz b z
    ·simp at z;subst z;exact k.z
noncomputable def Ph.mark(U:Ph)(p:Addr):Ph:=⟨λa=>U.z a\/a=p,U.l⟩
theorem zdB{s:S}{p:Addr}(hS:aB K cA U H s)(hp:H p=none):Ext U H (U.mark p) (upd H p (.lst []))/\aB K cA (U.mark p) (upd H p (.lst [])) s/\Keep (U.mark p) (upd H p (.lst [])) p []:=by
 have g:=bx.new (o:=.lst []) hp;have nz:=hS.nz hp;refine⟨⟨⟨[],by simp[Ph.mark],by simp⟩,λa z=>.inl z,λa z=>z.imp id λe=>by rw[e];exact hp,λa o h _=>g a o h,λa o h=>⟨o,g a o h⟩⟩,⟨hS.len,λn o a e1 e2=>?_,hS.uniq,λa ha=>.inl (hS.lz a ha),λa z=>?_⟩,jz,λz=>nz (hS.lz p z),.inr rfl⟩
 ·have x:Ext U H (U.mark p) (upd H p (.lst [])):=⟨⟨[],by simp[Ph.mark],by simp⟩,λa z=>.inl z,λa z=>z.imp id λe=>by rw[e];exact hp,λa o h _=>g a o h,λa o h=>⟨o,g a o h⟩⟩;exact(hS.obj n o a e1 e2).map (g _) λ_ _ r=>r.mono x hS.lz
 ·rcases z with z|z
  ·obtain⟨o,e⟩:=hS.zt a z;exact⟨o,g _ _ e⟩
  ·subst z;exact⟨_,jz⟩
end
section
variable {X:Cx}{cA:Cl}{ao:Nat->Nat->Bool}{aj:Bool}{F:Fn}{EX:XS}{elt iter tg:Expr}{A B:E}{pos p:Pos}{ifs:List Expr}{scope:Scope}{N:List Str}{cond:Eo}{fr cP:List Nat}{many:Nat}{fz:Bool}{w:Wk}
noncomputable abbrev eE(ao:Nat->Nat->Bool)(aj:Bool)(F:Fn)(B:E)(cond:Eo)(cP:List Nat)(Jb:Vs):D->List D->M (List D):=λd acc=>M.bd (M.opt (iH cP d Jb)) λJ'=>M.bd (M.qt (nQ ao aj F cond J')) λok=>
    if ok=true then M.bd (M.qt (ev ao aj F B J')) λy=>M.bd (dat y) λe=>if acc.length<sizeLine then M.ret (acc++[e]) else M.no else M.ret acc
theorem RM{H:Hp}{a:Addr}{o:HO}(h:H a=some o):upd H a o=H:=funext λb=>by
 by_cases z:b=a
 ·subst z;rw[jz,h]
 ·rw[dB z]
theorem zfs{K:W.Frag}{g:TG}{U1 U':Ph}{H1 H2:Hp}{s':S}{Z':L2.St}{Jb:Vs}{Dd:Addr}{acc:List D}{vs:List V}{xi:D}{v:V}{β:Type}{kk:List D->M β}{P:β->S->Ph->Hp->Prop}{Ee:Nat->List D->S->Ph->Hp->Prop}(hT:jK K cA g cP)(gb:∀i∈cP,i<many)
  (hD:H1 Dd=none) (x2:Ext U1 H1 U' H2) (hL2:aU K cA U' H2 Z' Jb) (aM:aB K cA U' H2 s') (kp:Keep U' H2 Dd vs) (uJ:aC K cA U' H2 acc vs) (rx:Rep K cA U' H2 xi v)
  (h:Run K cA (M.bd (eE ao aj F B cond cP Jb xi acc) kk) U1 H1 s' P Ee) {Nn:L2.St->Hp->Prop}
  (hN:∀Z3 H3 U3 s3 tu Fv,Z3.length=Z'.length->(∀i,many<=i->Z3[i]?=Z'[i]?)->Ext U1 H1 U3 H3->Ext U' H2 U3 (upd H3 Dd (.lst vs))->aB K cA U3 H3 s3->Keep U3 H3 Dd Fv->aC K cA U3 H3 tu Fv->Run K cA (kk tu) U1 H1 s3 P Ee->Nn Z3 H3) :
  g v Z' H2 λZ3 H3=>sS K cA (λ_ _ _ _=>False) (nQ ao aj F cond) Z3 H3 λok H4=>
   if ok=true then tE K cA (λ_ _ _ _=>False) (ev ao aj F B) Z3 H4 λy H5=>∃ys,H5 Dd=some (.lst ys)/\ys.length<sizeLine/\Nn Z3 (upd H5 Dd (.lst (ys++[y]))) else Nn Z3 H4:=by
 unfold eE at h;rw[gD] at h;obtain⟨J',e1,h1⟩:=Q6 h;refine hT.run U' H2 s' Z' Jb J' xi v _ hL2 aM rx e1 λZ3 sV RN hf3=>?_;rw[gD] at h1;have kf:∀i,many<=i->Z3[i]?=Z'[i]?:=λi hi=>hf3 i λz=>absurd (gb i z) (Nat.not_lt.mpr hi);refine⟨U',J',s',sV,aM,(RL x2 h1).imp λok s4 U4 H4 ⟨x4,mz,h6⟩=>?_⟩;cases ok with
 |false=>
  refine iF (hN Z3 H4 U4 s4 acc vs RN kf (x2.trans x4) (by rw[RM (kp.mono x4).at_];exact x4) mz (kp.mono x4) (uJ.mono x4 aM.lz) ?_);rw[if_neg J0] at h6;exact h6
 |true=>
  rw[if_pos rfl,gD] at h6;refine iT ⟨U4,J',s4,sV.mono x4 aM.lz,mz,(RL (x2.trans x4) h6).imp λy s5 U5 H5 ⟨x5,Ck,h7⟩ u ru=>?_⟩;rw[gD] at h7;have k5:=(kp.mono x4).mono x5;have r5:=(uJ.mono x4 aM.lz).mono x5 mz.lz;have x15:=(x2.trans x4).trans x5;obtain⟨dd,ey,rd,h8⟩ : ∃d,y=.d d/\Rep K cA U5 H5 d u/\Run K cA (M.bd (if acc.length<sizeLine then M.ret (acc++[d]) else M.no) kk) U1 H1 s5 P Ee:=by
   cases ru with
   |l _=>exact h7.elim
   |d r=>exact⟨_,rfl,r,h7⟩
  by_cases hz:acc.length<sizeLine
  ·rw[if_pos hz] at h8;refine⟨vs,k5.at_,by rw[<-r5.len];exact hz,?_⟩;have ox:dN U5 H5 (upd H5 Dd (.lst (vs++[u]))):=k5.ext.1;exact hN Z3 _ U5 s5 (acc++[dd]) (vs++[u]) RN kf (Ext.keep (vs:=vs) x15 hD) (by rw[OD,RM k5.at_];exact x4.trans x5) (Ck.keep k5) k5.ext.2 ((r5.app (.cons rd .nil)).out ox) h8
  ·rw[if_neg hz] at h8;exact h8.elim
theorem RP{g:TG}{iter':Expr}(hT:jK X.K cA g cP)(gb:∀i∈cP,i<many){Z:L2.St}{H:Hp}{Q:VK}(hh:tE X.K cA EX (ev ao aj F (.comp fz B cP w fr many cond)) Z H Q) :
  oZ (tI X.K cA EX (j8 ao aj F w)) (bT many fr) g (sS X.K cA (λ_ _ _ _=>False) (nQ ao aj F cond)) (tE X.K cA (λ_ _ _ _=>False) (ev ao aj F B)) Z H Q:=un hh λU J s hL hS h=>by
 by_cases bR:aj=true
 ·have h:Run X.K cA (if aj=true then M.bd (j8 ao aj F w J) λcn=>M.bd (walk cn.1 (eE ao aj F B cond cP (blk many fr J)) (cn.2+1) 0 []) λxs=>newL fz xs else M.no) U H s (λd _ U' H'=>∀v,bf X.K cA U' H' d v->Q v H') (eX X.K cA EX Z):=h;rw[if_pos bR] at h;refine⟨U,J,s,hL,hS,h.bd.imp λcn s1 U1 H1 ⟨x1,aD,h1⟩ bG hJ=>?_⟩;have hL1:=hL.mono x1 hS.lz;obtain⟨c,n⟩:=cn;dsimp only at h1 hJ;intro Dd hD;obtain⟨x0,hS0,k0⟩:=zdB aD hD;have Ln:∀{Z':L2.St},(Z'.length=many+fr.length/\∀i,many<=i->Z'[i]?=(bT many fr Z)[i]?)->∀{U' H'},Ext U1 H1 U' H'->aU X.K cA U' H' Z' (blk many fr J):=λ{Z'} hZ {U' H'} x=>zgZ (hL1.mono x aD.lz) hZ.1 λi j v e1 e2=>by
   rw[hZ.2 _ (by omega)];unfold bT;rw[mQ MP,Du,nF,show many+i-many=i by omega,e1];simp[e2]
  refine⟨λi m Z' H'=>m=n+1-i/\(Z'.length=many+fr.length/\∀i,many<=i->Z'[i]?=(bT many fr Z)[i]?)/\∃U' s' acc vs,Ext U1 H1 U' H'/\aB X.K cA U' H' s'/\Keep U' H' Dd vs/\aC X.K cA U' H' acc vs /\
   Run X.K cA (M.bd (walk c (eE ao aj F B cond cP (blk many fr J)) (n+1-i) i acc) λxs=>newL fz xs) U1 H1 s' (λd _ U' H'=>∀v,bf X.K cA U' H' d v->Q v H') (eX X.K cA EX Z),⟨n+1,rfl,⟨by simp[bT],λi _=>rfl⟩,U1.mark Dd,s1,[],[],x0,hS0,k0,.nil,h1⟩,?_⟩
  rintro i m Z' H' ⟨rfl,hZ,U',s',acc,vs,x2,aM,kp,uJ,h3⟩;have hL2:=Ln hZ x2;cases ek:n+1-i with
  |zero=>rw[ek] at h3;exact h3.elim
  |succ k=>
   rw[ek] at h3;cases ei:c.at i s' with
   |none=>
    exfalso
    unfold Run M.bd walk at h3;simp only[ei] at h3
   |some oi=>
    cases oi with
    |none=>
     refine .inl ⟨hJ.stop U' H' H' s' i x2 dN.refl aM ei,?_⟩;have h4:Run X.K cA (newL fz acc) U1 H1 s' (λd _ U' H'=>∀v,bf X.K cA U' H' d v->Q v H') (eX X.K cA EX Z):=by
      unfold Run M.bd walk at h3;simp only[ei] at h3;exact h3
     exact zdK h4 x2 hD (aD.nz hD) aM kp uJ
    |some xi=>
     refine .inr ⟨hJ.go U' H' H' s' i xi x2 dN.refl aM ei,λZ2 H2=>(Z2.length=many+fr.length/\∀i,many<=i->Z2[i]?=(bT many fr Z)[i]?)/\∃U' s' acc vs,Ext U1 H1 U' H2/\aB X.K cA U' H2 s'/\Keep U' H2 Dd vs/\aC X.K cA U' H2 acc vs /\
      Run X.K cA (M.bd (walk c (eE ao aj F B cond cP (blk many fr J)) k (i+1) acc) λxs=>newL fz xs) U1 H1 s' (λd _ U' H'=>∀v,bf X.K cA U' H' d v->Q v H') (eX X.K cA EX Z),λZ2 H2 hn=>⟨k,by omega,by omega,hn.1,?_⟩,λv H2 hy=>?_⟩
     ·have:n+1-(i+1)=k:=by omega
      rw[this];exact hn.2
     ·obtain⟨gr,rx⟩:=hJ.vB U' H' H' s' i xi v H2 x2 dN.refl aM ei hy;have h4:Run X.K cA (M.bd (eE ao aj F B cond cP (blk many fr J) xi acc) λacc'=>M.bd (walk c (eE ao aj F B cond cP (blk many fr J)) k (i+1) acc') λxs=>newL fz xs) U1 H1 s' (λd _ U' H'=>∀v,bf X.K cA U' H' d v->Q v H') (eX X.K cA EX Z):=by
       have h5:=zhR (m':=M.bd (eE ao aj F B cond cP (blk many fr J) xi acc) λacc'=>walk c (eE ao aj F B cond cP (blk many fr J)) k (i+1) acc') (by rw[walk];simp only[ei]) h3;rw[gD] at h5;exact h5
      exact zfs hT gb hD (x2.trans gr.ext) (hL2.mono gr.ext aM.lz) (aM.grow gr) (kp.mono gr.ext) (uJ.mono gr.ext aM.lz) rx h4 λZ3 H3 U3 s3 tu Fv l3 f3 x3 _ jJ k3 r3 h6=>⟨⟨l3.trans hZ.1,λi hi=>(f3 i hi).trans (hZ.2 i hi)⟩,U3,s3,tu,Fv,x3,jJ,k3,r3,h6⟩
 ·have h:Run X.K cA (if aj=true then M.bd (j8 ao aj F w J) λcn=>M.bd (walk cn.1 (eE ao aj F B cond cP (blk many fr J)) (cn.2+1) 0 []) λxs=>newL fz xs else M.no) U H s (λd _ U' H'=>∀v,bf X.K cA U' H' d v->Q v H') (eX X.K cA EX Z):=h;rw[if_neg bR] at h;exact h.elim
theorem RQ{XN:List Str}(hfr:∀(i:Nat) (y:Str) (j:Nat),N[many+i]?=some y->fr[i]?=some j->scope.names.lookup y=some .free/\XN[j]?=some y)(Z:L2.St)(i:Nat)(x:Str)(v:V)(e1:N[i]?=some x)(e2:(bT many fr Z)[i]?=some (some v)):scope.names.lookup x=some .free/\∃j:Nat,XN[j]?=some x/\Z[j]?=some (some v):=by
 unfold bT at e2;by_cases hi:i<many
 ·rw[lM (by simpa using hi),Ds,if_pos hi] at e2;cases e2
 ·rw[mQ (by simpa using yS hi),Du,nF] at e2;cases z:fr[i-many]? with
  |none=>rw[z] at e2;cases e2
  |some j=>
   rw[z] at e2;have e3:(Z[j]?).join=some v:=by simpa using e2
   obtain⟨a1,a2⟩:=hfr (i-many) x j (by rw[show many+(i-many)=i by omega];exact e1) z;exact⟨a1,j,a2,K5 e3⟩
theorem zgz{g:TG}(hc:X.aj=true)(B':dI X.env.scope scope)(hi:SI X cA ao aj F EX tg iter w)(hN:N.length=many+fr.length)
  (hfr:∀(i:Nat) (y:Str) (j:Nat),N[many+i]?=some y->fr[i]?=some j->scope.names.lookup y=some .free/\X.N[j]?=some y)
  (hg:∀cl C s3 H3 fp ak,PG (X.blk scope cl N C s3 H3 fp ak) tg g) (hT:jK X.K cA g cP) (gb:∀i∈cP,i<many)
  (ht:∀cl C s3 H3 fp ak,Fq (X.blk scope cl N C s3 H3 fp ak) cA ao aj F (λ_ _ _ _=>False) ifs cond) (he:∀cl C s3 H3 fp ak,SE (X.blk scope cl N C s3 H3 fp ak) cA ao aj F (λ_ _ _ _=>False) elt B)
  (hs:∀x,foldedSetIterable iter X.env x=pure x:=by intro _;rfl):SE X cA ao aj F EX (.ListComp elt [⟨tg,iter,ifs,0⟩] scope pos) (.comp fz B cP w fr many cond):=
 PE.weak (Zw hc B' hi (⟨hg,ht,he⟩ : Parts X elt tg ifs scope N g (sS X.K cA (λ_ _ _ _=>False) (nQ ao aj F cond)) (tE X.K cA (λ_ _ _ _=>False) (ev ao aj F B))) (ZY:=bT many fr) (λZ=>by simp[bT,hN]) (λZ i x v e1 e2=>RQ hfr Z i x v e1 e2) hs) λZ H Q hh=>RP (iter':=iter) hT gb hh
end
section
variable (K:W.Frag)(cA:Cl)
def aJ(m:MS)(U:Ph)(H:Hp)(s:S)(D:Ends)(EX:XS):Prop:=match m s with
 |some (.nx J,s')=>∀U' H' Z',Ext U H U' H'->aB K cA U' H' s'->aU K cA U' H' Z' J->D.nx Z' H'
 |some (.bk J,s')=>∀U' H' Z',Ext U H U' H'->aB K cA U' H' s'->aU K cA U' H' Z' J->D.bk Z' H'
 |some (.ct J,s')=>∀U' H' Z',Ext U H U' H'->aB K cA U' H' s'->aU K cA U' H' Z' J->D.ct Z' H'
 |some (.rt d,s')=>∀U' H' v,Ext U H U' H'->aB K cA U' H' s'->bf K cA U' H' d v->D.rt v H'
 |some (.er c fs J,s')=>∀U' H' Z',Ext U H U' H'->aB K cA U' H' s'->aU K cA U' H' Z' J->∀dx,iI K cA U' H' c fs dx->EX Z' (.ref (cA.a c)) dx H'
 |none=>False
noncomputable def tS(EX:XS)(m:Vs->MS):TS:=λD Z H=>∃U J s,aU K cA U H Z J/\aB K cA U H s/\aJ K cA (m J) U H s D EX
end
section
variable {K:W.Frag}{cA:Cl}{U U':Ph}{H H':Hp}{s:S}{Z:L2.St}{J:Vs}{EX:XS}{D:Ends}
theorem aJ.ext{m:MS}(x:Ext U H U' H')(h:aJ K cA m U H s D EX):aJ K cA m U' H' s D EX:=by
 unfold aJ at *;split at h<;>first
  |exact λU2 H2 a y r l=>h U2 H2 a (x.trans y) r l
  |exact h.elim
theorem aJ.ofM{α:Type}{m:M α}{k:α->MS}(hL:aU K cA U H Z J)(hz:∀a∈U.l,U.z a)(h:aJ K cA (ofM m J k) U H s D EX):Run K cA m U H s (λa s1 U1 H1=>Ext U H U1 H1/\aB K cA U1 H1 s1/\aJ K cA (k a) U1 H1 s1 D EX) (eX K cA EX Z):=by
 unfold aJ Mi.ofM at h;unfold Run;cases e:m s with
 |none=>rw[e] at h;exact h
 |some r=>
  obtain⟨r,s1⟩:=r;rw[e] at h;cases r with
  |er c fs=>exact λU1 H1 x r=>h U1 H1 Z x r (hL.mono x hz)
  |ok a=>
   intro U1 H1 x r;refine⟨x,r,?_⟩;have h2:aJ K cA (k a) U H s1 D EX:=h;exact h2.ext x
theorem aJ.then_(h:aJ K cA (bQ m k) U H s D EX):aJ K cA m U H s {D with nx:=λZ' H'=>∃U' J' s',aU K cA U' H' Z' J'/\aB K cA U' H' s'/\aJ K cA (k J') U' H' s' D EX} EX:=by
 unfold aJ bQ at h;unfold aJ;cases e:m s with
 |none=>rw[e] at h;exact h
 |some r=>
  obtain⟨r,s1⟩:=r;rw[e] at h;cases r with
  |nx J=>
   intro U1 H1 Z1 x r l;have h2:aJ K cA (k J) U H s1 D EX:=h;exact⟨U1,J,s1,l,r,h2.ext x⟩
  |bk J=>exact h
  |ct J=>exact h
  |rt d=>exact h
  |er c fs J=>exact h
end
section
variable (X:Cx)(cA:Cl)(ao:Nat->Nat->Bool)(aj:Bool)(F:Bool->Fn)(EX:XS)
def SS(st:Stmt)(m:St):Prop:=PS X st (tS X.K cA EX (ex ao aj F m))
def qb(st:List Stmt)(m:cj):Prop:=kI X st (tS X.K cA EX (exs ao aj F m))
end
section
variable {X:Cx}{cA:Cl}{ao:Nat->Nat->Bool}{aj:Bool}{F:Bool->Fn}{EX:XS}{a b c d e:Expr}{A B C:E}{pos p p2:Pos}{st:Stmt}{sts body orelse:List Stmt}{m:St}{ms mb me mh:cj}{es:List Expr}{Xs:Es}{x y n:Str}{i j:Nat}
theorem PS.weak{t t':TS}(h:PS X st t)(f:∀D Z H,t' D Z H->t D Z H):PS X st t':=λak s Z H D I q=>h ak s Z H D I (f D Z H q)
theorem kI.weak{t t':TS}(h:kI X sts t)(f:∀D Z H,t' D Z H->t D Z H):kI X sts t':=λak s Z H D I q=>h ak s Z H D I (f D Z H q)
theorem zgD:qb X cA ao aj F EX [] .nil:=kI.weak Wt λD Z H hh=>un hh λU J s hL hS h=>h U H Z Ext.refl hS hL
theorem zeS(h1:SS X cA ao aj F EX st m)(h2:qb X cA ao aj F EX sts ms):qb X cA ao aj F EX (st::sts) (.cons m ms):=kI.weak (Wu h1 h2) λD Z H hh=>un hh λU J s hL hS h=>by
 have h:aJ X.K cA (bQ (ex ao aj F m J) λJ'=>exs ao aj F ms J') U H s D EX:=h;exact⟨U,J,s,hL,hS,h.then_⟩
theorem zkC(ha:SE X cA ao aj (F aj) EX a A)(hs:swapsWith a none pos.line X.env=pure false:=by rfl):SS X cA ao aj F EX (.Expr a pos) (.ex A):=PS.weak (Wv ha hs) λD Z H hh=>un hh λU J s hL hS h=>
 ⟨U,J,s,hL,hS,(aJ.ofM hL hS.lz h).imp λd s1 U1 H1 ⟨x1,aD,h1⟩ v rv=>h1 U1 H1 Z Ext.refl aD (hL.mono x1 hS.lz)⟩
theorem zi2(ha:SE X cA ao aj (F aj) EX a A):SS X cA ao aj F EX (.Return (some a) pos) (.ret A):=PS.weak (Ww ha) λD Z H hh=>un hh λU J s hL hS h=>
 ⟨U,J,s,hL,hS,(aJ.ofM hL hS.lz h).imp λd s1 U1 H1 ⟨x1,aD,h1⟩ v rv=>h1 U1 H1 v Ext.refl aD rv⟩
theorem zhF(hN:X.N.Nodup)(hi:X.N[i]?=some x)(hx:Loc X.env.scope x)(ha:SE X cA ao aj (F aj) EX a A)(hs:swapsWith a (some (.Name x p)) pos.line X.env=pure false:=by rfl)(hf:X.fn x=true\/X.env.scope.names.lookup x=some .local:=by first|exact .inl rfl|exact .inr rfl) :
  SS X cA ao aj F EX (.Assign [.Name x p] a pos) (.asg (.nm i) A):=PS.weak (Wz hN hi hx ha hs hf) λD Z H hh=>un hh λU J s hL hS h=>
 ⟨U,J,s,hL,hS,(aJ.ofM hL hS.lz h).imp λd s1 U1 H1 ⟨x1,aD,h1⟩ v rv=>h1 U1 H1 _ Ext.refl aD ((hL.mono x1 hS.lz).set rv)⟩
theorem zhw{k}(hc:X.aj=true)(hN:X.N.Nodup)(hi:X.N[i]?=some x)(hj:X.N[j]?=some y)(hx:Loc X.env.scope x)(hy:Loc X.env.scope y)(wI:X.fn x=true\/X.env.scope.names.lookup x=some .local)(wJ:X.fn y=true\/X.env.scope.names.lookup y=some .local) :
  PG X (.Tuple [.Name x px,.Name y py] k pos) (oN X.K 2 (dZ (cB i) (dZ (cB j) oM))):=Pa hc (zJ (vq hN hi hx wI) (zJ (vq hN hj hy wJ) O_))
theorem zdL{K:W.Frag}{U:Ph}{H:Hp}{s:S}{J:Vs}{Z:L2.St}{D:Ends}{d:Xv}{v:V}(bR:aj=true)(hL:aU K cA U H Z J)(hS:aB K cA U H s)(rv:bf K cA U H d v)(h:aJ K cA (store ao aj (F aj) (.tp [i,j]) d J) U H s D EX):oN K 2 (dZ (cB i) (dZ (cB j) oM)) v Z H D.nx:=by
 have h:aJ K cA (if aj=true then ofM (M.bd (dat d) λd=>M.opt ((f9 d).bind λds=>cU [i,j] (ds.map Xv.d) J)) J (λJ' s=>some (Out.nx J',s)) else λ_=>none) U H s D EX:=h;rw[if_pos bR] at h;obtain⟨dd,e0,rd,h1⟩:=K4 rv (aJ.ofM hL hS.lz h);obtain⟨J',e,_,aD,h2⟩:=Run.opt hS h1;refine(zgg i j).run U H s Z J J' dd v _ hL hS rd e λZ' Lp _ _=>h2 U H Z' Ext.refl hS Lp
theorem zgq{k}(hc:X.aj=true)(bR:aj=true)(hN:X.N.Nodup)(hi:X.N[i]?=some x)(hj:X.N[j]?=some y)(hx:Loc X.env.scope x)(hy:Loc X.env.scope y)(wI:X.fn x=true\/X.env.scope.names.lookup x=some .local)(wJ:X.fn y=true\/X.env.scope.names.lookup y=some .local)(ha:SE X cA ao aj (F aj) EX a A)
  (hs:swapsWithSole [.Tuple [.Name x px,.Name y py] k pt] a pos.line X.env=pure false:=by rfl) (hw:swappedStores [.Tuple [.Name x px,.Name y py] k pt] a X.env=pure none:=by rfl)
  (h1:(assignEach [.Tuple [.Name x px,.Name y py] k pt] X.env).map (·.2)=[assign (.Tuple [.Name x px,.Name y py] k pt) X.env]:=by rfl) :
  SS X cA ao aj F EX (.Assign [.Tuple [.Name x px,.Name y py] k pt] a pos) (.asg (.tp [i,j]) A):=PS.weak (Ii ha (zhw hc hN hi hj hx hy wI wJ) hs hw h1) λD Z H hh=>un hh λU J s hL hS h=>
 ⟨U,J,s,hL,hS,(aJ.ofM hL hS.lz h).imp λd s1 U1 H1 ⟨x1,aD,h1⟩ v rv=>zdL bR (hL.mono x1 hS.lz) aD rv h1⟩
theorem zjU(hO:SE X cA ao aj (F aj) EX oo O)(hI:SE X cA ao aj (F aj) EX ii I')(ha:SE X cA ao aj (F aj) EX a A)
  (Lq:∀v,assign (.Subscript oo ii p) X.env v=(do
   let ov <-holding [v] (eval oo X.env)
   let iv <-holding [v,ov] (eval ii X.env)
   standAt p
   holding [v,ov,iv] (setItem ov iv v)
   release [v,ov,iv] []):=by intro _;rfl) (hs:swapsWithSole [.Subscript oo ii p] a pos.line X.env=pure false:=by rfl) (hw:swappedStores [.Subscript oo ii p] a X.env=pure none:=by rfl)
  (h1:(assignEach [.Subscript oo ii p] X.env).map (·.2)=[assign (.Subscript oo ii p) X.env]:=by rfl) :
  SS X cA ao aj F EX (.Assign [.Subscript oo ii p] a pos) (.asg (.ao O I') A):=PS.weak (Ii ha (Wy hO hI X8 Lq) hs hw h1) λD Z H hh=>un hh λU J s hL hS h=>by
 refine⟨U,J,s,hL,hS,(aJ.ofM hL hS.lz h).imp λd s1 U1 H1 ⟨x1,aD,h1⟩ v rv=>?_⟩;obtain⟨dd,e0,rd,h2⟩:=K4 rv (aJ.ofM (hL.mono x1 hS.lz) aD.lz h1);refine aY (hL.mono x1 hS.lz) aD h2 λxo H2 U2 d2 s2 x2 hL2 aM r2 h3=>aY hL2 aM h3 λyi H3 U3 d3 s3 x3 sV jJ r3 h4=>?_;obtain⟨k,_,ek,h5⟩:=Cj r3 h4;obtain⟨n,ad,xs,vs,_,ea,e1,f1,g1,q1,h6⟩:=zew jJ (r2.mono x3 aM.lz) h5;subst ek ea;cases ej:L2.rM xs.length k with
 |none=>simp only[ej] at h6;exact h6.elim
 |some jj=>
  simp only[ej] at h6;refine⟨ad,vs,k,jj,rfl,rfl,g1,by rw[<-q1.len];exact ej,?_⟩;have rv3:=(rd.mono x2 aD.lz).mono x3 aM.lz;have mz:=jJ.write e1 f1 (q1.set rv3 jj);have x4:Ext U3 H3 U3 (upd H3 ad (.lst (vs.set jj v))):=Ext.write f1 ⟨_,g1⟩;obtain⟨_,_,h8⟩:=h6 U3 _ x4 mz;exact h8 U3 _ Z Ext.refl mz (sV.mono x4 jJ.lz)
theorem zj9(hc:ST X cA ao aj (F aj) EX c C)(ht:qb X cA ao aj F EX body mb)(he:qb X cA ao aj F EX orelse me):SS X cA ao aj F EX (.If c body orelse pos) (.iff C mb me):=PS.weak (Wx hc ht he) λD Z H hh=>un hh λU J s hL hS h=>by
 refine⟨U,J,s,hL,hS,(aJ.ofM hL hS.lz h).imp λk s1 U1 H1 ⟨x1,aD,h1⟩=>?_⟩;cases k with
 |true=>exact iT ⟨U1,J,s1,hL.mono x1 hS.lz,aD,h1⟩
 |false=>exact iF ⟨U1,J,s1,hL.mono x1 hS.lz,aD,h1⟩
theorem zfA{cc:Nat}{B' Bn newId nid initId inN:String}{bmB bmN:List Value}{apos:Pos}(hf:cA.f cc=[])(Fn':ExcBaseFacts Bn newId inN bmN)(qL:bmB.contains (.type Bn)=true)(FB:ExcBaseFacts B' nid initId bmB)(hc:X.aj=true)(bR:aj=true)(hX:jw X.K (cA.a cc) bmB newId none=true)(hg:Gl X x)(hm:X.mg x=some (.ref (cA.a cc)))
  (R:Raises X EX) (ha:SA X cA ao aj (F aj) EX (e::es) Xs) (hz:Es.len Xs<=sizeLine) (iw:(x==("__debug__" : Str))=false:=by decide) (he:starEach (e::es) X.env=(false,eval e X.env)::starEach es X.env:=by rfl) (bW:(backTo apos (starEach es X.env)).any (·.1)=false:=by rfl) :
  SS X cA ao aj F EX (.Raise (some (.Call (.Name x p) (e::es) [] apos)) none pos) (.rise cc false Xs):=PS.weak (YW Fn' qL FB hc hX hg hm R ha iw he bW) λD Z H hh=>un hh λU J s hL hS h=>by
 have h:aJ X.K cA (if aj=true then ofM (M.bd (evs ao aj (F aj) Xs J) cF) J (λds s=>some (.er cc (if false=true then ds else []) J,s)) else λ_=>none) U H s D EX:=h;rw[if_pos bR] at h;refine sW hL hS (aJ.ofM hL hS.lz h) λvs H1 U1 xs s1 hl x1 hL1 aD rv h1=>?_;have h1:Run X.K cA (M.bd (cF xs) M.ret) U1 H1 s1 (λa s1 U1 H1=>Ext U H U1 H1/\aB X.K cA U1 H1 s1/\aJ X.K cA (λs=>some (.er cc (if false=true then a else []) J,s)) U1 H1 s1 D EX) (eX X.K cA EX Z):=by
  unfold Run at h1 ⊢;unfold M.bd;cases e1:cF xs s1 with
  |none=>rw[e1] at h1;exact h1
  |some r=>
   obtain⟨r,s2⟩:=r;rw[e1] at h1;cases r with
   |er c f=>exact h1
   |ok ds=>exact h1
 obtain⟨ds,e1,rs,h2⟩:=Fe rv h1;obtain⟨_,_,h3⟩:=h2.bA aD;exact⟨by rw[<-rv.len,hl];exact hz,h3 U1 H1 Z Ext.refl aD hL1 none (.inl ⟨hf,rfl,rfl⟩)⟩
theorem zgy{g:TG}{elt iter tg:Expr}{ifs:List Expr}{scope:Scope}{N:List Str}{cond:Eo}{fr cP:List Nat}{many:Nat}{fz:Bool}{w:Wk}{spos py:Pos}(hc:X.aj=true)(wK:X.N.Nodup)(Av:X.N[i]?=some y)(hx:Loc X.env.scope y)(hf:X.fn y=true\/X.env.scope.names.lookup y=some .local)(B':dI X.env.scope scope)(hi:SI X cA ao aj (F aj) EX tg iter w)(hN:N.length=many+fr.length)
  (hfr:∀(i:Nat) (y:Str) (j:Nat),N[many+i]?=some y->fr[i]?=some j->scope.names.lookup y=some .free/\X.N[j]?=some y)
  (hg:∀cl C s3 H3 fp ak,PG (X.blk scope cl N C s3 H3 fp ak) tg g) (hT:jK X.K cA g cP) (gb:∀i∈cP,i<many)
  (ht:∀cl C s3 H3 fp ak,Fq (X.blk scope cl N C s3 H3 fp ak) cA ao aj (F aj) (λ_ _ _ _=>False) ifs cond) (he:∀cl C s3 H3 fp ak,SE (X.blk scope cl N C s3 H3 fp ak) cA ao aj (F aj) (λ_ _ _ _=>False) elt B)
  (Aw:swapsWith (.ListComp elt [⟨tg,iter,ifs,0⟩] scope pos) (some (.Name y py)) spos.line X.env=pure true) (hs:∀x,foldedSetIterable iter X.env x=pure x:=by intro _;rfl) :
  SS X cA ao aj F EX (.Assign [.Name y py] (.ListComp elt [⟨tg,iter,ifs,0⟩] scope pos) spos) (.asg (.nm i) (.comp fz B cP w fr many cond)):=
 PS.weak (Zx hc wK Av hx hf B' hi (⟨hg,ht,he⟩ : Parts X elt tg ifs scope N g (sS X.K cA (λ_ _ _ _=>False) (nQ ao aj (F aj) cond)) (tE X.K cA (λ_ _ _ _=>False) (ev ao aj (F aj) B))) (ZY:=bT many fr) (λZ=>by simp[bT,hN]) (λZ i x v e1 e2=>RQ hfr Z i x v e1 e2) Aw hs) λD Z H hh=>un hh λU J s hL hS h=>
  RP (iter':=iter) hT gb ⟨U,J,s,hL,hS,(aJ.ofM hL hS.lz h).imp λd s1 U1 H1 ⟨x1,aD,h1⟩ v rv=>h1 U1 H1 _ Ext.refl aD ((hL.mono x1 hS.lz).set rv)⟩
noncomputable def mF(m:MS)(kN:Vs->MS):MS:=λs=>match m s with
 |some (.nx J',s')=>kN J' s'
 |some (.ct J',s')=>kN J' s'
 |some (.bk J',s')=>some (.nx J',s')
 |r=>r
theorem Kae{K:W.Frag}{U:Ph}{H:Hp}{s:S}{D:Ends}{m:MS}{kN:Vs->MS}{N:L2.St->Hp->Prop}(hN:∀U' J' s' Z' H',Ext U H U' H'->aU K cA U' H' Z' J'->aB K cA U' H' s'->aJ K cA (kN J') U' H' s' D EX->N Z' H')(h:aJ K cA (mF m kN) U H s D EX) :
  aJ K cA m U H s {D with nx:=N,ct:=N,bk:=D.nx} EX:=by
 unfold aJ mF at h;unfold aJ;cases e:m s with
 |none=>rw[e] at h;exact h
 |some r=>
  obtain⟨r,s1⟩:=r;rw[e] at h;cases r with
  |nx J'=>
   intro U1 H1 Z1 x r l;have h2:aJ K cA (kN J') U H s1 D EX:=h;exact hN U1 J' s1 Z1 H1 x l r (h2.ext x)
  |ct J'=>
   intro U1 H1 Z1 x r l;have h2:aJ K cA (kN J') U H s1 D EX:=h;exact hN U1 J' s1 Z1 H1 x l r (h2.ext x)
  |bk J'=>exact h
  |rt d=>exact h
  |er c fs J'=>exact h
def SG(X:Cx)(cA:Cl)(ao:Nat->Nat->Bool)(aj:Bool)(F:Bool->Fn)(EX:XS)(tg:Expr)(t:Tg):Prop:=∃g:TG,PG X tg g/\∀(U:Ph) (H:Hp) (s:S) (Z:L2.St) (J:Vs) (d:Xv) (v:V) (D:Ends),aU X.K cA U H Z J->aB X.K cA U H s->bf X.K cA U H d v->
 aJ X.K cA (store ao aj (F aj) t d J) U H s D EX->g v Z H D.nx
theorem zg6(hN:X.N.Nodup)(hi:X.N[i]?=some x)(hx:Loc X.env.scope x)(hf:X.fn x=true\/X.env.scope.names.lookup x=some .local:=by first|exact .inl rfl|exact .inr rfl):SG X cA ao aj F EX (.Name x pos) (.nm i):=
 ⟨_,vq hN hi hx hf,λU H s Z J d v D hL hS r h=>h U H _ Ext.refl hS (hL.set r)⟩
theorem ziv(hp:PassesOwn (model X.prog X.w) X.A X.env X.xe)(hc:X.aj=true)(bR:aj=true)(ha:SI X cA ao aj (F aj) EX tg a w)(hg:SG X cA ao aj F EX tg t)(hb:qb X cA ao aj F EX body mb)
  (hs:∀x,foldedSetIterable a X.env x=pure x:=by intro _;rfl):SS X cA ao aj F EX (.For tg a body [] pos) (.fr t w mb):=by
 obtain⟨g,hG,hg⟩:=hg;refine PS.weak (WW hp hc ha hG hb hs) λD Z H hh=>un hh λU J s hL hS h=>?_;have h:aJ X.K cA (if aj=true then ofM (j8 ao aj (F aj) w J) J λcn=>cG cn.1 (λd J=>bQ (store ao aj (F aj) t (.d d) J) λJ'=>exs ao aj F mb J') (cn.2+1) 0 J else λ_=>none) U H s D EX:=h;rw[if_pos bR] at h;refine⟨U,J,s,hL,hS,(aJ.ofM hL hS.lz h).imp λcn s1 U1 H1 ⟨x1,aD,h1⟩ bG hJ=>?_⟩;have hL1:=hL.mono x1 hS.lz;obtain⟨c,n⟩:=cn;dsimp only at h1 hJ;refine⟨λi m Z' H'=>∃U' J' s',Ext U1 H1 U' H'/\aU X.K cA U' H' Z' J'/\aB X.K cA U' H' s'/\aJ X.K cA (cG c (λd J=>bQ (store ao aj (F aj) t (.d d) J) λJ'=>exs ao aj F mb J') m i J') U' H' s' D EX,⟨n+1,U1,J,s1,Ext.refl,hL1,aD,h1⟩,?_⟩;rintro i m Z' H' ⟨U',J',s',x2,hL2,aM,h4⟩;cases m with
 |zero=>exact h4.elim
 |succ m=>
  cases ei:c.at i s' with
  |none=>
   exfalso
   unfold aJ cG at h4;simp only[ei] at h4
  |some oi=>
   cases oi with
   |none=>
    refine .inl ⟨hJ.stop U' H' H' s' i x2 dN.refl aM ei,?_⟩;unfold aJ cG at h4;simp only[ei] at h4;exact h4 U' H' Z' Ext.refl aM hL2
   |some xi=>
    refine .inr ⟨hJ.go U' H' H' s' i xi x2 dN.refl aM ei,_,λZ3 H3 z=>⟨m,Nat.lt_succ_self m,z⟩,λv H3 hy=>?_⟩;obtain⟨gr,rx⟩:=hJ.vB U' H' H' s' i xi v H3 x2 dN.refl aM ei hy;have h5:aJ X.K cA (mF (bQ (store ao aj (F aj) t (.d xi) J') λJ'=>exs ao aj F mb J') (cG c (λd J=>bQ (store ao aj (F aj) t (.d d) J) λJ'=>exs ao aj F mb J') m (i+1))) U' H' s' D EX:=by
     unfold aJ at h4 ⊢;have e:cG c (λd J=>bQ (store ao aj (F aj) t (.d d) J) λJ'=>exs ao aj F mb J') (m+1) i J' s'=mF (bQ (store ao aj (F aj) t (.d xi) J') λJ'=>exs ao aj F mb J') (cG c (λd J=>bQ (store ao aj (F aj) t (.d d) J) λJ'=>exs ao aj F mb J') m (i+1)) s':=by
      rw[cG];simp only[ei];rfl
     rw[e] at h4;exact h4
    exact hg U' H3 s' Z' J' (.d xi) v _ (hL2.mono gr.ext aM.lz) (aM.grow gr) (.d rx) (aJ.then_ (Kae (λU4 J4 s4 Z4 H4 x4 l4 r4 q4=>⟨U4,J4,s4,(x2.trans gr.ext).trans x4,l4,r4,q4⟩) (h5.ext gr.ext)))
theorem zi7(bR:aj=true)(hex:X.ex=[])(qJ:X.stack=X.env::X.outer/\X.env.frame=some X.env.locals)(hg:Gl X x)(hm:X.mg x=some (.ref (cA.a dc)))(hN:X.N.Nodup)(hi:X.N[i]?=some n)(hl:X.env.scope.names.lookup n=some .local)
  (m7:∀c,ao c dc=true->subIn X.K (cA.a c) (cA.a dc)=true)
  (hb:∀(pn:List (Addr×Obj)) (E':Value->Shared->Prop) (nP:XS),Raises (X.seen X.A X.aj pn E') nP->PassesOwn (model X.prog X.w) X.A X.env E'->qb (X.seen X.A X.aj pn E') cA ao aj F nP body mb)
  (hh:∀e:Value,qb (X.seen (X.A.mark (some e)) false X.pn (λ_ _=>False)) cA ao false F (λ_ _ _ _=>False) (b₀::suite) mh) (iw:(x==("__debug__" : Str))=false:=by decide) :
  SS X cA ao aj F EX (.Try body [.ExceptHandler (some (.Name x np)) (some n) (b₀::suite) oY] [] [] pos) (.lq mb dc i mh):=by
 refine PS.weak (Y4 (tb:=λnP=>tS X.K cA nP (exs ao aj F mb)) (th:=tS X.K cA (λ_ _ _ _=>False) (exs ao false F mh)) hex qJ hg hm hN hi hl hb hh iw) λD Z H hh=>un hh λU J s hL hS h=>?_;refine⟨U,J,s,hL,hS,?_⟩;have h:aJ X.K cA (if aj=true then λs=>match exs ao aj F mb J s with
   |some (.er c fs J',s')=>if ao c dc=true then (match exs ao false F mh (J'.set i (some (.d (.exc c fs)))) s' with
    |some (r,s'')=>(match r with
     |.er _ _ _=>none
     |r=>some (goes i r,s''))
    |none=>none) else none
   |r=>r
  else λ_=>none) U H s D EX:=h
 rw[if_pos bR] at h;unfold aJ at h ⊢;cases e:exs ao aj F mb J s with
 |none=>simp only[e] at h
 |some r=>
  obtain⟨r,s1⟩:=r;simp only[e] at h;cases r with
  |nx J'=>exact h
  |ct J'=>exact h
  |bk J'=>exact h
  |rt d=>exact h
  |er c fs J'=>
   intro U1 H1 Z1 x1 r1 l1 dx ud;by_cases Lr:ao c dc=true
   ·simp only[if_pos Lr] at h;refine⟨cA.a c,rfl,m7 c Lr,λad hn=>?_⟩;have gr:bx H1 (upd H1 ad (fM ad (cA.a c) dx)):=bx.new hn;have xe:Ext U1 H1 U1 (upd H1 ad (fM ad (cA.a c) dx)):=gr.ext;have rx:Rep X.K cA U1 (upd H1 ad (fM ad (cA.a c) dx)) (.exc c fs) (.ref ad):=by
     rcases ud with ⟨e1,e2,e3⟩|⟨d,vs,e3,nz,hd,hl,rs⟩
     ·subst e2 e3;exact .exc ⟨r1.nz hn,.inl ⟨e1,rfl,jz⟩⟩ .nil
     ·subst e3;exact .exc ⟨r1.nz hn,.inr ⟨d,jz,nz,gr _ _ hd,hl⟩⟩ (rs.mono xe r1.lz)
    refine⟨U1,J'.set i (some (.d (.exc c fs))),s1,(l1.mono xe r1.lz).set (.d rx),r1.grow gr,?_⟩;unfold aJ;cases e2:exs ao false F mh (J'.set i (some (.d (.exc c fs)))) s1 with
    |none=>rw[e2] at h;exact h
    |some q=>
     obtain⟨q,s2⟩:=q;rw[e2] at h;cases q with
     |er c2 f2 J2=>exact h.elim
     |nx J2=>exact λU2 H2 Z2 x2 r2 l2=>h U2 H2 _ ((x1.trans xe).trans x2) r2 l2.unset
     |bk J2=>exact λU2 H2 Z2 x2 r2 l2=>h U2 H2 _ ((x1.trans xe).trans x2) r2 l2.unset
     |ct J2=>exact λU2 H2 Z2 x2 r2 l2=>h U2 H2 _ ((x1.trans xe).trans x2) r2 l2.unset
     |rt dd=>exact λU2 H2 v x2 r2 rv=>h U2 H2 v ((x1.trans xe).trans x2) r2 rv
   ·simp only[if_neg Lr] at h
end
end Mi
namespace L2
open PySem PySem.Spec PyProof.Rows
structure tD(K:W.Frag)(x qual:Str)(st:Stmt)(f:Addr)(fd:FuncData):Prop where
 ex:∃(oc:Value) (od:Option Addr) (kV doc pm:Value) (an:Option Addr) (cdv ct:Value) (osl:Array (Option Value)),
  fd=PySem.W.fnOf x qual (aN st) (aH st) (aq st) .none kV doc pm an cdv ct/\K.lookup f=some ⟨oc,od,.func fd,osl⟩/\PySem.W.codeIn K cdv qual=true
 kp:PySem.W.keepIn K (.ref f)=true
end L2
namespace Mi
open PySem PySem.Spec PyProof.Rows L2
section
variable {P:Program}{w:World}{K:W.Frag}{mg:Str->Option Value}{base:Heap}{cA:Cl}{ao:Nat->Nat->Bool}{T:Nat->Option Df}
theorem zdj{U:Ph}{H:Hp}{N:List Str}{ds:List Xv}{vs:List V}{m p:Nat}(r:bK K cA U H ds vs)(hp:p=ds.length)(hm:m=N.length):aU K cA U H (L2.start N vs) (ds.map some++List.replicate (m-p) none):=by
 subst hp hm;unfold L2.start;have hl:=r.len;refine⟨by simp[hl],λi d e=>?_⟩;by_cases hi:i<ds.length
 ·rw[lM (by simpa using hi),nF] at e;cases z:ds[i]? with
  |none=>rw[z] at e;cases e
  |some x=>
   rw[z] at e;cases e;obtain⟨v,a,b⟩:=r.get z;exact⟨v,by rw[lM (by simp;lia),nF,a];rfl,b⟩
 ·rw[mQ (by simpa using hi),Ds] at e;split at e<;>cases e
theorem RT{U:Ph}{H:Hp}{s:S}{ds:List Xv}{k n:Nat}{cm:Bool}{df:Df}{Q:VK}{E:XK}(hT:T n=some df)
  (h:Run K cA (call ao T (k+1) cm n ds) U H s (λd _ U' H'=>∀v,bf K cA U' H' d v->Q v H') (λc fs _ U' H'=>∀dx,iI K cA U' H' c fs dx->E (.ref (cA.a c)) dx H')) :
  ds.length=df.fB/\aJ K cA (exs ao cm (λc=>call ao T k c) df.body (ds.map some++List.replicate (df.many-df.fB) none)) U H s {nx:=λ_ H'=>Q .non H',rt:=Q} (λ_ C dx H'=>E C dx H'):=by
 unfold call at h;simp only[hT] at h;by_cases hl:ds.length=df.fB
 ·refine⟨hl,?_⟩;rw[if_pos hl] at h;unfold Run at h;unfold aJ;cases e:exs ao cm (λc=>call ao T k c) df.body (ds.map some++List.replicate (df.many-df.fB) none) s with
  |none=>simp only[e] at h
  |some r=>
   obtain⟨r,s1⟩:=r;simp only[e] at h;cases r with
   |nx J=>exact λU' H' Z' x r l=>h U' H' x r _ (.d .non)
   |rt d=>exact λU' H' v x r rv=>h U' H' x r v rv
   |er c fs J=>exact λU' H' Z' x r l=>h U' H' x r
   |bk J=>exact h.elim
   |ct J=>exact h.elim
 ·rw[if_neg hl] at h;exact h.elim
theorem fU{cm:Bool}{n:Nat}{f:Addr}{fd:FuncData}{ps:List Str}:dw P w K mg base (je P w) cm 0 f fd ps (nU K cA (call ao T 0 cm n)):=by
 have no:∀vs H Q E,nU K cA (call ao T 0 cm n) vs H Q E->False:=by
  rintro vs H Q E ⟨_,_,_,_,_,h⟩;exact h.elim
 exact⟨λvs H Q E h=>(no _ _ _ _ h).elim,λA outer s H args us vs Q E _ _ _ _ _ h=>(no _ _ _ _ h).elim⟩
theorem zh0{x qual:Str}{st:Stmt}{f:Addr}{fd:FuncData}{N ps:List Str}{k n:Nat}{cm:Bool}{df:Df}(F:tD K x qual st f fd)(S:dR N ps (aq st))(hT:T n=some df)(hp:df.fB=ps.length)(hm:df.many=N.length)
  (hb:∀(cdv:Value) (A:Around) (outer:List Env) (s:Shared) (H:Hp) (E:XK),bI (k+1) A->
   qb (fL (je P w) P w K mg base N qual (aq st) f cdv A outer s H E cm) cA ao cm (λc=>call ao T k c) (λ_ C dx H'=>E C dx H') (aH st) df.body) :
  dw P w K mg base (je P w) cm (k+1) f fd ps (nU K cA (call ao T (k+1) cm n)):=by
 obtain⟨oc,od,kV,doc,pm,an,cdv,ct,osl,rfl,lk,jQ⟩:=F.ex;refine Xl lk jQ S (λvs H Q E hz=>?_) λA outer s H vs Q E hr hz=>?_
 ·obtain⟨U,ds,s,r,hS,h⟩:=hz;rw[<-r.len,(RT hT h).1,hp]
 ·obtain⟨U,ds,st',r,hS,h⟩:=hz;obtain⟨hl,h2⟩:=RT hT h;exact⟨_,hb cdv A outer s H E hr,U,_,st',zdj r hl.symm hm,hS,h2⟩
theorem ziw{x qual:Str}{st:Stmt}{f:Addr}{fd:FuncData}{N ps:List Str}{k n:Nat}{cm:Bool}{df:Df}(F:tD K x qual st f fd)(S:dR N ps (aq st))(hT:T n=some df)(hp:df.fB=ps.length)(hm:df.many=N.length)
  (hb:∀(cdv:Value) (A:Around) (outer:List Env) (s:Shared) (H:Hp) (E:XK),bI k (A.deeper (envOfC qual (aq st) s.heap.objs.size f cdv))->
   qb (fL (je P w) P w K mg base N qual (aq st) f cdv A outer s H E cm) cA ao cm (λc=>call ao T k c) (λ_ C dx H'=>E C dx H') (aH st) df.body) :
  dw P w K mg base (je P w) cm (k+1) f fd ps (nU K cA (call ao T (k+1) cm n)):=zh0 F S hT hp hm λcdv A outer s H E hr=>hb cdv A outer s H E (hr.deeper _)
end
theorem ziZ{K:W.Frag}{cA:Cl}{m:List Xv->M Xv}{H:Hp}{a:Addr}{ns:List Int}(hq:dU K H a (ns.map V.int))(hm:∃s',m [.d (.fl (ns.map D.int))] []=some (.ok (.d (.bl true)),s')) :
  nU K cA m [.ref a] H (λv _=>v=.bl true) λ_ _ _=>False:=by
 have rs:∀(l:List Int) U,aC K cA U H (l.map D.int) (l.map V.int):=λl U=>by
  induction l with
  |nil=>exact .nil
  |cons i l ih=>exact .cons (.int i) ih
 have hl:LstAt K ⟨λ_=>False,[]⟩ H a (ns.map V.int):=by
  rcases hq with h|h
  ·exact .inl ⟨h,λz=>z⟩
  ·exact .inr (.inr h)
 refine⟨⟨λ_=>False,[]⟩,[.d (.fl (ns.map D.int))],[],.cons (.d (.fl hl (rs ns _))) .nil,⟨rfl,(λn o b e1 e2=>by simp at e1),yW,(λb hb=>by cases hb),(λb z=>False.elim z)⟩,?_⟩;obtain⟨s',e⟩:=hm;unfold Run;rw[e];intro U' H' _ _ v rv;cases rv with
 |d rv=>cases rv;rfl
theorem zd0:Raises X (λ_ _ _ _=>False):=λ_ _ _ _ _ _ _ _ _ _ _ _ _ z=>z.elim
theorem CQ(r:bI k A):bI k (A.mark o):=⟨r.dp,r.un,r.gd⟩
theorem tG(r:bI k A):A.units+60<cLine:=by have:=r.un;lia
noncomputable def aA:Expr->Bool
 |.Starred _ _=>false
 |_=>true
theorem bB(h:aA e=true):starEach (e::es) env=(false,eval e env)::starEach es env:=by
 cases e<;>first|rfl|cases h
theorem aR:∀{es:List Expr} {env:Env} {pos:Pos},es.all aA=true->(backTo pos (starEach es env)).any (·.1)=false
 |[],_,_,_=>rfl
 |e::es,env,pos,h=>by
  rw[n8,bZ] at h;rw[bB h.1];show (false||(backTo pos (starEach es env)).any (·.1))=false;rw[aR h.2];rfl
theorem mH:∀{es:List Expr} {env:Env} {pos:Pos},es.all aA=true->(backTo pos (starEach es env)).all (λx=>!x.1)=true
 |[],_,_,_=>rfl
 |e::es,env,pos,h=>by
  rw[n8,bZ] at h;rw[bB h.1];show (true&&(backTo pos (starEach es env)).all (λx=>!x.1))=true;rw[mH h.2];rfl
theorem gQ(h1:aA e=true)(h2:es.all aA=true)(h3:decide (es.length<28)=true):((backTo pos (starEach (e::es) env)).all (λx=>!x.1)&&(backToKw pos (keywordEach [] env)).all (λx=>x.1.isSome)&&decide ((e::es).length+([]:List Keyword).length+(if ([]:List Keyword).isEmpty then 0 else 1)<30))=true:=by
 rw[mH (es:=e::es) (by rw[n8,h1,h2];rfl)];have:=iZ h3;have z:(e::es).length+([]:List Keyword).length+(if ([]:List Keyword).isEmpty then 0 else 1)<30:=by
  show es.length+1+0+0<30
  lia
 rw[dY z];rfl
noncomputable def tH(sc scope:Scope):Bool:=(match scope.kind with|.function=>true|_=>false)&&scope.names.all λy=>match y.2 with
 |.cell=>(match scope.names.lookup y.1 with|some .cell=>true|_=>false)
 |.free=>(match sc.names.lookup y.1 with|some .cell=>true|some .free=>true|_=>false)
 |.local=>(match scope.names.lookup y.1 with|some .local=>true|_=>false)
 |_=>true
theorem dI.of(h:tH sc scope=true):dI sc scope:=by
 unfold tH at h;rw[bZ,iM] at h;obtain⟨h1,h2⟩:=h;refine⟨?_,λy hy z=>?_,λy hy z=>?_,λy hy z=>?_⟩
 ·split at h1
  ·assumption
  ·cases h1
 ·have:=h2 y hy;rw[z] at this;dsimp only at this;split at this
  ·assumption
  ·cases this
 ·have:=h2 y hy;rw[z] at this;dsimp only at this;split at this
  ·exact .inl (by assumption)
  ·exact .inr (by assumption)
  ·cases this
 ·have:=h2 y hy;rw[z] at this;dsimp only at this;split at this
  ·assumption
  ·cases this
noncomputable def frB(scope:Scope)(XN:List Str):List Str->List Nat->Bool
 |y::N,j::fr=>(match scope.names.lookup y with|some .free=>true|_=>false)&&decide (XN[j]?=some y)&&frB scope XN N fr
 |[],[]=>true
 |_,_=>false
theorem RV:∀{N:List Str} {fr:List Nat},frB scope XN N fr=true->N.length=fr.length/\∀(i:Nat) (y:Str) (j:Nat),N[i]?=some y->fr[i]?=some j->scope.names.lookup y=some .free/\XN[j]?=some y
 |[],[],_=>⟨rfl,λi y j h=>by simp at h⟩
 |[],_::_,h=>by cases h
 |_::_,[],h=>by cases h
 |y::N,j::fr,h=>by
  unfold frB at h;rw[bZ,bZ,yP] at h;obtain⟨⟨h1,h2⟩,h3⟩:=h;obtain⟨l,q⟩:=RV h3;refine⟨by simp[l],λi z m e1 e2=>?_⟩;cases i with
  |zero=>
   simp at e1 e2;subst e1 e2;refine⟨?_,h2⟩;split at h1
   ·assumption
   ·cases h1
  |succ i=>exact q i z m (by simpa using e1) (by simpa using e2)
noncomputable def okN(x:Str):Bool:=!(x==("__debug__" : Str)) && !(x==("__classdict__" : Str)) && !decide (x="__name__")
theorem nW(h:okN x=true):(x==("__debug__" : Str))=false/\(x==("__classdict__" : Str))=false/\x≠"__name__":=by
 unfold okN at h;simp only[bZ,Hg,decide_eq_false_iff_not] at h;exact⟨h.1.1,h.1.2,h.2⟩
theorem Ls{env:Env}{k:NameKind}(hk:k≠.free):∀{names:List (Str×NameKind)} {x:Str},names.lookup x=some k->
  (names.map λ(n,k)=>if (k==NameKind.free&&env.scope.kind==.function&&env.kindOf n==some .cell) then (n,NameKind.cell) else (n,k)).lookup x=some k
 |[],x,h=>by simp at h
 |(n,q)::r,x,h=>by
  rw[jO] at h;rw[nG,jO];have hd:∀c:Bool,(if c=true then (n,NameKind.cell) else (n,q)).1=n:=λc=>by cases c<;>rfl
  rw[hd];by_cases z:x=n
  ·subst z;simp only[yU] at h ⊢;cases h
   split
   ·rename_i y;simp only[bZ,gB] at y;exact absurd y.1.1 hk
   ·rfl
  ·have z':(x==n)=false:=by simpa using z
   simp only[z'] at h ⊢;exact Ls hk h
theorem zjE{K:W.Frag}{C:Addr}(h:DX K C=true):XC K C:=by
 unfold DX at h;simp only[bZ,gB] at h;obtain⟨⟨⟨⟨⟨⟨⟨h1,h2⟩,h3⟩,h4⟩,h5⟩,h6⟩,h7⟩,h8⟩:=h;exact⟨h1,h2,h3,h4,h5,h6,h7,h8⟩
theorem Lw{n c:Nat}(hn:0<n):j7 n c<n:=by unfold j7;split<;>lia
theorem Lx{n c:Nat}(hn:0<n):j7 n (j7 n c)=j7 n c:=by unfold j7;split<;>simp_all
theorem zgn{n c e:Nat}(hn:0<n):gW n (j7 n c) (j7 n e)=gW n c e:=by unfold gW;rw[Lx hn,Lx hn]
theorem zhq{K:W.Frag}{L:List Addr}{f g:Nat->List Str}{b:Nat->Addr}(hL:0<L.length)(h:lQ K L=true):p7 K ⟨cN L,f,b,g⟩ (gW L.length):=by
 unfold lQ at h;rw[iM] at h;have key:∀c,DX K (cN L c)=true/\PySem.W.kitOne K (.ref (cN L c)) (.type "ValueError")=some true/\∀e,PySem.W.kitOne K (.ref (cN L c)) (.ref (cN L e))=some (gW L.length c e):=λc=>by
  have z:=h (j7 L.length c) (jk.mpr (Lw hL));simp only[bZ,gB,iM] at z;obtain⟨⟨z1,z2⟩,z3⟩:=z;refine⟨z1,z2,λe=>?_⟩;have y:=z3 (j7 L.length e) (jk.mpr (Lw hL));rw[zgn hL] at y;exact y
 exact⟨λc=>zjE (key c).1,λc e=>(key c).2.2 e,λc=>(key c).2.1⟩
theorem zgs{K:W.Frag}{L:List Addr}{d:Nat}(hL:0<L.length)(h:subB K L d=true):∀c,gW L.length c d=true->L2.subIn K (cN L c) (cN L d)=true:=λc hc=>by
 unfold subB at h;rw[iM] at h;have z:=h (j7 L.length c) (jk.mpr (Lw hL));have y:gW L.length (j7 L.length c) d=true:=by
  unfold gW at hc ⊢;rw[Lx hL];exact hc
 rw[y] at z;exact z
noncomputable def qd(K:W.Frag):Sp:=λvs H Q _=>∃(a:Addr) (ns:List Int),vs=[.ref a]/\dU K H a (ns.map V.int)/\ns.length<=63/\Only H/\∀H',Q (.bl true) H'
theorem zhh{K:W.Frag}{cA:Cl}{m:List Xv->M Xv}(hm:∀ns:List Int,ns.length<=63->∃s',m [.d (.fl (ns.map D.int))] []=some (.ok (.d (.bl true)),s'))(vs:List V)(H:Hp)(Q:VK)(E:XK)(h:qd K vs H Q E):nU K cA m vs H Q E:=by
 obtain⟨a,ns,rfl,hq,hl,hO,k⟩:=h;obtain⟨U,ds,s,r1,r2,h⟩:=ziZ (cA:=cA) (m:=m) hq (hm ns hl);refine⟨U,ds,s,r1,r2,?_⟩;unfold Run at h ⊢;split at h
 ·intro U' H' x r v rv;rw[h U' H' x r v rv];exact k H'
 ·exact λU' H' x r dx q=>(h U' H' x r dx q).elim
 ·exact h
theorem wL{K:W.Frag}{fd:FuncData}{p:Str}(h:∀a,bindArgs fd ⟨[a],[]⟩=pure [(p,a)]):Binds K fd [p] []:=.all λus hl=>by
 cases us with
 |nil=>cases hl
 |cons a r=>cases r with
  |nil=>exact h a
  |cons b r=>cases hl
theorem wM{K:W.Frag}{fd:FuncData}{p q:Str}(h:∀a b,bindArgs fd ⟨[a,b],[]⟩=pure [(p,a),(q,b)]):Binds K fd [p,q] []:=.all λus hl=>by
 cases us with
 |nil=>cases hl
 |cons a r=>cases r with
  |nil=>cases hl
  |cons b r=>cases r with
   |nil=>exact h a b
   |cons c r=>cases hl
theorem wN{K:W.Frag}{fd:FuncData}{p q t:Str}(h:∀a b c,bindArgs fd ⟨[a,b,c],[]⟩=pure [(p,a),(q,b),(t,c)]):Binds K fd [p,q,t] []:=.all λus hl=>by
 cases us with
 |nil=>cases hl
 |cons a r=>cases r with
  |nil=>cases hl
  |cons b r=>cases r with
   |nil=>cases hl
   |cons c r=>cases r with
    |nil=>exact h a b c
    |cons d r=>cases hl
theorem Ly:bootBuiltins "int"=some (.type "int"):=by decide +kernel
theorem Lz:bootBuiltins "bool"=some (.type "bool"):=by decide +kernel
theorem LC:bootBuiltins "str"=some (.type "str"):=by decide +kernel
theorem Fw:bootBuiltins "tuple"=some (.type "tuple"):=by decide +kernel
theorem zbK:bootBuiltins "ValueError"=some (.type "ValueError"):=by decide +kernel
structure JE(X:Cx)(cA:Cl)(ao:Nat->Nat->Bool)(aj:Bool)(F:Fn)(EX:XS)(e:Expr)(m:E):Prop where
 o:SE X cA ao aj F EX e m
structure JA(X:Cx)(cA:Cl)(ao:Nat->Nat->Bool)(aj:Bool)(F:Fn)(EX:XS)(e:List Expr)(m:Es):Prop where
 o:SA X cA ao aj F EX e m
structure JT(X:Cx)(cA:Cl)(ao:Nat->Nat->Bool)(aj:Bool)(F:Fn)(EX:XS)(e:Expr)(m:E):Prop where
 o:ST X cA ao aj F EX e m
structure JW(X:Cx)(cA:Cl)(ao:Nat->Nat->Bool)(aj:Bool)(F:Fn)(EX:XS)(e:Expr)(m:E):Prop where
 o:SW X cA ao aj F EX e m
structure JC(X:Cx)(cA:Cl)(ao:Nat->Nat->Bool)(aj:Bool)(F:Fn)(EX:XS)(e:List Expr)(m:Eo):Prop where
 o:Fq X cA ao aj F EX e m
structure JO(X:Cx)(cA:Cl)(ao:Nat->Nat->Bool)(aj:Bool)(F:Fn)(EX:XS)(e:Option Expr)(m:Eo):Prop where
 o:Fj X cA ao aj F EX e m
structure JI(X:Cx)(cA:Cl)(ao:Nat->Nat->Bool)(aj:Bool)(F:Fn)(EX:XS)(tg e:Expr)(m:Wk):Prop where
 o:SI X cA ao aj F EX tg e m
structure JG(X:Cx)(cA:Cl)(ao:Nat->Nat->Bool)(aj:Bool)(F:Bool->Fn)(EX:XS)(e:Expr)(m:Tg):Prop where
 o:SG X cA ao aj F EX e m
structure JS(X:Cx)(cA:Cl)(ao:Nat->Nat->Bool)(aj:Bool)(F:Bool->Fn)(EX:XS)(e:Stmt)(m:St):Prop where
 o:SS X cA ao aj F EX e m
structure JB(X:Cx)(cA:Cl)(ao:Nat->Nat->Bool)(aj:Bool)(F:Bool->Fn)(EX:XS)(e:List Stmt)(m:cj):Prop where
 o:qb X cA ao aj F EX e m
structure JK(X:Cx)(x:Str)(k:NameKind):Prop where
 o:X.env.scope.names.lookup x=some k
structure JP(X:Cx)(cA:Cl)(op:CmpOp)(p:Pr):Prop where
 o:∃r,cR X (compareOp op) r/\aW X.K cA p (r2 r)
structure JQ(X:Cx)(cA:Cl)(op:Operator)(p:Pr):Prop where
 o:∃r,cR X (binaryOp op) r/\aW X.K cA p (r2 r)
structure JN(X:Cx)(cA:Cl)(kx:Expr)(k:Kd):Prop where
 o:PE X kx (tC (yp cA k))
structure JR(X:Cx)(EX:XS):Prop where
 o:Raises X EX
structure JH(X:Cx):Prop where
 o:PassesOwn (model X.prog X.w) X.A X.env X.xe
structure JY(X:Cx)(tg:Expr)(g:TG):Prop where
 o:PG X tg g
noncomputable def jL:NameKind->Bool
 |.local=>true
 |.cell=>true
 |_=>false
noncomputable def wO:NameKind->Bool
 |.local=>true
 |.cell=>true
 |.free=>true
 |_=>false
section
variable {X:Cx}{cA:Cl}{ao:Nat->Nat->Bool}{aj:Bool}{F:Fn}{EX:XS}{a b c d e:Expr}{A B C Dd E':E}{pos p p2 apos:Pos}{es:List Expr}{Xs:Es}{x y:Str}{k k':NameKind}{q q1 q2 q3:Pr}{fz:Bool}
theorem RW(h:scope.names.lookup x=some k)(hk:(match k with|.free=>false|_=>true)=true):JK (X.blk scope cl N Cc s3 H3 fp ak) x k:=
 ⟨Ls (by intro z;subst z;cases hk) h⟩
theorem RX(i:Nat)(hN:X.N[i]?=some x)(h:JK X x k)(hv:wO k=true)(hd:okN x=true):JE X cA ao aj F EX (.Name x pos) (.v i):=
 ⟨Q7 i hN (by cases k<;>first|exact .inl h.o|exact .inr (.inl h.o)|exact .inr (.inr h.o)|cases hv) (nW hd).1 (nW hd).2.1⟩
theorem zk7(i:Nat)(hN:N[i]?=some x)(h:scope.names.lookup x=some .free)(hd:okN x=true):JE (X.blk scope cl N Cc s3 H3 fp ak) cA ao aj F EX (.Name x pos) (.v i):=
 ⟨Q7 i hN (.inr (Js h)) (nW hd).1 (nW hd).2.1⟩
theorem aK{i j p}:JE X cA ao aj F EX (.Constant (.int i) j p) (.c (.int i)):=⟨zh7⟩
theorem j9{i j p}:JE X cA ao aj F EX (.Constant (.bool i) j p) (.c (.bl i)):=⟨zkf⟩
theorem yt{j p}:JE X cA ao aj F EX (.Constant .none j p) (.c .non):=⟨zio⟩
theorem cL{i j p}:JE X cA ao aj F EX (.Constant (.str i) j p) (.c (.str i)):=⟨zi4⟩
theorem RZ(h:∃t,X.mg x=some (.int i t))(hg:JK X x .globalImplicit)(hd:okN x=true):JE X cA ao aj F EX (.Name x pos) (.c (.int i)):=by
 obtain⟨t,h⟩:=h;exact⟨zgC hg.o h (nW hd).1⟩
theorem fG:JQ X cA .Add .add:=⟨_,zdR,zji⟩
theorem R0:JQ X cA .Sub .ao:=⟨_,W2,zjR⟩
theorem LQ:JQ X cA .Mult .mul:=⟨_,W3,zhT⟩
theorem R3:JQ X cA .FloorDiv .fdiv:=⟨_,W4,zhv⟩
theorem yu:JQ X cA .Mod .mod:=⟨_,W5,zjK⟩
theorem R4:JQ X cA .Pow .pow:=⟨_,W6,zhC⟩
theorem cH(h:JQ X cA op q)(ha:JE X cA ao aj F EX a A)(hb:JE X cA ao aj F EX b B):JE X cA ao aj F EX (.BinOp a op b pos) (.pr fz q (.cons A (.cons B .nil))):=by
 obtain⟨r,h1,h2⟩:=h.o;exact⟨zjS h1 h2 ha.o hb.o⟩
theorem LR(ha:JE X cA ao aj F EX a A):JE X cA ao aj F EX (.UnaryOp .USub a pos) (.pr true .neg (.cons A .nil)):=⟨zkM Pn zjQ ha.o⟩
theorem L_(ha:JE X cA ao aj F EX a A):JE X cA ao aj F EX (.UnaryOp .Not a pos) (.not A):=⟨zjV ha.o⟩
theorem wQ{op}(ha:JE X cA ao aj F EX a A):JE X cA ao aj F EX (.BoolOp op [a] pos) A:=⟨zjt ha.o⟩
theorem uK{rest:List Expr}(ha:JE X cA ao aj F EX a A)(hb:JE X cA ao aj F EX (.BoolOp .And (b::rest) pos) B):JE X cA ao aj F EX (.BoolOp .And (a::b::rest) pos) (.and A B):=⟨ziJ ha.o hb.o⟩
theorem wR{k:Nat}(hr:bI k X.A):JP X cA .Eq .eq:=⟨_,zi0 (tG hr),zko⟩
theorem CT{k:Nat}(hr:bI k X.A):JP X cA .NotEq .ne:=⟨_,ziM (tG hr),zkB⟩
theorem zld{k:Nat}(hr:bI k X.A):JP X cA .Lt .lt:=⟨_,zP.or (X4 (by have:=tG hr;lia)),zkj⟩
theorem CV:JP X cA .LtE .le:=⟨_,W8,zj2⟩
theorem zle:JP X cA .Gt .gt:=⟨_,W9,zke⟩
theorem zla:JP X cA .GtE .ge:=⟨_,W_,zj6⟩
theorem R5{k:Nat}(hr:bI k X.A):JP X cA .NotIn .nin:=⟨_,zg5 (tG hr),zhH⟩
noncomputable def j4:Expr->Bool
 |.Set _ _ _=>false
 |_=>true
theorem tK(h:j4 b=true):behindInMarks op b=false:=by cases b<;>first|rfl|cases h
theorem Fx(ho:JP X cA op q)(ha:JE X cA ao aj F EX a A)(hb:JE X cA ao aj F EX b B)(h1:j4 b=true:=by rfl):JE X cA ao aj F EX (.Compare a [op] [b] pos) (.pr true q (.cons A (.cons B .nil))):=by
 obtain⟨r,h2,h3⟩:=ho.o;exact⟨zje h2 h3 ha.o hb.o (tK h1)⟩
theorem nq(ho:JP X cA op q)(ha:JE X cA ao aj F EX a A)(hb:JE X cA ao aj F EX b B)(h1:j4 b=true:=by rfl):JT X cA ao aj F EX (.Compare a [op] [b] pos) (.pr true q (.cons A (.cons B .nil))):=by
 obtain⟨r,h2,h3⟩:=ho.o;exact⟨zjh h2 h3 ha.o hb.o (tK h1)⟩
theorem zkA(h1:JP X cA op q1)(h2:JP X cA op' q2)(ha:JE X cA ao aj F EX a A)(hb:JE X cA ao aj F EX b B)(hc:JE X cA ao aj F EX c C)(hm:j4 c=true:=by rfl):JE X cA ao aj F EX (.Compare a [op,op'] [b,c] pos) (.rQ q1 q2 A B C):=by
 obtain⟨r,h3,h4⟩:=h1.o;obtain⟨r',h5,h6⟩:=h2.o;exact⟨ziV h3 h4 h5 h6 ha.o hb.o hc.o (tK hm)⟩
theorem zj3(h1:JP X cA op q1)(h2:JP X cA op' q2)(h3:JP X cA ni q3)(ha:JE X cA ao aj F EX a A)(hb:JE X cA ao aj F EX b B)(hc:JE X cA ao aj F EX c C)(hd:JE X cA ao aj F EX d Dd)(hm:j4 d=true:=by rfl) :
  JE X cA ao aj F EX (.Compare a [op,op',ni] [b,c,d] pos) (.vZ q1 q2 q3 A B C Dd):=by
 obtain⟨r,h4,h5⟩:=h1.o;obtain⟨r',h6,h7⟩:=h2.o;obtain⟨r'',h8,h9⟩:=h3.o;exact⟨zh4 h4 h5 h6 h7 h8 h9 ha.o hb.o hc.o hd.o (tK hm)⟩
theorem zkq{j p}(ha:JE X cA ao aj F EX a A):JE X cA ao aj F EX (.Compare a [.Is] [.Constant .none j p] pos) (.pr true .rW (.cons A .nil)):=⟨zja ha.o⟩
theorem zj7{j p}(ha:JE X cA ao aj F EX a A):JT X cA ao aj F EX (.Compare a [.Is] [.Constant .none j p] pos) (.pr true .rW (.cons A .nil)):=⟨zir ha.o⟩
noncomputable def CW:Expr->Bool
 |.Call _ _ _ _=>true
 |.Name _ _=>true
 |.Subscript _ _ _=>true
 |.Attribute _ _ _=>true
 |_=>false
theorem j_(ha:JE X cA ao aj F EX a A)(he:CW a=true:=by rfl):JT X cA ao aj F EX a A:=⟨zil ha.o (by cases a<;>first|(intro _;rfl)|cases he)⟩
theorem nu(ha:JT X cA ao aj F EX a A):JT X cA ao aj F EX (.UnaryOp .Not a pos) (.not A):=⟨zhU ha.o⟩
theorem R6(ha:JT X cA ao aj F EX a A):JW X cA ao aj F EX (.BoolOp .And [a] pos) A:=⟨zgO ha.o⟩
theorem Fy(ha:JT X cA ao aj F EX a A):JW X cA ao aj F EX (.BoolOp .Or [a] pos) A:=⟨zij ha.o⟩
theorem R7{rest:List Expr}(ha:JT X cA ao aj F EX a A)(hb:JW X cA ao aj F EX (.BoolOp .And (b::rest) pos) B):JW X cA ao aj F EX (.BoolOp .And (a::b::rest) pos) (.and A B):=⟨zhN ha.o hb.o⟩
theorem wU{rest:List Expr}(ha:JT X cA ao aj F EX a A)(hb:JW X cA ao aj F EX (.BoolOp .Or (b::rest) pos) B):JW X cA ao aj F EX (.BoolOp .Or (a::b::rest) pos) (.or A B):=⟨zkH ha.o hb.o⟩
theorem yw(h:JW X cA ao aj F EX a A):JT X cA ao aj F EX a A:=⟨zk9 h.o⟩
theorem zka(hc:JT X cA ao aj F EX c C)(ha:JE X cA ao aj F EX a A)(hb:JE X cA ao aj F EX b B):JE X cA ao aj F EX (.IfExp c a b pos) (.ite C A B):=⟨zi8 hc.o ha.o hb.o⟩
theorem aF:JA X cA ao aj F EX [] .nil:=⟨zhD⟩
theorem au(ha:JE X cA ao aj F EX a A)(hr:JA X cA ao aj F EX es Xs)(hs:aA a=true:=by rfl):JA X cA ao aj F EX (a::es) (.cons A Xs):=⟨zgl ha.o hr.o (bB hs)⟩
theorem dD{k}(ha:JA X cA ao aj F EX es Xs)(hz:decide (Es.len Xs<=sizeLine)=true:=by rfl):JE X cA ao aj F EX (.Tuple es k pos) (.tup Xs):=⟨zhV ha.o (iZ hz)⟩
theorem jg(ha:JA X cA ao aj F EX es Xs)(hz:decide (Es.len Xs<=sizeLine)=true:=by rfl):JE X cA ao aj F EX (.List es pos) (.lst fz Xs):=⟨zjw ha.o (iZ hz)⟩
theorem zh5{j p1 j2 p3}{k:Str}{i:Int}:JE X cA ao aj F EX (.Dict [some (.Constant (.str k) j p1)] [.Constant (.int i) j2 p3] pos) (.pI k i):=⟨zhA⟩
noncomputable def j5:Expr->Bool
 |.Constant _ _ _=>true
 |.Name _ _=>true
 |.Call _ _ _ _=>true
 |.BinOp _ _ _ _=>true
 |.UnaryOp _ _ _=>true
 |.Subscript _ _ _=>true
 |.IfExp _ _ _ _=>true
 |.Attribute _ _ _=>true
 |.Compare _ _ _ _=>true
 |.BoolOp _ _ _=>true
 |_=>false
theorem iW(ha:JE X cA ao aj F EX a A)(hb:JE X cA ao aj F EX b B)(hs:j5 b=true:=by rfl):JE X cA ao aj F EX (.Subscript a b pos) (.pr true .ix (.cons A (.cons B .nil))):=⟨zkG zjZ ha.o hb.o (by cases b<;>first|(intro _ _;rfl)|cases hs)⟩
theorem R8(ha:JE X cA ao aj F EX a A):JO X cA ao aj F EX (some a) (.yes A):=⟨ziU ha.o⟩
theorem zlb{lo hi:Option Expr}{Lo Hi:Eo}(ha:JE X cA ao aj F EX a A)(hl:JO X cA ao aj F EX lo Lo)(hh:JO X cA ao aj F EX hi Hi):JE X cA ao aj F EX (.Subscript a (.Slice lo hi none p2) pos) (.sl fz A Lo Hi):=⟨zku ha.o hl.o hh.o⟩
theorem ziT(f:Nat){cm:Bool}{k:Nat}{fa:Addr}{fd:FuncData}{ps:List Str}(Fo:dw X.prog X.w X.K X.mg X.base (je X.prog X.w) cm k fa fd ps (nU X.K cA (F f)))(m5:cm=true->X.aj=true)(hr:bI k X.A)(hm:X.mg x=some (.ref fa))(hk:PySem.W.keepIn X.K (.ref fa)=true)(hb:Binds X.K fd ps [])(R:JR X EX)(hg:JK X x .globalImplicit)
  (ha:JA X cA ao aj F EX (e::es) Xs) (hd:okN x=true) (he:aA e=true:=by rfl) (bW:es.all aA=true:=by rfl) :
  JE X cA ao aj F EX (.Call (.Name x p) (e::es) [] pos) (.call f Xs):=⟨zhi Fo m5 hr hg.o hm hk hb R.o ha.o (nW hd).1 (bB he) (aR bW)⟩
theorem qe{c:Nat}(hm:X.mg x=some (.ref (cA.a c)))(hg:JK X x .globalImplicit)(hd:okN x=true):JN X cA (.Name x pos) (.cls c):=⟨zev hg.o hm rfl (nW hd).1⟩
theorem mJ(hv:yp cA kd=.ty T)(hm:X.mg x=none)(hb:bootBuiltins x=some (.type T))(hg:JK X x .globalImplicit)(hd:okN x=true):JN X cA (.Name x pos) kd:=⟨λak s Z H Q I h=>by
 rw[hv] at h;exact zA I hg.o hm hb ⟨.ty T,H,I,rfl,h⟩ (nW hd).2.2 (nW hd).1⟩
theorem gG(Cs:p7 X.K cA ao)(hm:X.mg "isinstance"=none)(hg:JK X "isinstance" .globalImplicit)(ha:JE X cA ao aj F EX a A)(hk:JN X cA kx kd)(h1:aA a=true:=by rfl)(h2:aA kx=true:=by rfl):JE X cA ao aj F EX (.Call (.Name "isinstance" p) [a,kx] [] pos) (.dJ A kd):=
 ⟨ziI (λ_=>Cs) hg.o hm ha.o hk.o (bB h1) (bB h2) (aR (by rw[n8,h2];rfl))⟩
theorem Fz(hm:X.mg "len"=none)(hg:JK X "len" .globalImplicit)(ha:JA X cA ao aj F EX (e::es) Xs)(he:aA e=true:=by rfl)(bW:es.all aA=true:=by rfl):JE X cA ao aj F EX (.Call (.Name "len" p) (e::es) [] pos) (.pr fz .len Xs):=⟨Cm Yc ziR hg.o hm PySem.boot_len ha.o J0 J0 (bB he) (aR bW)⟩
theorem R9(hc:X.aj=true)(hm:X.mg "max"=none)(hg:JK X "max" .globalImplicit)(ha:JA X cA ao aj F EX (e::es) Xs)(he:aA e=true:=by rfl)(bW:es.all aA=true:=by rfl):JE X cA ao aj F EX (.Call (.Name "max" p) (e::es) [] pos) (.pr fz .max2 Xs):=⟨Cm (Xe hc) zgp hg.o hm PyProof.Rows.boot_max ha.o J0 J0 (bB he) (aR bW)⟩
theorem zh2(hm:X.mg "int"=none)(hg:JK X "int" .globalImplicit)(ha:JA X cA ao aj F EX (e::es) Xs)(he:aA e=true:=by rfl)(bW:es.all aA=true:=by rfl):JE X cA ao aj F EX (.Call (.Name "int" p) (e::es) [] pos) (.pr fz .rY Xs):=⟨K6 Xf zgE hg.o hm PyProof.Rows.boot_int ha.o J0 J0 (bB he) (aR bW)⟩
theorem zfD(hm:X.mg "divmod"=none)(hg:JK X "divmod" .globalImplicit)(ha:JA X cA ao aj F EX (e::es) Xs)(he:aA e=true:=by rfl)(bW:es.all aA=true:=by rfl):JE X cA ao aj F EX (.Call (.Name "divmod" p) (e::es) [] pos) (.pr fz .divmod Xs):=⟨Cm Xg zee hg.o hm PyProof.Rows.boot_divmod ha.o J0 J0 (bB he) (aR bW)⟩
theorem R_(hc:X.aj=true)(hm:X.mg "all"=none)(hg:JK X "all" .globalImplicit)(ha:JA X cA ao aj F EX (e::es) Xs)(he:aA e=true:=by rfl)(bW:es.all aA=true:=by rfl):JE X cA ao aj F EX (.Call (.Name "all" p) (e::es) [] pos) (.pr fz .all Xs):=⟨Cm (zeh hc) zi5 hg.o hm PyProof.Rows.boot_all ha.o J0 J0 (bB he) (aR bW)⟩
theorem zg4{k:Nat}(hr:bI k X.A)(ho:JE X cA ao aj F EX a A)(ha:JA X cA ao aj F EX (e::es) Xs)(bO:attributeBase a "count" X.env (eval a X.env)=eval a X.env:=by rfl)(iz:decide (es.length<28)=true:=by rfl)(dG:(apos.endLine==pos.line)=true:=by rfl)(hs:aA e=true:=by rfl)(bw:es.all aA=true:=by rfl) :
  JE X cA ao aj F EX (.Call (.Attribute a "count" apos) (e::es) [] pos) (.meth true .count .list A Xs):=⟨Fl (k:=.list) PySem.F.plainAttrs_list PySem.F.slot_list_count PySem.F.type_list_count (zec (by have:=hr.un;lia)) ze9 ho.o ha.o bO (gQ hs bw iz) dG (bB hs) (aR bw)⟩
theorem zhs(ho:JE X cA ao aj F EX a A)(ha:JA X cA ao aj F EX (e::es) Xs)(bO:attributeBase a "index" X.env (eval a X.env)=eval a X.env:=by rfl)(iz:decide (es.length<28)=true:=by rfl)(dG:(apos.endLine==pos.line)=true:=by rfl)(hs:aA e=true:=by rfl)(bw:es.all aA=true:=by rfl) :
  JE X cA ao aj F EX (.Call (.Attribute a "index" apos) (e::es) [] pos) (.meth true .index .list A Xs):=⟨Fl (k:=.list) PySem.F.plainAttrs_list PySem.F.slot_list_index PySem.F.type_list_index zey zfj ho.o ha.o bO (gQ hs bw iz) dG (bB hs) (aR bw)⟩
theorem FJ:JC X cA ao aj F EX [] .no:=⟨ziE⟩
theorem yx(ha:JE X cA ao aj F EX a A):JI X cA ao aj F EX tg a (.seq A):=⟨zh1 ha.o⟩
theorem zk8(hmg:X.mg "range"=none)(wH:JK X "range" .globalImplicit)(ha:JE X cA ao aj F EX a A)(hb:JE X cA ao aj F EX b B)(h1:aA a=true:=by rfl)(h2:aA b=true:=by rfl):JI X cA ao aj F EX tg (.Call (.Name "range" p) [a,b] [] pos) (.rg A B):=⟨zkw wH.o hmg ha.o hb.o (bB h1) (bB h2)⟩
theorem Ma(hmg:X.mg "range"=none)(wH:JK X "range" .globalImplicit)(hb:JE X cA ao aj F EX b B)(h2:aA b=true:=by rfl):JI X cA ao aj F EX tg (.Call (.Name "range" p) [b] [] pos) (.rg (.c (.int 0)) B):=⟨zjH wH.o hmg hb.o (bB h2)⟩
noncomputable def Mf(scope:Scope)(x:Str):Bool:=match scope.names.lookup x with
 |some .local=>true
 |some .cell=>true
 |_=>false
theorem Sd(h:Mf scope x=true):Loc (X.blk scope cl N Cc s3 H3 fp ak).env.scope x/\((X.blk scope cl N Cc s3 H3 fp ak).fn x=true\/(X.blk scope cl N Cc s3 H3 fp ak).env.scope.names.lookup x=some .local):=by
 unfold Mf at h;split at h
 ·rename_i z;exact⟨.inl (lookup_relabel_local z),.inr (lookup_relabel_local z)⟩
 ·rename_i z;exact⟨.inr (Ls (by intro y;cases y) z),.inl (by show (scope.names.lookup x==some NameKind.cell)=true;rw[z];rfl)⟩
 ·cases h
theorem FN(i:Nat)(J1:N.Nodup)(hi:N[i]?=some x)(hl:Mf scope x=true):JY (X.blk scope cl N Cc s3 H3 fp ak) (.Name x tp) (cB i):=
 ⟨vq J1 hi (Sd hl).1 (Sd hl).2⟩
theorem FP{scope:Scope}{XN:List Str}{M0 N:List Str}{fr:List Nat}(h:frB scope XN N fr=true):(M0++N).length=M0.length+fr.length/\∀(i:Nat) (y:Str) (j:Nat),(M0++N)[M0.length+i]?=some y->fr[i]?=some j->scope.names.lookup y=some .free/\XN[j]?=some y:=by
 obtain⟨l,q⟩:=RV h;refine⟨by rw[jt,l],λi y j e1 e2=>q i y j ?_ e2⟩;rw[mQ gV] at e1;rw[show M0.length+i-M0.length=i by lia] at e1;exact e1
theorem Mg{elt iter tg:Expr}{ifs:List Expr}{scope:Scope}{cond:Eo}{cP:List Nat}{g:TG}{w:Wk}(sc:Scope)(XN M0 N:List Str)(fr:List Nat)(hc:X.aj=true)(Mh:X.env.scope=sc)(wK:X.N=XN)(hB:tH sc scope=true)(hf:frB scope XN N fr=true)(hT:jK X.K cA g cP)(gb:cP.all (λi=>decide (i<M0.length))=true)
  (hi:JI X cA ao aj F EX tg iter w) (hg:∀cl C s3 H3 fp ak,JY (X.blk scope cl (M0++N) C s3 H3 fp ak) tg g)
  (ht:∀cl C s3 H3 fp ak,JC (X.blk scope cl (M0++N) C s3 H3 fp ak) cA ao aj F (λ_ _ _ _=>False) ifs cond) (he:∀cl C s3 H3 fp ak,JE (X.blk scope cl (M0++N) C s3 H3 fp ak) cA ao aj F (λ_ _ _ _=>False) elt B)
  (hs:∀x,foldedSetIterable iter X.env x=pure x:=by intro _;rfl):JE X cA ao aj F EX (.ListComp elt [⟨tg,iter,ifs,0⟩] scope pos) (.comp fz B cP w fr M0.length cond):=
 ⟨zgz hc (dI.of (Mh▸hB)) hi.o (FP (wK▸hf)).1 (FP (wK▸hf)).2 (λa b c d e f=>(hg a b c d e f).o) hT (λi hi=>iZ (iM.mp gb i hi)) (λa b c d e f=>(ht a b c d e f).o) (λa b c d e f=>(he a b c d e f).o) hs⟩
theorem yC:JR X (λ_ _ _ _=>False):=⟨zd0⟩
theorem dz{P:Program}{w:World}{K:W.Frag}{mg:Str->Option Value}{base:Heap}{N:List Str}{qual:Str}{scope:Scope}{f:Addr}{cd:Value}{A:Around}{outer:List Env}{s:Shared}{H:Hp}{E:XK}{cm:Bool} :
  JR (fL (je P w) P w K mg base N qual scope f cd A outer s H E cm) (λ_ C dx H'=>E C dx H'):=⟨YC⟩
theorem yD{CX:nM}{P:Program}{w:World}{K:W.Frag}{mg:Str->Option Value}{base:Heap}{N:List Str}{qual:Str}{scope:Scope}{f:Addr}{cd:Value}{A:Around}{outer:List Env}{s:Shared}{H:Hp}{E:XK}{cm:Bool} :
  JH (fL CX P w K mg base N qual scope f cd A outer s H E cm):=⟨PassesOwn.leaving⟩
end
section
variable {X:Cx}{cA:Cl}{ao:Nat->Nat->Bool}{aj:Bool}{F:Bool->Fn}{EX:XS}{a b c d e:Expr}{A B C:E}{pos p p2:Pos}{st:Stmt}{sts body orelse:List Stmt}{m:St}{ms mb me mh:cj}{es:List Expr}{Xs:Es}{x y n:Str}{k k':NameKind}
theorem uL(h:JK X x k)(hv:jL k=true):Loc X.env.scope x:=by cases k<;>first|exact .inl h.o|exact .inr h.o|cases hv
theorem uM(h:JK X x k)(hv:X.fn x=true\/k=.local):X.fn x=true\/X.env.scope.names.lookup x=some .local:=by
 rcases hv with hv|hv
 ·exact .inl hv
 ·subst hv;exact .inr h.o
theorem aZ:JB X cA ao aj F EX [] .nil:=⟨zgD⟩
theorem aL(h1:JS X cA ao aj F EX st m)(h2:JB X cA ao aj F EX sts ms):JB X cA ao aj F EX (st::sts) (.cons m ms):=⟨zeS h1.o h2.o⟩
theorem Mj(ha:JE X cA ao aj (F aj) EX a A)(hs:swapsWith a none pos.line X.env=pure false:=by rfl):JS X cA ao aj F EX (.Expr a pos) (.ex A):=⟨zkC ha.o hs⟩
theorem cI(ha:JE X cA ao aj (F aj) EX a A):JS X cA ao aj F EX (.Return (some a) pos) (.ret A):=⟨zi2 ha.o⟩
theorem iY(i:Nat)(hN:X.N.Nodup)(hi:X.N[i]?=some x)(hx:JK X x k)(hl:jL k=true)(ha:JE X cA ao aj (F aj) EX a A)(hs:swapsWith a (some (.Name x p)) pos.line X.env=pure false:=by rfl)(hf:X.fn x=true\/k=.local:=by first|exact .inl rfl|exact .inr rfl):JS X cA ao aj F EX (.Assign [.Name x p] a pos) (.asg (.nm i) A):=
 ⟨zhF hN hi (uL hx hl) ha.o hs (uM hx hf)⟩
theorem zjC{elt iter tg:Expr}{ifs:List Expr}{scope:Scope}{cond:Eo}{cP:List Nat}{g:TG}{w:Wk}{fz:Bool}{py spos:Pos}(i:Nat)(sc:Scope)(XN M0 N:List Str)(fr:List Nat)(hN:X.N.Nodup)(Av:X.N[i]?=some y)(hx:JK X y k)(hl:jL k=true)(hc:X.aj=true)(Mh:X.env.scope=sc)(wK:X.N=XN)(hB:tH sc scope=true)(hf:frB scope XN N fr=true)(hT:jK X.K cA g cP)(gb:cP.all (λi=>decide (i<M0.length))=true)
  (hi:JI X cA ao aj (F aj) EX tg iter w) (hg:∀cl C s3 H3 fp ak,JY (X.blk scope cl (M0++N) C s3 H3 fp ak) tg g)
  (ht:∀cl C s3 H3 fp ak,JC (X.blk scope cl (M0++N) C s3 H3 fp ak) cA ao aj (F aj) (λ_ _ _ _=>False) ifs cond) (he:∀cl C s3 H3 fp ak,JE (X.blk scope cl (M0++N) C s3 H3 fp ak) cA ao aj (F aj) (λ_ _ _ _=>False) elt B)
  (Aw:swapsWith (.ListComp elt [⟨tg,iter,ifs,0⟩] scope pos) (some (.Name y py)) spos.line X.env=pure true:=by rfl) (hff:X.fn y=true\/k=.local:=by first|exact .inl rfl|exact .inr rfl) (hs:∀x,foldedSetIterable iter X.env x=pure x:=by intro _;rfl) :
  JS X cA ao aj F EX (.Assign [.Name y py] (.ListComp elt [⟨tg,iter,ifs,0⟩] scope pos) spos) (.asg (.nm i) (.comp fz B cP w fr M0.length cond)):=
 ⟨zgy hc hN Av (uL hx hl) (uM hx hff) (dI.of (Mh▸hB)) hi.o (FP (wK▸hf)).1 (FP (wK▸hf)).2 (λa b c d e f=>(hg a b c d e f).o) hT (λi hi=>iZ (iM.mp gb i hi)) (λa b c d e f=>(ht a b c d e f).o) (λa b c d e f=>(he a b c d e f).o) Aw hs⟩
theorem Ml(i j:Nat){k0}(hc:X.aj=true)(bR:aj=true)(hN:X.N.Nodup)(hi:X.N[i]?=some x)(hj:X.N[j]?=some y)(hx:JK X x k)(hy:JK X y k')(Mp:jL k=true)(Mq:jL k'=true)(ha:JE X cA ao aj (F aj) EX a A)
  (wI:X.fn x=true\/k=.local:=by first|exact .inl rfl|exact .inr rfl) (wJ:X.fn y=true\/k'=.local:=by first|exact .inl rfl|exact .inr rfl)
  (hs:swapsWithSole [.Tuple [.Name x px,.Name y py] k0 pt] a pos.line X.env=pure false:=by rfl) (hw:swappedStores [.Tuple [.Name x px,.Name y py] k0 pt] a X.env=pure none:=by rfl) (h1:(assignEach [.Tuple [.Name x px,.Name y py] k0 pt] X.env).map (·.2)=[assign (.Tuple [.Name x px,.Name y py] k0 pt) X.env]:=by rfl) :
  JS X cA ao aj F EX (.Assign [.Tuple [.Name x px,.Name y py] k0 pt] a pos) (.asg (.tp [i,j]) A):=⟨zgq hc bR hN hi hj (uL hx Mp) (uL hy Mq) (uM hx wI) (uM hy wJ) ha.o hs hw h1⟩
theorem Sg(hO:JE X cA ao aj (F aj) EX oo O)(hI:JE X cA ao aj (F aj) EX ii I')(ha:JE X cA ao aj (F aj) EX a A)
  (Lq:∀v,assign (.Subscript oo ii p) X.env v=(do
   let obj <-holding [v] (eval oo X.env)
   let at_ <-holding [v,obj] (eval ii X.env)
   standAt p
   holding [v,obj,at_] (setItem obj at_ v)
   release [v,obj,at_] []):=by intro _;rfl) (hs:swapsWithSole [.Subscript oo ii p] a pos.line X.env=pure false:=by rfl) (hw:swappedStores [.Subscript oo ii p] a X.env=pure none:=by rfl)
  (h1:(assignEach [.Subscript oo ii p] X.env).map (·.2)=[assign (.Subscript oo ii p) X.env]:=by rfl):JS X cA ao aj F EX (.Assign [.Subscript oo ii p] a pos) (.asg (.ao O I') A):=⟨zjU hO.o hI.o ha.o Lq hs hw h1⟩
theorem jq(hc:JT X cA ao aj (F aj) EX c C)(ht:JB X cA ao aj F EX body mb)(he:JB X cA ao aj F EX orelse me):JS X cA ao aj F EX (.If c body orelse pos) (.iff C mb me):=⟨zj9 hc.o ht.o he.o⟩
theorem yE(i:Nat)(hN:X.N.Nodup)(hi:X.N[i]?=some x)(hx:JK X x k)(hl:jL k=true)(hf:X.fn x=true\/k=.local:=by first|exact .inl rfl|exact .inr rfl):JG X cA ao aj F EX (.Name x pos) (.nm i):=⟨zg6 hN hi (uL hx hl) (uM hx hf)⟩
theorem yF(hp:JH X)(hc:X.aj=true)(bR:aj=true)(ha:JI X cA ao aj (F aj) EX tg a w)(hg:JG X cA ao aj F EX tg t)(hb:JB X cA ao aj F EX body mb)(hs:∀x,foldedSetIterable a X.env x=pure x:=by intro _;rfl):JS X cA ao aj F EX (.For tg a body [] pos) (.fr t w mb):=
 ⟨ziv hp.o hc bR ha.o hg.o hb.o hs⟩
theorem zgH{cc:Nat}{apos:Pos}(hf:cA.f cc=[])(hc:X.aj=true)(bR:aj=true)(hX:jw X.K (cA.a cc) [.type "ValueError",.type "Exception",.type "BaseException",.type "object"] "ValueError.__new__" none=true)(hm:X.mg x=some (.ref (cA.a cc)))(hg:JK X x .globalImplicit)
  (R:JR X EX) (ha:JA X cA ao aj (F aj) EX (e::es) Xs) (hd:okN x=true) (hz:decide (Es.len Xs<=sizeLine)=true:=by rfl) (he:aA e=true:=by rfl) (bW:es.all aA=true:=by rfl) :
  JS X cA ao aj F EX (.Raise (some (.Call (.Name x p) (e::es) [] apos)) none pos) (.rise cc false Xs):=⟨zfA hf yL Bd yL hc bR hX hg.o hm R.o ha.o (iZ hz) (nW hd).1 (bB he) (aR bW)⟩
theorem Sh(i:Nat)(bR:aj=true)(hex:X.ex=[])(qJ:X.stack=X.env::X.outer/\X.env.frame=some X.env.locals)(hg:JK X x .globalImplicit)(hm:X.mg x=some (.ref (cA.a dc)))(hN:X.N.Nodup)(hi:X.N[i]?=some n)(hl:JK X n .local)
  (m7:∀c,ao c dc=true->subIn X.K (cA.a c) (cA.a dc)=true)
  (hb:∀(pn:List (Addr×Obj)) (E':Value->Shared->Prop) (nP:XS),JR (X.seen X.A X.aj pn E') nP->JH (X.seen X.A X.aj pn E')->JB (X.seen X.A X.aj pn E') cA ao aj F nP body mb)
  (hh:∀e:Value,JB (X.seen (X.A.mark (some e)) false X.pn (λ_ _=>False)) cA ao false F (λ_ _ _ _=>False) (b₀::suite) mh) (hd:okN x=true) :
  JS X cA ao aj F EX (.Try body [.ExceptHandler (some (.Name x np)) (some n) (b₀::suite) oY] [] [] pos) (.lq mb dc i mh):=
 ⟨zi7 bR hex qJ hg.o hm hN hi hl.o m7 (λpn E' nP R H=>(hb pn E' nP ⟨R⟩ ⟨H⟩).o) (λe=>(hh e).o) (nW hd).1⟩
end
theorem zi3{P:Program}{w:World}{K:W.Frag}{mg:Str->Option Value}{base:Heap}{cA:Cl}{ao:Nat->Nat->Bool}{T:Nat->Option Df}{x qual:Str}{st:Stmt}{f:Addr}{fd:FuncData}{N ps:List Str}{k n:Nat}{cm:Bool}{df:Df}(F:tD K x qual st f fd)(S:dR N ps (aq st))(hT:T n=some df)(hp:df.fB=ps.length)(hm:df.many=N.length)
  (hb:∀(cdv:Value) (A:Around) (outer:List Env) (s:Shared) (H:Hp) (E:XK),bI k (A.deeper (envOfC qual (aq st) s.heap.objs.size f cdv))->
   JB (fL (je P w) P w K mg base N qual (aq st) f cdv A outer s H E cm) cA ao cm (λc=>call ao T k c) (λ_ C dx H'=>E C dx H') (aH st) df.body) :
  dw P w K mg base (je P w) cm (k+1) f fd ps (nU K cA (call ao T (k+1) cm n)):=ziw F S hT hp hm λcdv A outer s H E hr=>(hb cdv A outer s H E hr).o
end Mi
namespace Mi
open PySem PySem.Spec PyProof.Rows L2 PySem.W
theorem zig{fd:FuncData}{x:Str}{st:Stmt}(h:nJ fd=qH x st):fd=fnOf x x (aN st) (aH st) (aq st) .none fd.kwdefaults fd.doc fd.pyModule fd.annotations fd.code fd.closureTuple:=by
 cases fd;unfold nJ qH at h;cases h;rfl
noncomputable def gH(K:Frag)(x:Str):Addr:=match u5 K x with
 |some p=>p.1
 |none=>0
noncomputable def fdOf(K:Frag)(x:Str)(st:Stmt):FuncData:=match u5 K x with
 |some p=>p.2
 |none=>qH x st
structure FnAt(K:Frag)(x:Str)(st:Stmt):Prop where
 ns:nsIn K mainGlobals x=some (some (.ref (gH K x)))
 fn:tD K x x st (gH K x) (fdOf K x st)
theorem zkv{K:Frag}{x:Str}{st:Stmt}(h:(u5 K x).map (λp=>nJ p.2)=some (qH x st)):FnAt K x st:=by
 cases e:u5 K x with
 |none=>rw[e] at h;cases h
 |some p=>
  rw[e] at h;have hp:nJ p.2=qH x st:=dh h;have h1:gH K x=p.1:=by unfold gH;rw[e]
  have h2:fdOf K x st=p.2:=by unfold fdOf;rw[e]
  unfold u5 at e;split at e
  ·rename_i f hf;split at e
   ·rename_i oc od fd sl hl;split at e
    ·rename_i hc;cases e;rw[bZ] at hc;refine⟨by rw[h1];exact hf,?_⟩;rw[h1,h2];exact⟨⟨oc,od,_,_,_,_,_,_,sl,zig hp,hl,hc.1⟩,hc.2⟩
    ·cases e
   ·cases e
  ·cases e
theorem FnAt.m{K:Frag}{x:Str}{st:Stmt}(F:FnAt K x st){h:Heap}{mg:Str->Option Value}(X:K.In h)(G:h.Ns mainGlobals mg):mg x=some (.ref (gH K x)):=mg_of X G F.ns
theorem nY{K:Frag}{x:Str}(h:qZ K x=true){hp:Heap}{mg:Str->Option Value}(X:K.In hp)(G:hp.Ns mainGlobals mg):mg x=some (.ref (u6 K x)):=by
 refine mg_of X G ?_;unfold qZ at h;unfold u6;split at h
 ·rename_i C e;rw[e]
 ·cases h
theorem ziQ{K:Frag}{x:Str}{i:Int}(h:jy K (x,i)=true){hp:Heap}{mg:Str->Option Value}(X:K.In hp)(G:hp.Ns mainGlobals mg):∃t,mg x=some (.int i t):=by
 unfold jy at h;split at h
 ·rename_i j t e;rw[yP] at h;subst h;exact⟨t,mg_of X G e⟩
 ·cases h
theorem qg{K:Frag}{x:Str}(h:lR K x=true){hp:Heap}{mg:Str->Option Value}(X:K.In hp)(G:hp.Ns mainGlobals mg):mg x=none:=by
 refine mg_none_of X G ?_;unfold lR at h;split at h
 ·rename_i e;exact e
 ·cases h
structure uN(l:Lk)(K:Frag):Prop where
 cl:∀x∈l.za,qZ K x=true
 cs:l.za.isEmpty=true\/lQ K (l.L K)=true
 ra:∀k∈l.Ot,yZ K (cN (l.L K) k)=true
 ca:∀k∈l.Ou,subB K (l.L K) k=true
 it:∀p∈l.tX,jy K p=true
 no:∀x∈l.Oq,lR K x=true
 st:∀p∈l.Ov,oh K p=true
theorem Kaa{l:Lk}{K:Frag}(h:l.good K=true):uN l K:=by
 unfold Lk.good at h;simp only[bZ,Bool.or_eq_true,iM] at h;obtain⟨⟨⟨⟨⟨⟨h1,h2⟩,h3⟩,h4⟩,h5⟩,h6⟩,h7⟩:=h;exact⟨h1,h2,h3,h4,h5,h6,h7⟩
theorem tL{K:Frag}{x:Str}{st:Stmt}{f:Addr}{fd:FuncData}{p:Str}(F:tD K x x st f fd)(h:∀(kV doc pm:Value) (an:Option Addr) (cdv ct a:Value),bindArgs (fnOf x x (aN st) (aH st) (aq st) .none kV doc pm an cdv ct) ⟨[a],[]⟩=pure [(p,a)]):Binds K fd [p] []:=by
 obtain⟨oc,od,kV,doc,pm,an,cdv,ct,osl,rfl,lk,jQ⟩:=F.ex;exact wL (h kV doc pm an cdv ct)
theorem tM{K:Frag}{x:Str}{st:Stmt}{f:Addr}{fd:FuncData}{p q:Str}(F:tD K x x st f fd)(h:∀(kV doc pm:Value) (an:Option Addr) (cdv ct a b:Value),bindArgs (fnOf x x (aN st) (aH st) (aq st) .none kV doc pm an cdv ct) ⟨[a,b],[]⟩=pure [(p,a),(q,b)]):Binds K fd [p,q] []:=by
 obtain⟨oc,od,kV,doc,pm,an,cdv,ct,osl,rfl,lk,jQ⟩:=F.ex;exact wM (h kV doc pm an cdv ct)
theorem tO{K:Frag}{x:Str}{st:Stmt}{f:Addr}{fd:FuncData}{p q t:Str}(F:tD K x x st f fd)(h:∀(kV doc pm:Value) (an:Option Addr) (cdv ct a b c:Value),bindArgs (fnOf x x (aN st) (aH st) (aq st) .none kV doc pm an cdv ct) ⟨[a,b,c],[]⟩=pure [(p,a),(q,b),(t,c)]):Binds K fd [p,q,t] []:=by
 obtain⟨oc,od,kV,doc,pm,an,cdv,ct,osl,rfl,lk,jQ⟩:=F.ex;exact wN (h kV doc pm an cdv ct)
theorem wV{K:Frag}{x:Str}{st:Stmt}{f:Addr}{fd:FuncData}{p:Str}(F:tD K x x st f fd)(h:∀(kV doc pm:Value) (an:Option Addr) (cdv ct a:Value),bindArgs (fnOf x x (aN st) (aH st) (aq st) .none kV doc pm an cdv ct) ⟨[a],[]⟩=pure [(p,a)]):∀(s:Shared) (u:Value),BindsTo s fd ⟨[u],[]⟩ [(p,u)]:=by
 obtain⟨oc,od,kV,doc,pm,an,cdv,ct,osl,rfl,lk,jQ⟩:=F.ex;exact λs u=>.of_eq (h kV doc pm an cdv ct u)
end Mi
namespace Mi
open PySem PySem.Spec PyProof.Rows L2
section
variable {X:Cx}{cA:Cl}{ao:Nat->Nat->Bool}{aj:Bool}{F:Fn}{EX:XS}{a b:Expr}{A B:E}{pos pp tpos:Pos}{elts:List Expr}{kk:Nat}
noncomputable def wW(f:Nat->List Str)(cs:List Nat)(i:Nat)(x:Str):Bool:=cs.all λc=>(f c)[i]?==some x
theorem Sq:∀(ns:List Str) (vs:List V),((ns.zip vs).map (·.1)).Sublist ns
 |[],vs=>by simp
 |n::ns,[]=>by simp
 |n::ns,v::vs=>by
  rw[yO,nG];exact(Sq ns vs).cons₂ n
theorem zdk:∀{ns:List Str} {vs:List V} {i:Nat} {x:Str} {v:V},ns.Nodup->ns[i]?=some x->vs[i]?=some v->(ns.zip vs).lookup x=some v
 |ns,vs,i,x,v,hn,h1,h2=>by
  refine Ka ?_ (QJ h1 h2);exact List.Sublist.nodup (Sq ns vs) hn
theorem zjn(hf:wW cA.f cs i x=true)(hn:∀c∈cs,(cA.f c).Nodup)(hX:∀c∈cs,XF X.K (cA.a c) x)(ha:SE X cA ao aj F EX a A)(hb:attributeBase a x X.env (eval a X.env)=eval a X.env) :
  SE X cA ao aj F EX (.Attribute a x pos) (.fld A cs i):=PE.weak (zj0 ha hb) λZ H Q hh=>un hh λU J s hL hS h=>by
 refine aY hL hS h λy H2 U2 d2 s2 x2 hL2 aM r2 h2=>?_;cases r2 with
 |l _=>exact h2.elim
 |d r2=>
  cases r2 with
  |@exc ad c xs vs q r=>
   by_cases hc:cs.contains c=true
   ·have hm:c∈cs:=List.contains_iff_mem.mp hc;have h3:Run X.K cA (M.opt (xs[i]?.map Xv.d)) U2 H2 s2 (λd x U' H'=>∀(v:V),bf X.K cA U' H' d v->Q v H') (eX X.K cA EX Z):=by
     have h2':=h2;dsimp only at h2';rw[if_pos hc] at h2';exact h2'
    cases ex:xs[i]? with
    |none=>rw[ex] at h3;exact h3.elim
    |some dd=>
     rw[ex] at h3;obtain⟨v,e1,rv⟩:=r.get ex;unfold wW at hf;rw[iM] at hf;have e2:(cA.f c)[i]?=some x:=by simpa using hf c hm
     rcases q.2 with ⟨z,_,_⟩|⟨dx,q1,q2,q3,q4⟩
     ·rw[z] at e2;cases e2
     ·exact⟨ad,_,dx,_,v,rfl,q1,q3,hX c hm,zdk (hn c hm) e2 e1,(h3.bA aM) v (.d rv)⟩
   ·have h2':=h2;dsimp only at h2';rw[if_neg hc] at h2';exact h2'.elim
  |_=>exact h2.elim
end
section
variable {X:Cx}{cA:Cl}{ao:Nat->Nat->Bool}{aj:Bool}{F:Bool->Fn}{EX:XS}{e:Expr}{es:List Expr}{Xs:Es}{pos p:Pos}{x:Str}
theorem zeC{k cc:Nat}{ar:Arguments}{bd:List Stmt}{sc:Scope}{apos:Pos}(hr:bI k X.A)(hc:X.aj=true)(bR:aj=true)(IO:iC X.K (cA.a cc) ar bd sc (cA.f cc))(hl:Es.len Xs=(cA.f cc).length)(hg:Gl X x)(hm:X.mg x=some (.ref (cA.a cc)))
  (R:Raises X EX) (ha:SA X cA ao aj (F aj) EX (e::es) Xs) (hz:Es.len Xs<=sizeLine) (iw:(x==("__debug__" : Str))=false:=by decide) (he:starEach (e::es) X.env=(false,eval e X.env)::starEach es X.env:=by rfl) (bW:(backTo apos (starEach es X.env)).any (·.1)=false:=by rfl) :
  SS X cA ao aj F EX (.Raise (some (.Call (.Name x p) (e::es) [] apos)) none pos) (.rise cc true Xs):=PS.weak (zeF hr hc IO hg hm R ha iw he bW) λD Z H hh=>un hh λU J s hL hS h=>by
 have h:aJ X.K cA (if aj=true then ofM (M.bd (evs ao aj (F aj) Xs J) cF) J (λds s=>some (.er cc (if true=true then ds else []) J,s)) else λ_=>none) U H s D EX:=h;rw[if_pos bR] at h;refine sW hL hS (aJ.ofM hL hS.lz h) λvs H1 U1 xs s1 Ss x1 hL1 aD rv h1=>?_;have h1:Run X.K cA (M.bd (cF xs) M.ret) U1 H1 s1 (λa s1 U1 H1=>Ext U H U1 H1/\aB X.K cA U1 H1 s1/\aJ X.K cA (λs=>some (.er cc (if true=true then a else []) J,s)) U1 H1 s1 D EX) (eX X.K cA EX Z):=by
  unfold Run at h1 ⊢;unfold M.bd;cases e1:cF xs s1 with
  |none=>rw[e1] at h1;exact h1
  |some r=>
   obtain⟨r,s2⟩:=r;rw[e1] at h1;cases r with
   |er c f=>exact h1
   |ok ds=>exact h1
 obtain⟨ds,e1,rs,h2⟩:=Fe rv h1;obtain⟨_,_,h3⟩:=h2.bA aD;have Sv:vs.length=(cA.f cc).length:=by rw[<-rv.len,Ss];exact hl
 refine⟨Sv,by rw[<-rv.len,Ss];exact hz,λd hd=>?_⟩;have g:bx H1 (upd H1 d (.xd ((cA.f cc).zip vs))):=bx.new hd;exact h3 U1 _ Z g.ext (aD.grow g) (hL1.mono g.ext aD.lz) (some d) (.inr ⟨d,vs,rfl,aD.nz hd,jz,Sv.symm,rs.mono g.ext aD.lz⟩)
theorem Sw{k cc:Nat}{kk:NameKind}{ar:Arguments}{bd:List Stmt}{sc:Scope}{apos:Pos}(hr:bI k X.A)(hc:X.aj=true)(bR:aj=true)(IO:iC X.K (cA.a cc) ar bd sc (cA.f cc))(hm:X.mg x=some (.ref (cA.a cc)))(hg:JK X x .globalImplicit)
  (R:JR X EX) (ha:JA X cA ao aj (F aj) EX (e::es) Xs) (hd:okN x=true) (hl:decide (Es.len Xs=(cA.f cc).length)=true:=by rfl) (hz:decide (Es.len Xs<=sizeLine)=true:=by rfl) (he:aA e=true:=by rfl) (bW:es.all aA=true:=by rfl) :
  JS X cA ao aj F EX (.Raise (some (.Call (.Name x p) (e::es) [] apos)) none pos) (.rise cc true Xs):=⟨zeC hr hc bR IO (iZ hl) hg.o hm R.o ha.o (iZ hz) (nW hd).1 (bB he) (aR bW)⟩
end
section
variable {X:Cx}{cA:Cl}{ao:Nat->Nat->Bool}{aj:Bool}{F:Fn}{EX:XS}{a b:Expr}{A B:E}{pos p tpos:Pos}{elts:List Expr}{kk:Nat}
theorem Sx(hX:∀c∈cs,XF X.K (cA.a c) x/\(cA.f c).Nodup)(ha:JE X cA ao aj F EX a A)(hf:wW cA.f cs i x=true:=by decide +kernel)(hb:attributeBase a x X.env (eval a X.env)=eval a X.env:=by rfl) :
  JE X cA ao aj F EX (.Attribute a x pos) (.fld A cs i):=⟨zjn hf (λc hc=>(hX c hc).2) (λc hc=>(hX c hc).1) ha.o hb⟩
end
end Mi
namespace Mi
open PySem PySem.Spec PyProof.Rows L2 PySem.W
theorem zgr{fd:FuncData}{q:Str}{st:Stmt}(h:nJ fd=u9 q st):fd=fnOf "__init__" q (aN st) (aH st) (aq st) .none fd.kwdefaults fd.doc fd.pyModule fd.annotations fd.code fd.closureTuple:=by
 cases fd;unfold nJ u9 at h;cases h;rfl
structure wX(K:Frag)(C:Addr)(q:Str)(st:Stmt):Prop where
 ex:∃(fI:Addr) (od:Option Addr) (kV doc pm:Value) (an:Option Addr) (cdv ct:Value) (osl:Array (Option Value)) (cd:ClassData),
  K.lookup fI=some ⟨.type "function",od,.func (fnOf "__init__" q (aN st) (aH st) (aq st) .none kV doc pm an cdv ct),osl⟩/\codeIn K cdv q=true/\jx K C fI=true/\clsIn K C=some cd/\aV cd.mro=true/\cd.hasDict=true
theorem zkI{K:Frag}{C:Addr}{q:Str}{st:Stmt}(h:(zc K C).map nJ=some (u9 q st)):wX K C q st:=by
 cases e:zc K C with
 |none=>rw[e] at h;cases h
 |some fd=>
  rw[e] at h;have hp:nJ fd=u9 q st:=dh h;unfold zc at e;split at e
  ·rename_i cd jQ;split at e
   ·rename_i f hf;split at e
    ·rename_i od fd' sl hl;split at e
     ·rename_i hc;cases e;simp only[bZ] at hc;obtain⟨⟨⟨c1,c2⟩,c3⟩,c4⟩:=hc;have eq:=zgr hp;have qn:fd.qualname=q:=by rw[eq]
      refine⟨⟨f,od,fd.kwdefaults,fd.doc,fd.pyModule,fd.annotations,fd.code,fd.closureTuple,sl,cd,?_,by rw[<-qn];exact c1,c2,jQ,c3,c4⟩⟩;rw[<-eq];exact hl
     ·cases e
    ·cases e
   ·cases e
  ·cases e
structure qj(q:Str)(st:Stmt)(fs:List Str):Prop where
 bind:∀(kV doc pm:Value) (an:Option Addr) (cdv ct:Value) (us:List Value),us.length=fs.length+1->bindArgs (fnOf "__init__" q (aN st) (aH st) (aq st) .none kV doc pm an cdv ct) ⟨us,[]⟩=pure (((("self" : Str))::fs).zip us)
 nd:(("self" : Str)::fs).Nodup
 ne:fs≠[]
 few:fs.length<=900
 body:eZ "self" (aH st) fs=true
 kZ:∀x∈(aq st).names,x.2≠.cell
 loc:∀f∈(("self" : Str)::fs),(aq st).names.lookup f=some .local/\(f==("__debug__" : Str))=false
 co:(aq st).isCoroutine=false
 gen:(aq st).isGenerator=false
 kind:(aq st).kind=.function
noncomputable def Sy(sc:Scope)(fs:List Str):Bool:=sc.names.all (λx=>match x.2 with|.cell=>false|_=>true)&&(("self" : Str)::fs).all (λf=>(match sc.names.lookup f with|some .local=>true|_=>false) && !(f==("__debug__" : Str)))
theorem qj.of{q:Str}{st:Stmt}{fs:List Str}(bind:∀(kV doc pm:Value) (an:Option Addr) (cdv ct:Value) (us:List Value),us.length=fs.length+1->bindArgs (fnOf "__init__" q (aN st) (aH st) (aq st) .none kV doc pm an cdv ct) ⟨us,[]⟩=pure (((("self" : Str))::fs).zip us))(nd:(("self" : Str)::fs).Nodup)(ne:fs≠[])(few:fs.length<=900)(body:eZ "self" (aH st) fs=true)
  (sc:Sy (aq st) fs=true) (co:(aq st).isCoroutine=false) (gen:(aq st).isGenerator=false) (kind:(aq st).kind=.function):qj q st fs:=by
 unfold Sy at sc;rw[bZ,iM,iM] at sc;refine⟨bind,nd,ne,few,body,λx hx z=>?_,λf hf=>?_,co,gen,kind⟩
 ·have:=sc.1 x hx;rw[z] at this;cases this
 ·have:=sc.2 f hf;rw[bZ,Hg] at this;refine⟨?_,this.2⟩;have h1:=this.1;split at h1
  ·assumption
  ·cases h1
theorem zhm{K:Frag}{C:Addr}{q:Str}{st:Stmt}{fs:List Str}(a:wX K C q st)(t:qj q st fs)(s:setB K C fs=true):iC K C (aN st) (aH st) (aq st) fs:=by
 obtain⟨fI,od,kV,doc,pm,an,cdv,ct,osl,cd,h1,h2,h3,h4,h5,h6⟩:=a.ex;unfold setB at s;rw[bZ,gB,iM] at s;exact⟨⟨fI,od,kV,doc,pm,an,cdv,ct,osl,q,cd,h1,h2,h3,h4,h5,h6,λus hl=>t.bind kV doc pm an cdv ct us hl⟩,s.1,t.nd,t.ne,t.few,t.body,t.kZ,t.loc,λf hf=>gB.mp (s.2 f hf),t.co,t.gen,t.kind⟩
theorem zks{K:Frag}{C:Addr}{f:Str}(h:DY K C f=true):XF K C f:=by
 unfold DY at h;simp only[bZ,gB] at h;obtain⟨⟨⟨⟨h1,h2⟩,h3⟩,h4⟩,h5⟩:=h;exact⟨h1,h2,h3,h4,h5⟩
structure iK(fs:List (Str×Stmt))(ms:List rm)(xs:List (Nat×Str))(l:Lk)(K:Frag):Prop where
 fn:∀p∈fs,FnAt K p.1 p.2
 gd:uN l K
 mi:∀m∈ms,wX K (cN (l.L K) m.c) m.q m.st
 se:∀m∈ms,setB K (cN (l.L K) m.c) m.fs=true
 xf:∀x∈xs,XF K (cN (l.L K) x.1) x.2
theorem Mr{a:Nat}{o:Obj}:∀{l:List Obj} {i:Nat},((a:Addr),o)∈zf i l->i<=a/\l[a-i]?=some o/\o.isFreed=false
 |[],i,h=>by cases h
 |p::r,i,h=>by
  unfold zf at h;split at h
  ·obtain⟨h1,h2,h3⟩:=Mr h;refine⟨by lia,?_,h3⟩;rw[show a-i=(a-(i+1))+1 by lia];exact h2
  ·rename_i hf;rcases iQ.mp h with e|h
   ·cases e;exact⟨bY _,by simp,hf⟩
   ·obtain⟨h1,h2,h3⟩:=Mr h;refine⟨by lia,?_,h3⟩;rw[show a-i=(a-(i+1))+1 by lia];exact h2
theorem SJ:∀{K:Frag},K.lookup a=some o->(a,o)∈K
 |[],h=>by cases h
 |(b,p)::r,h=>by
  rw[jO] at h;by_cases e:a=b
  ·subst e;simp only[yU] at h;cases h;exact ju
  ·rw[show (a==b)=false by simpa using e] at h;exact fV _ (SJ h)
theorem zfn:(bH h).In h:=λa o e=>by
 have hm:=SJ e;unfold bH at hm;rcases mR.mp hm with z|z
 ·unfold lU at z;split at z
  ·rename_i p hp;rcases iQ.mp z with e|z
   ·cases e;exact hp
   ·cases z
  ·cases z
 ·obtain⟨_,h2,h3⟩:=Mr (List.mem_reverse.mp z);rw[Heap.get?_some_iff];refine⟨?_,h3⟩;have:h.objs.toList[a]?=some o:=by simpa using h2
  simpa using this
noncomputable def jr(fs:List (Str×Stmt))(ms:List rm)(xs:List (Nat×Str))(l:Lk):Hook where
 α:=List (Option FuncData)×List (Option FuncData)×Bool
 obs:=mW fs ms xs l
 val:=ou fs ms
 says:=λ_ h=>∃K:Frag,K.In h/\iK fs ms xs l K
 of:=λw s e=>by
  have e3:(_&&_&&_)=true:=n_ (λx=>x.2.2) e;rw[bZ,bZ,iM,iM] at e3;refine⟨bH s.heap,zfn,⟨λp hp=>?_,Kaa e3.1.1,λm hm=>?_,e3.1.2,λx hx=>zks (e3.2 x hx)⟩⟩
  ·have e1:=n_ Prod.fst e;exact zkv (List.map_inj_left.mp e1 p hp)
  ·have e1:=n_ (λx=>x.2.1) e;exact zkI (List.map_inj_left.mp e1 m hm)
 keeps:=λw h h' ⟨K,X,Y⟩ k=>⟨K,X.keeps k,Y⟩
theorem CZ{l:OpenLaw}{k:Nat}{q:Program}{loose:List Str}{XP:(Str->Option Value)->Heap->Prop}{fs:List (Str×Stmt)}{ms:List rm}{xs:List (Nat×Str)}{lk:Lk}{d:DefRec}{x:Str}(hn:l.most=some 63)(Jd:d.params.defaults=[])(hr:bI k callerA)
  (F:∀(w:World) (K:Frag) (mg:Str->Option Value) (fa:Addr) (h:Heap),iK fs ms xs lk K->K.In h->h.Ns mainGlobals mg->mg d.name=some (.ref fa)->
   ∃fd:FuncData,(∀(s:Shared) (u:Value),BindsTo s fd ⟨[u],[]⟩ [(x,u)])/\∀base:Heap,K.In base->base.Ns mainGlobals mg->dw l.prog w K mg base (je l.prog w) true k fa fd [x] (qd K)) :
  WalkO q loose XP (jr fs ms xs lk).says l.row.toRowW d [] (λf vs=>PySem.call f vs):=by
 refine Qe.jV hn Jd λw s₀ s₁ mg mb fa o pm cd doc a vs ns G Y ho hd jQ hmg vN hints hlen hg=>?_;obtain⟨K,KX,SY⟩:=Y;obtain⟨fd,hb,hF⟩:=F w K mg fa _ SY KX G.T.g hmg;exact Yp KX G.T.g G.T.b G.T.builtins G.T.nolimit hg vN hints (jd hlen J0) hr hF hb (λH hO hS=>⟨a,ns,rfl,hS,hlen,hO,λ_=>rfl⟩) λH e s' h=>by
  obtain⟨_,_,_,_,_,_,_,_,_,_,z⟩:=h;exact z
theorem bind1{f:List Value->Sem (List (Str×Value))}{a b:Str}(h:∀x y,f [x,y]=pure [(a,x),(b,y)])(us:List Value)(hl:us.length=[b].length+1):f us=pure ([a,b].zip us):=by
 cases us with
 |nil=>cases hl
 |cons x t=>
  cases t with
  |nil=>cases hl
  |cons y t=>
   cases t with
   |nil=>exact h x y
   |cons z t=>cases hl
structure D3(K:Frag)(mg:Str->Option Value)(x:Str)(st:Stmt)(ps:List Str):Prop where
 f:tD K x x st (gH K x) (fdOf K x st)
 m:mg x=some (.ref (gH K x))
 b:Binds K (fdOf K x st) ps []
theorem dk{p:Prop}(h:p:=by decide +kernel):p:=h
section
variable {fs:List (Str×Stmt)}{ms:List rm}{xs:List (Nat×Str)}{lk:Lk}{K:Frag}{h:Heap}{mg:Str->Option Value}{x:Str}{st:Stmt}
theorem j6(S:iK fs ms xs lk K)(X:K.In h)(G:h.Ns mainGlobals mg)(j:Nat)(hj:fs[j]?=some (x,st):=by rfl)(hb:∀(kV doc pm:Value) (an:Option Addr) (cdv ct a:Value),bindArgs (fnOf x x (aN st) (aH st) (aq st) .none kV doc pm an cdv ct) ⟨[a],[]⟩=pure [(p,a)]:=by intros;rfl):D3 K mg x st [p]:=have F:=S.fn (x,st) (jh hj);⟨F.fn,F.m X G,tL F.fn hb⟩
theorem wY(S:iK fs ms xs lk K)(X:K.In h)(G:h.Ns mainGlobals mg)(j:Nat)(hj:fs[j]?=some (x,st):=by rfl)(hb:∀(kV doc pm:Value) (an:Option Addr) (cdv ct a b:Value),bindArgs (fnOf x x (aN st) (aH st) (aq st) .none kV doc pm an cdv ct) ⟨[a,b],[]⟩=pure [(p,a),(q,b)]:=by intros;rfl):D3 K mg x st [p,q]:=have F:=S.fn (x,st) (jh hj);⟨F.fn,F.m X G,tM F.fn hb⟩
theorem SM(S:iK fs ms xs lk K)(X:K.In h)(G:h.Ns mainGlobals mg)(j:Nat)(hj:fs[j]?=some (x,st):=by rfl)(hb:∀(kV doc pm:Value) (an:Option Addr) (cdv ct a b c:Value),bindArgs (fnOf x x (aN st) (aH st) (aq st) .none kV doc pm an cdv ct) ⟨[a,b,c],[]⟩=pure [(p,a),(q,b),(t,c)]:=by intros;rfl):D3 K mg x st [p,q,t]:=have F:=S.fn (x,st) (jh hj);⟨F.fn,F.m X G,tO F.fn hb⟩
theorem mG{α:Type}{l:List α}{a:α}(j:Nat)(h:l[j]?=some a:=by rfl):a∈l:=jh h
end
end Mi
namespace Mi
open PySem PySem.Spec PyProof.Rows L2
section
variable {X:Cx}{cA:Cl}
theorem zdW:cO X (.type "str") (λxs H Q=>∃i:Int,xs=[.int i]/\i.natAbs<2^62/\Q (.str (Str.ofString (toString i))) H):=by
 rintro ak s Z H xs us Q I r ⟨i,e,hi,q⟩;subst e;obtain⟨u,rfl,t,rfl⟩:=vals1 r;exact str_of_int_fit (N:=4611686018427387904) (by split<;>lia) (Int.le_refl _) λ_=>⟨.str (Str.ofString (toString i)),H,I.tok _,⟨_,rfl⟩,q⟩
theorem zhn:aW X.K cA .str1 (λxs H Q=>∃i:Int,xs=[.int i]/\i.natAbs<2^62/\Q (.str (Str.ofString (toString i))) H):=by
 intro U H ds vs Q zt rs o;have o:aQ X.K cA U H (jf ds) Q:=o;unfold jf at o;split at o
 ·rename_i i _;obtain⟨v,rfl,r1⟩:=rs.one;cases r1;by_cases hk:i.natAbs<2^62
  ·rw[if_pos hk] at o;exact⟨i,rfl,hk,(o.of rfl).here (.str _)⟩
  ·rw[if_neg hk] at o;exact o.elim
 ·exact o.elim
end
section
variable {X:Cx}{cA:Cl}{ao:Nat->Nat->Bool}{aj:Bool}{F:Fn}{EX:XS}{e:Expr}{pos p:Pos}{es:List Expr}{Xs:Es}{fz:Bool}
theorem FQ(hm:X.mg "str"=none)(hg:JK X "str" .globalImplicit)(ha:JA X cA ao aj F EX (e::es) Xs)(he:aA e=true:=by rfl)(bW:es.all aA=true:=by rfl):JE X cA ao aj F EX (.Call (.Name "str" p) (e::es) [] pos) (.pr fz .str1 Xs):=⟨K6 zdW zhn hg.o hm PyProof.Rows.boot_str ha.o J0 J0 (bB he) (aR bW)⟩
end
end Mi
namespace Mi
open PySem
def W{α:Type}(m:M α)(s:S)(P:α->S->Prop):Prop:=∃a s',m s=some (.ok a,s')/\P a s'
def WS(m:MS)(s:S)(Q:Out->S->Prop):Prop:=∃o s',m s=some (o,s')/\Q o s'
section
variable {α β:Type}{m:M α}{k:α->M β}{s:S}{P:α->S->Prop}{R:β->S->Prop}
theorem W.bd(h:W m s λa s'=>W (k a) s' R):W (M.bd m k) s R:=by
 obtain⟨a,s',e,b,s2,e2,r⟩:=h;exact⟨b,s2,by unfold M.bd;rw[e];exact e2,r⟩
theorem W.ret{a:α}(h:P a s):W (M.ret a) s P:=⟨a,s,rfl,h⟩
theorem W.qt(h:W m s P):W (M.qt m) s P:=by
 obtain⟨a,s',e,p⟩:=h;exact⟨a,s',by unfold M.qt;rw[e],p⟩
theorem W.opt(e:o=some a)(h:P a s):W (M.opt o) s P:=by subst e;exact⟨a,s,rfl,h⟩
theorem W.imp{P':α->S->Prop}(h:W m s P)(f:∀a s',P a s'->P' a s'):W m s P':=let ⟨a,s',e,p⟩:=h;⟨a,s',e,f a s' p⟩
theorem W.eq(e:m s=some (.ok a,s'))(p:P a s'):W m s P:=⟨a,s',e,p⟩
theorem ql{d:D}{P:D->S->Prop}(h:P d s):W (rd (.d d)) s P:=⟨d,s,rfl,h⟩
theorem SN{n:Nat}{xs:List D}{P:D->S->Prop}(e:s[n]?=some (.lst xs))(h:P (.fl xs) s):W (rd (.l n)) s P:=⟨.fl xs,s,by unfold rd;simp only[e],h⟩
theorem FT{P:List D->S->Prop}(h:P [] s):W (cJ []) s P:=⟨[],s,rfl,h⟩
theorem wZ{x:Xv}{r:List Xv}{P:List D->S->Prop}(h:W (rd x) s λd s1=>W (cJ r) s1 λds s2=>P (d::ds) s2):W (cJ (x::r)) s P:=W.bd (h.imp λd s1 h1=>W.bd (h1.imp λds s2 h2=>W.ret h2))
theorem Kar{P:List D->S->Prop}(h:P [] s):W (cF []) s P:=⟨[],s,rfl,h⟩
theorem Kaq{d:D}{r:List Xv}{P:List D->S->Prop}(h:W (cF r) s λds s2=>P (d::ds) s2):W (cF (.d d::r)) s P:=W.bd (W.ret (W.bd (h.imp λds s2 h2=>W.ret h2)))
theorem W.dat{x:D}{P:D->S->Prop}(h:P x s):W (dat (.d x)) s P:=⟨x,s,rfl,h⟩
theorem W.bool{b:Bool}{P:Bool->S->Prop}(h:P b s):W (bool (.d (.bl b))) s P:=⟨b,s,rfl,h⟩
theorem W.int{b:Int}{P:Int->S->Prop}(h:P b s):W (int (.d (.int b))) s P:=⟨b,s,rfl,h⟩
theorem cM{fz:Bool}{o:Option Rz}{d:D}{P:Xv->S->Prop}(e:o=some (.dat d))(h:P (.d d) s):W (aX fz o) s P:=by subst e;exact⟨_,s,rfl,h⟩
theorem FW{o:Option Rz}{xs:List D}{P:Xv->S->Prop}(e:o=some (.nw xs))(h:P (.d (.fl xs)) s):W (aX true o) s P:=by subst e;exact⟨_,s,rfl,h⟩
theorem KaM{xs:List D}{P:Xv->S->Prop}(h:P (.d (.fl xs)) s):W (newL true xs) s P:=⟨_,s,rfl,h⟩
theorem KaL{xs:List D}{P:Xv->S->Prop}(h:P (.l s.length) (s++[.lst xs])):W (newL false xs) s P:=⟨_,_,rfl,h⟩
theorem W.dO{F:List Xv->M Xv}{xs:List Xv}{P:Xv->S->Prop}(hl:locs xs=[])(h:W (F (cC 0 xs)) [] λv _=>∃d,v=.d d/\P (.d d) s):W (bM F xs) s P:=by
 obtain⟨v,s1,e,d,rfl,p⟩:=h;refine⟨.d d,s,?_,p⟩;unfold bM;rw[hl,if_pos yW];simp only[fQ,e,bV]
theorem Kal{F:List Xv->M Xv}{xs:List Xv}{P:Xv->S->Prop}(hl:locs xs=[])(h:W (F (cC 0 xs)) [] λv s1=>∃n o,v=.l n/\s1[n]?=some o/\P (.l s.length) (s++[o])):W (bM F xs) s P:=by
 obtain⟨v,s1,e,n,o,rfl,eo,p⟩:=h;refine⟨.l s.length,s++[o],?_,p⟩;unfold bM;rw[hl,if_pos yW];simp only[fQ,e,bV,List.getElem?_nil,eo]
theorem SQ{F:List Xv->M Xv}{xs:List Xv}{n:Nat}{o:SO}{P:Xv->S->Prop}(hl:locs xs=[n])(ho:s[n]?=some o)(h:W (F (cC 0 xs)) [o] λv s1=>∃d o',v=.d d/\s1=[o']/\P (.d d) (s.set n o')):W (bM F xs) s P:=by
 obtain⟨v,s1,e,d,o',rfl,rfl,p⟩:=h;refine⟨.d d,s.set n o',?_,p⟩;unfold bM;rw[hl,if_pos MP];simp only[fQ,ho,e,bV]
end
section
variable {s:S}{Q:Out->S->Prop}
theorem WS.ofM(h:W m s λa s'=>WS (k a) s' Q):WS (Mi.ofM m J k) s Q:=by
 obtain⟨a,s',e,o,s2,e2,q⟩:=h;exact⟨o,s2,by unfold Mi.ofM;rw[e];exact e2,q⟩
theorem WS.nx(h:Q (.nx J) s):WS (λs=>some (.nx J,s)) s Q:=⟨_,s,rfl,h⟩
theorem WS.rt(h:Q (.rt x) s):WS (λs=>some (.rt x,s)) s Q:=⟨_,s,rfl,h⟩
end
theorem W.call(hT:T f=some d)(hl:xs.length=d.fB)
  (h:WS (exs ao aj (λc=>Mi.call ao T k c) d.body (xs.map some++List.replicate (d.many-d.fB) none)) s λo s'=>match o with|.nx _=>P (.d .non) s'|.rt v=>P v s'|_=>False):W (Mi.call ao T (k+1) aj f xs) s P:=by
 obtain⟨o,s',e,q⟩:=h;unfold Mi.call;simp only[hT,if_pos hl];unfold W;simp only[e];cases o with
 |nx J=>exact⟨_,_,rfl,q⟩
 |rt v=>exact⟨_,_,rfl,q⟩
 |bk J=>exact q.elim
 |ct J=>exact q.elim
 |er c fs J=>exact q.elim
theorem w6(I:Nat->Vs->S->Prop)(h0:I 0 J s)(hb:∀i x J s,c[i]?=some x->I i J s->WS (b x J) s λo s'=>∃J',o=.nx J'/\I (i+1) J' s')
  (he:∀J s,I c.length J s->Q (.nx J) s):WS (cG (.fix c) b (c.length+1) 0 J) s Q:=by
 have key:∀n i J s,i+n=c.length->I i J s->WS (cG (.fix c) b (n+1) i J) s Q:=by
  intro n
  induction n with
  |zero=>
   intro i J s hi hI;have e:c[i]?=none:=by rw[qW];lia
   have:i=c.length:=by lia
   subst this;refine⟨_,s,?_,he J s hI⟩;unfold cG;simp only[Src.at,e]
  |succ n ih=>
   intro i J s hi hI;have nj:i<c.length:=by lia
   have e:c[i]?=some c[i]:=gU nj;obtain⟨o,s',eb,J',rfl,C_⟩:=hb i c[i] J s e hI;obtain⟨o2,s2,e2,q⟩:=ih (i+1) J' s' gV C_;refine⟨o2,s2,?_,q⟩;unfold cG;simp only[Src.at,e,eb];exact e2
 exact key c.length 0 J s gV h0
theorem zkg{i j:Int}(h:(-(2^64)<i/\i<2^64)\/(-(2^64)<j/\j<2^64)):prim .mul [.int i,.int j]=some (.dat (.int (i*j))):=by
 show Option.map _ (if _ then _ else _)=_;rw[if_pos h];rfl
theorem zkt{i j:Int}(h:0<j):prim .mod [.int i,.int j]=some (.dat (.int (i%j))):=by
 show Option.map _ (if _ then _ else _)=_;rw[if_pos h];rfl
theorem ziD{i j:Int}(h:0<j/\j<1073741824):prim .fdiv [.int i,.int j]=some (.dat (.int (i/j))):=by
 show Option.map _ (if _ then _ else _)=_;rw[if_pos h];rfl
theorem zfh{i j:Int}(h:0<j/\j<1073741824):prim .divmod [.int i,.int j]=some (.dat (.tup [.int (i/j),.int (i%j)])):=by
 show Option.map _ (if _ then _ else _)=_;rw[if_pos h];rfl
theorem zkm{i j:Int}(h:0<=j/\j<=1000000/\i.natAbs<2^64):prim .pow [.int i,.int j]=some (.dat (.int (i^j.toNat))):=by
 show Option.map _ (if _ then _ else _)=_;rw[if_pos h];rfl
theorem Dg{xs:List D}{i:Nat}{x:D}(h:xs[i]?=some x):prim .ix [.fl xs,.int i]=some (.dat x):=by
 show Option.map Rz.dat (L2.oR xs i)=_;have:L2.oR xs (i:Int)=some x:=by
  unfold L2.oR L2.rM;have hl:i<xs.length:=(gR.mp h).1;simp[hl];exact(gR.mp h).2
 rw[this];rfl
theorem SX(h:xs.length+ys.length<=sizeLine):prim .add [.fl xs,.fl ys]=some (.nw (xs++ys)):=by
 show (if _ then _ else _)=_;rw[if_pos h]
theorem W.ite[Decidable c](h1:c->W m1 s P)(h2:¬c->W m2 s P):W (if c then m1 else m2) s P:=by
 by_cases h:c
 ·rw[if_pos h];exact h1 h
 ·rw[if_neg h];exact h2 h
theorem WS.ite[Decidable c](h1:c->WS m1 s P)(h2:¬c->WS m2 s P):WS (if c then m1 else m2) s P:=by
 by_cases h:c
 ·rw[if_pos h];exact h1 h
 ·rw[if_neg h];exact h2 h
theorem Ms{n:Nat}{xs:List D}{s:S}{P:Unit->S->Prop}(h:P () (s.set n (.lst xs))):W (putL n xs) s P:=⟨_,_,rfl,h⟩
theorem W.bU{n:Nat}{xs:List D}{s:S}{P:Nat×List D->S->Prop}(e:s[n]?=some (.lst xs))(h:P (n,xs) s):W (bU (.l n)) s P:=⟨_,s,by unfold Mi.bU;simp only[e],h⟩
theorem Ka0{xs:List D}{s:S}{P:Src×Nat->S->Prop}(h:P (.fix xs,xs.length) s):W (src (.d (.tup xs))) s P:=⟨_,s,rfl,h⟩
theorem KaZ{xs:List D}{s:S}{P:Src×Nat->S->Prop}(h:P (.fix xs,xs.length) s):W (src (.d (.fl xs))) s P:=⟨_,s,rfl,h⟩
theorem WS.nil{ao:Nat->Nat->Bool}{aj:Bool}{F:Bool->Fn}{J:Vs}{s:S}{Q:Out->S->Prop}(h:Q (.nx J) s):WS (exs ao aj F .nil J) s Q:=⟨_,s,rfl,h⟩
theorem WS.cons{ao:Nat->Nat->Bool}{aj:Bool}{F:Bool->Fn}{a:St}{r:cj}{J:Vs}{s:S}{Q:Out->S->Prop}(h:WS (ex ao aj F a J) s λo s'=>match o with|.nx J'=>WS (exs ao aj F r J') s' Q|.rt x=>Q (.rt x) s'|_=>False):WS (exs ao aj F (.cons a r) J) s Q:=by
 obtain⟨o,s',e,q⟩:=h;unfold WS exs Mi.bQ;rw[e];cases o with
 |nx J'=>exact q
 |rt x=>exact⟨_,_,rfl,q⟩
 |bk _=>exact q.elim
 |ct _=>exact q.elim
 |er _ _ _=>exact q.elim
def nZ{α:Type}(o:Option α)(P:α->Prop):Prop:=∃a,o=some a/\P a
theorem nZ.mk{α:Type}{o:Option α}{P:α->Prop}{a:α}(e:o=some a)(h:P a):nZ o P:=⟨a,e,h⟩
section
variable {ao:Nat->Nat->Bool}{aj:Bool}{F:Fn}{J:Vs}{s:S}{P:Xv->S->Prop}
theorem W.eC{d:D}(h:P (.d d) s):W (ev ao aj F (.c d) J) s P:=W.ret h
theorem W.eV{i:Nat}{x:Xv}(e:J[i]?.join=some x)(h:P x s):W (ev ao aj F (.v i) J) s P:=W.opt e h
theorem S5{fz:Bool}{p:Pr}{xs:Es}(h:W (evs ao aj F xs J) s λvs s1=>W (cJ vs) s1 λds s2=>W (aX fz (prim p ds)) s2 P):W (ev ao aj F (.pr fz p xs) J) s P:=W.bd (h.imp λ_ _ h=>W.bd h)
theorem Kat{a b:E}(h:W (ev ao aj F a J) s λx s1=>W (Mi.bool x) s1 λk s2=>W (if k=true then ev ao aj F b J else M.ret (.d (.bl false))) s2 P):W (ev ao aj F (.and a b) J) s P:=W.bd (h.imp λ_ _ h=>W.bd h)
theorem KaC{a b:E}(h:W (ev ao aj F a J) s λx s1=>W (Mi.bool x) s1 λk s2=>W (if k=true then M.ret (.d (.bl true)) else ev ao aj F b J) s2 P):W (ev ao aj F (.or a b) J) s P:=W.bd (h.imp λ_ _ h=>W.bd h)
theorem S6{a:E}(h:W (ev ao aj F a J) s λx s1=>W (Mi.bool x) s1 λk s2=>P (.d (.bl (!k))) s2):W (ev ao aj F (.not a) J) s P:=W.bd (h.imp λ_ _ h=>W.bd (h.imp λ_ _ h=>W.ret h))
theorem KaF{xs:Es}(h:W (evs ao aj F xs J) s λvs s1=>W (cF vs) s1 λds s2=>P (.d (.tup ds)) s2):W (ev ao aj F (.tup xs) J) s P:=W.bd (h.imp λ_ _ h=>W.bd (h.imp λ_ _ h=>W.ret h))
theorem Kaz{fz:Bool}{xs:Es}(h:W (evs ao aj F xs J) s λvs s1=>W (cF vs) s1 λds s2=>W (newL fz ds) s2 P):W (ev ao aj F (.lst fz xs) J) s P:=W.bd (h.imp λ_ _ h=>W.bd h)
theorem Kaw{k:Str}{i:Int}(h:P (.d (.fd [.str k] [.int i])) s):W (ev ao aj F (.pI k i) J) s P:=W.ret h
theorem S7{f:Nat}{xs:Es}(h:W (evs ao aj F xs J) s λvs s1=>W (bM (F f) vs) s1 P):W (ev ao aj F (.call f xs) J) s P:=W.bd h
theorem KaE{fz:Bool}{a:E}{lo hi:Eo}(h:W (ev ao aj F a J) s λx s1=>W (sJ ao aj F lo J) s1 λl s2=>W (sJ ao aj F hi J) s2 λu s3=>W (rd x) s3 λd s4=>W (aX fz (cutD d l u)) s4 P):W (ev ao aj F (.sl fz a lo hi) J) s P:=W.bd (h.imp λ_ _ h=>W.bd (h.imp λ_ _ h=>W.bd (h.imp λ_ _ h=>W.bd h)))
theorem KaN{P:Option Int->S->Prop}(h:P none s):W (sJ ao aj F .no J) s P:=W.ret h
theorem KaO{a:E}{P:Option Int->S->Prop}(h:W (ev ao aj F a J) s λx s1=>W (Mi.int x) s1 λi s2=>P (some i) s2):W (sJ ao aj F (.yes a) J) s P:=W.bd (h.imp λ_ _ h=>W.bd (h.imp λ_ _ h=>W.ret h))
theorem S8{P:List Xv->S->Prop}(h:P [] s):W (evs ao aj F .nil J) s P:=W.ret h
theorem Kah{a:E}{r:Es}{P:List Xv->S->Prop}(h:W (ev ao aj F a J) s λx s1=>W (evs ao aj F r J) s1 λxs s2=>P (x::xs) s2):W (evs ao aj F (.cons a r) J) s P:=W.bd (h.imp λ_ _ h=>W.bd (h.imp λ_ _ h=>W.ret h))
theorem KaJ{a:E}{P:Src×Nat->S->Prop}(h:W (ev ao aj F a J) s λx s1=>W (src x) s1 P):W (j8 ao aj F (.seq a) J) s P:=W.bd h
end
section
variable {ao:Nat->Nat->Bool}{aj:Bool}{F:Bool->Fn}{J:Vs}{s:S}{Q:Out->S->Prop}
theorem WS.Mt{b:Bool}{m1 m2:MS}(e:b=true)(h:WS m1 s Q):WS (if b=true then m1 else m2) s Q:=by rw[if_pos e];exact h
theorem WS.Mu{b:Bool}{m1 m2:MS}(e:b=false)(h:WS m2 s Q):WS (if b=true then m1 else m2) s Q:=by rw[if_neg (by rw[e];decide)];exact h
theorem WS.qm{m1 m2:MS}(h:WS m1 s Q):WS (if true=true then m1 else m2) s Q:=by rw[if_pos rfl];exact h
theorem WS.Mv{m1 m2:MS}(h:WS m2 s Q):WS (if false=true then m1 else m2) s Q:=by rw[if_neg J0];exact h
theorem Kbb{e:E}(h:W (ev ao aj (F aj) e J) s λ_ s1=>Q (.nx J) s1):WS (ex ao aj F (.ex e) J) s Q:=WS.ofM (h.imp λ_ _ h=>WS.nx h)
theorem FZ{i:Nat}{e:E}(h:W (ev ao aj (F aj) e J) s λx s1=>Q (.nx (J.set i (some x))) s1):WS (ex ao aj F (.asg (.nm i) e) J) s Q:=WS.ofM (h.imp λ_ _ h=>WS.nx h)
theorem S9{is:List Nat}{e:E}(h:W (ev ao true (F true) e J) s λx s1=>W (dat x) s1 λd s2=>nZ ((f9 d).bind λds=>cU is (ds.map .d) J) λJ'=>Q (.nx J') s2):WS (ex ao true F (.asg (.tp is) e) J) s Q:=by
 refine WS.ofM (h.imp λx s1 h=>?_);exact WS.qm (m2:=λ_=>none) (WS.ofM (W.bd (h.imp λd s2 ⟨J',e,q⟩=>W.opt e (WS.nx q))))
theorem Kbi{o i e:E}(h:W (ev ao aj (F aj) e J) s λx s1=>W (dat x) s1 λd s2=>W (ev ao aj (F aj) o J) s2 λy s3=>W (ev ao aj (F aj) i J) s3 λz s4=>W (Mi.int z) s4 λj s5=>W (bU y) s5 λnx s6=>nZ (L2.rM nx.2.length j) λq=>Q (.nx J) (s6.set nx.1 (.lst (nx.2.set q d)))):WS (ex ao aj F (.asg (.ao o i) e) J) s Q:=by
 refine WS.ofM (h.imp λx s1 h=>WS.ofM (W.bd (h.imp λd s2 h=>W.bd (h.imp λy s3 h=>W.bd (h.imp λz s4 h=>W.bd (h.imp λj s5 h=>W.bd (h.imp λnx s6 h=>?_)))))));obtain⟨q,e,h⟩:=h;simp only[e];exact Ms (WS.nx h)
theorem Kbf{i j:Nat}{a b:E}(h:W (ev ao true (F true) a J) s λx s1=>W (ev ao true (F true) b J) s1 λy s2=>Q (.nx ((J.set i (some x)).set j (some y))) s2):WS (ex ao true F (.par i j a b) J) s Q:=by
 exact WS.qm (m2:=λ_=>none) (WS.ofM (W.bd (h.imp λx s1 h=>W.bd (h.imp λy s2 h=>W.ret (WS.nx h)))))
theorem S_{e:E}(h:W (ev ao aj (F aj) e J) s λx s1=>Q (.rt x) s1):WS (ex ao aj F (.ret e) J) s Q:=WS.ofM (h.imp λ_ _ h=>WS.rt h)
theorem Mw{c:E}{t e:cj}(h:W (ev ao aj (F aj) c J) s λx s1=>W (Mi.bool x) s1 λb s2=>WS (if b=true then exs ao aj F t J else exs ao aj F e J) s2 Q):WS (ex ao aj F (.iff c t e) J) s Q:=WS.ofM (W.bd h)
theorem Kbc{t:Tg}{w:Wk}{b:cj}(h:W (j8 ao true (F true) w J) s λcn s1=>WS (cG cn.1 (λd J=>Mi.bQ (store ao true (F true) t (.d d) J) λJ'=>exs ao true F b J') (cn.2+1) 0 J) s1 Q):WS (ex ao true F (.fr t w b) J) s Q:=by
 exact WS.qm (m2:=λ_=>none) (WS.ofM h)
end
theorem W.Mt{α:Type}{b:Bool}{m1 m2:M α}{s:S}{P:α->S->Prop}(e:b=true)(h:W m1 s P):W (if b=true then m1 else m2) s P:=by rw[if_pos e];exact h
theorem W.Mu{α:Type}{b:Bool}{m1 m2:M α}{s:S}{P:α->S->Prop}(e:b=false)(h:W m2 s P):W (if b=true then m1 else m2) s P:=by rw[if_neg (by rw[e];decide)];exact h
theorem W.qm{α:Type}{m1 m2:M α}{s:S}{P:α->S->Prop}(h:W m1 s P):W (if true=true then m1 else m2) s P:=by rw[if_pos rfl];exact h
theorem W.Mv{α:Type}{m1 m2:M α}{s:S}{P:α->S->Prop}(h:W m2 s P):W (if false=true then m1 else m2) s P:=by rw[if_neg J0];exact h
structure Bx(R:Prop):Prop where
 o:R
end Mi
namespace Mi
open PySem PySem.W PyProof.Rows L2
section
variable {α β:Type}{lt:Nat->Nat->Option Bool}{n:Nat}
def Tot(n:Nat)(lt:Nat->Nat->Option Bool):Prop:=∀i j,i<n->j<n->∃b,lt i j=some b
variable (ht:Tot n lt)(hn:0<n)
include ht hn
end
end Mi
namespace Mi
open PySem
theorem W.walk{c:List D}{f:D->List D->M (List D)}{s:S}{acc:List D}{P:List D->S->Prop}(I:Nat->List D->S->Prop)(h0:I 0 acc s)(hb:∀i x acc s,c[i]?=some x->I i acc s->W (f x acc) s λa s'=>I (i+1) a s')
  (he:∀acc s,I c.length acc s->P acc s):W (Mi.walk (.fix c) f (c.length+1) 0 acc) s P:=by
 have key:∀n i acc s,i+n=c.length->I i acc s->W (Mi.walk (.fix c) f (n+1) i acc) s P:=by
  intro n
  induction n with
  |zero=>
   intro i acc s hi hI;have e:c[i]?=none:=by rw[qW];lia
   have:i=c.length:=by lia
   subst this;refine⟨acc,s,?_,he acc s hI⟩;unfold Mi.walk;simp only[Src.at,e]
  |succ n ih=>
   intro i acc s hi hI;have nj:i<c.length:=by lia
   have e:c[i]?=some c[i]:=gU nj;obtain⟨a,s',eb,C_⟩:=hb i c[i] acc s e hI;obtain⟨a2,s2,e2,q⟩:=ih (i+1) a s' gV C_;refine⟨a2,s2,?_,q⟩;unfold Mi.walk;simp only[Src.at,e,M.bd,eb];exact e2
 exact key c.length 0 acc s gV h0
section
variable {ao:Nat->Nat->Bool}{aj:Bool}{F:Fn}{J:Vs}{s:S}{P:Xv->S->Prop}
theorem Kax(h:W (ev ao aj F a J) s λx s1=>W (rd x) s1 λd s2=>∃b,fX ao d k=some b/\P (.d (.bl b)) s2):W (ev ao aj F (.dJ a k) J) s P:=
 W.bd (h.imp λ_ _ h=>W.bd (h.imp λ_ _ ⟨_,e,h⟩=>W.bd (W.opt e (W.ret h))))
theorem Kav(h:W (ev ao aj F a J) s λx s1=>W (ev ao aj F b J) s1 λy s2=>W (cJ [x,y]) s2 λds s3=>W (aX true (prim p ds)) s3 λt s4=>W (Mi.bool t) s4 λk s5=>
  W (if k=true then M.bd (ev ao aj F c J) λz=>M.bd (cJ [y,z]) λds=>aX true (prim q ds) else M.ret (.d (.bl false))) s5 P):W (ev ao aj F (.rQ p q a b c) J) s P:=
 W.bd (h.imp λ_ _ h=>W.bd (h.imp λ_ _ h=>W.bd (h.imp λ_ _ h=>W.bd (h.imp λ_ _ h=>W.bd h))))
end
noncomputable def Dh(fz:Bool):Option Rz->Option Xv
 |some (.dat d)=>some (.d d)
 |some (.nw ys)=>match fz with
  |true=>some (.d (.fl ys))
  |false=>none
 |none=>none
noncomputable def addQ:D->D->Option Rz
 |.int i,.int j=>some (.dat (.int (i+j)))
 |_,_=>none
noncomputable def uO:List D->Option Rz
 |a::r=>match r with
  |b::r=>match r with
   |[]=>addQ a b
   |_::_=>none
  |[]=>none
 |[]=>none
noncomputable def quick:Pr->Bool
 |.Bh=>false|.QS=>false|.mul=>false|.fdiv=>false|.mod=>false|.pow=>false|.divmod=>false|.sorted=>false|.mq=>false|.Bj=>false|.mult=>false|.ug=>false|.repr=>false|.str1=>false|.QT=>false|.Bf=>false|.Bg=>false|.shl=>false|.shr=>false|.band=>false|.pD=>false
 |_=>true
noncomputable def mK(p:Pr)(ds:List D):Option Rz:=match p with
 |.add=>uO ds
 |p=>match quick p with
  |true=>prim p ds
  |false=>none
theorem Di{ds:List D}{r:Rz}(h:uO ds=some r):v7 ds=some r:=by
 cases ds with
 |nil=>cases h
 |cons a t=>cases t with
  |nil=>cases h
  |cons b t=>cases t with
   |cons _ _=>cases h
   |nil=>cases a with
    |int i=>cases b with
     |int j=>exact h
     |_=>cases h
    |_=>cases h
theorem xg{p:Pr}{ds:List D}{r:Rz}(h:mK p ds=some r):prim p ds=some r:=by
 cases p with
 |add=>exact Di h
 |_=>first|exact h|cases h
noncomputable def Mx(fz:Bool)(ds:List D):Option Xv:=match fz with
 |true=>some (.d (.fl ds))
 |false=>none
noncomputable def Dj:Xv->Option D
 |.d x=>some x
 |.l _=>none
noncomputable def obP(c:Nat):Xv->Option (List D)
 |.d (.ob e fs)=>if e=c then some fs else none
 |_=>none
noncomputable def notP:Xv->Option Xv
 |.d (.bl b)=>some (.d (.bl (!b)))
 |_=>none
noncomputable def Mz(r:Option Xv):Xv->Option Xv
 |.d (.bl true)=>r
 |.d (.bl false)=>some (.d (.bl false))
 |_=>none
noncomputable def orP(r:Option Xv):Xv->Option Xv
 |.d (.bl true)=>some (.d (.bl true))
 |.d (.bl false)=>r
 |_=>none
section
variable (ao:Nat->Nat->Bool)
mutual
noncomputable def eG:E->Vs->Option Xv
 |.c d,_=>some (.d d)
 |.v i,J=>J[i]?.join
 |.pr fz p xs,J=>(lH xs J).bind λds=>Dh fz (mK p ds)
 |.tup xs,J=>(lH xs J).bind λds=>some (.d (.tup ds))
 |.lst fz xs,J=>(lH xs J).bind λds=>Mx fz ds
 |.not a,J=>(eG a J).bind notP
 |.and a b,J=>(eG a J).bind (Mz (eG b J))
 |.or a b,J=>(eG a J).bind (orP (eG b J))
 |.dJ a k,J=>(eG a J).bind λx=>(Dj x).bind λd=>(fX ao d k).bind λb=>some (.d (.bl b))
 |.of o c i,J=>(eG o J).bind λx=>(obP c x).bind λfs=>fs[i]?.map .d
 |_,_=>none
noncomputable def lH:Es->Vs->Option (List D)
 |.nil,_=>some []
 |.cons a r,J=>(eG a J).bind λx=>(Dj x).bind λd=>(lH r J).bind λds=>some (d::ds)
end
noncomputable def mL:Es->Vs->Option (List Xv)
 |.nil,_=>some []
 |.cons a r,J=>(eG ao a J).bind λx=>(mL r J).bind λxs=>some (x::xs)
end
theorem jM{α β:Type}{o:Option α}{f:α->Option β}{b:β}(h:o.bind f=some b):∃a,o=some a/\f a=some b:=kh.mp h
theorem gq{α β:Type}{m:M α}{k:α->M β}{s s':S}{a:α}(e:m s=some (.ok a,s')):M.bd m k s=k a s':=by
 show (match m s with|some (.ok a,s')=>k a s'|some (.er c f,s')=>some (.er c f,s')|none=>none)=_;rw[e]
theorem xq(s:S):∀ds:List D,cJ (ds.map .d) s=some (.ok ds,s)
 |[]=>rfl
 |d::r=>(gq (s':=s) (a:=d) rfl).trans ((gq (xq s r)).trans rfl)
theorem qp(s:S):∀ds:List D,cF (ds.map .d) s=some (.ok ds,s)
 |[]=>rfl
 |d::r=>(gq (s':=s) (a:=d) rfl).trans ((gq (qp s r)).trans rfl)
theorem MF{fz:Bool}{p:Pr}{ds:List D}{x:Xv}{s:S}(h:Dh fz (mK p ds)=some x):aX fz (prim p ds) s=some (.ok x,s):=by
 cases o:mK p ds with
 |none=>rw[o] at h;cases h
 |some r=>
  rw[o] at h;rw[xg o];cases r with
  |dat d=>cases h;rfl
  |nw ys=>cases fz with
   |true=>cases h;rfl
   |false=>cases h
section
variable {ao:Nat->Nat->Bool}{aj:Bool}{F:Fn}{J:Vs}{s:S}
theorem qu(e:E):∀x:Xv,eG ao e J=some x->ev ao aj F e J s=some (.ok x,s):=by
 refine E.rec (motive_1:=λe=>∀x:Xv,eG ao e J=some x->ev ao aj F e J s=some (.ok x,s)) (motive_2:=λ_=>True) (motive_3:=λxs=>∀ds:List D,lH ao xs J=some ds->evs ao aj F xs J s=some (.ok (ds.map .d),s)) (motive_4:=λ_=>True)
  ?c ?v ?pr (λ_ _ _ _ _ _ _ _ _ h=>nomatch h) (λ_ _ _ _ _ _ _ _ _ _ _ _ h=>nomatch h) ?and ?or ?not (λ_ _ _ _ _ _ _ h=>nomatch h) ?tup ?lst (λ_ _ _ h=>nomatch h) (λ_ _ _ _ h=>nomatch h) ?dJ (λ_ _ _ _ _ _ _ _ h=>nomatch h) (λ_ _ _ _ _ _ _ _ h=>nomatch h) (λ_ _ _ _ _ h=>nomatch h) (λ_ _ _ h=>nomatch h)
  (λ_ _ _ _ _ _ _ _ _ _ _ h=>nomatch h) (λ_ _ _ _ _ _ _ _ _ _ _ _ _ _ h=>nomatch h) (λ_ _ _ _ _ h=>nomatch h) ?of (λ_ _ _ _ _ h=>nomatch h) (λ_ _ _ _ _ _ _ h=>nomatch h) (λ_ h=>nomatch h) (λ_ _ _ _ _ _ h=>nomatch h) (λ_ _ _ _ _ h=>nomatch h) (λ_ _ _ h=>nomatch h) (λ_ _ _ _ _ _ h=>nomatch h) (λ_ _ _ _ _ h=>nomatch h) (λ_ _ _ _ _ _ _ h=>nomatch h) (λ_ h=>nomatch h)
  (λ_ _=>trivial) (λ_ _ _ _=>trivial) (λ_ _ _ _=>trivial) (λ_ _=>trivial) (λ_ _=>trivial) ?nil ?cons trivial (λ_ _=>trivial) e
 case c=>intro d x h;cases h;rfl
 case v=>intro i x h;exact(show M.opt (J[i]?.join) s=_ from by rw[show J[i]?.join=some x from h];rfl)
 case pr=>
  intro fz p xs ih x h;obtain⟨ds,e1,e2⟩:=jM h;exact(gq (ih _ e1)).trans ((gq (xq s ds)).trans (MF e2))
 case tup=>
  intro xs ih x h;obtain⟨ds,e1,e2⟩:=jM h;cases e2;exact(gq (ih _ e1)).trans ((gq (qp s ds)).trans rfl)
 case lst=>
  intro fz xs ih x h;obtain⟨ds,e1,e2⟩:=jM h;cases fz with
  |false=>cases e2
  |true=>cases e2;exact(gq (ih _ e1)).trans ((gq (qp s ds)).trans rfl)
 case not=>
  intro a ih x h;obtain⟨y,e1,e2⟩:=jM h;cases y with
  |l n=>cases e2
  |d y=>cases y with
   |bl b=>cases e2;exact(gq (ih _ e1)).trans rfl
   |_=>cases e2
 case and=>
  intro a b ih ih2 x h;obtain⟨y,e1,e2⟩:=jM h;cases y with
  |l n=>cases e2
  |d y=>cases y with
   |bl b=>cases b with
    |true=>exact(gq (ih _ e1)).trans (ih2 _ e2)
    |false=>cases e2;exact(gq (ih _ e1)).trans rfl
   |_=>cases e2
 case or=>
  intro a b ih ih2 x h;obtain⟨y,e1,e2⟩:=jM h;cases y with
  |l n=>cases e2
  |d y=>cases y with
   |bl b=>cases b with
    |true=>cases e2;exact(gq (ih _ e1)).trans rfl
    |false=>exact(gq (ih _ e1)).trans (ih2 _ e2)
   |_=>cases e2
 case dJ=>
  intro a k ih x h;obtain⟨y,e1,e2⟩:=jM h;cases y with
  |l n=>cases e2
  |d y=>
   obtain⟨d,e3,e4⟩:=jM e2;cases e3;obtain⟨b,e5,e6⟩:=jM e4;cases e6;refine(gq (ih _ e1)).trans ((gq (s':=s) (a:=y) rfl).trans ((gq (s':=s) (a:=b) ?_).trans rfl));rw[e5];rfl
 case of=>
  intro o c i ih x h;obtain⟨y,e1,e2⟩:=jM h;obtain⟨fs,e3,e4⟩:=jM e2;refine(gq (ih _ e1)).trans ((gq (s':=s) (a:=fs) ?_).trans ?_)
  ·cases y with
   |l n=>cases e3
   |d y=>cases y with
    |ob e gs=>
     have e3:(if e=c then some gs else none)=some fs:=e3;show (if e=c then M.ret gs else M.no) s=_;split at e3
     ·rename_i h;cases e3;rw[if_pos h];rfl
     ·cases e3
    |_=>cases e3
  ·show M.opt (fs[i]?.map Xv.d) s=_;rw[e4];rfl
 case nil=>intro ds h;cases h;rfl
 case cons=>
  intro a r ih ih2 ds h;obtain⟨y,e1,e2⟩:=jM h;cases y with
  |l n=>cases e2
  |d y=>
   obtain⟨d,e3,e4⟩:=jM e2;cases e3;obtain⟨rs,e5,e6⟩:=jM e4;cases e6;exact(gq (ih _ e1)).trans ((gq (ih2 _ e5)).trans rfl)
theorem qw:∀(xs:Es) (ds:List D),lH ao xs J=some ds->evs ao aj F xs J s=some (.ok (ds.map .d),s)
 |.nil,ds,h=>by cases h;rfl
 |.cons a r,ds,h=>by
  obtain⟨y,e1,e2⟩:=jM h;cases y with
  |l n=>cases e2
  |d y=>
   obtain⟨d,e3,e4⟩:=jM e2;cases e3;obtain⟨rs,e5,e6⟩:=jM e4;cases e6;exact(gq (qu a _ e1)).trans ((gq (qw r _ e5)).trans rfl)
theorem jN:∀(xs:Es) {vs:List Xv},mL ao xs J=some vs->evs ao aj F xs J s=some (.ok vs,s)
 |.nil,vs,h=>by cases h;rfl
 |.cons a r,vs,h=>by
  obtain⟨y,e1,e2⟩:=jM h;obtain⟨ys,e3,e4⟩:=jM e2;cases e4;exact(gq (qu a _ e1)).trans ((gq (jN r e3)).trans rfl)
variable {P:Xv->S->Prop}
theorem W.pv{e:E}{x:Xv}(h:eG ao e J=some x)(k:P x s):W (ev ao aj F e J) s P:=W.eq (qu e _ h) k
theorem KaT{f:Nat}{xs:Es}{vs:List Xv}(h:mL ao xs J=some vs)(k:W (bM (F f) vs) s P):W (ev ao aj F (.call f xs) J) s P:=S7 (W.eq (jN xs h) k)
theorem KaU{fz:Bool}{p:Pr}{xs:Es}{ds:List D}(h:lH ao xs J=some ds)(k:W (aX fz (prim p ds)) s P):W (ev ao aj F (.pr fz p xs) J) s P:=S5 (W.eq (qw xs _ h) (W.eq (xq s ds) k))
theorem MJ{xs:Es}{vs:List Xv}{P:List Xv->S->Prop}(h:mL ao xs J=some vs)(k:P vs s):W (evs ao aj F xs J) s P:=W.eq (jN xs h) k
end
section
variable {ao:Nat->Nat->Bool}{aj:Bool}{F:Bool->Fn}{J:Vs}{s:S}{Q:Out->S->Prop}{e:E}{r:cj}
theorem Ka8{i:Nat}{x:Xv}(h:eG ao e J=some x)(k:WS (exs ao aj F r (J.set i (some x))) s Q):WS (exs ao aj F (.cons (.asg (.nm i) e) r) J) s Q:=WS.cons (FZ (W.pv h k))
theorem Ka9{x:Xv}(h:eG ao e J=some x)(k:Q (.rt x) s):WS (exs ao aj F (.cons (.ret e) r) J) s Q:=WS.cons (S_ (W.pv h k))
theorem Ka7{b:Bool}{t u:cj}(h:eG ao e J=some (.d (.bl b)))(k:WS (if b=true then exs ao aj F t J else exs ao aj F u J) s λo s'=>match o with|.nx J'=>WS (exs ao aj F r J') s' Q|.rt x=>Q (.rt x) s'|_=>False):WS (exs ao aj F (.cons (.iff e t u) r) J) s Q:=WS.cons (Mw (W.pv h (W.bool k)))
end
def WR{α:Type}(m:M α)(s:S)(c:Nat)(fs:List D):Prop:=∃s',m s=some (.er c fs,s')
section
variable {α β:Type}{m:M α}{k:α->M β}{s:S}{c:Nat}{fs:List D}
theorem Ga(h:W m s λa s'=>WR (k a) s' c fs):WR (M.bd m k) s c fs:=by
 obtain⟨a,s',e,s2,e2⟩:=h;exact⟨s2,by unfold M.bd;rw[e];exact e2⟩
theorem WR.dO(hl:locs xs=[])(h:WR (F (cC 0 xs)) [] c fs):WR (bM F xs) s c fs:=by
 obtain⟨s1,e⟩:=h;refine⟨s,?_⟩;unfold bM;rw[hl,if_pos yW];simp only[fQ,e,bV]
end
theorem WR.call(hT:T f=some d)(hl:xs.length=d.fB)
  (h:WS (exs ao aj (λc=>Mi.call ao T k c) d.body (xs.map some++List.replicate (d.many-d.fB) none)) s λo _=>∃J,o=.er c fs J):WR (Mi.call ao T (k+1) aj f xs) s c fs:=by
 obtain⟨o,s',e,J,rfl⟩:=h;unfold Mi.call;simp only[hT,if_pos hl];unfold WR;simp only[e];exact⟨_,rfl⟩
section
variable {ao:Nat->Nat->Bool}{aj:Bool}{F:Bool->Fn}{J:Vs}{s:S}{Q:Out->S->Prop}{c:Nat}{fs:List D}
theorem Tc(h:WR m s c fs)(q:∀s',Q (.er c fs J) s'):WS (Mi.ofM m J k) s Q:=by
 obtain⟨s',e⟩:=h;exact⟨_,s',by unfold Mi.ofM;rw[e],q s'⟩
theorem qT(h:WS (ex ao aj F a J) s λo s'=>(∃c fs J',o=.er c fs J')/\Q o s'):WS (exs ao aj F (.cons a r) J) s Q:=by
 obtain⟨o,s',e,⟨c,fs,J',rfl⟩,q⟩:=h;exact⟨_,s',by unfold exs Mi.bQ;rw[e],q⟩
theorem MK(h:WR (ev ao aj (F aj) e J) s c fs)(q:∀s',Q (.er c fs J) s'):WS (ex ao aj F (.ex e) J) s Q:=Tc h q
theorem Kba(h:WR (ev ao aj (F aj) e J) s c fs)(q:∀s',Q (.er c fs J) s'):WS (ex ao aj F (.ret e) J) s Q:=Tc h q
theorem Kbh{c:Nat}{kp:Bool}{xs:Es}(h:W (evs ao true (F true) xs J) s λvs s1=>W (cF vs) s1 λds s2=>Q (.er c (if kp=true then ds else []) J) s2):WS (ex ao true F (.rise c kp xs) J) s Q:=by
 refine WS.qm (m2:=λ_=>none) (WS.ofM (W.bd (h.imp λvs s1 h=>h.imp λds s2 h=>?_)));exact⟨_,s2,rfl,h⟩
theorem Kbm{m:MS}{k:Vs->MS}(h:WS m s λo s'=>match o with|.nx J'=>WS (k J') s' Q|.rt x=>Q (.rt x) s'|_=>False):WS (Mi.bQ m k) s Q:=by
 obtain⟨o,s',e,q⟩:=h;unfold WS Mi.bQ;rw[e];cases o with
 |nx J'=>exact q
 |rt x=>exact⟨_,_,rfl,q⟩
 |bk _=>exact q.elim
 |ct _=>exact q.elim
 |er _ _ _=>exact q.elim
theorem Kbk{F:Fn}{i:Nat}{x:Xv}(h:Q (.nx (J.set i (some x))) s):WS (store ao aj F (.nm i) x J) s Q:=⟨_,s,rfl,h⟩
theorem Kbl{F:Fn}{is:List Nat}{d:D}(h:nZ ((f9 d).bind λds=>cU is (ds.map .d) J) λJ'=>Q (.nx J') s):WS (store ao true F (.tp is) (.d d) J) s Q:=by
 obtain⟨J',e,q⟩:=h;exact WS.qm (m2:=λ_=>none) (WS.ofM (W.bd (W.dat (W.opt e (WS.nx q)))))
theorem Kbn(hb:WS (exs ao true F b J) s λo s'=>(∃x,o=.rt x)/\Q o s'):WS (ex ao true F (.lq b d i h) J) s Q:=by
 obtain⟨o,s',e,⟨x,rfl⟩,q⟩:=hb;exact⟨_,s',by unfold ex;rw[if_pos rfl];simp only[e],q⟩
theorem Td(hb:WS (exs ao true F b J) s λo s'=>∃c fs J',o=.er c fs J'/\ao c d=true/\WS (exs ao false F h (J'.set i (some (.d (.exc c fs))))) s' λr s2=>(∃x,r=.rt x)/\Q r s2):WS (ex ao true F (.lq b d i h) J) s Q:=by
 obtain⟨o,s',e,c,fs,J',rfl,hs,r,s2,e2,⟨x,rfl⟩,q⟩:=hb;exact⟨_,s2,by unfold ex;rw[if_pos rfl];simp only[e,hs,if_true,e2];rfl,q⟩
end
section
variable {ao:Nat->Nat->Bool}{aj:Bool}{F:Fn}{J:Vs}{s:S}{P:Xv->S->Prop}
theorem W.dJ{a:E}{k:Kd}(h:W (ev ao aj F a J) s λx s1=>W (rd x) s1 λd s2=>nZ (fX ao d k) λb=>P (.d (.bl b)) s2):W (ev ao aj F (.dJ a k) J) s P:=Kax h
theorem W.rQ{p q:Pr}{a b c:E}(h:W (ev ao aj F a J) s λx s1=>W (ev ao aj F b J) s1 λy s2=>W (cJ [x,y]) s2 λds s3=>W (aX true (prim p ds)) s3 λt s4=>W (Mi.bool t) s4 λk s5=>
  W (if k=true then M.bd (ev ao aj F c J) λz=>M.bd (cJ [y,z]) λds=>aX true (prim q ds) else M.ret (.d (.bl false))) s5 P):W (ev ao aj F (.rQ p q a b c) J) s P:=Kav h
theorem Te{c a b:E}(h:W (ev ao aj F c J) s λx s1=>W (Mi.bool x) s1 λk s2=>W (if k=true then ev ao aj F a J else ev ao aj F b J) s2 P):W (ev ao aj F (.ite c a b) J) s P:=W.bd (h.imp λ_ _ h=>W.bd h)
theorem KaH{a:E}{P:Src×Nat->S->Prop}(h:W (ev ao aj F a J) s λx s1=>W (pU x) s1 P):W (j8 ao aj F (.enum a) J) s P:=W.bd h
theorem KaG{xs:List D}{P:Src×Nat->S->Prop}(h:P (.fix (enumFrom 0 xs),(enumFrom 0 xs).length) s):W (pU (.d (.fl xs))) s P:=⟨_,s,rfl,h⟩
theorem KaI{a b:E}{P:Src×Nat->S->Prop}(h:W (ev ao aj F a J) s λx s1=>W (ev ao aj F b J) s1 λy s2=>W (Mi.int x) s2 λi s3=>W (Mi.int y) s3 λj s4=>(eF i&&eF j)=true/\P (.fix (fZ i j),(fZ i j).length) s4):W (j8 ao aj F (.rg a b) J) s P:=by
 refine W.bd (h.imp λx s1 h=>W.bd (h.imp λy s2 h=>W.bd (h.imp λi s3 h=>W.bd (h.imp λj s4 h=>?_))));rw[if_pos h.1];exact W.ret h.2
theorem KaK{a b:E}{P:Src×Nat->S->Prop}(h:W (ev ao aj F a J) s λx s1=>W (ev ao aj F b J) s1 λy s2=>W (m9 x) s2 λxs s3=>W (m9 y) s3 λys s4=>P (.fix (List.zipWith (λp q=>.tup [p,q]) xs ys),(List.zipWith (λ(p q:D)=>D.tup [p,q]) xs ys).length) s4):W (j8 ao aj F (.zip a b) J) s P:=
 W.bd (h.imp λx s1 h=>W.bd (h.imp λy s2 h=>W.bd (h.imp λxs s3 h=>W.bd (h.imp λys s4 h=>W.ret h))))
theorem W.jR{xs:List D}{P:List D->S->Prop}(h:P xs s):W (m9 (.d (.tup xs))) s P:=W.ret h
theorem W.sO{xs:List D}{P:List D->S->Prop}(h:P xs s):W (m9 (.d (.fl xs))) s P:=W.ret h
theorem Kaj{P:Bool->S->Prop}(h:P true s):W (nQ ao aj F .no J) s P:=W.ret h
theorem Kak{a:E}{P:Bool->S->Prop}(h:W (ev ao aj F a J) s λx s1=>W (Mi.bool x) s1 P):W (nQ ao aj F (.yes a) J) s P:=W.bd h
theorem MN{α:Type}{f:α->D}{l:List α}{fz:Bool}{elt:E}{tg:List Nat}{it:Wk}{fr:List Nat}{many:Nat}{cond:Eo}(g:α->Option D)(hc:l.length<=sizeLine)
  (hw:W (j8 ao true F it J) s λcn s1=>cn=(.fix (l.map f),(l.map f).length)/\s1=s)
  (hb:∀x∈l,nZ (iH tg (f x) (blk many fr J)) λJ'=>W (nQ ao true F cond J') s λb s1=>s1=s/\(b=true->W (ev ao true F elt J') s λy s2=>s2=s/\∃d,y=.d d/\g x=some d)/\(b=false->g x=none))
  (h:W (newL fz (l.filterMap g)) s P):W (ev ao true F (.comp fz elt tg it fr many cond) J) s P:=by
 change W (_root_.ite (true=true) _ _) s P
 rw[if_pos rfl];refine W.bd (hw.imp λcn s1=>?_);rintro⟨rfl,rfl⟩;refine W.bd ?_;refine W.walk (c:=l.map f) (λi acc s'=>s'=s1/\acc=(l.take i).filterMap g) ⟨rfl,rfl⟩ (λi x acc s' e hI=>?_) (λacc s' hI=>?_)
 ·obtain⟨rfl,rfl⟩:=hI;rw[nF] at e;cases el:l[i]? with
  |none=>rw[el] at e;cases e
  |some y=>
   rw[el] at e;cases e;have hi:i<l.length:=(gR.mp el).1;have ht:l.take (i+1)=l.take i++[y]:=by rw[List.take_succ,el];rfl
   have hl:((l.take i).filterMap g).length<sizeLine:=Nat.lt_of_le_of_lt (List.length_filterMap_le _ _) (by rw[yQ];lia);obtain⟨J',e1,h1⟩:=hb y (jh el);refine W.bd (W.opt e1 ?_);refine W.bd (W.qt (h1.imp λb s2=>?_));rintro⟨rfl,h2,h3⟩;rw[ht,List.filterMap_append];cases b
   ·rw[if_neg J0];refine W.ret ⟨rfl,?_⟩;simp[h3 rfl]
   ·rw[if_pos rfl];refine W.bd (W.qt ((h2 rfl).imp λy s3=>?_));rintro⟨rfl,d,rfl,eg⟩;refine W.bd (W.dat ?_);rw[if_pos hl];refine W.ret ⟨rfl,?_⟩;simp[eg]
 ·obtain⟨rfl,rfl⟩:=hI;rw[n6,List.take_length];exact h
theorem Kao{c:List D}{fz:Bool}{elt:E}{tg:List Nat}{it:Wk}{fr:List Nat}{many:Nat}{cond:Eo}(I:Nat->List D->S->Prop)
  (hw:W (j8 ao true F it J) s λcn s1=>cn=(.fix c,c.length)/\I 0 [] s1)
  (hb:∀i x acc s,c[i]?=some x->I i acc s->nZ (iH tg x (blk many fr J)) λJ'=>W (nQ ao true F cond J') s λb s1=>(b=true->W (ev ao true F elt J') s1 λy s2=>∃d,y=.d d/\acc.length<sizeLine/\I (i+1) (acc++[d]) s2)/\(b=false->I (i+1) acc s1))
  (h:∀acc s,I c.length acc s->W (newL fz acc) s P):W (ev ao true F (.comp fz elt tg it fr many cond) J) s P:=by
 change W (_root_.ite (true=true) _ _) s P
 rw[if_pos rfl];refine W.bd (hw.imp λcn s1=>?_);rintro⟨rfl,h0⟩;refine W.bd ?_;refine W.walk (c:=c) I h0 (λi x acc s' e hI=>?_) (λacc s' hI=>h acc s' hI);obtain⟨J',e1,h1⟩:=hb i x acc s' e hI;refine W.bd (W.opt e1 ?_);refine W.bd (W.qt (h1.imp λb s2=>?_));rintro⟨h2,h3⟩;cases b
 ·rw[if_neg J0];exact W.ret (h3 rfl)
 ·rw[if_pos rfl];refine W.bd (W.qt ((h2 rfl).imp λy s3=>?_));rintro⟨d,rfl,hl,hi⟩;refine W.bd (W.dat ?_);rw[if_pos hl];exact W.ret hi
theorem W.push{o a:E}(h:W (ev ao aj F o J) s λx s1=>W (Mi.bU x) s1 λ_ s2=>W (ev ao aj F a J) s2 λy s3=>W (Mi.dat y) s3 λd s4=>W (Mi.bU x) s4 λnx s5=>nx.2.length<sizeLine/\P (.d .non) (s5.set nx.1 (.lst (nx.2++[d])))):W (ev ao aj F (.push o a) J) s P:=by
 refine W.bd (h.imp λx s1 h=>W.bd (h.imp λ_ s2 h=>W.bd (h.imp λy s3 h=>W.bd (h.imp λd s4 h=>W.bd (h.imp λnx s5 h=>?_)))));rw[if_pos h.1];exact W.bd (Ms (W.ret h.2))
end
theorem Tf{s:S}{o:SO}:(s++[o])[s.length]?=some o:=by simp
theorem Y{P R:Prop}(k:R)(h:Bx R->P:=by
 intro k
 repeat (first|with_reducible first
   |refine Ka8 (by with_unfolding_all rfl) ?_|refine Ka9 (by with_unfolding_all rfl) ?_|refine Ka7 (by with_unfolding_all rfl) ?_|refine W.pv (by with_unfolding_all rfl) ?_|refine KaU (by with_unfolding_all rfl) ?_|refine KaT (by with_unfolding_all rfl) ?_|refine MJ (by with_unfolding_all rfl) ?_
   |refine WS.cons ?_|refine WS.nil ?_|refine Kbm ?_|refine Kbk ?_|refine Kbl ?_|refine FZ ?_|refine S_ ?_|refine Mw ?_|refine S9 ?_|refine Kbi ?_|refine Kbf ?_|refine Kbb ?_|refine Kbc ?_|refine Kbh ?_|refine WS.qm ?_|refine WS.Mv ?_|refine WS.Mt (by with_unfolding_all rfl) ?_|refine WS.Mu (by with_unfolding_all rfl) ?_|refine nZ.mk (by with_unfolding_all rfl) ?_
   |refine Kah ?_|refine S8 ?_|refine W.eC ?_|refine W.eV (by with_unfolding_all rfl) ?_|refine S5 ?_|refine S7 ?_|refine KaF ?_|refine Kaz ?_|refine S6 ?_|refine Kat ?_|refine KaC ?_|refine Te ?_|refine W.dJ ?_|refine W.rQ ?_|refine W.push ?_|refine KaE ?_|refine Kaw ?_|refine KaN ?_|refine KaO ?_|refine KaJ ?_|refine KaI ?_|refine KaK ?_|refine KaH ?_|refine Kaj ?_|refine Kak ?_|refine W.qm ?_|refine W.Mv ?_|refine W.Mt (by with_unfolding_all rfl) ?_|refine W.Mu (by with_unfolding_all rfl) ?_
   |refine wZ ?_|refine FT ?_|refine ql ?_|refine SN (by with_unfolding_all rfl) ?_|refine SN Tf ?_|refine Kaq ?_|refine Kar ?_|refine W.dat ?_|refine W.bool ?_|refine W.int ?_|refine W.bU (by with_unfolding_all rfl) ?_|refine W.bU Tf ?_|refine Ms ?_|refine Ka0 ?_|refine KaG ?_|refine W.jR ?_|refine W.sO ?_|refine KaZ ?_|refine KaM ?_|refine KaL ?_
   |refine cM (by first|(with_unfolding_all rfl)|exact zkg (by first|(left;constructor<;>lia)|(right;constructor<;>lia))|exact zkt gV|exact ziD gV|exact zfh gV|exact zkm J0) ?_|refine FW (by with_unfolding_all rfl) ?_
   |refine W.ret ?_|refine W.bd ?_
   | (dsimp only))
 all_goals exact k.o):P:=h ⟨k⟩
theorem zgj(h:∀x∈xs,x=.bl true):fj xs=some (List.replicate xs.length true):=by
 induction xs with
 |nil=>rfl
 |cons x r ih=>
  rw[h x MP];show Option.map _ (fj r)=_;rw[ih λy hy=>h y (by simp[hy])];rfl
theorem zjP(h:∀x∈xs,x=.bl true):prim .all [.fl xs]=some (.dat (.bl true)):=by
 show Option.map _ (fj xs)=_;rw[zgj h];simp
theorem Ti{a b:Int}{i:Nat}{x:D}(h:(fZ a b)[i]?=some x):x=.int (a+i)/\a+i<b:=by
 unfold fZ at h;rw[nF] at h;cases e:(List.range (b-a).toNat)[i]? with
 |none=>rw[e] at h;cases h
 |some j=>
  rw[e] at h;cases h;obtain⟨hl,rfl⟩:=gR.mp e;rw[Hq] at hl;rw[List.getElem_range];exact⟨rfl,by lia⟩
theorem Tj:(fZ a b).length=(b-a).toNat:=by unfold fZ;simp
theorem Dk(hl:locs xs=[s.length])(h:W (F (cC 0 xs)) [o] λv s1=>∃d o',v=.d d/\s1=[o']/\P (.d d) (s++[o'])):W (bM F xs) (s++[o]) P:=by
 refine SQ (n:=s.length) (o:=o) hl MP (h.imp λv s1=>?_);rintro⟨d,o',rfl,rfl,hp⟩;exact⟨d,o',rfl,rfl,by rw[show (s++[o]).set s.length o'=s++[o'] by simp];exact hp⟩
theorem zf4{ns:List Int}{lo hi:Option Int}{x:D}(h:x∈cut (ns.map D.int) lo hi):∃n,x=.int n:=by
 have:=List.mem_of_mem_drop (List.mem_of_mem_take h);obtain⟨n,_,rfl⟩:=List.mem_map.mp this;exact⟨n,rfl⟩
theorem zgX{ns:List Int}{lo hi:Option Int}:(cut (ns.map D.int) lo hi).length<=ns.length:=by
 unfold cut;rw[yQ,List.length_drop,n6]
 lia
noncomputable def cD(k d:Int):D:=.tup [.int k,.int d]
theorem Tn{α:Type}{l:List α}{f:α->D}:l.filterMap (λx=>some (f x))=l.map f:=by
 rw[<-List.filterMap_eq_map];rfl
theorem Ka5(I:Nat->Vs->S->Prop)(h0:I 0 J s)(hb:∀i x J s,c[i]?=some x->I i J s->WS (b x J) s λo s'=>(∃J',o=.nx J'/\I (i+1) J' s')\/(∃x,o=.rt x/\Q (.rt x) s'))
  (he:∀J s,I c.length J s->Q (.nx J) s):WS (cG (.fix c) b (c.length+1) 0 J) s Q:=by
 have key:∀n i J s,i+n=c.length->I i J s->WS (cG (.fix c) b (n+1) i J) s Q:=by
  intro n
  induction n with
  |zero=>
   intro i J s hi hI;have e:c[i]?=none:=by rw[qW];lia
   have:i=c.length:=by lia
   subst this;refine⟨_,s,?_,he J s hI⟩;unfold cG;simp only[Src.at,e]
  |succ n ih=>
   intro i J s hi hI;have nj:i<c.length:=by lia
   have e:c[i]?=some c[i]:=gU nj;obtain⟨o,s',eb,hr⟩:=hb i c[i] J s e hI;rcases hr with ⟨J',rfl,C_⟩|⟨x,rfl,hq⟩
   ·obtain⟨o2,s2,e2,q⟩:=ih (i+1) J' s' gV C_;refine⟨o2,s2,?_,q⟩;unfold cG;simp only[Src.at,e,eb];exact e2
   ·refine⟨_,s',?_,hq⟩;unfold cG;simp only[Src.at,e,eb]
 exact key c.length 0 J s gV h0
noncomputable def lJ:D->Bool
 |.exc _ _=>false
 |.ob _ _=>false
 |.any=>false
 |_=>true
noncomputable def Tq:D->Bool
 |.int _=>true
 |_=>false
noncomputable def nA:D->Bool
 |.tup xs=>xs.all lJ
 |d=>lJ d
end Mi
namespace Mi
open PySem PySem.W PyProof.Rows L2
structure Ord(n:Nat)(lt:Nat->Nat->Option Bool)(le:Nat->Nat->Prop):Prop where
 ans:∀i j,i<n->j<n->(lt i j=some true/\le i j)\/(lt i j=some false/\le j i)
 tr:∀i j k,i<n->j<n->k<n->le i j->le j k->le i k
end Mi
namespace Mi
open PySem PySem.Spec PyProof.Rows L2 PySem.W
section
variable {X:Cx}{cA:Cl}{ao:Nat->Nat->Bool}{aj:Bool}{F:Fn}{EX:XS}{a b:Expr}{A B:E}{pos p:Pos}{x:Str}{e:Expr}{es:List Expr}{Xs:Es}
noncomputable def tQ(sc:Scope)(x:Str):Bool:=match sc.names.lookup x with
 |some k=>wO k
 |none=>false
noncomputable def Gb(sc:Scope)(x:Str):Bool:=match sc.names.lookup x with
 |some .globalImplicit=>true
 |_=>false
theorem Tt{sc:Scope}{x:Str}(h:tQ sc x=true):∃k,sc.names.lookup x=some k/\wO k=true:=by
 unfold tQ at h;split at h
 ·rename_i k e;exact⟨k,e,h⟩
 ·cases h
theorem Tv{sc:Scope}{x:Str}(h:Gb sc x=true):sc.names.lookup x=some .globalImplicit:=by
 unfold Gb at h;split at h
 ·assumption
 ·cases h
theorem gk(h:Gb X.env.scope x=true:=by kernel_rfl):JK X x .globalImplicit:=⟨Tv h⟩
theorem jl(h:(match X.env.scope.names.lookup x with|some .local=>true|_=>false)=true:=by kernel_rfl):JK X x .local:=by
 split at h
 ·exact⟨by assumption⟩
 ·cases h
theorem jc(h:(match X.env.scope.names.lookup x with|some .cell=>true|_=>false)=true:=by kernel_rfl):JK X x .cell:=by
 split at h
 ·exact⟨by assumption⟩
 ·cases h
theorem Gd{scope:Scope}{cl:List (Str×Addr)}{N:List Str}{Cc:Addr}{s3:Shared}{H3:Hp}{fp:List Addr}{ak:List (Addr×Obj)}(h:Gb scope x=true:=by kernel_rfl):JK (X.blk scope cl N Cc s3 H3 fp ak) x .globalImplicit:=RW (Tv h) rfl
theorem gv(i:Nat)(h:(decide (X.N[i]?=some x)&&tQ X.env.scope x&&okN x)=true:=by kernel_rfl):JE X cA ao aj F EX (.Name x pos) (.v i):=by
 rw[bZ,bZ] at h;obtain⟨k,e,hv⟩:=Tt h.1.2;exact RX i (iZ h.1.1) ⟨e⟩ hv h.2
theorem Dl(i:Nat){scope:Scope}{cl:List (Str×Addr)}{N:List Str}{Cc:Addr}{s3:Shared}{H3:Hp}{fp:List Addr}{ak:List (Addr×Obj)}(h:(decide (N[i]?=some x)&&tQ scope x&&okN x)=true:=by kernel_rfl):JE (X.blk scope cl N Cc s3 H3 fp ak) cA ao aj F EX (.Name x pos) (.v i):=by
 rw[bZ,bZ] at h;obtain⟨k,e,hv⟩:=Tt h.1.2;by_cases hk:k=.free
 ·subst hk;exact zk7 i (iZ h.1.1) e h.2
 ·exact RX i (iZ h.1.1) (RW e (by cases k<;>first|rfl|exact absurd rfl hk)) hv h.2
theorem gc{f k:Nat}{cm:Bool}{st:Stmt}{ps:List Str}(Fo:dw X.prog X.w X.K X.mg X.base (je X.prog X.w) cm k (gH X.K x) (fdOf X.K x st) ps (nU X.K cA (F f)))(D:D3 X.K X.mg x st ps)(hr:bI k X.A)(R:JR X EX)(g:JK X x .globalImplicit)(ha:JA X cA ao aj F EX (e::es) Xs)(h:okN x=true:=by kernel_rfl)
  (m5:cm=true->X.aj=true:=by first|exact λ_=>rfl|exact λz=>nomatch z) (he:aA e=true:=by rfl) (bW:es.all aA=true:=by rfl):JE X cA ao aj F EX (.Call (.Name x p) (e::es) [] pos) (.call f Xs):=
 ziT f Fo m5 hr D.m D.f.kp D.b R g ha h he bW
theorem nd(h:decide X.N.Nodup=true:=by kernel_rfl):X.N.Nodup:=iZ h
end
theorem fJ{P:Program}{w:World}{K:W.Frag}{mg:Str->Option Value}{base:Heap}{cA:Cl}{ao:Nat->Nat->Bool}{T:Nat->Option Df}{x:Str}{st:Stmt}{ps:List Str}{k n:Nat}{cm:Bool}{df:Df}(D:D3 K mg x st ps)(N:List Str)(hT:T n=some df)
  (hb:∀(cdv:Value) (A:Around) (outer:List Env) (s:Shared) (H:Hp) (E:XK),bI k (A.deeper (envOfC x (aq st) s.heap.objs.size (gH K x) cdv))->
   JB (fL (je P w) P w K mg base N x (aq st) (gH K x) cdv A outer s H E cm) cA ao cm (λc=>call ao T k c) (λ_ C dx H'=>E C dx H') (aH st) df.body) (S:dR N ps (aq st):=by exact⟨rfl,rfl,rfl,dk,rfl,dk,dk⟩) (hp:df.fB=ps.length:=by rfl) (hm:df.many=N.length:=by rfl) :
  dw P w K mg base (je P w) cm (k+1) (gH K x) (fdOf K x st) ps (nU K cA (call ao T (k+1) cm n)):=zi3 D.f S hT hp hm hb
end Mi
namespace L2
open PySem PySem.Spec PyProof.Rows
section
variable {X:Cx}{e e2:Expr}{te yG:TE}{pos p2:Pos}{ak:List (Addr×Obj)}{Z:St}{H:Hp}{s:Shared}{Q:VK}
theorem fC{x:Str}{lo hi st:Option Int}(h:st.getD 1≠0):(Mi.cT x lo hi st).length<=x.length:=by
 unfold Mi.cT
 split
 ·exact bY _
 ·show (List.toArray _).size<=_;rw[fW];exact jd (List.length_filterMap_le _ _) (sliceIndicesBy_le lo hi _ h _)
theorem M4{x:Str}{t:Tok}{l u st:Option (Int×Tok)}(I:Inv X ak Z H s)(hx:x.length<=600)(h0:(st.map (·.1)).getD 1≠0)(q:Q (.str (Mi.cT x (l.map (·.1)) (u.map (·.1)) (st.map (·.1)))) H):(sliceMade x t l u st).post (EP X ak Z Q) s:=by
 have hl:=fC (x:=x) (lo:=l.map (·.1)) (hi:=u.map (·.1)) h0;have hs:(600:Nat)<=sizeLine:=by decide
 unfold Mi.cT at q hl;unfold sliceMade slicePicked
 split
 ·rename_i c;rw[if_pos c] at q;rw[Made.post.eq_1];exact⟨.str _,H,I,⟨_,rfl⟩,q⟩
 ·rename_i c;rw[if_neg c] at q hl;rw[Made.post.eq_3];exact⟨jd hl (jd hx hs),⟨.str _,H,I.tok _,⟨_,rfl⟩,q⟩⟩
theorem zft(he:PE X e te)(hl:PE X e2 yG):PE X (.Subscript e (.Slice (some e2) none none p2) pos) (λZ H Q=>te Z H λx H1=>yG Z H1 λy H2=>∃z j,x=.str z/\y=.int j/\z.length<=600/\Q (.str (Mi.cT z (some j) none none)) H2):=by
 intro ak s Z H Q I h;refine Subscript_ (aP (he ak s Z H _ I h) λv s1 hz=>?_);obtain⟨x,H1,I1,r1,hx⟩:=hz;refine wpAny_Slice ?_;rw[evalPart_some];refine aP (hl ak s1 Z H1 _ I1 hx) λu s2 hz=>?_;obtain⟨y,H2,I2,r2,z,j,ex,ey,hz,q⟩:=hz;subst ex ey;obtain⟨t,rfl⟩:=r1;obtain⟨tj,rfl⟩:=r2;rw[evalPart_none];refine bC ?_;refine bC ?_;have I4:Inv X ak Z H2 {s2 with heap:=s2.heap.push {cls:=.type "slice",data:=.fields #[.int j tj,.none,.none]}}:=I2.kept (t':=s2.toks) λb ob q=>cX _ q;show wpAny (model X.prog X.w) X.A (subscriptTail e (.Slice (some e2) none none p2) (.str z t) (.ref s2.heap.objs.size)) (EP X ak Z Q) X.xe {s2 with heap:=s2.heap.push {cls:=.type "slice",data:=.fields #[.int j tj,.none,.none]}};refine tail_any (ops:=[.str z t,.ref s2.heap.objs.size]) (T:="str") rfl yR.lookup (GP (l:=some (j,tj)) (u:=none) (st:=none) ⟨_,ji _ rfl,rfl,rfl⟩ rfl (M4 I4 hz J0 q)) (by with_unfolding_all rfl)
theorem zjm(he:PE X e te)(hl:PE X e2 yG):PE X (.Subscript e (.Slice none (some e2) none p2) pos) (λZ H Q=>te Z H λx H1=>yG Z H1 λy H2=>∃z j,x=.str z/\y=.int j/\z.length<=600/\Q (.str (Mi.cT z none (some j) none)) H2):=by
 intro ak s Z H Q I h;refine Subscript_ (aP (he ak s Z H _ I h) λv s1 hz=>?_);obtain⟨x,H1,I1,r1,hx⟩:=hz;refine wpAny_Slice ?_;rw[evalPart_none];refine bC ?_;rw[evalPart_some];refine aP (hl ak s1 Z H1 _ I1 hx) λu s2 hz=>?_;obtain⟨y,H2,I2,r2,z,j,ex,ey,hz,q⟩:=hz;subst ex ey;obtain⟨t,rfl⟩:=r1;obtain⟨tj,rfl⟩:=r2;refine bC ?_;have I4:Inv X ak Z H2 {s2 with heap:=s2.heap.push {cls:=.type "slice",data:=.fields #[.none,.int j tj,.none]}}:=I2.kept (t':=s2.toks) λb ob q=>cX _ q;show wpAny (model X.prog X.w) X.A (subscriptTail e (.Slice none (some e2) none p2) (.str z t) (.ref s2.heap.objs.size)) (EP X ak Z Q) X.xe {s2 with heap:=s2.heap.push {cls:=.type "slice",data:=.fields #[.none,.int j tj,.none]}};refine tail_any (ops:=[.str z t,.ref s2.heap.objs.size]) (T:="str") rfl yR.lookup (GP (l:=none) (u:=some (j,tj)) (st:=none) ⟨_,ji _ rfl,rfl,rfl⟩ rfl (M4 I4 hz J0 q)) (by with_unfolding_all rfl)
theorem zgx{j:Nat}{p3 p4:Pos}(he:PE X e te):PE X (.Subscript e (.Slice none none (some (.UnaryOp .USub (.Constant (.int 1) j p3) p4)) p2) pos) (λZ H Q=>te Z H λx H1=>∃z,x=.str z/\z.length<=600/\Q (.str (Mi.cT z none none (some (-1)))) H1):=by
 intro ak s Z H Q I h;refine Subscript_ (aP (he ak s Z H _ I h) λv s1 hz=>?_);obtain⟨x,H1,I1,r1,z,ex,hz,q⟩:=hz;subst ex;obtain⟨t,rfl⟩:=r1;refine wpAny_Slice ?_;rw[evalPart_none];refine bC (bC ?_);rw[evalPart_some];refine aP (Pk (r:=rU λi=>.int (-i)) Pn HN ak s1 Z H1 (λv H'=>v=.int (-1)/\H'=H1) I1 ⟨1,rfl,rfl,rfl⟩) λu s2 hz2=>?_;obtain⟨y,H2,I2,r2,ez,eH⟩:=hz2;subst ez eH;obtain⟨tk,rfl⟩:=r2;have I4:Inv X ak Z H2 {s2 with heap:=s2.heap.push {cls:=.type "slice",data:=.fields #[.none,.none,.int (-1) tk]}}:=I2.kept (t':=s2.toks) λb ob q=>cX _ q;show wpAny (model X.prog X.w) X.A (subscriptTail e (.Slice none none (some (.UnaryOp .USub (.Constant (.int 1) j p3) p4)) p2) (.str z t) (.ref s2.heap.objs.size)) (EP X ak Z Q) X.xe {s2 with heap:=s2.heap.push {cls:=.type "slice",data:=.fields #[.none,.none,.int (-1) tk]}};refine tail_any (ops:=[.str z t,.ref s2.heap.objs.size]) (T:="str") rfl yR.lookup (GP (l:=none) (u:=none) (st:=some (-1,tk)) ⟨_,ji _ rfl,rfl,rfl⟩ rfl (M4 I4 hz (show (-1:Int)≠0 by decide) q)) (by with_unfolding_all rfl)
theorem zj5{w:Str}{j:Nat}{p3 p4 p5:Pos}(hw:w.length<=600)(ha:PE X e te)(hb:PE X e2 yG):PE X (.JoinedStr [.FormattedValue e (-1) none p3,.Constant (.str w) j p4,.FormattedValue e2 (-1) none p5] pos) (λZ H Q=>te Z H λx H1=>∃i,x=.int i/\i.natAbs<2^62/\yG Z H1 λy H2=>∃k,y=.int k/\k.natAbs<2^62/\Q (.str (Str.empty++Str.ofString (toString i)++w++Str.ofString (toString k))) H2):=by
 intro ak s Z H Q I h;have hs:(6000:Nat)<=sizeLine:=by decide
 have lg:∀i:Int,i.natAbs<2^62->i.natAbs.log2<1920:=λi hi=>by
  by_cases h0:i.natAbs=0
  ·rw[h0];decide
  ·exact gw ((Nat.log2_lt h0).mpr hi) J0
 have ap:∀a b:Str,(a++b).length=a.length+b.length:=λa b=>Array.size_append ..;refine wpAny_JoinedStr (Joins_cons (FormattedValue_plain (aP (ha ak s Z H _ I h) λv s1 hz=>?_)));obtain⟨x,H1,I1,r1,i,ex,hi,h1⟩:=hz;subst ex;obtain⟨t,rfl⟩:=r1;have l1:=int_text_len_1921 (lg i hi);refine wpAny_formatField_int (lg i hi) ⟨_,_,rfl,by rw[ap];show 0+_<=_;lia,Joins_cons (aP (HS ak _ Z H1 (λv H'=>v=.str w/\H'=H1) (I1.tok _) ⟨rfl,rfl⟩) λv s2 hz=>?_)⟩;obtain⟨y,H2,I2,r2,ey,eH⟩:=hz;subst ey eH;obtain⟨t2,rfl⟩:=r2;refine⟨_,_,rfl,by rw[ap,ap];show 0+_+_<=_;lia,Joins_cons (FormattedValue_plain (aP (hb ak s2 Z H2 _ I2 h1) λv s3 hz=>?_))⟩;obtain⟨y,H3,I3,r3,k,ey,hk,q⟩:=hz;subst ey;obtain⟨t3,rfl⟩:=r3;have l3:=int_text_len_1921 (lg k hk);refine wpAny_formatField_int (lg k hk) ⟨_,_,rfl,by rw[ap,ap,ap];show 0+_+_+_<=_;lia,Joins_nil ⟨by rw[ap,ap,ap];show 0+_+_+_<=_;lia,⟨.str _,H3,I3.tok _,⟨_,rfl⟩,q⟩⟩⟩
noncomputable def Dm:R2:=λx y H Q=>∃z i c,x=.str z/\y=.int i/\(0<=i/\i<1000)/\z.cps[i.toNat]?=some c/\Q (.str ⟨#[c]⟩) H
theorem zhS:qK X Dm:=by
 intro value slice ak s Z H x y v u Q I rx ry h hs;obtain⟨z,i,c,rfl,rfl,hz,he,q⟩:=h;obtain⟨t,rfl⟩:=rx;obtain⟨t',rfl⟩:=ry;have hj:i.toNat<z.length:=(xJ.mp he).1;exact tail_any (typeIs_str s z t) yR.lookup (getItem_str (c:=c) (by
  have e1:decide (i < -(2^63:Int))=false:=gA gV;have e2:decide (i>=2^63)=false:=gA gV;rw[e1,e2,Bool.or_false]) (by
   have:seqIndex? i z.length=some i.toNat:=by
    unfold seqIndex?;simp only[if_neg (show ¬i<0 by lia)];rw[dY hz.1,dY (show i<(z.length:Int) by lia)];rfl
   rw[this];exact he) ⟨.str ⟨#[c]⟩,H,I.tok _,⟨_,rfl⟩,q⟩) hs
theorem zd6:cO X (.type "int") (λxs H Q=>∃x n,xs=[.str x]/\x.length<=600/\intText? x=some n/\Q (.int n) H):=by
 rintro ak s Z H xs us Q I r ⟨x,n,e,hl,hn,q⟩;subst e;obtain⟨u,rfl,t,rfl⟩:=vals1 r;exact W.KIN.call_text hn gV ⟨.int n,H,I.tok _,⟨_,rfl⟩,q⟩
theorem Tw{y:Str}(h:Mi.fu y=true):y.length=1/\Builtin.Str.strKind y=1:=by
 unfold Mi.fu at h;rw[bZ] at h;exact⟨iZ h.1,iZ h.2⟩
theorem zhe:xZ X "str.partition" (λx xs H Q=>∃a b:Str,x=.str a/\xs=[.str b]/\a.length<=600/\Mi.fu b=true/\∀p,H p=none->Q (.ref p) (upd H p (.tup [.str (Txt.partition a b).1,.str (Txt.partition a b).2.1,.str (Txt.partition a b).2.2]))):=by
 rintro ak s Z H x xs v us Q I rx r ⟨a,b,e1,e2,ha,hb,q⟩;subst e1 e2;obtain⟨t,rfl⟩:=rx;obtain⟨u,rfl,tb,rfl⟩:=vals1 r;have hs:(600:Nat)<=sizeLine:=by decide
 have hb:=Tw hb;refine uY PySem.F.slot_str_partition rfl PySem.F.entry_str_partition (PySem.F.args_str_partition_2 _ _) (meets_str_partition a b t tb (by rw[hb.1];rfl) (jd ha hs)) ?_;have q:=q s.heap.objs.size (I.hok.fresh (bY _));unfold Txt.partition at q;show EP X ak Z Q (.ref s.heap.objs.size) _;cases e:Builtin.Str.occurrences a b 0 a.length 1 with
 |nil=>
  rw[e] at q;exact⟨.ref _,_,I.laid (t':=s.toks+1) (o:=.tup [.str a,.str Str.empty,.str Str.empty]) (λb ob q=>cX _ q) (bY _) ⟨by show 3<=sizeLine;decide,_,.cons ⟨_,rfl⟩ (.cons ⟨_,rfl⟩ (.cons ⟨_,rfl⟩ .nil)),gZ.new _ _⟩,rfl,q⟩
 |cons i r=>
  rw[e] at q;exact⟨.ref _,_,I.laid (t':=s.toks+1+1) (o:=.tup [.str (Builtin.Str.strSub a 0 i),.str b,.str (Builtin.Str.strSub a (i+b.length) a.length)]) (λb ob q=>cX _ q) (bY _) ⟨by show 3<=sizeLine;decide,_,.cons ⟨_,rfl⟩ (.cons ⟨_,rfl⟩ (.cons ⟨_,rfl⟩ .nil)),gZ.new _ _⟩,rfl,q⟩
theorem Tz:∀(xs:List Str) (k:Nat),Vals (xs.map V.str) (strsFrom k xs)
 |[],_=>.nil
 |x::r,k=>.cons ⟨_,rfl⟩ (Tz r (k+1))
theorem zff(x:Str):1<=Builtin.Str.strKind x:=by
 unfold Builtin.Str.strKind
 split
 ·lia
 ·split<;>lia
theorem zgA:xZ X "str.split" (λx xs H Q=>∃a b:Str,x=.str a/\xs=[.str b]/\a.length<=600/\Mi.fu b=true/\(Mi.bF a b).length<=1000/\∀p,H p=none->Q (.ref p) (upd H p (.lst ((Mi.bF a b).map .str)))):=by
 rintro ak s Z H x xs v us Q I rx r ⟨a,b,e1,e2,ha,hb,hl,q⟩;subst e1 e2;obtain⟨t,rfl⟩:=rx;obtain⟨u,rfl,tb,rfl⟩:=vals1 r;have hs:(1000:Nat)<=sizeLine:=by decide
 have hb:=Tw hb;have q:=q s.heap.objs.size (I.hok.fresh (bY _));have hk:=zff a;have one:∀t':Nat,Q (.ref s.heap.objs.size) (upd H s.heap.objs.size (.lst [.str a]))->EP X ak Z Q (.ref s.heap.objs.size) {s with heap:=s.heap.push {cls:=.type "list",data:=.seq #[.str a t]}}:=λ_ q=>
  ⟨.ref _,_,I.laid (t':=s.toks) (o:=.lst [.str a]) (λb ob q=>cX _ q) (bY _) ⟨by show 1<=sizeLine;decide,_,0,.cons ⟨_,rfl⟩ .nil,ji _ rfl⟩,rfl,q⟩
 by_cases h0:a.length<1
 ·refine uY Dt rfl GQ (GJ _ _) (meets_str_split_cannot_occur a b t tb (by rw[hb.1,dY h0];rfl)) ?_;unfold Mi.bF at q;rw[dY h0] at q;exact one 0 q
 ·have hc:(decide (a.length<b.length)||decide (Builtin.Str.strKind a<Builtin.Str.strKind b))=false:=by
   rw[hb.1,hb.2,gA h0,gA gV];rfl
  cases e:(Builtin.Str.occurrences a b 0 a.length (a.length+1)).isEmpty with
  |true=>
   refine uY Dt rfl GQ (GJ _ _) (meets_str_split_not_found a b t tb hc (by rw[hb.1];rfl) e) ?_;unfold Mi.bF at q;rw[gA h0,e] at q;exact one 0 q
  |false=>
   unfold Mi.bF at q hl;rw[gA h0,e] at q hl;refine uY Dt rfl GQ (GJ _ _) (meets_str_split_sep a b t tb hc (by rw[hb.1];rfl) e gV (by exact jd hl hs)) ?_;exact⟨.ref _,_,I.laid (o:=.lst ((Builtin.Str.partsBetween a (Builtin.Str.occurrences a b 0 a.length (a.length+1)) b.length).map .str)) (λb ob q=>cX _ q) (bY _) ⟨by rw[n6];exact jd hl hs,_,0,Tz _ _,ji _ rfl⟩,rfl,q⟩
end
end L2
namespace Mi
open PySem PySem.Spec PyProof.Rows L2 PySem.W
section
variable {X:Cx}{cA:Cl}{ao:Nat->Nat->Bool}{aj:Bool}{F:Fn}{EX:XS}{a b e o:Expr}{es:List Expr}{A B O:E}{Xs:Es}{pos p p2 apos:Pos}{fz:Bool}
theorem Ge{b:Bool}{x:Str}{z:Rz}(h:qM b x=some z):b=true/\z=.dat (.str x):=by
 cases b with
 |true=>exact⟨rfl,(dh h).symm⟩
 |false=>cases h
theorem xr{x:Str}(h:cZ x=true):x.length<=600:=iZ h
theorem zf2{K:W.Frag}:aW K cA .pF (λxs H Q=>∃z,xs=[.str z]/\z.length<=sizeLine/\Q (.int z.length) H):=by
 intro U H ds vs Q zt rs o;have o:aQ K cA U H (pL ds) Q:=o;have hs:(600:Nat)<=sizeLine:=by decide
 unfold pL at o;split at o
 ·rename_i x _;obtain⟨v,rfl,r1⟩:=rs.one;cases r1;cases e:cZ x with
  |true=>
   rw[e] at o;exact⟨x,rfl,jd (xr e) hs,(o.of rfl).here (.int _)⟩
  |false=>rw[e] at o;exact o.elim
 ·exact o.elim
theorem zju(hm:X.mg "len"=none)(hg:JK X "len" .globalImplicit)(ha:JA X cA ao aj F EX (e::es) Xs)(he:aA e=true:=by rfl)(bW:es.all aA=true:=by rfl):JE X cA ao aj F EX (.Call (.Name "len" p) (e::es) [] pos) (.pr fz .pF Xs):=⟨Cm Yd zf2 hg.o hm PySem.boot_len ha.o J0 J0 (bB he) (aR bW)⟩
theorem zgJ{K:W.Frag}:aW K cA .sint (λxs H Q=>∃x n,xs=[.str x]/\x.length<=600/\PySem.intText? x=some n/\Q (.int n) H):=by
 intro U H ds vs Q zt rs o;have o:aQ K cA U H (pQ ds) Q:=o;unfold pQ at o;split at o
 ·rename_i x _;obtain⟨v,rfl,r1⟩:=rs.one;cases r1;cases e:cZ x with
  |true=>
   rw[e] at o;obtain⟨z,ez⟩:=o.some';obtain⟨n,e1,e2⟩:=lN.mp ez;subst e2;exact⟨x,n,rfl,xr e,e1,(o.of ez).here (.int _)⟩
  |false=>rw[e] at o;exact o.elim
 ·exact o.elim
theorem Gf(hm:X.mg "int"=none)(hg:JK X "int" .globalImplicit)(ha:JA X cA ao aj F EX (e::es) Xs)(he:aA e=true:=by rfl)(bW:es.all aA=true:=by rfl):JE X cA ao aj F EX (.Call (.Name "int" p) (e::es) [] pos) (.pr fz .sint Xs):=⟨K6 zd6 zgJ hg.o hm PyProof.Rows.boot_int ha.o J0 J0 (bB he) (aR bW)⟩
theorem zh3{K:W.Frag}:aW K cA .rZ (r2 Dm):=by
 intro U H ds vs Q zt rs o;have o:aQ K cA U H (wB ds) Q:=o;unfold wB at o;split at o
 ·rename_i x i _;obtain⟨v,v',rfl,r1,r2⟩:=rs.two (ds:=[]);cases r1;by_cases hi:0<=i/\i<1000
  ·rw[if_pos hi] at o;obtain⟨z,ez⟩:=o.some';obtain⟨c,e1,e2⟩:=lN.mp ez;subst e2;exact⟨_,_,rfl,x,i,c,rfl,r2.int,hi,e1,(o.of ez).here (.str _)⟩
  ·rw[if_neg hi] at o;exact o.elim
 ·exact o.elim
theorem zkF(ha:JE X cA ao aj F EX a A)(hb:JE X cA ao aj F EX b B)(hs:j5 b=true:=by rfl):JE X cA ao aj F EX (.Subscript a b pos) (.pr true .rZ (.cons A (.cons B .nil))):=⟨PE.weak (Qd zhS ha.o hb.o (by cases b<;>first|(intro _ _;rfl)|cases hs)) λZ H Q hh=>un hh λU J s hL hS h=>by
 have h:Run X.K cA (M.bd (M.bd (ev ao aj F A J) λx=>M.bd (M.bd (ev ao aj F B J) λy=>M.bd (M.ret []) λz=>M.ret (y::z)) λys=>M.ret (x::ys)) λvs=>M.bd (cJ vs) λds=>aX true (prim .rZ ds)) U H s _ _:=h;simp only[gD] at h;refine aY hL hS h λx H1 U1 d1 s1 x1 hL1 aD r1 h1=>aY hL1 aD h1 λy H2 U2 d2 s2 x2 hL2 aM r2' h2=>?_;exact qQ (yh (fz:=true) (U:=U) x2 aD aM r1 r2' h2 zh3)⟩
theorem TF{e':Expr}{q:Pr}{r:V->V->Hp->VK->Prop}(hp:∀{U:Ph} {H:Hp} {ds:List D} {v v':V} {Q:VK},Zt U H->qP X.K cA U H ds [v,v']->aQ X.K cA U H (prim q ds) Q->r v v' H Q)
  (hpe:∀{ta tb:TE},PE X a ta->PE X b tb->PE X e' (λZ H Q=>ta Z H λx H1=>tb Z H1 λy H2=>r x y H2 Q)) (ha:SE X cA ao aj F EX a A) (hb:SE X cA ao aj F EX b B):SE X cA ao aj F EX e' (.pr true q (.cons A (.cons B .nil))):=PE.weak (hpe ha hb) λZ H Q hh=>un hh λU J s hL hS h=>by
 have h:Run X.K cA (M.bd (M.bd (ev ao aj F A J) λx=>M.bd (M.bd (ev ao aj F B J) λy=>M.bd (M.ret []) λz=>M.ret (y::z)) λys=>M.ret (x::ys)) λvs=>M.bd (cJ vs) λds=>aX true (prim q ds)) U H s _ _:=h;simp only[gD] at h;refine aY hL hS h λx H1 U1 d1 s1 x1 hL1 aD r1 h1=>aY hL1 aD h1 λy H2 U2 d2 s2 x2 hL2 aM r2' h2=>?_;obtain⟨ds,rs,h3⟩:=lE aM (.cons (r1.mono x2 aD.lz) (.cons r2' .nil)) h2;exact hp aM.zs rs (lF aM h3)
theorem M5(ha:JE X cA ao aj F EX a A)(hb:JE X cA ao aj F EX b B):JE X cA ao aj F EX (.Subscript a (.Slice (some b) none none p2) pos) (.pr true .iD (.cons A (.cons B .nil))):=
 ⟨TF (q:=.iD) (r:=λx y H2 Q=>∃z j,x=.str z/\y=.int j/\z.length<=600/\Q (.str (cT z (some j) none none)) H2) (λ{U H ds v v' Q} zt rs o=>by
  have o:aQ X.K cA U H (lB ds) Q:=o;unfold lB at o;split at o
  ·cases rs with
   |cons r1 rr=>
    cases rr with
    |cons r2 rr=>
     cases rr;cases r1;obtain⟨z,ez⟩:=o.some';obtain⟨e1,rfl⟩:=Ge ez;exact⟨_,_,rfl,r2.int,xr e1,(o.of ez).here (.str _)⟩
  ·exact o.elim) (λh1 h2=>zft h1 h2) ha.o hb.o⟩
theorem M6(ha:JE X cA ao aj F EX a A)(hb:JE X cA ao aj F EX b B):JE X cA ao aj F EX (.Subscript a (.Slice none (some b) none p2) pos) (.pr true .vY (.cons A (.cons B .nil))):=
 ⟨TF (q:=.vY) (r:=λx y H2 Q=>∃z j,x=.str z/\y=.int j/\z.length<=600/\Q (.str (cT z none (some j) none)) H2) (λ{U H ds v v' Q} zt rs o=>by
  have o:aQ X.K cA U H (wA ds) Q:=o;unfold wA at o;split at o
  ·cases rs with
   |cons r1 rr=>
    cases rr with
    |cons r2 rr=>
     cases rr;cases r1;obtain⟨z,ez⟩:=o.some';obtain⟨e1,rfl⟩:=Ge ez;exact⟨_,_,rfl,r2.int,xr e1,(o.of ez).here (.str _)⟩
  ·exact o.elim) (λh1 h2=>zjm h1 h2) ha.o hb.o⟩
theorem zhM{j:Nat}{p3 p4:Pos}(ha:JE X cA ao aj F EX a A):JE X cA ao aj F EX (.Subscript a (.Slice none none (some (.UnaryOp .USub (.Constant (.int 1) j p3) p4)) p2) pos) (.pr true .pG (.cons A .nil)):=⟨PE.weak (zgx ha.o) λZ H Q hh=>un hh λU J s hL hS h=>by
 have h:Run X.K cA (M.bd (M.bd (ev ao aj F A J) λx=>M.bd (M.ret []) λz=>M.ret (x::z)) λvs=>M.bd (cJ vs) λds=>aX true (prim .pG ds)) U H s _ _:=h;simp only[gD] at h;refine aY hL hS h λx H1 U1 d1 s1 x1 hL1 aD r1 h1=>?_;obtain⟨ds,rs,h3⟩:=lE aD (.cons r1 .nil) h1;have o:aQ X.K cA U1 H1 (pN ds) Q:=lF aD h3;unfold pN at o;split at o
 ·obtain⟨v,e,r⟩:=rs.one;cases e;cases r;obtain⟨z,ez⟩:=o.some';obtain⟨e1,rfl⟩:=Ge ez;exact⟨_,rfl,xr e1,(o.of ez).here (.str _)⟩
 ·exact o.elim⟩
theorem zgk{K:W.Frag}:CJ K cA .part (λx xs H Q=>∃a b:Str,x=.str a/\xs=[.str b]/\a.length<=600/\fu b=true/\∀p,H p=none->Q (.ref p) (upd H p (.tup [.str (Txt.partition a b).1,.str (Txt.partition a b).2.1,.str (Txt.partition a b).2.2]))):=by
 intro U H ds vs Q zt rs o;have o:aQ K cA U H (pO ds) Q:=o;unfold pO at o;split at o
 ·rename_i x y _;obtain⟨v,v',rfl,r1,r2⟩:=rs.two (ds:=[]);cases r1;cases r2;cases e:cZ x&&fu y with
  |true=>
   rw[e] at o;rw[bZ] at e;exact⟨_,_,rfl,x,y,rfl,rfl,xr e.1,e.2,λp hp=>aQ.tup o zt (.cons (.str _) (.cons (.str _) (.cons (.str _) .nil))) hp⟩
  |false=>rw[e] at o;exact o.elim
 ·exact o.elim
theorem zhP(ho:JE X cA ao aj F EX a A)(ha:JA X cA ao aj F EX (e::es) Xs)(bO:attributeBase a "partition" X.env (eval a X.env)=eval a X.env:=by rfl)(iz:decide (es.length<28)=true:=by rfl)(dG:(apos.endLine==pos.line)=true:=by rfl)(hs:aA e=true:=by rfl)(bw:es.all aA=true:=by rfl) :
  JE X cA ao aj F EX (.Call (.Attribute a "partition" apos) (e::es) [] pos) (.meth true .part .str A Xs):=⟨Fl (k:=.str) PySem.F.plainAttrs_str PySem.F.slot_str_partition PySem.F.type_str_partition zhe zgk ho.o ha.o bO (gQ hs bw iz) dG (bB hs) (aR bw)⟩
theorem TJ{K:W.Frag}{U:Ph}{H:Hp}:∀xs:List Str,aC K cA U H (xs.map D.str) (xs.map V.str)
 |[]=>.nil
 |x::r=>.cons (.str x) (TJ r)
theorem zgS{K:W.Frag}:CJ K cA .pH (λx xs H Q=>∃a b:Str,x=.str a/\xs=[.str b]/\a.length<=600/\fu b=true/\(bF a b).length<=1000/\∀p,H p=none->Q (.ref p) (upd H p (.lst ((bF a b).map .str)))):=by
 intro U H ds vs Q zt rs o;have o:aQ K cA U H (pP ds) Q:=o;unfold pP at o;split at o
 ·rename_i x y _;obtain⟨v,v',rfl,r1,r2⟩:=rs.two (ds:=[]);cases r1;cases r2;cases e:cZ x&&fu y&&decide ((bF x y).length<=1000) with
  |true=>
   rw[e] at o;rw[bZ,bZ] at e;exact⟨_,_,rfl,x,y,rfl,rfl,xr e.1.1,e.1.2,iZ e.2,λp hp=>o p _ hp (TJ _)⟩
  |false=>rw[e] at o;exact o.elim
 ·exact o.elim
theorem zjk(ho:JE X cA ao aj F EX a A)(ha:JA X cA ao aj F EX (e::es) Xs)(bO:attributeBase a "split" X.env (eval a X.env)=eval a X.env:=by rfl)(iz:decide (es.length<28)=true:=by rfl)(dG:(apos.endLine==pos.line)=true:=by rfl)(hs:aA e=true:=by rfl)(bw:es.all aA=true:=by rfl) :
  JE X cA ao aj F EX (.Call (.Attribute a "split" apos) (e::es) [] pos) (.meth fz .pH .str A Xs):=⟨Fl (k:=.str) PySem.F.plainAttrs_str Dt PySem.F.type_str_split zgA zgS ho.o ha.o bO (gQ hs bw iz) dG (bB hs) (aR bw)⟩
theorem zlc{w:Str}{j:Nat}{p3 p4 p5:Pos}(ha:JE X cA ao aj F EX a A)(hb:JE X cA ao aj F EX b B)(hw:decide (w.length<=600)=true:=by decide):JE X cA ao aj F EX (.JoinedStr [.FormattedValue a (-1) none p3,.Constant (.str w) j p4,.FormattedValue b (-1) none p5] pos) (.pr true .cat (.cons (.pr true .str1 (.cons A .nil)) (.cons (.c (.str w)) (.cons (.pr true .str1 (.cons B .nil)) .nil)))):=⟨PE.weak (zj5 (iZ hw) ha.o hb.o) λZ H Q hh=>un hh λU J s hL hS h=>by
 have h:Run X.K cA (M.bd (M.bd (M.bd (M.bd (ev ao aj F A J) λx=>M.bd (M.ret []) λq=>M.ret (x::q)) λvs=>M.bd (cJ vs) λds=>aX true (jf ds)) λx=>M.bd (M.bd (M.ret (.d (.str w))) λy=>M.bd (M.bd (M.bd (M.bd (ev ao aj F B J) λx=>M.bd (M.ret []) λq=>M.ret (x::q)) λvs=>M.bd (cJ vs) λds=>aX true (jf ds)) λz=>M.bd (M.ret []) λq=>M.ret (z::q)) λq=>M.ret (y::q)) λq=>M.ret (x::q)) λvs=>M.bd (cJ vs) λds=>aX true (sG ds)) U H s _ _:=h;simp only[gD] at h;refine aY hL hS h λx H1 U1 d1 s1 x1 hL1 aD r1 h1=>?_;obtain⟨ds,rs,h2⟩:=lE aD (.cons r1 .nil) h1;obtain⟨d,rfl⟩ : ∃d,ds=[d]:=by
  cases rs with
  |cons a r=>cases r;exact⟨_,rfl⟩
 obtain⟨v,e,r⟩:=rs.one;cases e;cases d with
 |int i=>
  by_cases hi:i.natAbs<2^62
  ·have e1:jf [.int i]=some (.dat (.str (Str.ofString (toString i)))):=if_pos hi;rw[e1] at h2;refine⟨i,r.int,hi,?_⟩;have h3:Run X.K cA (M.bd (ev ao aj F B J) λy=>M.bd (cJ [y]) λds=>M.bd (aX true (jf ds)) λt2=>M.bd (cJ [.d (.str (Str.ofString (toString i))),.d (.str w),t2]) λds=>aX true (sG ds)) U1 H1 s1 _ _:=h2;refine aY hL1 aD h3 λy H2 U2 d2 s2 x2 hL2 aM r2 h4=>?_;obtain⟨ds,rs,h5⟩:=lE aM (.cons r2 .nil) h4;obtain⟨d,rfl⟩ : ∃d,ds=[d]:=by
    cases rs with
    |cons a r=>cases r;exact⟨_,rfl⟩
   obtain⟨v,e,r⟩:=rs.one;cases e;cases d with
   |int k=>
    by_cases hk:k.natAbs<2^62
    ·have e1:jf [.int k]=some (.dat (.str (Str.ofString (toString k)))):=if_pos hk;rw[e1] at h5;refine⟨k,r.int,hk,?_⟩;have h6:Run X.K cA (aX true (sG [.str (Str.ofString (toString i)),.str w,.str (Str.ofString (toString k))])) U2 H2 s2 _ _:=h5;have o:aQ X.K cA U2 H2 (qM (cZ (Str.ofString (toString i))&&cZ w&&cZ (Str.ofString (toString k))) (Str.empty++Str.ofString (toString i)++w++Str.ofString (toString k))) Q:=lF aM h6;obtain⟨z,ez⟩:=o.some';obtain⟨e1,rfl⟩:=Ge ez;exact(o.of ez).here (.str _)
    ·have e1:jf [.int k]=none:=if_neg hk;rw[e1] at h5;exact h5.elim
   |_=>exact h5.elim
  ·have e1:jf [.int i]=none:=if_neg hi;rw[e1] at h2;exact h2.elim
 |_=>exact h2.elim⟩
end
theorem zge{K:W.Frag}{cA:Cl}(i j l:Nat):jK K cA (oN K 3 (dZ (cB i) (dZ (cB j) (dZ (cB l) oM)))) [i,j,l] where
 run:=λU H s Z J J' d v Q hL hS r e k=>by
  have e:(f9 d).bind (λds=>cU [i,j,l] (ds.map Xv.d) J)=some J':=e;obtain⟨ds,e1,e2⟩:=kh.mp e;cases r with
  |@tup ad xs vs h1 h2=>
   have e1:xs=ds:=dh e1;subst e1;cases h2 with
   |nil=>cases e2
   |cons r1 t1=>
    cases t1 with
    |nil=>cases e2
    |cons r2 t2=>
     cases t2 with
     |nil=>cases e2
     |cons r3 t3=>
      cases t3 with
      |nil=>
       have e2:=dh e2;subst e2;refine⟨ad,_,rfl,h1.jR,rfl,_,_,rfl,_,_,rfl,_,_,rfl,rfl,k _ (((hL.set (.d r1)).set (.d r2)).set (.d r3)) (by rw[jP,jP,jP]) λm hm=>?_⟩;rw[kj (λz=>hm (by simp[z])),kj (λz=>hm (by simp[z])),kj (λz=>hm (by simp[z]))]
      |cons _ _=>cases e2
  |_=>cases e1
section
variable {X:Cx}{cA:Cl}{ao:Nat->Nat->Bool}{aj:Bool}{F:Bool->Fn}{EX:XS}{x y z:Str}{kx ky kz:NameKind}{i j l:Nat}{a:Expr}{A:E}{pos:Pos}
theorem zh9(i j l:Nat){k0}{px py pz pt:Pos}(hc:X.aj=true)(bR:aj=true)(hN:X.N.Nodup)(hi:X.N[i]?=some x)(hj:X.N[j]?=some y)(hl:X.N[l]?=some z)(hx:JK X x kx)(hy:JK X y ky)(hz:JK X z kz)(Mp:jL kx=true)(Mq:jL ky=true)(hlz:jL kz=true)(ha:JE X cA ao aj (F aj) EX a A)
  (wI:X.fn x=true\/kx=.local:=by first|exact .inl rfl|exact .inr rfl) (wJ:X.fn y=true\/ky=.local:=by first|exact .inl rfl|exact .inr rfl) (hfz:X.fn z=true\/kz=.local:=by first|exact .inl rfl|exact .inr rfl)
  (hs:swapsWithSole [.Tuple [.Name x px,.Name y py,.Name z pz] k0 pt] a pos.line X.env=pure false:=by rfl) (hw:swappedStores [.Tuple [.Name x px,.Name y py,.Name z pz] k0 pt] a X.env=pure none:=by rfl) (h1:(assignEach [.Tuple [.Name x px,.Name y py,.Name z pz] k0 pt] X.env).map (·.2)=[assign (.Tuple [.Name x px,.Name y py,.Name z pz] k0 pt) X.env]:=by rfl) :
  JS X cA ao aj F EX (.Assign [.Tuple [.Name x px,.Name y py,.Name z pz] k0 pt] a pos) (.asg (.tp [i,j,l]) A):=
 ⟨PS.weak (Ii ha.o (Pa hc (zJ (vq hN hi (uL hx Mp) (uM hx wI)) (zJ (vq hN hj (uL hy Mq) (uM hy wJ)) (zJ (vq hN hl (uL hz hlz) (uM hz hfz)) O_)))) hs hw h1) λD Z H hh=>un hh λU J s hL hS h=>
 ⟨U,J,s,hL,hS,(aJ.ofM hL hS.lz h).imp λd s1 U1 H1 ⟨x1,aD,h1⟩ v rv=>by
  have hL1:=hL.mono x1 hS.lz;have h:aJ X.K cA (if aj=true then ofM (M.bd (dat d) λd=>M.opt ((f9 d).bind λds=>cU [i,j,l] (ds.map Xv.d) J)) J (λJ' s=>some (Out.nx J',s)) else λ_=>none) U1 H1 s1 D EX:=h1;rw[if_pos bR] at h;obtain⟨dd,e0,rd,h1⟩:=K4 rv (aJ.ofM hL1 aD.lz h);obtain⟨J',e,_,aM,h2⟩:=Run.opt aD h1;exact(zge i j l).run U1 H1 s1 Z J J' dd v _ hL1 aD rd e λZ' Lp _ _=>h2 U1 H1 Z' Ext.refl aD Lp⟩⟩
end
end Mi
namespace Mi
open PySem
theorem W.vZ{ao:Nat->Nat->Bool}{aj:Bool}{F:Fn}{J:Vs}{s:S}{P:Xv->S->Prop}{p q r:Pr}{a b c d:E}(h:W (ev ao aj F a J) s λx s1=>W (ev ao aj F b J) s1 λy s2=>W (cJ [x,y]) s2 λds s3=>W (aX true (prim p ds)) s3 λt s4=>W (Mi.bool t) s4 λk s5=>
  W (if k=true then M.bd (ev ao aj F c J) λz=>M.bd (cJ [y,z]) λds=>M.bd (aX true (prim q ds)) λt=>M.bd (Mi.bool t) λk2=>if k2=true then M.bd (ev ao aj F d J) λw=>M.bd (cJ [z,w]) λds=>aX true (prim r ds) else M.ret (.d (.bl false)) else M.ret (.d (.bl false))) s5 P):W (ev ao aj F (.vZ p q r a b c d) J) s P:=
 W.bd (h.imp λ_ _ h=>W.bd (h.imp λ_ _ h=>W.bd (h.imp λ_ _ h=>W.bd (h.imp λ_ _ h=>W.bd h))))
noncomputable def xu(n:Int):D->Bool
 |.tup xs=>decide ((xs.length:Int)=n)
 |_=>false
noncomputable def M7(a b:Int):D->Bool
 |.int i=>decide (a<=i/\i<=b)
 |_=>false
theorem zhx{xs:List D}(h:xs.length≠2):xu 2 (.tup xs)=false:=gA (p:=((xs.length:Int)=2)) gV
theorem TQ{xs:List D}(h:xs.length=2):∃x y,xs=[x,y]:=by
 match xs,h with
 |[x,y],_=>exact⟨x,y,rfl⟩
theorem zjG{d:D}(h:nA d=true):lJ d=true:=by cases d<;>first|rfl|cases h
theorem ixm{xs:List D}{r:Nat}(hr:r<xs.length):∃x,prim .ix [.fl xs,.int r]=some (.dat x)/\x∈xs:=⟨xs[r],Dg (gU hr),DN _⟩
theorem M8{i:Int}(h0 : -1000<=i)(h:i<=2000):prim .str1 [.int i]=some (.dat (.str (Str.ofString (toString i)))):=by
 show (if i.natAbs<2^62 then _ else none)=_;rw[if_pos (Nat.lt_of_le_of_lt (show i.natAbs<=2000 by lia) J0)]
end Mi
namespace Mi
open PySem PySem.W L2
noncomputable def fH:D->Bool
 |.tup [.int k,.int d]=>decide (1<=k/\k<=24)&&decide (1<=d/\d<=k)
 |_=>false
theorem TV{xs:List D}(h:xs.length≠2):fH (.tup xs)=false:=by
 unfold fH
 split
 ·rename_i e;cases e;exact absurd rfl h
 ·rfl
theorem zgi{d:D}(h:fH d=true):∃k e,d=cD k e/\1<=e/\e<=k/\k<=24:=by
 unfold fH at h;split at h
 ·rename_i k e;rw[bZ] at h;have h1:=iZ h.1;have h2:=iZ h.2;exact⟨k,e,rfl,h2.1,h2.2,h1.2⟩
 ·cases h
theorem zhc{k d:Int}(h:1<=d/\d<=k/\k<=24):fH (cD k d)=true:=by
 show (decide (1<=k/\k<=24)&&decide (1<=d/\d<=k))=true;rw[dY gV,dY gV];rfl
end Mi
namespace Mi
open PySem
theorem W.c0{F:List Xv->M Xv}{xs:List Xv}{s:S}{e:D}{P:Xv->S->Prop}(h:W (F (cC 0 xs)) [] λv _=>v=.d e)(k:P (.d e) s)(hl:locs xs=[]:=by rfl):W (bM F xs) s P:=W.dO hl (h.imp λ_ _ q=>⟨_,q,k⟩)
theorem W.c1{F:List Xv->M Xv}{xs:List Xv}{s:S}{P:Xv->S->Prop}(h:W (F (cC 0 xs)) [] λv _=>∃d,v=.d d)(k:∀d,P (.d d) s)(hl:locs xs=[]:=by rfl):W (bM F xs) s P:=W.dO hl (h.imp λ_ _ ⟨d,q⟩=>⟨d,q,k d⟩)
theorem TX{k':Nat}:∀(a b:List Int),dW (b_ k') (a.map D.int) (b.map D.int)=some (decide (a=b))
 |[],[]=>by simp[dW]
 |[],_::_=>by simp[dW]
 |_::_,[]=>by simp[dW]
 |x::a,y::b=>by
  have hi:b_ k' (.int x) (.int y)=some (x==y):=by cases k'<;>rfl
  simp only[nG,dW,TX a b,hi]
  congr 1
  by_cases e:x=y<;>by_cases e2:a=b<;>simp[e,e2]
theorem zkl{f:Bool->Bool}{a b:List Int}:v8 f [.tup (a.map .int),.tup (b.map .int)]=some (.dat (.bl (f (decide (a=b))))):=by
 show Option.map _ (dW (b_ 49) (a.map D.int) (b.map D.int))=_;rw[TX];rfl
section
variable {ao:Nat->Nat->Bool}{aj:Bool}{F:Fn}{J:Vs}{s:S}{P:Xv->S->Prop}
theorem TY{fz:Bool}{p:Pr}{k:Kd}{o:E}{xs:Es}(h:W (ev ao aj F o J) s λx s1=>W (rd x) s1 λd s2=>jH k d=true/\W (evs ao aj F xs J) s2 λys s3=>W (cJ (x::ys)) s3 λds s4=>W (aX fz (prim p ds)) s4 P):W (ev ao aj F (.meth fz p k o xs) J) s P:=
 W.bd (h.imp λ_ _ h=>W.bd (h.imp λ_ _ h=>by rw[if_pos h.1];exact W.bd (h.2.imp λ_ _ h=>W.bd h)))
end
noncomputable def cQ(x y:Str):List Nat:=(List.range x.length).filter λi=>Builtin.Str.subAt x y i
theorem Gg{x y:Str}{n lim:Nat}(hy:y.length=1):∀(l:List Nat) (found:Array Nat) (free:Nat),l.Pairwise (·<·)->(∀i∈l,free<=i)->
  ((forIn (m:=Id) l (found,free) λi s=>if (decide (s.1.size<lim)&&decide (s.2<=i)&&decide (i+y.length<=n)&&Builtin.Str.subAt x y i)=true then ForInStep.yield (s.1.push i,i+y.length) else ForInStep.yield (s.1,s.2)):Array Nat×Nat).1.toList=found.toList++((l.filter λi=>decide (i+1<=n)&&Builtin.Str.subAt x y i).take (lim-found.size))
 |[],found,free,_,_=>by
  show found.toList=found.toList++List.take _ [];rw[List.take_nil,uU]
 |i::r,found,free,hp,hf=>by
  have hp':=List.pairwise_cons.mp hp;have hfi:=hf i MP;rw[DR];by_cases c:(decide (i+1<=n)&&Builtin.Str.subAt x y i)=true
  ·by_cases c2:found.size<lim
   ·have e:(decide (found.size<lim)&&decide (free<=i)&&decide (i+y.length<=n)&&Builtin.Str.subAt x y i)=true:=by
     rw[dY c2,dY hfi,hy];exact c
    dsimp only;rw[if_pos e];show ((forIn (m:=Id) r (found.push i,i+y.length) _:Array Nat×Nat)).1.toList=_;rw[Gg hy r _ _ hp'.2 (λj hj=>by have:=hp'.1 j hj;lia)];rw[List.filter_cons,if_pos c,Array.toList_push,Array.size_push,Hj,show lim-found.size=(lim-(found.size+1))+1 by lia,List.take_succ_cons];rfl
   ·have e:¬(decide (found.size<lim)&&decide (free<=i)&&decide (i+y.length<=n)&&Builtin.Str.subAt x y i)=true:=by
     rw[gA c2];simp
    dsimp only;rw[if_neg e];show ((forIn (m:=Id) r (found,free) _:Array Nat×Nat)).1.toList=_;rw[Gg hy r _ _ hp'.2 (λj hj=>hf j (fV _ hj)),show lim-found.size=0 by lia,List.take_zero,List.take_zero]
  ·have e:¬(decide (found.size<lim)&&decide (free<=i)&&decide (i+y.length<=n)&&Builtin.Str.subAt x y i)=true:=by
    rw[hy];intro z;apply c;simp only[bZ] at z ⊢;exact⟨z.1.2,z.2⟩
   dsimp only;rw[if_neg e];show ((forIn (m:=Id) r (found,free) _:Array Nat×Nat)).1.toList=_;rw[Gg hy r _ _ hp'.2 (λj hj=>hf j (fV _ hj)),List.filter_cons,if_neg c]
theorem Gh{x y:Str}{lim:Nat}(hy:y.length=1):Builtin.Str.occurrences x y 0 x.length lim=(cQ x y).take lim:=by
 unfold Builtin.Str.occurrences;simp only[Std.Legacy.Range.forIn_eq_forIn_range',Id.run];have e:=Gg (x:=x) (n:=x.length) (lim:=lim) hy (List.range' 0 (x.length+1)) #[] 0 (List.pairwise_lt_range' ..) (λ_ _=>xQ _);have hz:[:x.length+1].size=x.length+1:=by simp[Std.Legacy.Range.size]
 rw[hz];refine Eq.trans ?_ (e.trans ?_)
 ·rfl
 ·rw[<-List.range_eq_range',List.range_succ,List.filter_append];unfold cQ;have:[x.length].filter (λi=>decide (i+1<=x.length)&&Builtin.Str.subAt x y i)=[]:=by
   rw[List.filter_cons,if_neg (by simp;intro h;lia)];rfl
  rw[this,uU];show []++List.take (lim-0) _=_;rw[List.nil_append,Nat.sub_zero]
  congr 1
  refine List.filter_congr λi hi=>?_;have:=jk.mp hi;show (decide (i+1<=x.length)&&_)=_;rw[dY (show i+1<=x.length by lia),Bool.true_and]
theorem T3{x y:Str}:(cQ x y).length<=x.length:=by
 unfold cQ;exact jd (List.length_filter_le _ _) (by rw[Hq];exact bY _)
theorem zeT{x y:Str}(hy:y.length=1)(h:cQ x y=[]):Txt.partition x y=(x,Str.empty,Str.empty):=by
 unfold Txt.partition;rw[Gh hy,h];rfl
theorem T4{x y:Str}{i:Nat}{r:List Nat}(hy:y.length=1)(h:cQ x y=i::r):Txt.partition x y=(Builtin.Str.strSub x 0 i,y,Builtin.Str.strSub x (i+1) x.length):=by
 unfold Txt.partition;rw[Gh hy,h];show (Builtin.Str.strSub x 0 i,y,Builtin.Str.strSub x (i+y.length) x.length)=_;rw[hy]
theorem T5{x y:Str}(hy:y.length=1)(h:cQ x y=[]):bF x y=[x]:=by
 unfold bF;rw[Gh hy,h,List.take_nil];cases decide (x.length<1)<;>rfl
theorem T6{x y:Str}{i:Nat}{r:List Nat}(hy:y.length=1)(h:cQ x y=i::r):bF x y=Builtin.Str.partsBetween x (i::r) 1:=by
 have hl:=T3 (x:=x) (y:=y);unfold bF;rw[Gh hy,List.take_of_length_le gV,hy];rw[h] at hl ⊢;rw[gJ] at hl;rw[gA gV];rfl
theorem zfd{x y:Str}{i:Nat}(hy:y.length=1)(h:cQ x y=[i]):bF x y=[Builtin.Str.strSub x 0 i,Builtin.Str.strSub x (i+1) x.length]:=by
 rw[T6 hy h];rfl
theorem T7{x y:Str}(hy:y.length=1):(bF x y).length=(cQ x y).length+1:=by
 cases h:cQ x y with
 |nil=>rw[T5 hy h];rfl
 |cons i r=>
  rw[T6 hy h];unfold Builtin.Str.partsBetween;simp
theorem zgm{x y:Str}{i j:Nat}{r:List Nat}(hy:y.length=1)(h:cQ x y=i::j::r):cQ (Builtin.Str.strSub x (i+1) x.length) y≠[]:=by
 have hm:j∈cQ x y:=by rw[h];simp
 have hp:(cQ x y).Pairwise (·<·):=(List.pairwise_lt_range).filter _;rw[h] at hp;have hij:=(List.pairwise_cons.mp hp).1 j MP;unfold cQ at hm ⊢;obtain⟨h1,h2⟩:=List.mem_filter.mp hm;have h1:=jk.mp h1;intro z;have hl:(Builtin.Str.strSub x (i+1) x.length).length=x.length-(i+1):=by
  show (x.cps.extract (i+1) x.length).size=_;rw[Array.size_extract];show min x.length x.cps.size-_=_;rw[show x.cps.size=x.length from rfl,Nat.min_self]
 have:=List.filter_eq_nil_iff.mp z (j-(i+1)) (jk.mpr (by rw[hl];lia));apply this;unfold Builtin.Str.subAt Builtin.Str.strSub at *;rw[<-h2,hy]
 congr 1
 show (x.cps.extract (i+1) x.length).extract (j-(i+1)) (j-(i+1)+1)=x.cps.extract j (j+1);rw[Array.extract_extract,show i+1+(j-(i+1))=j by lia,show i+1+(j-(i+1)+1)=j+1 by lia,Nat.min_eq_left gV]
noncomputable def tx(n:Nat):Str:=Str.ofString (toString (n:Int))
theorem Gi:((List.range 25).all λa=>(PySem.intText? (tx a)==some (a:Int))&&(cQ (tx a) "/").isEmpty&&decide ((tx a).length<=2)&&(List.range 25).all λb=>a==b || !(tx a==tx b))=true:=by decide +kernel
theorem ziK{a:Nat}(h:a<25):PySem.intText? (tx a)=some (a:Int):=by
 have:=iM.mp Gi a (jk.mpr h);simp only[bZ] at this;exact eq_of_beq this.1.1.1
theorem zjr{a:Nat}(h:a<25):cQ (tx a) "/"=[]:=by
 have:=iM.mp Gi a (jk.mpr h);simp only[bZ] at this;exact List.isEmpty_iff.mp this.1.1.2
theorem Dn{a:Nat}(h:a<25):(tx a).length<=2:=by
 have:=iM.mp Gi a (jk.mpr h);simp only[bZ] at this;exact iZ this.1.2
theorem M9{a b:Nat}(h:a<25)(hb:b<25)(e:tx a=tx b):a=b:=by
 have:=iM.mp Gi a (jk.mpr h);simp only[bZ] at this;have:=iM.mp this.2 b (jk.mpr hb);rw[e] at this;simpa using this
noncomputable def nb(w:Str):Option Nat:=(List.range 25).find? λn=>w==tx n
theorem Gj{w:Str}{n:Nat}(h:nb w=some n):n<25/\w=tx n:=by
 unfold nb at h;exact⟨jk.mp (List.mem_of_find?_eq_some h),eq_of_beq (List.find?_some (p:=λn=>w==tx n) h)⟩
theorem yH{n:Nat}(h:n<25):nb (tx n)=some n:=by
 cases e:nb (tx n) with
 |none=>
  unfold nb at e;have:=List.find?_eq_none.mp e n (jk.mpr h);simp at this
 |some m=>
  obtain⟨h1,h2⟩:=Gj e;rw[M9 h h1 h2]
theorem zfk{w:Str}(h:cQ w "/"≠[]):nb w=none:=by
 cases e:nb w with
 |none=>rfl
 |some n=>
  obtain⟨h1,rfl⟩:=Gj e;exact absurd (zjr h1) h
theorem zfx:nb Str.empty=none:=by decide +kernel
noncomputable def bL(w:Str):D:=match nb w with
 |some n=>.int n
 |none=>.non
noncomputable def pairD(x:Str):D:=.tup [bL (Txt.partition x "/").1,bL (Txt.partition x "/").2.2]
theorem Gk{w:Str}:lJ (bL w)=true:=by
 unfold bL;cases nb w<;>rfl
theorem fD{a c:Str}:fH (.tup [bL a,bL c])=true↔∃k d:Nat,a=tx k/\c=tx d/\1<=d/\d<=k/\k<=24:=by
 unfold bL
 constructor
 ·intro h;cases e1:nb a with
  |none=>rw[e1] at h;cases h
  |some k=>
   cases e2:nb c with
   |none=>rw[e1,e2] at h;cases h
   |some d=>
    rw[e1,e2] at h;have h:(decide (1<=(k:Int)/\(k:Int)<=24)&&decide (1<=(d:Int)/\(d:Int)<=k))=true:=h;simp only[bZ,yP] at h;exact⟨k,d,(Gj e1).2,(Gj e2).2,by lia,by lia,by lia⟩
 ·rintro⟨k,d,rfl,rfl,h1,h2,h3⟩;rw[yH gV,yH gV];show (decide (1<=(k:Int)/\(k:Int)<=24)&&decide (1<=(d:Int)/\(d:Int)<=k))=true;rw[dY gV,dY gV];rfl
noncomputable def yI:List Str:=(List.range 24).map λj=>tx (1+j)
theorem zhZ{w:Str}:(yI.any λz=>z==w)=true↔∃k:Nat,1<=k/\k<=24/\w=tx k:=by
 unfold yI;rw[List.any_map,List.any_eq_true]
 constructor
 ·rintro⟨j,hj,e⟩;exact⟨1+j,by lia,by have:=jk.mp hj;lia,(eq_of_beq e).symm⟩
 ·rintro⟨k,h1,h2,rfl⟩;exact⟨k-1,jk.mpr gV,by show (tx (1+(k-1))==tx k)=true;rw[show 1+(k-1)=k by lia];simp⟩
theorem T8(w:Str):∀l:List Str,memD (.str w) (l.map .str)=some (l.any λz=>z==w)
 |[]=>rfl
 |x::r=>by
  show (match b_ 50 (.str x) (.str w),memD (.str w) (r.map D.str) with|some a,some b=>some (a||b)|_,_=>none)=_;rw[T8 w r];rfl
theorem T9{w:Str}{l:List Str}:prim .nin [.str w,.fl (l.map .str)]=some (.dat (.bl (!(l.any λz=>z==w)))):=by
 show ((memD (.str w) (l.map D.str)).map λk=>Rz.dat (.bl (!k)))=_;rw[T8];rfl
theorem Gm{a:Nat}(h:a<25):prim .sint [.str (tx a)]=some (.dat (.int a)):=by
 have hl:=Dn h;show (match cZ (tx a) with|true=>(PySem.intText? (tx a)).map λn=>Rz.dat (.int n)|false=>none)=_;rw[show cZ (tx a)=true from dY gV,ziK h];rfl
theorem ziH{x:Str}(h:x.length<=600):prim .pH [.str x,.str "/"]=some (.nw ((bF x "/").map .str)):=by
 have h1:=T7 (x:=x) (y:="/") rfl;have h2:=T3 (x:=x) (y:="/");show (match cZ x&&fu "/"&&decide ((bF x "/").length<=1000) with|true=>some (Rz.nw ((bF x "/").map .str))|false=>none)=_;rw[show cZ x=true from dY h,show fu "/"=true by decide +kernel,dY gV];rfl
theorem zjf{x:Str}(h:x.length<=600):prim .part [.str x,.str "/"]=some (.dat (wC (Txt.partition x "/"))):=by
 show (match cZ x&&fu "/" with|true=>some (Rz.dat (wC (Txt.partition x "/")))|false=>none)=_;rw[show cZ x=true from dY h,show fu "/"=true by decide +kernel];rfl
theorem yJ(a b:Str):(a++b).length=a.length+b.length:=Array.size_append ..
section
variable {ao:Nat->Nat->Bool}{aj:Bool}{F:Fn}{J:Vs}{s:S}{P:Xv->S->Prop}
theorem W.fld{o:E}{cs:List Nat}{i c:Nat}{fs:List D}{x:D}(ho:W (ev ao aj F o J) s λy s1=>y=.d (.exc c fs)/\P (.d x) s1)(hc:cs.contains c=true)(hx:fs[i]?=some x):W (ev ao aj F (.fld o cs i) J) s P:=W.bd (ho.imp λy s1 ⟨e,p⟩=>by
 subst e;show W (if cs.contains c=true then M.opt (fs[i]?.map .d) else M.no) s1 P;rw[if_pos hc];exact W.opt (by rw[hx];rfl) p)
end
end Mi
namespace dF
open PySem Mi
noncomputable def b0:cj:=(.cons (.ret (.and (.dJ (.v 0) .int) (.not (.dJ (.v 0) .bool)))) .nil)
noncomputable def b1:cj:=(.cons (.ret (.and (.call 0 (Ea (.v 0))) (.rQ .le .le (.v 1) (.v 0) (.v 2)))) .nil)
noncomputable def b2:cj:=(.cons (.ret (.and (.dJ (.v 0) .tuple) (.pr true .eq (Eb (.pr true .len (Ea (.v 0))) (.v 1))))) .nil)
noncomputable def b3:cj:=(.cons (.iff (.not (.call 2 (Eb (.v 0) (Ci 2)))) (.cons (.ret (.c (.bl false))) .nil) .nil) (.cons (.asg (.tp [1,2]) (.v 0)) (.cons (.ret (.and (.call 1 (Ec (.v 1) (Ci 1) (Ci 24))) (.call 1 (Ec (.v 2) (Ci 1) (.v 1))))) .nil)))
noncomputable def b4:cj:=(.cons (.iff (.not (.call 3 (Ea (.v 0)))) (.cons (.rise 1 false (Ea (.c (.str "no ring")))) .nil) .nil) .nil)
noncomputable def b5:cj:=(.cons (.ex (.call 4 (Ea (.v 0)))) (.cons (.ret (.pr true .cat (Ec (.pr true .str1 (Ea (Ei (.v 0) (Ci 0)))) (.c (.str "/")) (.pr true .str1 (Ea (Ei (.v 0) (Ci 1))))))) .nil))
noncomputable def b6:cj:=(.cons (.ex (.call 7 (Ea (.v 0)))) (.cons (.asg (.nm 1) (.call 9 (Ec (.v 0) (.c (.str "/")) (Ci 24)))) (.cons (.iff (.not (.call 3 (Ea (.v 1)))) (.cons (.rise 10 true (Ea (Ci 0))) .nil) .nil) (.cons (.ret (.v 1)) .nil))))
noncomputable def b7:cj:=(.cons (.iff (.not (.dJ (.v 0) .str)) (.cons (.rise 10 true (Ea (.pr true .neg (Ea (Ci 1))))) .nil) .nil) .nil)
noncomputable def b8:cj:=(.cons (.fr (.nm 2) (.rg (Ci 0) (.pr true .add (Eb (.v 1) (Ci 1)))) (.cons (.iff (.pr true .eq (Eb (.v 0) (.pr true .str1 (Ea (.v 2))))) (.cons (.ret (.v 2)) .nil) .nil) .nil)) (.cons (.ret (.c .non)) .nil))
noncomputable def b9:cj:=(.cons (.asg (.tp [3,4,5]) (.meth true .part .str (.v 0) (Ea (.v 1)))) (.cons (.ret (.tup (Eb (.call 8 (Eb (.v 3) (.v 2))) (.call 8 (Eb (.v 5) (.v 2)))))) .nil))
noncomputable def b10:cj:=(.cons (.iff (.pr true .lt (Eb (.v 1) (.pr true .len (Ea (.v 0))))) (.cons (.ret (Ei (.v 0) (.v 1))) .nil) .nil) (.cons (.ret (Ci 0)) .nil))
noncomputable def M_:cj:=(.cons (.asg (.nm 1) (.pr true .max2 (Eb (.v 0) (.pr true .ao (Eb (Ci 0) (.v 0)))))) (.cons (.ret (.lst false (Eb (.v 1) (.pr true .rY (Ea (.pr true .ge (Eb (.v 1) (.pr true .pow (Eb (Ci 10) (Ci 18)))))))))) .nil))
noncomputable def Nb:cj:=(.cons (.iff (.pr true .eq (Eb (Ei (.v 0) (Ci 1)) (Ci 1))) (.cons (.asg (.tp [2,3]) (.pr true .divmod (Eb (Ei (.v 0) (Ci 0)) (.v 1)))) (.cons (.asg (.ao (.v 0) (Ci 0)) (.v 2)) (.cons (.ret (.v 3)) .nil))) .nil) (.cons (.asg (.nm 4) (.pr true .mod (Eb (.pr true .mul (Eb (.pr true .add (Eb (.pr true .mod (Eb (Ei (.v 0) (Ci 0)) (Ci 2147483647))) (Ci 40503))) (Ci 69621))) (Ci 2147483629)))) (.cons (.asg (.nm 4) (.pr true .mod (Eb (.pr true .add (Eb (.pr true .mul (Eb (.v 4) (.v 4))) (Ci 7817))) (Ci 2147483587)))) (.cons (.asg (.ao (.v 0) (Ci 0)) (.pr true .mod (Eb (.pr true .add (Eb (.pr true .mul (Eb (.v 4) (Ci 48271))) (Ci 11))) (Ci 2147483629)))) (.cons (.ret (.pr true .mod (Eb (.pr true .fdiv (Eb (Ei (.v 0) (Ci 0)) (Ci 32))) (.v 1)))) .nil)))))
noncomputable def T_:cj:=(.cons (.ret (.and (.dJ (.v 0) .int) (.not (.dJ (.v 0) .bool)))) .nil)
noncomputable def Nf:cj:=(.cons (.asg (.nm 1) (.lst true (.cons (.c .non) (.cons (.c (.bl true)) (.cons (.c (.bl false)) (.cons (.pr true .neg (Ea (Ci 1))) (.cons (.c (.str "1")) (.cons (.c (.str "")) (.cons (.tup .nil) (.cons (.lst true .nil) (.cons (.tup (Ea (Ci 0))) (.cons (.lst true (Ea (Ci 0))) (.cons (.pI "a" 1) (.cons (.tup (Eb (Ci 0) (Ci 1))) (Ec (.pr true .pow (Eb (Ci 10) (Ci 30))) (.tup (Eb (Ci 0) (.tup .nil))) (.tup (Ea (.c (.str "ab"))))))))))))))))))) (.cons (.ret (Ei (.pr true .add (Eb (.v 1) (.lst true (Ea (.tup (Eb (Ci 1) (.tup (Ea (.tup (Eb (Ci 0) (Ci 0))))))))))) (.call 12 (Eb (.v 0) (Ci 16))))) .nil))
noncomputable def Ua:cj:=(.cons (.asg (.nm 1) (.lst true (.cons (.dJ (.v 0) (.cls 1)) (Ec (.dJ (.v 0) (.cls 2)) (.dJ (.v 0) (.cls 3)) (.dJ (.v 0) (.cls 4)))))) (.cons (.asg (.nm 1) (.pr true .add (Eb (.v 1) (.lst true (.cons (.dJ (.v 0) (.cls 5)) (Ec (.dJ (.v 0) (.cls 6)) (.dJ (.v 0) (.cls 7)) (.dJ (.v 0) (.cls 8)))))))) (.cons (.asg (.nm 1) (.pr true .add (Eb (.v 1) (.lst true (Ec (.dJ (.v 0) (.cls 9)) (.dJ (.v 0) (.cls 10)) (.dJ (.v 0) (.cls 11))))))) (.cons (.iff (.or (.not (.dJ (.v 0) .k_)) (.pr true .ne (Eb (.meth true .count .list (.v 1) (Ea (.c (.bl true)))) (Ci 1)))) (.cons (.ret (.c (.str "other"))) .nil) .nil) (.cons (.asg (.nm 2) (.lst true (.cons (.c (.str "ring")) (.cons (.c (.str "hues")) (.cons (.c (.str "place")) (.cons (.c (.str "arrows")) (.cons (.c (.str "map")) (.cons (.c (.str "paper")) (.cons (.c (.str "apart")) (.cons (.c (.str "row")) (Ec (.c (.str "web")) (.c (.str "text")) (.c (.str "great"))))))))))))) (.cons (.ret (Ei (.v 2) (.meth true .index .list (.v 1) (Ea (.c (.bl true)))))) .nil))))))
noncomputable def Ng:cj:=(.cons (.asg (.nm 1) (.lst true (.cons (.tup (Eb (Ci 2) (Ci 1))) (.cons (.tup (Eb (Ci 3) (Ci 1))) (.cons (.tup (Eb (Ci 5) (Ci 2))) (.cons (.tup (Eb (Ci 4) (Ci 1))) (.cons (.tup (Eb (Ci 7) (Ci 3))) (.cons (.tup (Eb (Ci 7) (Ci 2))) (.cons (.tup (Eb (Ci 4) (Ci 2))) (.cons (.tup (Eb (Ci 6) (Ci 2))) (.cons (.tup (Eb (Ci 10) (Ci 4))) (Ec (.tup (Eb (Ci 5) (Ci 1))) (.tup (Eb (Ci 8) (Ci 3))) (.tup (Eb (Ci 3) (Ci 2))))))))))))))) (.cons (.iff (.pr true .eq (Eb (.call 12 (Eb (.v 0) (Ci 6))) (Ci 0))) (.cons (.asg (.nm 2) (.pr true .add (Eb (Ci 1) (.pr true .mod (Eb (.call 12 (Eb (.v 0) (Ci 24))) (Ci 10)))))) (.cons (.ret (.tup (Eb (.v 2) (.pr true .max2 (Eb (Ci 1) (.pr true .fdiv (Eb (.call 12 (Eb (.v 0) (.v 2))) (Ci 2)))))))) .nil)) .nil) (.cons (.ret (Ei (.v 1) (.call 12 (Eb (.v 0) (Ci 12))))) .nil)))
noncomputable def Nh:cj:=(.cons (.iff (.or (.not (.dJ (.v 0) .tuple)) (.or (.pr true .ne (Eb (.pr true .len (Ea (.v 0))) (Ci 2))) (.not (.pr true .all (Ea (.comp true (.call 13 (Ea (.v 0))) [0] (.seq (.v 0)) [] 1 .no)))))) (.cons (.ret (.c (.bl false))) .nil) .nil) (.cons (.ret (.vZ .le .le .le (Ci 1) (Ei (.v 0) (Ci 1)) (Ei (.v 0) (Ci 0)) (Ci 24))) .nil))
noncomputable def Ni:cj:=(.cons (.asg (.tp [2,3]) (.v 1)) (.cons (.asg (.nm 4) (.lst true (.cons (.tup (Eb (.v 2) (.pr true .add (Eb (.v 2) (Ci 1))))) (.cons (.tup (Eb (Ci 0) (Ci 0))) (.cons (.tup (Eb (Ci 25) (Ci 1))) (.cons (.tup (Eb (.v 2) (Ci 0))) (.cons (.tup (Eb (.c (.bl true)) (Ci 1))) (.cons (.tup (Ec (.v 2) (.v 3) (Ci 1))) (Ec (.lst true (Eb (.v 2) (.v 3))) (.tup (Ea (.v 2))) (.c .non)))))))))) (.cons (.ret (Ei (.pr true .add (Eb (.v 4) (.lst true (Ec (.tup (Eb (.v 3) (.v 2))) (.c (.str "5/2")) (.tup (Eb (.pr true .ao (Eb (Ci 0) (.v 2))) (.v 3))))))) (.call 12 (Eb (.v 0) (Ci 12))))) .nil)))
noncomputable def Nj:cj:=(.cons (.asg (.nm 1) (.meth true .pH .str (.v 0) (Ea (.c (.str "/"))))) (.cons (.asg (.nm 2) (.comp true (.pr true .str1 (Ea (.v 0))) [0] (.rg (Ci 1) (Ci 25)) [] 1 .no)) (.cons (.iff (.or (.pr true .ne (Eb (.pr true .len (Ea (.v 1))) (Ci 2))) (.or (.pr true .nin (Eb (Ei (.v 1) (Ci 0)) (.v 2))) (.or (.pr true .nin (Eb (Ei (.v 1) (Ci 1)) (.v 2))) (.pr true .gt (Eb (.pr true .sint (Ea (Ei (.v 1) (Ci 1)))) (.pr true .sint (Ea (Ei (.v 1) (Ci 0))))))))) (.cons (.ret (Ci 0)) .nil) .nil) (.cons (.ret (.tup (Eb (.pr true .sint (Ea (Ei (.v 1) (Ci 0)))) (.pr true .sint (Ea (Ei (.v 1) (Ci 1))))))) .nil))))
noncomputable def Nk:cj:=(.cons (.iff (.pr true .rW (Ea (.v 1))) (.cons (.ret (.pr true .rW (Ea (.v 0)))) .nil) .nil) (.cons (.ret (.and (.dJ (.v 0) .tuple) (.and (.pr true .eq (Eb (.v 0) (.v 1))) (.pr true .all (Ea (.comp true (.call 13 (Ea (.v 0))) [0] (.seq (.v 0)) [] 1 .no)))))) .nil))
noncomputable def Gn:cj:=(.cons (.lq (.cons (.ret (.call 6 (Ea (.v 0)))) .nil) 0 1 (.cons (.iff (.and (.pr true .eq (Eb (.call 15 (Ea (.v 1))) (.c (.str "text")))) (.call 13 (Ea (.fld (.v 1) [9,10] 0)))) (.cons (.ret (.tup (Eb (.c (.str "at")) (.fld (.v 1) [9,10] 0)))) .nil) .nil) .nil)) (.cons (.ret (.c .non)) .nil))
noncomputable def Gp:cj:=(.cons (.asg (.nm 1) (.ite (.dJ (.v 0) .str) (.call 19 (Ea (.v 0))) (.pr true .neg (Ea (Ci 1))))) (.cons (.fr (.nm 2) (.rg (Ci 0) (Ci 2)) (.cons (.asg (.nm 3) (.call 21 (Ea (.v 0)))) (.cons (.iff (.dJ (.v 1) .tuple) (.cons (.iff (.not (.call 20 (Eb (.v 3) (.v 1)))) (.cons (.ret (.c (.bl false))) .nil) .nil) .nil) (.cons (.iff (.pr true .ne (Eb (.v 3) (.tup (Eb (.c (.str "at")) (.v 1))))) (.cons (.ret (.c (.bl false))) .nil) .nil) .nil)) .nil))) (.cons (.ret (.c (.bl true))) .nil)))
noncomputable def Nm:cj:=(.cons (.asg (.nm 2) (.call 12 (Eb (.v 0) (.pr true .add (Eb (.pr true .pF (Ea (.v 1))) (Ci 1)))))) (.cons (.asg (.nm 3) (.pr true .rZ (Eb (.c (.str "0123456789/- +.")) (.call 12 (Eb (.v 0) (Ci 15)))))) (.cons (.asg (.nm 4) (.lst true (.cons (.pr true .add (Eb (.pr true .add (Eb (.pr true .vY (Eb (.v 1) (.v 2))) (.v 3))) (.pr true .iD (Eb (.v 1) (.v 2))))) (Ec (.pr true .add (Eb (.pr true .add (Eb (.pr true .vY (Eb (.v 1) (.v 2))) (.v 3))) (.pr true .iD (Eb (.v 1) (.pr true .add (Eb (.v 2) (Ci 1))))))) (.pr true .add (Eb (.pr true .vY (Eb (.v 1) (.v 2))) (.pr true .iD (Eb (.v 1) (.pr true .add (Eb (.v 2) (Ci 1))))))) (.pr true .pG (Ea (.v 1))))))) (.cons (.ret (Ei (.pr true .add (Eb (.v 4) (.lst true (.cons (.pr true .add (Eb (.v 1) (.c (.str "/1")))) (Ec (.pr true .add (Eb (.c (.str "0")) (.v 1))) (.pr true .add (Eb (.v 1) (.c (.str "0")))) (.pr true .add (Eb (.c (.str " ")) (.v 1)))))))) (.call 12 (Eb (.v 0) (Ci 8))))) .nil))))
noncomputable def Np:cj:=(.cons (.lq (.cons (.ex (.call 5 (Ea (.v 0)))) .nil) 0 1 (.cons (.ret (.pr true .eq (Eb (.call 15 (Ea (.v 1))) (.c (.str "ring"))))) .nil)) (.cons (.ret (.c (.bl false))) .nil))
noncomputable def Nq:cj:=(.cons (.asg (.nm 1) (.lst true (.cons (.c (.str "")) (.cons (.c (.str "/")) (.cons (.c (.str "1/1")) (.cons (.c (.str "1")) (.cons (.c (.str "2/1")) (.cons (.c (.str "24/24")) (.cons (.c (.str "25/1")) (.cons (.c (.str "1/2")) (.cons (.c (.str "05/2")) (.cons (.c (.str "5/02")) (.cons (.c (.str "5/0")) (Ec (.c (.str "0/0")) (.c .non) (Ci 7))))))))))))))) (.cons (.fr (.nm 2) (.seq (.pr true .add (Eb (.v 1) (.lst true (Eb (.lst true (Ea (.c (.str "5/2")))) (.tup (Eb (Ci 5) (Ci 2)))))))) (.cons (.iff (.not (.call 22 (Ea (.v 2)))) (.cons (.ret (.c (.bl false))) .nil) .nil) .nil)) (.cons (.fr (.nm 3) (.seq (.pr true .add (Eb (.lst true (Ea (.call 10 (Eb (.v 0) (Ci 0))))) (.sl true (.v 0) (.yes (Ci 1)) (.yes (Ci 5)))))) (.cons (.asg (.nm 4) (.call 11 (Ea (.v 3)))) (.cons (.asg (.nm 5) (.call 16 (Ea (.v 4)))) (.cons (.asg (.nm 2) (.call 5 (Ea (.v 5)))) (.cons (.iff (.or (.not (.dJ (.v 2) .str)) (.pr true .ne (Eb (.v 2) (.pr true .add (Eb (.pr true .add (Eb (.pr true .str1 (Ea (Ei (.v 5) (Ci 0)))) (.c (.str "/")))) (.pr true .str1 (Ea (Ei (.v 5) (Ci 1))))))))) (.cons (.ret (.c (.bl false))) .nil) .nil) (.cons (.fr (.nm 6) (.seq (.pr true .add (Eb (.lst true (Eb (.v 2) (.call 14 (Ea (.v 4))))) (.comp true (.call 23 (Eb (.v 1) (.v 2))) [0] (.rg (Ci 0) (Ci 5)) [4,2] 1 .no)))) (.cons (.iff (.not (.call 22 (Ea (.v 6)))) (.cons (.ret (.c (.bl false))) .nil) .nil) .nil)) (.cons (.fr (.nm 6) (.seq (.lst true (.cons (.call 18 (Eb (.v 4) (.v 5))) (Ec (.call 14 (Ea (.v 4))) (.c .non) (.v 2))))) (.cons (.iff (.and (.not (.call 17 (Ea (.v 6)))) (.not (.call 24 (Ea (.v 6))))) (.cons (.ret (.c (.bl false))) .nil) .nil) .nil)) .nil))))))) (.cons (.ret (.c (.bl true))) .nil))))
noncomputable def T(n:Nat):Option Df:=([⟨1,1,b0⟩,⟨3,3,b1⟩,⟨2,2,b2⟩,⟨3,1,b3⟩,⟨1,1,b4⟩,⟨1,1,b5⟩,⟨2,1,b6⟩,⟨1,1,b7⟩,⟨3,2,b8⟩,⟨6,3,b9⟩,⟨2,2,b10⟩,⟨2,1,M_⟩,⟨5,2,Nb⟩,⟨1,1,T_⟩,⟨2,1,Nf⟩,⟨3,1,Ua⟩,⟨3,1,Ng⟩,⟨1,1,Nh⟩,⟨5,2,Ni⟩,⟨3,1,Nj⟩,⟨2,2,Nk⟩,⟨2,1,Gn⟩,⟨4,1,Gp⟩,⟨5,2,Nm⟩,⟨2,1,Np⟩,⟨7,1,Nq⟩]:List Df)[n]?
theorem T_0:T 0=some ⟨1,1,b0⟩:=rfl
theorem T_1:T 1=some ⟨3,3,b1⟩:=rfl
theorem Ub:T 2=some ⟨2,2,b2⟩:=rfl
theorem Uc:T 3=some ⟨3,1,b3⟩:=rfl
theorem Nr:T 4=some ⟨1,1,b4⟩:=rfl
theorem Nt:T 5=some ⟨1,1,b5⟩:=rfl
theorem Gq:T 6=some ⟨2,1,b6⟩:=rfl
theorem Ud:T 7=some ⟨1,1,b7⟩:=rfl
theorem Ue:T 8=some ⟨3,2,b8⟩:=rfl
theorem Ug:T 9=some ⟨6,3,b9⟩:=rfl
theorem Uh:T 10=some ⟨2,2,b10⟩:=rfl
theorem Ui:T 11=some ⟨2,1,M_⟩:=rfl
theorem Uj:T 12=some ⟨5,2,Nb⟩:=rfl
theorem Uk:T 13=some ⟨1,1,T_⟩:=rfl
theorem Ul:T 14=some ⟨2,1,Nf⟩:=rfl
theorem zk6:T 15=some ⟨3,1,Ua⟩:=rfl
theorem Um:T 16=some ⟨3,1,Ng⟩:=rfl
theorem Uo:T 17=some ⟨1,1,Nh⟩:=rfl
theorem Uq:T 18=some ⟨5,2,Ni⟩:=rfl
theorem Ur:T 19=some ⟨3,1,Nj⟩:=rfl
theorem Us:T 20=some ⟨2,2,Nk⟩:=rfl
theorem Nu:T 21=some ⟨2,1,Gn⟩:=rfl
theorem Nv:T 22=some ⟨4,1,Gp⟩:=rfl
theorem Ut:T 23=some ⟨5,2,Nm⟩:=rfl
theorem Uu:T 24=some ⟨2,1,Np⟩:=rfl
theorem Uv:T 25=some ⟨7,1,Nq⟩:=rfl
noncomputable def ao:Nat->Nat->Bool:=λc e=>(let n:=λc=>if c<12 then c else 0;n e==0||n c==n e)
end dF
namespace dF
open PySem PySem.Spec PyProof.Rows L2 Mi
abbrev LK(i:Nat)(x:Str)(k:NameKind):Prop:=(aq (top i)).names.lookup x=some k
noncomputable abbrev gI:NameKind:=.globalImplicit
theorem zkW:ao=gW 12:=rfl
abbrev Uw:List Str:=["_law_thing"]
abbrev Ux:List Str:=["_law_text","_law_parts","_law_names"]
abbrev Uy:List Str:=["_law_found","_law_due"]
abbrev Uz:List Str:=["_law_script","_law_some","_law_text","_law_cell_here","_law_pen_here","_law_ring_here","_law_thing"]
noncomputable def cl(K:W.Frag):Cl:=⟨cN (lk.L K),λc=>(([[],[],[],[],[],[],[],[],[],["at"],["at"],["many","most"]]:List (List Str)).getD c []),λ_=>0,λ_=>[]⟩
theorem Ny:qj "NoText.__init__" gY ["at"]:=qj.of (λ_ _ _ _ _ _ us hl=>bind1 (f:=λus=>bindArgs _ ⟨us,[]⟩) (λ_ _=>rfl) us hl) Bd (by intro z;cases z) J0 Bd Bd rfl rfl rfl
structure Top(K:W.Frag)(mg:Str->Option Value):Prop where
 cs:p7 K (cl K) ao
 d0:D3 K mg "is_whole" (top 14) ["thing"]
 d1:D3 K mg "is_within" (top 15) ["thing","least","most"]
 d2:D3 K mg "is_row" (top 16) ["thing","many"]
 d3:D3 K mg "is_ring" (top 19) ["thing"]
 d4:D3 K mg "check_ring" (top 20) ["thing"]
 d5:D3 K mg "ring_shown" (top 22) ["ring"]
 d6:D3 K mg "ring_read" (top 23) ["text"]
 d7:D3 K mg "check_text" (top 24) ["thing"]
 d8:D3 K mg "number_by" (top 25) ["word","most"]
 d9:D3 K mg "pair_by" (top 26) ["word","sign","most"]
 Nz:D3 K mg "_law_cell" (top 28) ["_law_script","_law_k"]
 NK:D3 K mg "_law_pen" (top 29) ["_law_cell_here"]
 qx:D3 K mg "_law_draw" (top 30) ["_law_pen_here","_law_many"]
 yK:D3 K mg "_law_whole" (top 31) ["_law_thing"]
 Gs:D3 K mg "_law_odd" (top 32) ["_law_pen_here"]
 Gu:D3 K mg "_law_kind" (top 33) ["_law_e"]
 NP:D3 K mg "_law_ring" (top 34) ["_law_pen_here"]
 NQ:D3 K mg "_law_is_ring" (top 35) ["_law_thing"]
 NT:D3 K mg "_law_bent_ring" (top 36) ["_law_pen_here","_law_ring_here"]
 NZ:D3 K mg "_law_read_ring" (top 37) ["_law_text"]
 N5:D3 K mg "_law_told_as" (top 38) ["_law_found","_law_due"]
 N6:D3 K mg "_law_told" (top 39) ["_law_text"]
 Gv:D3 K mg "_law_right" (top 40) ["_law_text"]
 N7:D3 K mg "_law_spoilt" (top 41) ["_law_pen_here","_law_text"]
 N8:D3 K mg "_law_refused" (top 42) ["_law_thing"]
 Gw:D3 K mg "law" (top 43) ["_law_script"]
 c0:mg "HueError"=some (.ref ((cl K).a 0))
 c1:mg "NoRing"=some (.ref ((cl K).a 1))
 c2:mg "NoHues"=some (.ref ((cl K).a 2))
 c3:mg "NoPlace"=some (.ref ((cl K).a 3))
 c4:mg "NoArrows"=some (.ref ((cl K).a 4))
 c5:mg "NoMap"=some (.ref ((cl K).a 5))
 c6:mg "NoPaper"=some (.ref ((cl K).a 6))
 c7:mg "Apart"=some (.ref ((cl K).a 7))
 c8:mg "NoRow"=some (.ref ((cl K).a 8))
 c9:mg "NoWeb"=some (.ref ((cl K).a 9))
 Gx:mg "NoText"=some (.ref ((cl K).a 10))
 UG:mg "TooGreat"=some (.ref ((cl K).a 11))
 x1:jw K ((cl K).a 1) [.type "ValueError",.type "Exception",.type "BaseException",.type "object"] "ValueError.__new__" none=true
 N_:iC K ((cl K).a 10) (aN gY) (aH gY) (aq gY) ((cl K).f 10)
 qy:∀c∈([9,10]:List Nat),XF K ((cl K).a c) "at"/\((cl K).f c).Nodup
 s0:∀c,ao c 0=true->subIn K ((cl K).a c) ((cl K).a 0)=true
 cV:∃t,mg "MOST_SPOTS"=some (.int 24 t)
 z9:mg "ValueError"=none
 Oa:mg "all"=none
 z2:mg "bool"=none
 z8:mg "divmod"=none
 z1:mg "int"=none
 z0:mg "isinstance"=none
 z4:mg "len"=none
 z7:mg "max"=none
 z6:mg "range"=none
 z5:mg "str"=none
 z3:mg "tuple"=none
theorem zis{K:W.Frag}{h:Heap}{mg:Str->Option Value}(S:iK fs ms xs lk K)(X:K.In h)(G:h.Ns mainGlobals mg):Top K mg where
 cs:=by
  rcases S.gd.cs with z|z
  ·cases z
  ·exact zhq (DK _) z
 d0:=j6 S X G 0
 d1:=SM S X G 1
 d2:=wY S X G 2
 d3:=j6 S X G 3
 d4:=j6 S X G 4
 d5:=j6 S X G 5
 d6:=j6 S X G 6
 d7:=j6 S X G 7
 d8:=wY S X G 8
 d9:=SM S X G 9
 Nz:=wY S X G 10
 NK:=j6 S X G 11
 qx:=wY S X G 12
 yK:=j6 S X G 13
 Gs:=j6 S X G 14
 Gu:=j6 S X G 15
 NP:=j6 S X G 16
 NQ:=j6 S X G 17
 NT:=wY S X G 18
 NZ:=j6 S X G 19
 N5:=wY S X G 20
 N6:=j6 S X G 21
 Gv:=j6 S X G 22
 N7:=wY S X G 23
 N8:=j6 S X G 24
 Gw:=j6 S X G 25
 c0:=nY (S.gd.cl "HueError" (mG 0)) X G
 c1:=nY (S.gd.cl "NoRing" (mG 1)) X G
 c2:=nY (S.gd.cl "NoHues" (mG 2)) X G
 c3:=nY (S.gd.cl "NoPlace" (mG 3)) X G
 c4:=nY (S.gd.cl "NoArrows" (mG 4)) X G
 c5:=nY (S.gd.cl "NoMap" (mG 5)) X G
 c6:=nY (S.gd.cl "NoPaper" (mG 6)) X G
 c7:=nY (S.gd.cl "Apart" (mG 7)) X G
 c8:=nY (S.gd.cl "NoRow" (mG 8)) X G
 c9:=nY (S.gd.cl "NoWeb" (mG 9)) X G
 Gx:=nY (S.gd.cl "NoText" (mG 10)) X G
 UG:=nY (S.gd.cl "TooGreat" (mG 11)) X G
 x1:=S.gd.ra 1 (mG 0)
 N_:=zhm (S.mi ⟨10,"NoText.__init__",gY,["at"]⟩ (mG 0)) Ny (S.se ⟨10,"NoText.__init__",gY,["at"]⟩ (mG 0))
 qy:=(List.forall_mem_cons.mpr ⟨⟨S.xf (9,"at") (mG 0),(by show (["at"]:List Str).Nodup;decide +kernel)⟩,(List.forall_mem_cons.mpr ⟨⟨S.xf (10,"at") (mG 1),(by show (["at"]:List Str).Nodup;decide +kernel)⟩,(λc hc=>nomatch hc)⟩)⟩)
 s0:=zgs (L:=lk.L K) (DK _) (S.gd.ca 0 (mG 0))
 cV:=ziQ (S.gd.it ("MOST_SPOTS",24) (mG 0)) X G
 z9:=qg (S.gd.no "ValueError" (mG 0)) X G
 Oa:=qg (S.gd.no "all" (mG 1)) X G
 z2:=qg (S.gd.no "bool" (mG 2)) X G
 z8:=qg (S.gd.no "divmod" (mG 3)) X G
 z1:=qg (S.gd.no "int" (mG 4)) X G
 z0:=qg (S.gd.no "isinstance" (mG 5)) X G
 z4:=qg (S.gd.no "len" (mG 6)) X G
 z7:=qg (S.gd.no "max" (mG 7)) X G
 z6:=qg (S.gd.no "range" (mG 8)) X G
 z5:=qg (S.gd.no "str" (mG 9)) X G
 z3:=qg (S.gd.no "tuple" (mG 10)) X G
abbrev FO(P:Program)(w:World)(K:W.Frag)(mg:Str->Option Value)(base:Heap)(k:Nat)(c:Bool)(x:Str)(i:Nat)(ps:List Str)(n:Nat):Prop:=dw P w K mg base (je P w) c k (gH K x) (fdOf K x (top i)) ps (nU K (cl K) (call ao T k c n))
structure Fs(P:Program)(w:World)(K:W.Frag)(mg:Str->Option Value)(base:Heap)(k:Nat):Prop where
 t0:FO P w K mg base k true "is_whole" 14 ["thing"] 0
 t1:FO P w K mg base k true "is_within" 15 ["thing","least","most"] 1
 t2:FO P w K mg base k true "is_row" 16 ["thing","many"] 2
 t3:FO P w K mg base k true "is_ring" 19 ["thing"] 3
 t4:FO P w K mg base k true "check_ring" 20 ["thing"] 4
 t5:FO P w K mg base k true "ring_shown" 22 ["ring"] 5
 t6:FO P w K mg base k true "ring_read" 23 ["text"] 6
 t7:FO P w K mg base k true "check_text" 24 ["thing"] 7
 t8:FO P w K mg base k true "number_by" 25 ["word","most"] 8
 t9:FO P w K mg base k true "pair_by" 26 ["word","sign","most"] 9
 t10:FO P w K mg base k true "_law_cell" 28 ["_law_script","_law_k"] 10
 t11:FO P w K mg base k true "_law_pen" 29 ["_law_cell_here"] 11
 qU:FO P w K mg base k true "_law_draw" 30 ["_law_pen_here","_law_many"] 12
 Ob:FO P w K mg base k true "_law_whole" 31 ["_law_thing"] 13
 UJ:FO P w K mg base k false "_law_whole" 31 ["_law_thing"] 13
 Oc:FO P w K mg base k true "_law_odd" 32 ["_law_pen_here"] 14
 Od:FO P w K mg base k false "_law_kind" 33 ["_law_e"] 15
 UL:FO P w K mg base k true "_law_ring" 34 ["_law_pen_here"] 16
 UW:FO P w K mg base k true "_law_is_ring" 35 ["_law_thing"] 17
 U7:FO P w K mg base k true "_law_bent_ring" 36 ["_law_pen_here","_law_ring_here"] 18
 U8:FO P w K mg base k true "_law_read_ring" 37 ["_law_text"] 19
 U9:FO P w K mg base k true "_law_told_as" 38 ["_law_found","_law_due"] 20
 U_:FO P w K mg base k true "_law_told" 39 ["_law_text"] 21
 Oe:FO P w K mg base k true "_law_right" 40 ["_law_text"] 22
 Va:FO P w K mg base k true "_law_spoilt" 41 ["_law_pen_here","_law_text"] 23
 Vb:FO P w K mg base k true "_law_refused" 42 ["_law_thing"] 24
 Vc:FO P w K mg base k true "law" 43 ["_law_script"] 25
section
variable {P:Program}{w:World}{K:W.Frag}{mg:Str->Option Value}{base:Heap}{k:Nat}
theorem zhy(Tp:Top K mg)(Fk:Fs P w K mg base k):Fs P w K mg base (k+1) where
 t0:=fJ Tp.d0 ["thing"] T_0 λ_ _ _ _ _ _ hr=>(aL (cI (uK (gG Tp.cs Tp.z0 gk (gv 0) (mJ rfl Tp.z1 Ly gk dk)) (wQ (L_ (gG Tp.cs Tp.z0 gk (gv 0) (mJ rfl Tp.z2 Lz gk dk))))))
 aZ)
 t1:=fJ Tp.d1 ["thing","least","most"] T_1 λ_ _ _ _ _ _ hr=>(aL (cI (uK (gc Fk.t0 Tp.d0 hr dz gk (au (gv 0) aF)) (wQ (zkA CV CV (gv 1) (gv 0) (gv 2)))))
 aZ)
 t2:=fJ Tp.d2 ["thing","many"] Ub λ_ _ _ _ _ _ hr=>(aL (cI (uK (gG Tp.cs Tp.z0 gk (gv 0) (mJ rfl Tp.z3 Fw gk dk)) (wQ (Fx (wR hr) (Fz Tp.z4 gk (au (gv 0) aF)) (gv 1)))))
 aZ)
 t3:=fJ Tp.d3 ["thing","k","d"] Uc λ_ _ _ _ _ _ hr=>(aL (jq (nu (j_ (gc Fk.t2 Tp.d2 hr dz gk (au (gv 0) (au aK aF))))) (aL (cI j9)
 aZ) aZ)
 (aL (Ml 1 2 rfl rfl nd rfl rfl jl jl rfl rfl (gv 0))
 (aL (cI (uK (gc Fk.t1 Tp.d1 hr dz gk (au (gv 1) (au aK (au (RZ Tp.cV gk dk) aF)))) (wQ (gc Fk.t1 Tp.d1 hr dz gk (au (gv 2) (au aK (au (gv 1) aF)))))))
 aZ)))
 t4:=fJ Tp.d4 ["thing"] Nr λ_ _ _ _ _ _ hr=>(aL (jq (nu (j_ (gc Fk.t3 Tp.d3 hr dz gk (au (gv 0) aF)))) (aL (zgH rfl rfl rfl Tp.x1 Tp.c1 gk dz (au cL aF) dk)
 aZ) aZ)
 aZ)
 t5:=fJ Tp.d5 ["ring"] Nt λ_ _ _ _ _ _ hr=>(aL (Mj (gc Fk.t4 Tp.d4 hr dz gk (au (gv 0) aF)))
 (aL (cI (zlc (iW (gv 0) aK) (iW (gv 0) aK)))
 aZ))
 t6:=fJ Tp.d6 ["text","ring"] Gq λ_ _ _ _ _ _ hr=>(aL (Mj (gc Fk.t7 Tp.d7 hr dz gk (au (gv 0) aF)))
 (aL (iY 1 nd rfl jl rfl (gc Fk.t9 Tp.d9 hr dz gk (au (gv 0) (au cL (au (RZ Tp.cV gk dk) aF)))))
 (aL (jq (nu (j_ (gc Fk.t3 Tp.d3 hr dz gk (au (gv 1) aF)))) (aL (Sw (kk:=.globalImplicit) hr rfl rfl Tp.N_ Tp.Gx gk dz (au aK aF) dk)
 aZ) aZ)
 (aL (cI (gv 1))
 aZ))))
 t7:=fJ Tp.d7 ["thing"] Ud λ_ _ _ _ _ _ hr=>(aL (jq (nu (j_ (gG Tp.cs Tp.z0 gk (gv 0) (mJ rfl Tp.z5 LC gk dk)))) (aL (Sw (kk:=.globalImplicit) hr rfl rfl Tp.N_ Tp.Gx gk dz (au (LR aK) aF) dk)
 aZ) aZ)
 aZ)
 t8:=fJ Tp.d8 ["word","most","number"] Ue λ_ _ _ _ _ _ hr=>(aL (yF yD rfl rfl (Ma Tp.z6 gk (cH fG (gv 1) aK)) (yE 2 nd rfl jl rfl) (aL (jq (nq (wR hr) (gv 0) (FQ Tp.z5 gk (au (gv 2) aF))) (aL (cI (gv 2))
 aZ) aZ)
 aZ))
 (aL (cI yt)
 aZ))
 t9:=fJ Tp.d9 ["word","sign","most","one","between","other"] Ug λ_ _ _ _ _ _ hr=>(aL (zh9 3 4 5 rfl rfl nd rfl rfl rfl jl jl jl rfl rfl rfl (zhP (gv 0) (au (gv 1) aF)))
 (aL (cI (dD (au (gc Fk.t8 Tp.d8 hr dz gk (au (gv 3) (au (gv 2) aF))) (au (gc Fk.t8 Tp.d8 hr dz gk (au (gv 5) (au (gv 2) aF))) aF))))
 aZ))
 t10:=fJ Tp.Nz ["_law_script","_law_k"] Uh λ_ _ _ _ _ _ hr=>(aL (jq (nq (zld hr) (gv 1) (Fz Tp.z4 gk (au (gv 0) aF))) (aL (cI (iW (gv 0) (gv 1)))
 aZ) aZ)
 (aL (cI aK)
 aZ))
 t11:=fJ Tp.NK ["_law_cell_here","_law_left"] Ui λ_ _ _ _ _ _ hr=>(aL (iY 1 nd rfl jl rfl (R9 rfl Tp.z7 gk (au (gv 0) (au (cH R0 aK (gv 0)) aF))))
 (aL (cI (jg (au (gv 1) (au (zh2 Tp.z1 gk (au (Fx zla (gv 1) (cH R4 aK aK)) aF)) aF))))
 aZ))
 qU:=fJ Tp.qx ["_law_pen_here","_law_many","_law_left","_law_found","_law_stir"] Uj λ_ _ _ _ _ _ hr=>(aL (jq (nq (wR hr) (iW (gv 0) aK) aK) (aL (Ml 2 3 rfl rfl nd rfl rfl jl jl rfl rfl (zfD Tp.z8 gk (au (iW (gv 0) aK) (au (gv 1) aF))))
 (aL (Sg (gv 0) aK (gv 2))
 (aL (cI (gv 3))
 aZ))) aZ)
 (aL (iY 4 nd rfl jl rfl (cH yu (cH LQ (cH fG (cH yu (iW (gv 0) aK) aK) aK) aK) aK))
 (aL (iY 4 nd rfl jl rfl (cH yu (cH fG (cH LQ (gv 4) (gv 4)) aK) aK))
 (aL (Sg (gv 0) aK (cH yu (cH fG (cH LQ (gv 4) aK) aK) aK))
 (aL (cI (cH yu (cH R3 (iW (gv 0) aK) aK) (gv 1)))
 aZ)))))
 Ob:=fJ Tp.yK ["_law_thing"] Uk λ_ _ _ _ _ _ hr=>(aL (cI (uK (gG Tp.cs Tp.z0 gk (gv 0) (mJ rfl Tp.z1 Ly gk dk)) (wQ (L_ (gG Tp.cs Tp.z0 gk (gv 0) (mJ rfl Tp.z2 Lz gk dk))))))
 aZ)
 UJ:=fJ Tp.yK ["_law_thing"] Uk λ_ _ _ _ _ _ hr=>(aL (cI (uK (gG Tp.cs Tp.z0 gk (gv 0) (mJ rfl Tp.z1 Ly gk dk)) (wQ (L_ (gG Tp.cs Tp.z0 gk (gv 0) (mJ rfl Tp.z2 Lz gk dk))))))
 aZ)
 Oc:=fJ Tp.Gs ["_law_pen_here","_law_some"] Ul λ_ _ _ _ _ _ hr=>(aL (iY 1 nd rfl jl rfl (jg (au yt (au j9 (au j9 (au (LR aK) (au cL (au cL (au (dD aF) (au (jg aF) (au (dD (au aK aF)) (au (jg (au aK aF)) (au zh5 (au (dD (au aK (au aK aF))) (au (cH R4 aK aK) (au (dD (au aK (au (dD aF) aF))) (au (dD (au cL aF)) aF)))))))))))))))))
 (aL (cI (iW (cH fG (gv 1) (jg (au (dD (au aK (au (dD (au (dD (au aK (au aK aF))) aF)) aF))) aF))) (gc Fk.qU Tp.qx hr dz gk (au (gv 0) (au aK aF)))))
 aZ))
 Od:=fJ Tp.Gu ["_law_e","_law_marks","_law_words"] zk6 λ_ _ _ _ _ _ hr=>(aL (iY 1 nd rfl jl rfl (jg (au (gG Tp.cs Tp.z0 gk (gv 0) (qe Tp.c1 gk dk)) (au (gG Tp.cs Tp.z0 gk (gv 0) (qe Tp.c2 gk dk)) (au (gG Tp.cs Tp.z0 gk (gv 0) (qe Tp.c3 gk dk)) (au (gG Tp.cs Tp.z0 gk (gv 0) (qe Tp.c4 gk dk)) aF))))))
 (aL (iY 1 nd rfl jl rfl (cH fG (gv 1) (jg (au (gG Tp.cs Tp.z0 gk (gv 0) (qe Tp.c5 gk dk)) (au (gG Tp.cs Tp.z0 gk (gv 0) (qe Tp.c6 gk dk)) (au (gG Tp.cs Tp.z0 gk (gv 0) (qe Tp.c7 gk dk)) (au (gG Tp.cs Tp.z0 gk (gv 0) (qe Tp.c8 gk dk)) aF)))))))
 (aL (iY 1 nd rfl jl rfl (cH fG (gv 1) (jg (au (gG Tp.cs Tp.z0 gk (gv 0) (qe Tp.c9 gk dk)) (au (gG Tp.cs Tp.z0 gk (gv 0) (qe Tp.Gx gk dk)) (au (gG Tp.cs Tp.z0 gk (gv 0) (qe Tp.UG gk dk)) aF))))))
 (aL (jq (yw (wU (nu (j_ (gG Tp.cs Tp.z0 gk (gv 0) (mJ rfl Tp.z9 zbK gk dk)))) (Fy (nq (CT hr) (zg4 hr (gv 1) (au j9 aF)) aK)))) (aL (cI cL)
 aZ) aZ)
 (aL (iY 2 nd rfl jl rfl (jg (au cL (au cL (au cL (au cL (au cL (au cL (au cL (au cL (au cL (au cL (au cL aF)))))))))))))
 (aL (cI (iW (gv 2) (zhs (gv 1) (au j9 aF))))
 aZ))))))
 UL:=fJ Tp.NP ["_law_pen_here","_law_some","_law_k"] Um λ_ _ _ _ _ _ hr=>(aL (iY 1 nd rfl jl rfl (jg (au (dD (au aK (au aK aF))) (au (dD (au aK (au aK aF))) (au (dD (au aK (au aK aF))) (au (dD (au aK (au aK aF))) (au (dD (au aK (au aK aF))) (au (dD (au aK (au aK aF))) (au (dD (au aK (au aK aF))) (au (dD (au aK (au aK aF))) (au (dD (au aK (au aK aF))) (au (dD (au aK (au aK aF))) (au (dD (au aK (au aK aF))) (au (dD (au aK (au aK aF))) aF))))))))))))))
 (aL (jq (nq (wR hr) (gc Fk.qU Tp.qx hr dz gk (au (gv 0) (au aK aF))) aK) (aL (iY 2 nd rfl jl rfl (cH fG aK (cH yu (gc Fk.qU Tp.qx hr dz gk (au (gv 0) (au aK aF))) aK)))
 (aL (cI (dD (au (gv 2) (au (R9 rfl Tp.z7 gk (au aK (au (cH R3 (gc Fk.qU Tp.qx hr dz gk (au (gv 0) (au (gv 2) aF))) aK) aF))) aF))))
 aZ)) aZ)
 (aL (cI (iW (gv 1) (gc Fk.qU Tp.qx hr dz gk (au (gv 0) (au aK aF)))))
 aZ)))
 UW:=fJ Tp.NQ Uw Uo λ_ _ _ _ _ _ hr=>(aL (jq (yw (wU (nu (j_ (gG Tp.cs Tp.z0 gk (gv 0) (mJ rfl Tp.z3 Fw gk dk)))) (wU (nq (CT hr) (Fz Tp.z4 gk (au (gv 0) aF)) aK) (Fy (nu (j_ (R_ rfl Tp.Oa gk (au (Mg (aq (top 35)) Uw ["_law_one"] [] [] rfl rfl rfl Bd Bd (Ft 0) Bd (yx (gv 0)) (λ_ _ _ _ _ _=>(FN 0 Bd rfl Bd)) (λ_ _ _ _ _ _=>FJ) (λ_ _ _ _ _ _=>(gc Fk.Ob Tp.yK hr yC Gd (au (Dl 0) aF)))) aF)))))))) (aL (cI j9)
 aZ) aZ)
 (aL (cI (zj3 CV CV CV aK (iW (gv 0) aK) (iW (gv 0) aK) aK))
 aZ))
 U7:=fJ Tp.NT ["_law_pen_here","_law_ring_here","_law_k","_law_d","_law_some"] Uq λ_ _ _ _ _ _ hr=>(aL (Ml 2 3 rfl rfl nd rfl rfl jl jl rfl rfl (gv 1))
 (aL (iY 4 nd rfl jl rfl (jg (au (dD (au (gv 2) (au (cH fG (gv 2) aK) aF))) (au (dD (au aK (au aK aF))) (au (dD (au aK (au aK aF))) (au (dD (au (gv 2) (au aK aF))) (au (dD (au j9 (au aK aF))) (au (dD (au (gv 2) (au (gv 3) (au aK aF)))) (au (jg (au (gv 2) (au (gv 3) aF))) (au (dD (au (gv 2) aF)) (au yt aF)))))))))))
 (aL (cI (iW (cH fG (gv 4) (jg (au (dD (au (gv 3) (au (gv 2) aF))) (au cL (au (dD (au (cH R0 aK (gv 2)) (au (gv 3) aF))) aF))))) (gc Fk.qU Tp.qx hr dz gk (au (gv 0) (au aK aF)))))
 aZ)))
 U8:=fJ Tp.NZ Ux Ur λ_ _ _ _ _ _ hr=>(aL (iY 1 nd rfl jl rfl (zjk (gv 0) (au cL aF)))
 (aL (zjC 2 (aq (top 37)) Ux ["_law_number"] [] [] nd rfl jl rfl rfl rfl rfl Bd Bd (Ft 0) Bd (zk8 Tp.z6 gk aK aK) (λ_ _ _ _ _ _=>(FN 0 Bd rfl Bd)) (λ_ _ _ _ _ _=>FJ) (λ_ _ _ _ _ _=>(FQ Tp.z5 Gd (au (Dl 0) aF))))
 (aL (jq (yw (wU (nq (CT hr) (Fz Tp.z4 gk (au (gv 1) aF)) aK) (wU (nq (R5 hr) (iW (gv 1) aK) (gv 2)) (wU (nq (R5 hr) (iW (gv 1) aK) (gv 2)) (Fy (nq zle (Gf Tp.z1 gk (au (iW (gv 1) aK) aF)) (Gf Tp.z1 gk (au (iW (gv 1) aK) aF)))))))) (aL (cI aK)
 aZ) aZ)
 (aL (cI (dD (au (Gf Tp.z1 gk (au (iW (gv 1) aK) aF)) (au (Gf Tp.z1 gk (au (iW (gv 1) aK) aF)) aF))))
 aZ))))
 U9:=fJ Tp.N5 Uy Us λ_ _ _ _ _ _ hr=>(aL (jq (zj7 (gv 1)) (aL (cI (zkq (gv 0)))
 aZ) aZ)
 (aL (cI (uK (gG Tp.cs Tp.z0 gk (gv 0) (mJ rfl Tp.z3 Fw gk dk)) (uK (Fx (wR hr) (gv 0) (gv 1)) (wQ (R_ rfl Tp.Oa gk (au (Mg (aq (top 38)) Uy ["_law_one"] [] [] rfl rfl rfl Bd Bd (Ft 0) Bd (yx (gv 0)) (λ_ _ _ _ _ _=>(FN 0 Bd rfl Bd)) (λ_ _ _ _ _ _=>FJ) (λ_ _ _ _ _ _=>(gc Fk.Ob Tp.yK hr yC Gd (au (Dl 0) aF)))) aF))))))
 aZ))
 U_:=fJ Tp.N6 ["_law_text","_law_e"] Nu λ_ _ _ _ _ _ hr=>(aL (Sh 1 (dc:=0) rfl rfl ⟨rfl,rfl⟩ gk Tp.c0 nd rfl jl Tp.s0 (λ_ _ _ R' hp'=>(aL (cI (gc Fk.t6 Tp.d6 hr R' gk (au (gv 0) aF)))
 aZ)) (λ_=>(aL (jq (yw (R7 (nq (wR (CQ hr)) (gc Fk.Od Tp.Gu (CQ hr) yC gk (au (gv 1) aF)) cL) (R6 (j_ (gc Fk.UJ Tp.yK (CQ hr) yC gk (au (Sx Tp.qy (gv 1) (by kernel_rfl)) aF)))))) (aL (cI (dD (au cL (au (Sx Tp.qy (gv 1) (by kernel_rfl)) aF))))
 aZ) aZ)
 aZ)) dk)
 (aL (cI yt)
 aZ))
 Oe:=fJ Tp.Gv ["_law_text","_law_due","_law_turn","_law_found"] Nv λ_ _ _ _ _ _ hr=>(aL (iY 1 nd rfl jl rfl (zka (j_ (gG Tp.cs Tp.z0 gk (gv 0) (mJ rfl Tp.z5 LC gk dk))) (gc Fk.U8 Tp.NZ hr dz gk (au (gv 0) aF)) (LR aK)))
 (aL (yF yD rfl rfl (Ma Tp.z6 gk aK) (yE 2 nd rfl jl rfl) (aL (iY 3 nd rfl jl rfl (gc Fk.U_ Tp.N6 hr dz gk (au (gv 0) aF)))
 (aL (jq (j_ (gG Tp.cs Tp.z0 gk (gv 1) (mJ rfl Tp.z3 Fw gk dk))) (aL (jq (nu (j_ (gc Fk.U9 Tp.N5 hr dz gk (au (gv 3) (au (gv 1) aF))))) (aL (cI j9)
 aZ) aZ)
 aZ) (aL (jq (nq (CT hr) (gv 3) (dD (au cL (au (gv 1) aF)))) (aL (cI j9)
 aZ) aZ)
 aZ))
 aZ)))
 (aL (cI j9)
 aZ)))
 Va:=fJ Tp.N7 ["_law_pen_here","_law_text","_law_at","_law_sign","_law_some"] Ut λ_ _ _ _ _ _ hr=>(aL (iY 2 nd rfl jl rfl (gc Fk.qU Tp.qx hr dz gk (au (gv 0) (au (cH fG (zju Tp.z4 gk (au (gv 1) aF)) aK) aF))))
 (aL (iY 3 nd rfl jl rfl (zkF cL (gc Fk.qU Tp.qx hr dz gk (au (gv 0) (au aK aF)))))
 (aL (iY 4 nd rfl jl rfl (jg (au (cH fG (cH fG (M6 (gv 1) (gv 2)) (gv 3)) (M5 (gv 1) (gv 2))) (au (cH fG (cH fG (M6 (gv 1) (gv 2)) (gv 3)) (M5 (gv 1) (cH fG (gv 2) aK))) (au (cH fG (M6 (gv 1) (gv 2)) (M5 (gv 1) (cH fG (gv 2) aK))) (au (zhM (gv 1)) aF))))))
 (aL (cI (iW (cH fG (gv 4) (jg (au (cH fG (gv 1) cL) (au (cH fG cL (gv 1)) (au (cH fG (gv 1) cL) (au (cH fG cL (gv 1)) aF)))))) (gc Fk.qU Tp.qx hr dz gk (au (gv 0) (au aK aF)))))
 aZ))))
 Vb:=fJ Tp.N8 ["_law_thing","_law_e"] Uu λ_ _ _ _ _ _ hr=>(aL (Sh 1 (dc:=0) rfl rfl ⟨rfl,rfl⟩ gk Tp.c0 nd rfl jl Tp.s0 (λ_ _ _ R' hp'=>(aL (Mj (gc Fk.t5 Tp.d5 hr R' gk (au (gv 0) aF)))
 aZ)) (λ_=>(aL (cI (Fx (wR (CQ hr)) (gc Fk.Od Tp.Gu (CQ hr) yC gk (au (gv 1) aF)) cL))
 aZ)) dk)
 (aL (cI j9)
 aZ))
 Vc:=fJ Tp.Gw Uz Uv λ_ _ _ _ _ _ hr=>(aL (iY 1 nd rfl jl rfl (jg (au cL (au cL (au cL (au cL (au cL (au cL (au cL (au cL (au cL (au cL (au cL (au cL (au yt (au aK aF))))))))))))))))
 (aL (yF yD rfl rfl (yx (cH fG (gv 1) (jg (au (jg (au cL aF)) (au (dD (au aK (au aK aF))) aF))))) (yE 2 nd rfl jc rfl) (aL (jq (nu (j_ (gc Fk.Oe Tp.Gv hr dz gk (au (gv 2) aF)))) (aL (cI j9)
 aZ) aZ)
 aZ))
 (aL (yF yD rfl rfl (yx (cH fG (jg (au (gc Fk.t10 Tp.Nz hr dz gk (au (gv 0) (au aK aF))) aF)) (zlb (gv 0) (R8 aK) (R8 aK)))) (yE 3 nd rfl jl rfl) (aL (iY 4 nd rfl jc rfl (gc Fk.t11 Tp.NK hr dz gk (au (gv 3) aF)))
 (aL (iY 5 nd rfl jl rfl (gc Fk.UL Tp.NP hr dz gk (au (gv 4) aF)))
 (aL (iY 2 nd rfl jc rfl (gc Fk.t5 Tp.d5 hr dz gk (au (gv 5) aF)))
 (aL (jq (yw (wU (nu (j_ (gG Tp.cs Tp.z0 gk (gv 2) (mJ rfl Tp.z5 LC gk dk)))) (Fy (nq (CT hr) (gv 2) (cH fG (cH fG (FQ Tp.z5 gk (au (iW (gv 5) aK) aF)) cL) (FQ Tp.z5 gk (au (iW (gv 5) aK) aF))))))) (aL (cI j9)
 aZ) aZ)
 (aL (yF yD rfl rfl (yx (cH fG (jg (au (gv 2) (au (gc Fk.Oc Tp.Gs hr dz gk (au (gv 4) aF)) aF))) (Mg (aq (top 43)) Uz ["_law_turn"] ["_law_pen_here","_law_text"] [4,2] rfl rfl rfl Bd Bd (Ft 0) Bd (Ma Tp.z6 gk aK) (λ_ _ _ _ _ _=>(FN 0 Bd rfl Bd)) (λ_ _ _ _ _ _=>FJ) (λ_ _ _ _ _ _=>(gc Fk.Va Tp.N7 hr yC Gd (au (Dl 1) (au (Dl 2) aF))))))) (yE 6 nd rfl jl rfl) (aL (jq (nu (j_ (gc Fk.Oe Tp.Gv hr dz gk (au (gv 6) aF)))) (aL (cI j9)
 aZ) aZ)
 aZ))
 (aL (yF yD rfl rfl (yx (jg (au (gc Fk.U7 Tp.NT hr dz gk (au (gv 4) (au (gv 5) aF))) (au (gc Fk.Oc Tp.Gs hr dz gk (au (gv 4) aF)) (au yt (au (gv 2) aF)))))) (yE 6 nd rfl jl rfl) (aL (jq (yw (R7 (nu (j_ (gc Fk.UW Tp.NQ hr dz gk (au (gv 6) aF)))) (R6 (nu (j_ (gc Fk.Vb Tp.N8 hr dz gk (au (gv 6) aF))))))) (aL (cI j9)
 aZ) aZ)
 aZ))
 aZ)))))))
 (aL (cI j9)
 aZ))))
theorem Vd(Tp:Top K mg):∀k,Fs P w K mg base k
 |0=>⟨fU,fU,fU,fU,fU,fU,fU,fU,fU,fU,fU,fU,fU,fU,fU,fU,fU,fU,fU,fU,fU,fU,fU,fU,fU,fU,fU⟩
 |k+1=>zhy Tp (Vd Tp k)
end
theorem all_mk{l:PySem.W.OpenLaw}{w:World}{K:W.Frag}{h:Heap}{mg:Str->Option Value}{fa:Addr}(hm:∀ns:List Int,ns.length<=63->∃s',call ao T 60 true 25 [.d (.fl (ns.map D.int))] []=some (.ok (.d (.bl true)),s'))
  (S:iK fs ms xs lk K) (X:K.In h) (G:h.Ns mainGlobals mg) (Og:mg "law"=some (.ref fa)) :
  ∃fd:FuncData,(∀(s:Shared) (u:Value),BindsTo s fd ⟨[u],[]⟩ [("_law_script",u)])/\∀base:Heap,K.In base->base.Ns mainGlobals mg->dw l.prog w K mg base (je l.prog w) true 60 fa fd ["_law_script"] (qd K):=by
 have Tp:Top K mg:=zis S X G;have e:=Og.symm.trans Tp.Gw.m;cases e;exact⟨_,wV Tp.Gw.f (λ_ _ _ _ _ _ _=>rfl),λbase _ _=>(Vd Tp 60).Vc.imp (zhh hm)⟩
end dF
namespace dF
open PySem Mi
def mO(o:SO):Prop:=∃a b:Int,o=.lst [.int a,.int b]/\0<=a/\(b=0\/b=1)
theorem zjM{k:Nat}{o:SO}{m:Int}(ho:mO o)(hm:0<m)(Fb:m<1073741824):W (call ao T (k+1) true 12 [.l 0,.d (.int m)]) [o] λv s=>∃d o',v=.d d/\s=[o']/\(∃r:Int,d=.int r/\0<=r/\r<m)/\mO o':=by
 obtain⟨a,b,rfl,ha,hb⟩:=ho;refine W.call Uj rfl ?_;unfold Nb;rcases hb with rfl|rfl
 ·refine Y ?_;exact⟨_,_,rfl,rfl,⟨_,rfl,Int.emod_nonneg _ gV,Int.emod_lt_of_pos _ hm⟩,⟨_,_,rfl,Int.emod_nonneg _ J0,.inl rfl⟩⟩
 ·refine Y ?_;exact⟨_,_,rfl,rfl,⟨_,rfl,Int.emod_nonneg _ gV,Int.emod_lt_of_pos _ hm⟩,⟨_,_,rfl,Int.ediv_nonneg ha gV,.inr rfl⟩⟩
theorem zky{k:Nat}{n:Int}:W (call ao T (k+1) true 11 [.d (.int n)]) [] λv s=>∃i o,v=.l i/\s[i]?=some o/\mO o:=by
 refine W.call Ui rfl ?_;unfold M_;refine Y ?_;refine⟨0,_,rfl,rfl,⟨_,_,rfl,?_,?_⟩⟩
 ·split<;>lia
 ·have:∀c:Bool,(if c=true then (1:Int) else 0)=0\/(if c=true then (1:Int) else 0)=1:=by intro c;cases c<;>simp
  exact this _
theorem tR{k:Nat}{o:SO}{m:Int}{P:Xv->S->Prop}(ho:mO o)(hm:0<m)(Fb:m<1073741824)(h:∀(r:Nat) o',(r:Int)<m->mO o'->P (.d (.int r)) [o']):W (bM (call ao T (k+1) true 12) [.l 0,.d (.int m)]) [o] P:=by
 refine SQ (n:=0) (o:=o) rfl rfl ((zjM ho hm Fb).imp λv s=>?_);rintro⟨d,o',rfl,rfl,⟨r,rfl,h0,h1⟩,hp⟩;obtain⟨n,rfl⟩:=GR h0;exact⟨_,_,rfl,rfl,h n o' h1 hp⟩
theorem zh8{k:Nat}{ns:List Int}:W (call ao T (k+1) true 10 [.d (.fl (ns.map D.int)),.d (.int 0)]) [] λv _=>∃n,v=.d (.int n):=by
 refine W.call Uh rfl ?_;unfold b10;cases ns with
 |nil=>
  refine Y ?_;exact⟨_,rfl⟩
 |cons n r=>
  refine Y ?_;refine WS.ite (λ_=>?_) (λ_=>?_)
  ·refine Y ?_;refine cM (Dg (i:=0) (x:=.int n) rfl) ?_;refine Y ?_;exact⟨_,rfl⟩
  ·refine Y ?_;exact⟨_,rfl⟩
theorem zht{k:Nat}{i:Int}:W (call ao T (k+1) true 0 [.d (.int i)]) [] λv s=>v=.d (.bl true):=W.eq (a:=.d (.bl true)) (s':=[]) rfl rfl
theorem ze4{k:Nat}{i a b:Int}:W (call ao T (k+2) true 1 [.d (.int i),.d (.int a),.d (.int b)]) [] λv s=>v=.d (.bl (decide (a<=i/\i<=b))):=by
 refine W.call T_1 rfl ?_;unfold b1;refine Y ?_;refine W.c0 zht ?_;refine Y ?_;refine W.ite (λh1=>?_) (λh1=>?_)
 ·refine Y ?_;have:=iZ h1;simp[this]
 ·refine Y ?_;simp at h1;have:¬(a<=i/\i<=b):=by lia
  simp[this]
theorem zgN{k:Nat}{d:D}(h:lJ d=true):W (call ao T (k+1) true 13 [.d d]) [] λv s=>v=.d (.bl (Tq d)):=by
 cases d with
 |exc _ _=>cases h
 |ob _ _=>cases h
 |any=>cases h
 |_=>exact W.eq (a:=_) (s':=[]) rfl rfl
theorem zkL{k:Nat}{d:D}{n:Int}(h:lJ d=true):W (call ao T (k+1) true 2 [.d d,.d (.int n)]) [] λv s=>v=.d (.bl (xu n d)):=by
 cases d with
 |exc _ _=>cases h
 |ob _ _=>cases h
 |any=>cases h
 |tup xs=>
  refine W.call Ub rfl ?_;unfold b2;refine Y ?_;show Xv.d (D.bl (id (((xs.length:Nat):Int)==n)))=_
  congr 2
 |_=>exact W.eq (a:=_) (s':=[]) rfl rfl
theorem Ve{k:Nat}{d:D}{a b:Int}(h:lJ d=true):W (call ao T (k+2) true 1 [.d d,.d (.int a),.d (.int b)]) [] λv s=>v=.d (.bl (M7 a b d)):=by
 cases d with
 |exc _ _=>cases h
 |ob _ _=>cases h
 |any=>cases h
 |int i=>exact ze4
 |_=>exact W.eq (a:=_) (s':=[]) rfl rfl
theorem Gy{k':Nat}{d:D}(h:nA d=true):W (call ao T (k'+3) true 3 [.d d]) [] λv s=>v=.d (.bl (fH d)):=by
 refine W.call Uc rfl ?_;unfold b3;refine Y ?_;refine W.c0 (zkL (zjG h)) ?_;cases d with
 |tup xs=>
  by_cases h2:xs.length=2
  ·obtain⟨x,y,rfl⟩:=TQ h2;have hx:lJ x=true:=by simp only[nA,n8,bZ] at h;exact h.1
   have hy:lJ y=true:=by simp only[nA,n8,bZ] at h;exact h.2.1
   rw[show xu 2 (.tup [x,y])=true from rfl];refine Y ?_;refine W.c0 (Ve hx) ?_;cases x with
   |int a=>
    by_cases ha:1<=a/\a<=24
    ·rw[show M7 1 24 (.int a)=true from dY ha];refine Y ?_;refine W.c0 (Ve hy) ?_;cases y with
     |int b=>
      show Xv.d (.bl (decide (1<=b/\b<=a)))=.d (.bl (decide (1<=a/\a<=24)&&decide (1<=b/\b<=a)));rw[dY ha];rfl
     |exc _ _=>cases hy
     |ob _ _=>cases hy
     |any=>cases hy
     |_=>rfl
    ·rw[show M7 1 24 (.int a)=false from gA ha];refine Y ?_;show Xv.d (.bl false)=.d (.bl (fH (.tup [.int a,y])));cases y with
     |int b=>
      show Xv.d (.bl false)=.d (.bl (decide (1<=a/\a<=24)&&decide (1<=b/\b<=a)));rw[gA ha];rfl
     |_=>rfl
   |_=>exact Y rfl
  ·rw[zhx h2,TV h2];exact Y trivial
 |_=>exact Y rfl
theorem zel{k':Nat}{d:D}(h:nA d=true):W (call ao T (k'+2) true 17 [.d d]) [] λv s=>v=.d (.bl (fH d)):=by
 have hs:(200:Nat)<=sizeLine:=by decide
 refine W.call Uo rfl ?_;unfold Nh;cases d with
 |tup us=>
  by_cases h2:us.length=2
  ·obtain⟨p,q,rfl⟩:=TQ h2;have hp:lJ p=true:=by simp only[nA,n8,bZ] at h;exact h.1
   have hq:lJ q=true:=by simp only[nA,n8,bZ] at h;exact h.2.1
   refine Y ?_;refine MN (l:=[p,q]) (f:=λx=>x) (λt=>some (.bl (Tq t))) (by show 2<=_;lia) ?_ (λt ht=>?_) ?_
   ·refine Y ?_;exact⟨rfl,rfl⟩
   ·refine Y ?_;refine⟨rfl,λ_=>?_,λhb=>by cases hb⟩;refine Y ?_;refine W.dO rfl ((zgN (d:=t) ?_).imp λv s e=>⟨_,e,rfl,_,rfl,rfl⟩);simp only[iQ,uR,tW] at ht;rcases ht with rfl|rfl
    ·exact hp
    ·exact hq
   rw[Tn];refine Y ?_;cases p with
   |int a=>
    cases q with
    |int b=>
     refine Y ?_;refine W.vZ ?_;refine Y ?_;rw[show fH (.tup [.int a,.int b])=(decide (1<=a/\a<=24)&&decide (1<=b/\b<=a)) from rfl];by_cases h1:1<=b
     ·rw[dY h1];refine Y ?_;by_cases h3:b<=a
      ·rw[dY h3];refine Y ?_;rw[dY (show 1<=b/\b<=a by lia),Bool.and_true,decide_eq_decide.mpr (show a<=24↔1<=a/\a<=24 by lia)]
      ·rw[gA h3,gA (show ¬(1<=b/\b<=a) by lia),DW];exact Y trivial
     ·rw[gA h1,gA (show ¬(1<=b/\b<=a) by lia),DW];exact Y trivial
    |_=>exact Y rfl
   |_=>exact Y rfl
  ·rw[TV h2];refine Y ?_;refine W.ite (λ_=>?_) (λhb=>?_)
   ·exact Y trivial
   ·exact absurd hb (by simp;lia)
 |exc _ _=>cases h
 |ob _ _=>cases h
 |any=>cases h
 |_=>exact Y rfl
theorem zdS{k:Nat}{d:D}(h:nA d=true)(hb:fH d=false):WR (call ao T (k+4) true 4 [.d d]) [] 1 []:=by
 refine WR.call Nr rfl ?_;unfold b4;refine qT ?_;refine Y ?_;refine W.c0 (Gy h) ?_;rw[hb];refine W.bool (W.bool (WS.qm (qT ?_)));refine Y ?_;exact⟨⟨_,_,_,rfl⟩,⟨_,_,_,rfl⟩,_,rfl⟩
theorem zds{k:Nat}{d:D}(h:nA d=true)(hb:fH d=true):W (call ao T (k+4) true 4 [.d d]) [] λv s=>∃d,v=.d d:=by
 refine W.call Nr rfl ?_;unfold b4;refine Y ?_;refine W.c0 (Gy h) ?_;rw[hb];refine Y ?_;exact⟨_,rfl⟩
theorem zgB{k:Nat}:W (call ao T (k+1) false 15 [.d (.exc 1 [])]) [] λv s=>v=.d (.str "ring"):=W.eq (a:=.d (.str "ring")) (s':=[]) rfl rfl
theorem zdE{k':Nat}{o:SO}{k d:Int}(ho:mO o):W (call ao T (k'+2) true 18 [.l 0,.d (cD k d)]) [o] λv s=>∃(x:D) (o':SO),v=.d x/\s=[o']/\nA x=true/\mO o':=by
 refine W.call Uq rfl ?_;unfold Ni cD;refine Y ?_;refine tR ho J0 J0 λr o1 hr hp=>?_;refine Y ?_;obtain⟨x,ex,hx⟩:=ixm (xs:=[.tup [.int k,.int (k+1)],.tup [.int 0,.int 0],.tup [.int 25,.int 1],.tup [.int k,.int 0],.tup [.bl true,.int 1],.tup [.int k,.int d,.int 1],.fl [.int k,.int d],.tup [.int k],.non,.tup [.int d,.int k],.str "5/2",.tup [.int (0-k),.int d]]) (r:=r) (by show r<12;lia);refine cM ex ?_;refine Y ?_;refine⟨_,_,rfl,rfl,?_,hp⟩;clear ex;simp only[iQ,uR,tW] at hx;rcases hx with rfl|rfl|rfl|rfl|rfl|rfl|rfl|rfl|rfl|rfl|rfl|rfl
 all_goals rfl
noncomputable def cW:List (Int×Int):=[(2,1),(3,1),(5,2),(4,1),(7,3),(7,2),(4,2),(6,2),(10,4),(5,1),(8,3),(3,2)]
theorem zf5{k':Nat}{o:SO}(ho:mO o):W (call ao T (k'+2) true 16 [.l 0]) [o] λv s=>∃(k d:Int) (o':SO),v=.d (cD k d)/\s=[o']/\(1<=d/\d<=k/\k<=10)/\mO o':=by
 refine W.call Um rfl ?_;unfold Ng;refine Y ?_;refine tR ho J0 J0 λr o' hr hp=>?_;refine Y ?_;refine WS.ite (λ_=>?_) (λ_=>?_)
 ·refine Y ?_;refine tR hp J0 J0 λr2 o2 Vf Oh=>?_;refine Y ?_;have hk:1<=1+(r2:Int)%10/\1+(r2:Int)%10<=10:=by lia
  generalize 1+(r2:Int)%10=k at hk;refine tR Oh gV gV λr3 o3 hr3 hp3=>?_;refine Y ?_;refine⟨_,_,_,rfl,rfl,?_,hp3⟩
  split<;>lia
 ·refine Y ?_;refine tR hp J0 J0 λr2 o2 Vf Oh=>?_;refine Y ?_;have Cg:r2<cW.length:=by show r2<12;lia
  refine cM (Dg (x:=cD cW[r2].1 cW[r2].2) ?_) ?_
  ·have:(cW.map λp=>cD p.1 p.2)[r2]?=some (cD cW[r2].1 cW[r2].2):=by rw[nF,gU Cg];rfl
   exact this
  refine Y ?_;have key:∀p∈cW,1<=p.2/\p.2<=p.1/\p.1<=10:=by decide
  exact⟨_,_,_,rfl,rfl,key _ (DN _),Oh⟩
noncomputable def nD:List D:=[.non,.bl true,.bl false,.int (-1),.str "1",.str "",.tup [],.fl [],.tup [.int 0],.fl [.int 0],.fd [.str "a"] [.int 1],.tup [.int 0,.int 1],.int 1000000000000000000000000000000,.tup [.int 0,.tup []],.tup [.str "ab"],.tup [.int 1,.tup [.tup [.int 0,.int 0]]]]
theorem Vg{k:Nat}{o:SO}(ho:mO o):W (call ao T (k+2) true 14 [.l 0]) [o] λv s=>∃d o',v=.d d/\s=[o']/\d∈nD/\mO o':=by
 refine W.call Ul rfl ?_;unfold Nf;refine Y ?_;refine tR ho J0 J0 λr o' hr hp=>?_;refine Y ?_;have Cg:r<nD.length:=by show r<16;lia
 refine cM (Dg (x:=nD[r]) (gU (l:=nD) Cg)) ?_;refine Y ?_;exact⟨_,_,rfl,rfl,DN _,hp⟩
theorem ze5{k:Nat}{x:Int}:W (call ao T (k+1) false 15 [.d (.exc 10 [.int x])]) [] λv s=>v=.d (.str "text"):=W.eq (a:=.d (.str "text")) (s':=[]) rfl rfl
theorem Vh{k:Nat}{c:Bool}{i:Int}:W (call ao T (k+1) c 13 [.d (.int i)]) [] λv s=>v=.d (.bl true):=W.eq (a:=.d (.bl true)) (s':=[]) rfl rfl
theorem Vi{k':Nat}{w:Str}:W (call ao T (k'+1) true 8 [.d (.str w),.d (.int 24)]) [] λv s=>v=.d (bL w):=by
 refine W.call Ue rfl ?_;unfold b8;refine Y ?_;refine⟨rfl,?_⟩;refine Ka5 (c:=fZ 0 (24+1)) (λi J s=>s=[]/\(∃a,J=[some (.d (.str w)),some (.d (.int 24)),a])/\∀j<i,(w==tx j)=false) ⟨rfl,⟨_,rfl⟩,λj hj=>absurd hj gV⟩ (λi x J s e hI=>?_) (λJ s hI=>?_)
 ·obtain⟨rfl,⟨a,rfl⟩,hI⟩:=hI;obtain⟨rfl,hi⟩:=Ti e;rw[show (0:Int)+(i:Int)=(i:Int) by lia];refine Y ?_;refine cM (M8 gV gV) ?_;refine Y ?_;refine WS.ite (λhb=>?_) (λhb=>?_)
  ·have hb:(w==tx i)=true:=hb;refine Y ?_;refine .inr ⟨_,rfl,?_⟩;have:nb w=some i:=by rw[eq_of_beq hb];exact yH gV
   unfold bL;rw[this]
  ·have hb:¬(w==tx i)=true:=hb;refine Y ?_;refine .inl ⟨_,rfl,rfl,⟨_,rfl⟩,λj hj=>?_⟩;by_cases c:j=i
   ·subst c;simpa using hb
   ·exact hI j gV
 ·obtain⟨rfl,⟨a,rfl⟩,hI⟩:=hI;refine Y ?_;have:nb w=none:=by
   unfold nb;rw[List.find?_eq_none];intro n hn;rw[hI n (by rw[Tj];have:=jk.mp hn;lia)];simp
  unfold bL;rw[this]
theorem Vj{k':Nat}{x:Str}(h:x.length<=600):W (call ao T (k'+2) true 9 [.d (.str x),.d (.str "/"),.d (.int 24)]) [] λv s=>v=.d (pairD x):=by
 refine W.call Ug rfl ?_;unfold b9;refine WS.cons (S9 (TY (W.pv (x:=.d (.str x)) rfl (ql ⟨rfl,MJ (vs:=[.d (.str "/")]) rfl (wZ (ql (wZ (ql (FT ?_)))))⟩))));refine cM (zjf h) ?_;refine W.dat (nZ.mk rfl ?_);refine Y ?_;refine W.c0 Vi ?_;refine Y ?_;refine W.c0 Vi ?_;exact Y rfl
theorem zgY{k':Nat}{x:Str}(h:x.length<=600)(hr:fH (pairD x)=true):W (call ao T (k'+5) true 6 [.d (.str x)]) [] λv s=>v=.d (pairD x):=by
 refine W.call Gq rfl ?_;unfold b6;refine Y ?_;refine W.dO rfl (W.eq (a:=.d .non) (s':=[]) rfl ?_);refine⟨_,rfl,?_⟩;refine Y ?_;refine W.c0 (Vj h) ?_;refine Y ?_;refine W.c0 (Gy (by unfold pairD;show (lJ _&&(lJ _&&true))=true;rw[Gk,Gk];rfl)) ?_;rw[hr];exact Y trivial
theorem zgh{k':Nat}{x:Str}(h:x.length<=600)(hr:fH (pairD x)=false):WR (call ao T (k'+5) true 6 [.d (.str x)]) [] 10 [.int 0]:=by
 refine WR.call Gq rfl ?_;unfold b6;refine Y ?_;refine W.dO rfl (W.eq (a:=.d .non) (s':=[]) rfl ?_);refine⟨_,rfl,?_⟩;refine Y ?_;refine W.c0 (Vj h) ?_;refine qT ?_;refine Y ?_;refine W.c0 (Gy (by unfold pairD;show (lJ _&&(lJ _&&true))=true;rw[Gk,Gk];rfl)) ?_;rw[hr];refine W.bool (W.bool (WS.qm (qT ?_)));refine Y ?_;exact⟨⟨_,_,_,rfl⟩,⟨_,_,_,rfl⟩,_,rfl⟩
noncomputable def Bk:D->Bool
 |.str _=>false
 |.exc _ _=>false
 |.ob _ _=>false
 |.any=>false
 |_=>true
theorem zeY{k':Nat}{x:D}(h:Bk x=true):WR (call ao T (k'+5) true 6 [.d x]) [] 10 [.int (-1)]:=by
 have hc:WR (call ao T (k'+4) true 7 [.d x]) [] 10 [.int (-1)]:=by
  refine WR.call Ud rfl ?_;unfold b7;refine qT ?_;have e:fX ao x .str=some false:=by cases x<;>first|rfl|cases h
  refine Mw (S6 (W.dJ (W.eV rfl (ql (nZ.mk e ?_)))));refine W.bool (W.bool (WS.qm (qT ?_)));refine Y ?_;exact⟨⟨_,_,_,rfl⟩,⟨_,_,_,rfl⟩,_,rfl⟩
 refine WR.call Gq rfl ?_;unfold b6;refine qT (MK ?_ λs'=>⟨⟨_,_,_,rfl⟩,_,rfl⟩);refine Ga ?_;refine Y ?_;exact WR.dO rfl hc
theorem zga{k':Nat}{x:D}{d:D}(h:W (call ao T (k'+5) true 6 [.d x]) [] λv s=>v=.d d):W (call ao T (k'+6) true 21 [.d x]) [] λv s=>v=.d d:=by
 refine W.call Nu rfl ?_;unfold Gn;refine WS.cons (Kbn ?_);refine Y ?_;refine W.c0 h ?_;exact⟨⟨_,rfl⟩,rfl⟩
theorem Vk{k':Nat}{x:D}{i:Int}(h:WR (call ao T (k'+5) true 6 [.d x]) [] 10 [.int i]):W (call ao T (k'+6) true 21 [.d x]) [] λv s=>v=.d (.tup [.str "at",.int i]):=by
 refine W.call Nu rfl ?_;unfold Gn;refine WS.cons (Td ?_);refine qT (Kba (c:=10) (fs:=[.int i]) ?_ λs'=>⟨⟨_,_,_,rfl⟩,_,_,_,rfl,rfl,?_⟩)
 ·refine Ga ?_;refine Y ?_;exact WR.dO rfl h
 ·refine Y ?_;refine W.c0 ze5 ?_;refine Y ?_;refine W.fld (c:=10) (fs:=[.int i]) (x:=.int i) (W.pv rfl ⟨rfl,?_⟩) rfl rfl;refine Y ?_;refine W.c0 Vh ?_;refine Y ?_;refine W.fld (c:=10) (fs:=[.int i]) (x:=.int i) (W.pv rfl ⟨rfl,?_⟩) rfl rfl;refine Y ?_;exact⟨⟨_,rfl⟩,rfl⟩
theorem Vl{a c:Str}(h:nb c=none):fH (.tup [bL a,bL c])=false:=by
 cases e:fH (.tup [bL a,bL c]) with
 |false=>rfl
 |true=>
  obtain⟨k,d,_,rfl,h1,h2,h3⟩:=fD.mp e;rw[yH gV] at h;cases h
theorem ze7:(List.range 24).filterMap (λj=>some (D.str (tx (1+j))))=yI.map D.str:=by
 rw[Tn];unfold yI;rw[List.map_map];rfl
theorem zg2{k':Nat}{x:Str}(h:x.length<=600):W (call ao T (k'+1) true 19 [.d (.str x)]) [] λv s=>v=.d (if fH (pairD x)=true then pairD x else .int 0):=by
 have Vm:(1000:Nat)<=sizeLine:=by decide
 refine W.call Ur rfl ?_;unfold Nj;refine WS.cons (FZ (TY (W.pv (x:=.d (.str x)) rfl (ql ⟨rfl,MJ (vs:=[.d (.str "/")]) rfl (wZ (ql (wZ (ql (FT ?_)))))⟩))));refine FW (ziH h) ?_;generalize hS:bF x "/"=S;refine Y ?_;refine MN (l:=List.range (25-1:Int).toNat) (f:=λ(j:Nat)=>.int (1+j)) (λj=>some (.str (tx (1+j)))) (by rw[Hq];show 24<=_;lia) ?_ (λj hj=>?_) ?_
 ·refine Y ?_;exact⟨rfl,rfl,rfl⟩
 ·have hj:j<24:=by simpa using hj
  refine Y ?_;refine⟨rfl,λ_=>?_,λhb=>by cases hb⟩;refine Y ?_;refine cM (M8 gV gV) ?_;exact⟨rfl,_,rfl,by unfold tx;rw[show (1:Int)+(j:Int)=((1+j:Nat):Int) by lia]⟩
 rw[show (25-1:Int).toNat=24 from rfl,ze7];have Dp:∀w:Str,(yI.any λz=>z==w)=true↔∃k:Nat,1<=k/\k<=24/\w=tx k:=λw=>zhZ;generalize yI=NM at Dp ⊢;cases hP:cQ x "/" with
 |nil=>
  rw[T5 rfl hP] at hS;subst hS;have hr:fH (pairD x)=false:=by
   unfold pairD;rw[zeT rfl hP];exact Vl zfx
  rw[hr,if_neg (show ¬(false=true) by decide)];exact Y trivial
 |cons i r=>
  cases r with
  |cons j r=>
   have hl:=T7 (x:=x) (y:="/") rfl;rw[hS,hP] at hl;have hr:fH (pairD x)=false:=by
    unfold pairD;rw[T4 rfl hP];exact Vl (zfk (zgm rfl hP))
   rw[hr,if_neg (show ¬(false=true) by decide)];refine Y ?_;rw[n6,hl,show (!(((i::j::r).length+1:Nat):Int)==2)=true by simp;lia];exact Y trivial
  |nil=>
   rw[zfd rfl hP] at hS;have ep:pairD x=.tup [bL (Builtin.Str.strSub x 0 i),bL (Builtin.Str.strSub x (i+1) x.length)]:=by
    unfold pairD;rw[T4 rfl hP]
   rw[ep];generalize Builtin.Str.strSub x 0 i=a at hS ep;generalize Builtin.Str.strSub x (i+1) x.length=c at hS ep;subst hS;refine Y ?_;refine cM (T9 (w:=a)) ?_;refine Y ?_;cases ha:NM.any λz=>z==a with
   |false=>
    have hr:fH (.tup [bL a,bL c])=false:=by
     cases e:fH (.tup [bL a,bL c]) with
     |false=>rfl
     |true=>
      obtain⟨k,d,e1,_,h1,h2,h3⟩:=fD.mp e;have:=(Dp _).mpr ⟨k,by lia,h3,e1⟩;rw[ha] at this;cases this
    rw[hr,if_neg (show ¬(false=true) by decide)];exact Y trivial
   |true=>
    refine Y ?_;refine cM (T9 (w:=c)) ?_;refine Y ?_;cases hc:NM.any λz=>z==c with
    |false=>
     have hr:fH (.tup [bL a,bL c])=false:=by
      cases e:fH (.tup [bL a,bL c]) with
      |false=>rfl
      |true=>
       obtain⟨k,d,_,e1,h1,h2,h3⟩:=fD.mp e;have:=(Dp _).mpr ⟨d,by lia,by lia,e1⟩;rw[hc] at this;cases this
     rw[hr,if_neg (show ¬(false=true) by decide)];exact Y trivial
    |true=>
     obtain⟨k,k1,k2,rfl⟩:=(Dp _).mp ha;obtain⟨d,d1,d2,rfl⟩:=(Dp _).mp hc;refine Y ?_;refine cM (Gm (a:=d) gV) ?_;refine Y ?_;refine cM (Gm (a:=k) gV) ?_;refine Y ?_;by_cases hdk:d<=k
     ·rw[gA (show ¬((d:Int)>(k:Int)) by lia),fD.mpr ⟨k,d,rfl,rfl,d1,hdk,k2⟩,if_pos rfl];refine Y ?_;refine cM (Gm (a:=k) gV) ?_;refine Y ?_;refine cM (Gm (a:=d) gV) ?_;refine Y ?_;unfold bL;rw[yH gV,yH gV]
     ·have hr:fH (.tup [bL (tx k),bL (tx d)])=false:=by
       cases e:fH (.tup [bL (tx k),bL (tx d)]) with
       |false=>rfl
       |true=>
        obtain⟨k',d',e1,e2,h1,h2,h3⟩:=fD.mp e;have:=M9 gV gV e1;have:=M9 gV gV e2
        lia
      rw[dY (show (d:Int)>(k:Int) by lia),hr,if_neg (show ¬(false=true) by decide)];exact Y trivial
theorem ze3{k':Nat}{hs:List Int}(hl:hs.length<=100):W (call ao T (k'+2) true 20 [.d (.tup (hs.map .int)),.d (.tup (hs.map .int))]) [] λv s=>v=.d (.bl true):=by
 refine W.call Us rfl ?_;unfold Nk;have Vm:(100:Nat)<=sizeLine:=by decide
 refine Y ?_;refine cM (zkl (f:=id)) ?_;rw[dY rfl];refine Y ?_;refine MN (l:=hs) (f:=D.int) (λ_=>some (.bl true)) gV ?_ (λx hx=>?_) ?_
 ·refine Y ?_;exact⟨rfl,rfl⟩
 ·refine Y ?_;refine⟨rfl,λ_=>?_,λhb=>by cases hb⟩;refine Y ?_;refine W.c0 Vh ?_;exact⟨rfl,_,rfl,rfl⟩
 ·refine Y ?_;refine cM (zjP ?_) ?_
  ·intro x hx;obtain⟨_,_,e⟩:=G_.mp hx;exact(dh e).symm
  exact Y trivial
theorem zf9{k':Nat}{x:Str}(h:x.length<=600):W (call ao T (k'+8) true 22 [.d (.str x)]) [] λv s=>v=.d (.bl true):=by
 refine W.call Nv rfl ?_;unfold Gp;refine Y ?_;refine W.c0 (zg2 h) ?_;cases hr:fH (pairD x) with
 |true=>
  have ht:∀k'',W (call ao T (k''+6) true 21 [.d (.str x)]) [] λv s=>v=.d (pairD x):=λk''=>zga (zgY h hr);obtain⟨k,e,ep,_⟩:=zgi hr;rw[ep] at ht;rw[if_pos rfl,ep];have ew:cD k e=.tup (([k,e]:List Int).map .int):=rfl;rw[ew] at ht ⊢;refine Y ?_;refine⟨rfl,?_⟩;refine w6 (λ_ J s=>s=[]/\∃a b:Option Xv,J=[some (.d (.str x)),some (.d (.tup (([k,e]:List Int).map .int))),a,b]) ⟨rfl,_,_,rfl⟩ (λi y J s e hI=>?_) (λJ s hI=>?_)
  ·obtain⟨rfl,a,b,rfl⟩:=hI;refine Y ?_;refine W.c0 (ht _) ?_;refine Y ?_;refine W.c0 (ze3 (k':=k'+5) MP) ?_;refine Y ?_;exact⟨_,rfl,rfl,_,_,rfl⟩
  ·obtain⟨rfl,a,b,rfl⟩:=hI;exact Y trivial
 |false=>
  have ht:∀k'',W (call ao T (k''+6) true 21 [.d (.str x)]) [] λv s=>v=.d (.tup [.str "at",.int 0]):=λk''=>Vk (zgh h hr);rw[if_neg J0];refine Y ?_;refine⟨rfl,?_⟩;refine w6 (λ_ J s=>s=[]/\∃a b:Option Xv,J=[some (.d (.str x)),some (.d (.int 0)),a,b]) ⟨rfl,_,_,rfl⟩ (λi y J s e hI=>?_) (λJ s hI=>?_)
  ·obtain⟨rfl,a,b,rfl⟩:=hI;refine Y ?_;refine W.c0 (ht _) ?_;refine Y ?_;exact⟨_,rfl,rfl,_,_,rfl⟩
  ·obtain⟨rfl,a,b,rfl⟩:=hI;exact Y trivial
theorem zg1{k':Nat}{x:D}(h:Bk x=true):W (call ao T (k'+8) true 22 [.d x]) [] λv s=>v=.d (.bl true):=by
 have ht:∀k'',W (call ao T (k''+6) true 21 [.d x]) [] λv s=>v=.d (.tup [.str "at",.int (-1)]):=λk''=>Vk (zeY h);have e:fX ao x .str=some false:=by cases x<;>first|rfl|cases h
 refine W.call Nv rfl ?_;unfold Gp;refine WS.cons (FZ (Te (W.dJ (W.eV rfl (ql (nZ.mk e ?_))))));refine Y ?_;refine⟨rfl,?_⟩;refine w6 (λ_ J s=>s=[]/\∃a b:Option Xv,J=[some (.d x),some (.d (.int (-1))),a,b]) ⟨rfl,_,_,rfl⟩ (λi y J s e hI=>?_) (λJ s hI=>?_)
 ·obtain⟨rfl,a,b,rfl⟩:=hI;refine Y ?_;refine W.c0 (ht _) ?_;refine Y ?_;exact⟨_,rfl,rfl,_,_,rfl⟩
 ·obtain⟨rfl,a,b,rfl⟩:=hI;exact Y trivial
theorem zd4{k':Nat}{x:D}(h:nA x=true)(hb:fH x=false):W (call ao T (k'+6) true 24 [.d x]) [] λv s=>v=.d (.bl true):=by
 have hq:WR (call ao T (k'+5) true 5 [.d x]) [] 1 []:=by
  refine WR.call Nt rfl ?_;unfold b5;refine qT (MK ?_ λs'=>⟨⟨_,_,_,rfl⟩,_,rfl⟩);refine Ga ?_;refine Y ?_;exact WR.dO rfl (zdS h hb)
 refine W.call Uu rfl ?_;unfold Np;refine WS.cons (Td ?_);refine qT (MK (c:=1) (fs:=[]) ?_ λs'=>⟨⟨_,_,_,rfl⟩,_,_,_,rfl,rfl,?_⟩)
 ·refine Ga ?_;refine Y ?_;exact WR.dO rfl hq
 ·refine Y ?_;refine W.c0 zgB ?_;refine Y ?_;exact⟨⟨_,rfl⟩,rfl⟩
theorem zjl{x:Str}(h:x.length<=600):prim .pF [.str x]=some (.dat (.int x.length)):=by
 show (match cZ x with|true=>some (Rz.dat (.int x.length))|false=>none)=_;rw[show cZ x=true from dY h]
theorem zj4{x:Str}{j:Int}(h:x.length<=600):prim .vY [.str x,.int j]=some (.dat (.str (cT x none (some j) none))):=by
 show qM (cZ x) _=_;rw[show cZ x=true from dY h];rfl
theorem Vn{x:Str}{j:Int}(h:x.length<=600):prim .iD [.str x,.int j]=some (.dat (.str (cT x (some j) none none))):=by
 show qM (cZ x) _=_;rw[show cZ x=true from dY h];rfl
theorem ziL{x:Str}(h:x.length<=600):prim .pG [.str x]=some (.dat (.str (cT x none none (some (-1))))):=by
 show qM (cZ x) _=_;rw[show cZ x=true from dY h];rfl
theorem qz{a b:Str}(h:a.length+b.length<=sizeLine):prim .add [.str a,.str b]=some (.dat (.str (a++b))):=by
 show (if a.length+b.length<=sizeLine then some (Rz.dat (.str (a++b))) else none)=_;rw[if_pos h]
noncomputable def signs:Str:="0123456789/- +."
theorem zhg:((List.range 15).all λr=>match prim .rZ [.str signs,.int (r:Nat)] with|some (.dat (.str c))=>c.length==1|_=>false)=true:=by decide +kernel
theorem zkJ{r:Nat}(h:r<15):∃c:Str,prim .rZ [.str signs,.int r]=some (.dat (.str c))/\c.length=1:=by
 have:=iM.mp zhg r (jk.mpr h);cases e:prim .rZ [.str signs,.int (r:Nat)] with
 |none=>rw[e] at this;cases this
 |some z=>
  rw[e] at this;cases z with
  |nw _=>cases this
  |dat d=>
   cases d with
   |str c=>exact⟨c,rfl,eq_of_beq this⟩
   |_=>cases this
theorem zeX{k':Nat}{o:SO}{x:Str}(ho:mO o)(h:x.length<=8):W (call ao T (k'+2) true 23 [.l 0,.d (.str x)]) [o] λv s=>∃(y:Str) (o':SO),v=.d (.str y)/\s=[o']/\y.length<=20/\mO o':=by
 have Vm:(1000:Nat)<=sizeLine:=by decide
 refine W.call Ut rfl ?_;unfold Nm;refine Y ?_;refine cM (zjl gV) ?_;refine Y ?_;refine tR ho gV gV λr o1 hr hp=>?_;refine Y ?_;refine tR hp J0 J0 λr2 o2 Vf hp=>?_;obtain⟨c,ec,hc⟩:=zkJ (r:=r2) gV;refine S8 (wZ (ql (wZ (ql (FT ?_)))));refine cM (o:=prim .rZ [.str signs,.int r2]) ec ?_;have l1:=L2.fC (x:=x) (lo:=none) (hi:=some (r:Int)) (st:=none) J0;have l2:=L2.fC (x:=x) (lo:=some (r:Int)) (hi:=none) (st:=none) J0;have l3:=L2.fC (x:=x) (lo:=some ((r:Int)+1)) (hi:=none) (st:=none) J0;have l4:=L2.fC (x:=x) (lo:=none) (hi:=none) (st:=some (-1)) J0;have e1:("/1" : Str).length=2:=by decide +kernel
 have e2:("0" : Str).length=1:=by decide +kernel
 have e3:(" " : Str).length=1:=by decide +kernel
 have t1:=zj4 (x:=x) (j:=r) gV;have t2:=Vn (x:=x) (j:=r) gV;have t3:=Vn (x:=x) (j:=(r:Int)+1) gV;have t4:=ziL (x:=x) gV;generalize cT x none (some (r:Int)) none=a at l1 t1;generalize cT x (some (r:Int)) none none=b at l2 t2;generalize cT x (some ((r:Int)+1)) none none=d at l3 t3;generalize cT x none none (some (-1))=f at l4 t4;refine Y ?_;refine cM t1 ?_;refine Y ?_;refine cM (qz gV) ?_;refine Y ?_;refine cM t2 ?_;refine Y ?_;refine cM (qz (by rw[yJ];lia)) ?_;refine Y ?_;refine cM t1 ?_;refine Y ?_;refine cM (qz gV) ?_;refine Y ?_;refine cM t3 ?_;refine Y ?_;refine cM (qz (by rw[yJ];lia)) ?_;refine Y ?_;refine cM t1 ?_;refine Y ?_;refine cM t3 ?_;refine Y ?_;refine cM (qz gV) ?_;refine Y ?_;refine cM t4 ?_;refine Y ?_;refine cM (qz gV) ?_;refine Y ?_;refine cM (qz gV) ?_;refine Y ?_;refine cM (qz gV) ?_;refine Y ?_;refine cM (qz gV) ?_;refine Y ?_;refine tR hp J0 J0 λr8 o8 hr8 hp=>?_;refine Y ?_;have key:∀y∈[D.str (a++c++b),.str (a++c++d),.str (a++d),.str f,.str (x++"/1"),.str ("0"++x),.str (x++"0"),.str (" "++x)],∃z:Str,y=.str z/\z.length<=20:=λy hy=>by
  simp only[iQ,uR,tW] at hy;rcases hy with rfl|rfl|rfl|rfl|rfl|rfl|rfl|rfl
  all_goals refine⟨_,rfl,?_⟩
  all_goals (try simp only[yJ])
  all_goals lia
 have hlen:r8<[D.str (a++c++b),.str (a++c++d),.str (a++d),.str f,.str (x++"/1"),.str ("0"++x),.str (x++"0"),.str (" "++x)].length:=by show r8<8;lia
 obtain⟨z,ez,hz⟩:=key _ (DN hlen);refine cM (Dg (x:=.str z) ((gU hlen).trans (n_ some ez))) ?_;refine Y ?_;exact⟨_,_,rfl,rfl,hz,hp⟩
theorem Gz{k:Nat}(h:k<25):prim .str1 [.int (k:Int)]=some (.dat (.str (tx k))):=M8 gV gV
theorem zki{a b c:Str}(h1:a.length<=600)(h2:b.length<=600)(h3:c.length<=600):prim .cat [.str a,.str b,.str c]=some (.dat (.str (Str.empty++a++b++c))):=by
 show qM (cZ a&&cZ b&&cZ c) _=_;rw[show cZ a=true from dY h1,show cZ b=true from dY h2,show cZ c=true from dY h3];rfl
theorem zgc{k' k d:Nat}(h:1<=d/\d<=k/\k<=24):W (call ao T (k'+5) true 5 [.d (cD k d)]) [] λv s=>v=.d (.str (tx k++"/"++tx d)):=by
 have lk:=Dn (a:=k) gV;have ld:=Dn (a:=d) gV;have er:cD k d=.tup [.int k,.int d]:=rfl;refine W.call Nt rfl ?_;unfold b5;refine Y ?_;refine W.c1 (zds rfl (zhc gV)) λ_=>?_;rw[er];refine Y ?_;refine cM (Gz (k:=k) gV) ?_;refine Y ?_;refine cM (Gz (k:=d) gV) ?_;refine Y ?_;refine cM (zki gV (by rw[show ("/" : Str).length=1 by decide +kernel];lia) gV) ?_;refine Y ?_;have:Str.empty++tx k=tx k:=by
  show (⟨#[]++(tx k).cps⟩ : Str)=tx k;rw[Array.empty_append]
 rw[this]
def Dq(y:D):Prop:=(∃x:Str,y=.str x/\x.length<=600)\/Bk y=true
theorem Vo{k':Nat}{y:D}(h:Dq y):W (call ao T (k'+8) true 22 [.d y]) [] λv s=>v=.d (.bl true):=by
 rcases h with ⟨x,rfl,hx⟩|h
 ·exact zf9 hx
 ·exact zg1 h
noncomputable def xG:List D:=[.str "",.str "/",.str "1/1",.str "1",.str "2/1",.str "24/24",.str "25/1",.str "1/2",.str "05/2",.str "5/02",.str "5/0",.str "0/0",.non,.int 7,.fl [.str "5/2"],.tup [.int 5,.int 2]]
theorem zg7{y:D}(h:y∈xG):Dq y:=by
 simp only[xG,iQ,uR,tW] at h;rcases h with rfl|rfl|rfl|rfl|rfl|rfl|rfl|rfl|rfl|rfl|rfl|rfl|rfl|rfl|rfl|rfl
 all_goals first
  |exact .inr rfl
  |exact .inl ⟨_,rfl,by decide +kernel⟩
theorem Vp{y:D}(h:y∈nD):Dq y/\nA y=true:=by
 simp only[nD,iQ,uR,tW] at h;rcases h with rfl|rfl|rfl|rfl|rfl|rfl|rfl|rfl|rfl|rfl|rfl|rfl|rfl|rfl|rfl|rfl
 all_goals refine⟨?_,rfl⟩
 all_goals first
  |exact .inr rfl
  |exact .inl ⟨_,rfl,by decide +kernel⟩
theorem qC(ns:List Int)(hn:ns.length<=63):∃s',call ao T 60 true 25 [.d (.fl (ns.map D.int))] []=some (.ok (.d (.bl true)),s'):=by
 suffices h:W (call ao T 60 true 25 [.d (.fl (ns.map D.int))]) [] λv _=>v=.d (.bl true) by
  obtain⟨v,s',e,rfl⟩:=h;exact⟨s',e⟩
 have hs:(1000:Nat)<=sizeLine:=by decide
 refine W.call (k:=59) Uv rfl ?_;unfold Nq;refine Y ?_;refine w6 (c:=xG) (λ_ J s=>s=[]/\∃(a b c d e f:Option Xv),J=[some (.d (.fl (ns.map D.int))),a,b,c,d,e,f]) ⟨rfl,_,_,_,_,_,_,rfl⟩ (λi x J s hx lK=>?_) (λJ s lK=>?_)
 ·obtain⟨rfl,a,b,c,d,e,f,rfl⟩:=lK;refine Y ?_;refine W.c0 (Vo (k':=51) (zg7 (jh hx))) ?_;refine Y ?_;exact⟨_,rfl,rfl,_,_,_,_,_,_,rfl⟩
 obtain⟨rfl,a,b,c,d,e,f,rfl⟩:=lK;refine Y ?_;refine W.dO rfl ((zh8 (k:=58)).imp λv _=>?_);rintro⟨n0,rfl⟩;refine⟨_,rfl,?_⟩;refine Y ?_;refine FW (SX ?_) ?_
 ·have:=zgX (ns:=ns) (lo:=some 1) (hi:=some 5);show 1+_<=_
  lia
 refine Y ?_;refine w6 (λ_ J s=>∃(a b c d e f:Option Xv),J=[some (.d (.fl (ns.map D.int))),a,b,c,d,e,f]) ⟨_,_,_,_,_,_,rfl⟩ (λi x J s hx lK=>?_) (λJ s lK=>?_)
 ·obtain⟨m,rfl⟩ : ∃m,x=.int m:=by
   rcases mR.mp (jh hx) with z|z
   ·rcases iQ.mp z with rfl|z
    ·exact⟨_,rfl⟩
    ·cases z
   ·exact zf4 z
  obtain⟨a,b,c,d,e,f,rfl⟩:=lK;refine Y ?_;refine Kal rfl ((zky (k:=58)).imp λv s1=>?_);rintro⟨jj,o,rfl,hj,hp⟩;refine⟨jj,o,rfl,hj,?_⟩;refine Y ?_;refine Dk rfl ((zf5 (k':=57) hp).imp λv s1=>?_);rintro⟨kk,dd,o1,rfl,rfl,hr,hp⟩;refine⟨_,_,rfl,rfl,?_⟩;obtain⟨k,rfl⟩:=GR (show 0<=kk by lia);obtain⟨d',rfl⟩:=GR (show 0<=dd by lia);have lk:=Dn (a:=k) gV;have ld:=Dn (a:=d') gV;have ls:("/" : Str).length=1:=by decide +kernel
  refine Y ?_;refine W.c0 (zgc (k':=54) gV) ?_;have er:cD k d'=.tup [.int k,.int d']:=rfl;have hx5:(tx k++"/"++tx d').length<=5:=by rw[yJ,yJ];lia
  have q1:=Gz (k:=k) gV;have q2:=Gz (k:=d') gV;have q3:prim .add [.str (tx k),.str "/"]=some (.dat (.str (tx k++"/"))):=qz gV;have q4:prim .add [.str (tx k++"/"),.str (tx d')]=some (.dat (.str (tx k++"/"++tx d'))):=qz (by rw[yJ];lia);rw[er];generalize tx k++"/"++tx d'=t at hx5 q4;refine Y ?_;refine cM q1 ?_;refine Y ?_;refine cM q3 ?_;refine Y ?_;refine cM q2 ?_;refine Y ?_;refine cM q4 ?_;refine Y ?_;rw[show (!(t==t))=false by simp];refine Y ?_;refine Dk rfl ((Vg (k:=57) hp).imp λv s1=>?_);rintro⟨od,o4,rfl,rfl,hod,hp⟩;refine⟨_,_,rfl,rfl,?_⟩;refine Y ?_;refine Kao (c:=fZ 0 5) (λj acc s'=>∃(o':SO),acc.length=j/\(∀y∈acc,Dq y)/\s'=s++[o']/\mO o') ?_ (λj x acc s' e hJ=>?_) (λacc s' hJ=>?_)
  ·refine Y ?_;exact⟨rfl,rfl,_,rfl,by simp,rfl,hp⟩
  ·obtain⟨o',Dr,Oi,rfl,hp⟩:=hJ;obtain⟨rfl,hj5⟩:=Ti e;refine Y ?_;refine⟨λ_=>?_,λhb=>by cases hb⟩;refine Y ?_;refine Dk rfl ((zeX (k':=57) hp (x:=t) gV).imp λv s1=>?_);rintro⟨y,o9,rfl,rfl,hy,hp⟩;refine⟨_,_,rfl,rfl,?_⟩;refine⟨_,rfl,by lia,o9,by simp[Dr],λz hz=>?_,rfl,hp⟩;rcases mR.mp hz with hz|hz
   ·exact Oi z hz
   ·rw[List.mem_singleton] at hz;subst hz;exact .inl ⟨y,rfl,by lia⟩
  obtain⟨o5,Dr,Oi,rfl,hp⟩:=hJ;rw[Tj] at Dr;have Dr:acc.length=5:=Dr;refine Y ?_;refine FW (SX (by show 2+_<=_;lia)) ?_;have hG:∀y∈[.str t,od]++acc,Dq y:=λy hy=>by
   rcases mR.mp hy with hy|hy
   ·simp only[iQ,uR,tW] at hy;rcases hy with rfl|rfl
    ·exact .inl ⟨t,rfl,by lia⟩
    ·exact(Vp hod).1
   ·exact Oi y hy
  generalize [.str t,od]++acc=GS at hG;refine Y ?_;refine w6 (c:=GS) (λi J s'=>∃a b:Option Xv,s'=s++[o5]/\J=[some (.d (.fl (ns.map D.int))),a,some (.d (.str t)),some (.d (.int m)),some (.l s.length),some (.d (cD k d')),b]) ⟨_,_,rfl,rfl⟩ (λi x J s' e hI=>?_) (λJ s' hI=>?_)
  ·obtain⟨a,b,rfl,rfl⟩:=hI;refine Y ?_;refine W.c0 (Vo (k':=51) (hG x (jh e))) ?_;refine Y ?_;exact⟨_,rfl,_,_,rfl,rfl⟩
  obtain⟨a,b,rfl,rfl⟩:=hI;refine Y ?_;refine Dk rfl ((zdE (k':=57) hp).imp λv s1=>?_);rintro⟨br,o6,rfl,rfl,hbr,hp⟩;refine⟨_,_,rfl,rfl,?_⟩;refine Y ?_;refine Dk rfl ((Vg (k:=57) hp).imp λv s1=>?_);rintro⟨Vq,o7,rfl,rfl,Oj,hp⟩;refine⟨_,_,rfl,rfl,?_⟩;have hO:∀y∈[br,Vq,.non,.str t],nA y=true:=λy hy=>by
   simp only[iQ,uR,tW] at hy;rcases hy with rfl|rfl|rfl|rfl
   ·exact hbr
   ·exact(Vp Oj).2
   ·rfl
   ·rfl
  refine Y ?_;refine w6 (c:=[br,Vq,.non,.str t]) (λi J s'=>∃a b:Option Xv,s'=s++[o7]/\J=[some (.d (.fl (ns.map D.int))),a,some (.d (.str t)),some (.d (.int m)),some (.l s.length),some (.d (cD k d')),b]) ⟨_,_,rfl,rfl⟩ (λi x J s' e hI=>?_) (λJ s' hI=>?_)
  ·obtain⟨a,b,rfl,rfl⟩:=hI;have hx:=hO x (jh e);refine Y ?_;refine W.c0 (zel hx) ?_;cases hb:fH x with
   |true=>
    refine Y ?_;exact⟨_,rfl,_,_,rfl,rfl⟩
   |false=>
    refine Y ?_;refine W.c0 (zd4 (k':=53) hx hb) ?_;refine Y ?_;exact⟨_,rfl,_,_,rfl,rfl⟩
  obtain⟨a,b,rfl,rfl⟩:=hI;refine Y ?_;exact⟨_,rfl,_,_,_,_,_,_,rfl⟩
 ·obtain⟨a,b,c,d,e,f,rfl⟩:=lK;exact Y trivial
end dF
end Lake
open Lake
open PySem PySem.W PyProof.Rows
set_option maxRecDepth 100000 in
set_option maxHeartbeats 0 in
theorem PySem.Challenge.cw_ringhues_k74_rings_written_and_read_holds : PySem.Challenge.rw_ringhues_k74_rings_written_and_read.Holds := by
 refine PySem.W.holds_law dF.ws λsaid=>?_;refine holds_open (q:=dF.qv) (loose:=dF.loose) (Xt:=λs=>xlAt dF.qv [] s&&recOk [] s) (XP:=XL dF.qv []) (Yf:=(Mi.jr dF.fs dF.ms dF.xs dF.lk).obs) (Ya:=(Mi.jr dF.fs dF.ms dF.xs dF.lk).val) (YP:=(Mi.jr dF.fs dF.ms dF.xs dF.lk).says) (N:=20000) dF.left (Mi.jr dF.fs dF.ms dF.xs dF.lk).of (Mi.jr dF.fs dF.ms dF.xs dF.lk).keeps (λs e=>xl_of s (G5.mp e).1) XL.keeps (by rfl) (by rfl) (by rfl) (λs e=>recFacts_of (G5.mp e).2) (by rfl) said dF.wc ⟨rfl,rfl,rfl,rfl,rfl,dF.wt⟩ ?hw ?hc
 case hw=>w_witness2
 case hc=>exact Mi.CZ (l:=PySem.Challenge.rw_ringhues_k74_rings_written_and_read) (x:="_law_script") (k:=60) rfl rfl ⟨by decide,by decide,rfl⟩ (λw K mg fa h S X G Og=>dF.all_mk dF.qC S X G Og)
