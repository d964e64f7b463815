import PyProof.Rows.All
import Wide.All
import KE.KIsAll
import KE.KSortTup
import KE.KTryDeep
import KE.KDictOf
import KE.KFromBytes
import Wide.FinOn
import PySem.Challenge.RW_ringhues_k25_full_rounds_told
set_option compiler.extract_closed false
theorem gV{p:Prop}(h:p:=by lia):p:=h
theorem Bd{p:Prop}(h:p:=by decide +kernel):p:=h
theorem Dc{p:Prop}(h:p:=by decide):p:=h
theorem J0{p:Prop}(h:p:=by simp):p:=h
abbrev aF:=@PySem.wpAny_bind
abbrev bO:=@List.length_append
abbrev dz:=@PySem.Heap.get?_push_of_some
abbrev bR:=@Option.some.inj
abbrev fQ:=@List.getElem?_eq_some_iff
abbrev gj:=@List.getElem?_eq_getElem
abbrev cH:=@List.length_map
abbrev fU:=@List.mem_of_getElem?
abbrev bW:=@PySem.Heap.lt_size
abbrev ji:=@List.getD_eq_getElem?_getD
abbrev cX:=@decide_eq_true
abbrev bT:=@Nat.le_refl
abbrev bI:=@PySem.wpAny_pure
abbrev gq:=@Nat.lt_of_lt_of_le
abbrev fG:=@List.size_toArray
abbrev fH:=@of_decide_eq_true
abbrev iD:=@List.mem_cons_of_mem
abbrev fK:=@Bool.and_eq_true
abbrev iu:=@PySem.Heap.get?_push_size
abbrev kY:=@List.getElem?_append_left
abbrev eU:=@decide_eq_false
abbrev lO:=@List.getElem?_eq_none_iff
abbrev gB:=@List.length_cons
abbrev gZ:=@List.getElem?_map
abbrev kZ:=@Option.map_eq_some_iff
abbrev mU:=@List.getElem?_append_right
abbrev iw:=@List.mem_filter
abbrev iG:=@List.mem_append
abbrev fL:=@Nat.ne_of_lt
abbrev j_:=@decide_eq_true_eq
abbrev iy:=@List.mem_cons
abbrev lQ:=@List.length_range
abbrev k_:=@List.all_eq_true
abbrev mV:=@List.mem_cons_self
abbrev mW:=@List.mem_singleton
abbrev kh:=@List.mem_range
abbrev lY:=@List.map_append
abbrev lZ:=@List.append_nil
abbrev qx:=@List.mem_append_right
abbrev jy:=@List.mem_map
abbrev nW:=@List.lookup_cons
abbrev yj:=@PyProof.Rows.slot_tuple_getitem
abbrev kj:=@Nat.le_trans
abbrev uf:=@Option.bind_eq_some_iff
abbrev q_:=@List.getElem?_set_ne
abbrev jz:=@PySem.wpAny_field
abbrev rm:=@List.filterMap_cons
abbrev rz:=@List.flatMap_append
abbrev vH:=@PySem.wpAny_callSpecial?_slot
abbrev nY:=@Nat.lt_irrefl
abbrev qy:=@List.filter_cons
abbrev rA:=@Int.toNat_natCast
abbrev zU:=@PyProof.Rows.callWith_type1
abbrev ug:=@List.mem_filterMap
abbrev qz:=@List.length_set
abbrev uh:=@PySem.Obj.data_mapFields
abbrev yp:=@List.getElem?_cons_succ
abbrev uo:=@List.filter_append
abbrev rB:=@List.length_take
abbrev yq:=@List.getElem?_set_self
abbrev yr:=@PySem.Heap.get?_update_other
abbrev uq:=@PySem.wpAny_newObj_type
abbrev oY:=@List.map_cons
abbrev zV:=@List.length_filterMap_le
abbrev ur:=@PySem.wpAny_call_entry
abbrev yt:=@List.mem_append_left
abbrev qC:=@PySem.wpAny_holding
abbrev mX:=@PySem.wpAny_mono
abbrev vI:=@PySem.wpAny_truthy_bool
abbrev vJ:=@List.append_assoc
abbrev uw:=@List.nodup_cons
abbrev yu:=@PySem.mem_of_lookup
abbrev Fi:=@PySem.F.slot_tuple_iterator_next
abbrev zW:=@PySem.Heap.get?_update_self
abbrev yw:=@PySem.wpAny_setField_rec
abbrev yx:=@List.pairwise_cons
abbrev ux:=@PySem.wpAny_seqItems
abbrev zX:=@PySem.Heap.get?_none_of_le
abbrev vK:=@PySem.wpAny_passesOwn
abbrev yC:=@Nat.lt_succ_of_lt
abbrev yD:=@List.nodup_append
abbrev zY:=@Array.length_toList
abbrev Fj:=@List.getElem?_replicate
abbrev Fl:=@Int.eq_ofNat_of_zero_le
abbrev yE:=@beq_self_eq_true
abbrev yF:=@List.take_length
abbrev yG:=@List.mem_flatMap
abbrev vL:=@PySem.Heap.size_push
abbrev Fp:=@List.pairwise_lt_range
abbrev Fq:=@List.flatMap_singleton
abbrev Ft:=@List.length_replicate
abbrev Fv:=@PySem.Obj.isFreed_of_fields
abbrev Fw:=@List.pairwise_flatMap
abbrev Fx:=@List.length_filter_le
abbrev vM:=@List.all_cons
abbrev Iv:=@Array.getElem?_eq_some_iff
abbrev Qu:=@Int.emod_eq_emod_iff_emod_sub_eq_zero
abbrev Iw:=@List.pairwise_iff_getElem
abbrev zZ:=@List.length_drop
abbrev uy:=@Nat.zero_le
abbrev uz:=@PySem.sizeLine_eq
abbrev vN:=@Nat.le_of_lt
abbrev vO:=@Nat.ne_of_gt
abbrev Iz:=@Option.isSome_iff_exists
abbrev IK:=@PySem.F.args_tuple_add_2
abbrev IV:=@PySem.AutoSeq1.wpAny_loadPart'
abbrev Fy:=@Bool.false_ne_true
abbrev z_:=@List.length_nil
abbrev IW:=@PySem.F.entry_tuple_add
abbrev Aa:=@List.forIn_cons
abbrev Fz:=@Bool.false_eq_true
abbrev I8:=@List.getElem?_cons_zero
abbrev FJ:=@Nat.lt_of_le_of_lt
abbrev Ab:=@List.range_succ
abbrev FN:=@of_decide_eq_false
abbrev I9:=@PySem.W.cellsFrom_some
abbrev I_:=@PySem.F.slot_tuple_add
abbrev FP:=@PySem.Heap.get?_push_ne
abbrev FQ:=@List.pairwise_map
abbrev FT:=@Int.emod_eq_of_lt
abbrev Ac:=@PySem.wpAny_setField
abbrev Ad:=@List.take_succ
abbrev Ja:=@List.getElem?_eq_none
abbrev Jc:=@List.filterMap_append
abbrev yH:=@Nat.succ_mul
abbrev Jd:=@List.take_append_drop
abbrev FW:=@Nat.le_of_not_lt
abbrev FZ:=@decide_eq_decide
abbrev Je:=@Bool.and_eq_true_iff
abbrev Jf:=@PySem.wpAny_updateSeq_pair
abbrev Jg:=@List.pairwise_append
abbrev Ae:=@PySem.wpAny_attempt
abbrev Ga:=@Nat.not_lt_zero
abbrev Gb:=@PySem.F.slot_zip_next
abbrev Jh:=@List.getElem_of_mem
abbrev Ji:=@List.getElem?_range
abbrev Gd:=@Bool.or_eq_true
abbrev Jj:=@List.zip_cons_cons
abbrev Gf:=@List.forIn_nil
abbrev Gg:=@List.nodup_nil
abbrev yI:=@beq_iff_eq
abbrev Jk:=@List.getElem?_inj
abbrev uD:=@congrArg
abbrev vP:=@if_false
set_option Elab.async false
set_option linter.all false
set_option maxRecDepth 100000
set_option maxHeartbeats 4000000
namespace L2
open PySem PySem.Spec PyProof.Rows PySem.W
noncomputable def subIn(K:W.Frag)(C D:Addr):Bool:=PySem.W.ktsIn K C "BaseException"&&PySem.W.ktsIn K D "BaseException"&&match K.lookup C with
 |some ⟨_,_,.cls cd,_⟩=>cd.mro.contains (.ref D)
 |_=>false
noncomputable def Af:List Value:=[.type "ValueError",.type "Exception",.type "BaseException",.type "object"]
noncomputable def oZ:List Value->Bool
 |.ref _::r=>oZ r
 |l=>l==Af
noncomputable def o7(K:Frag)(C fI:Addr):Bool:=match K.lookup C with
 |some ⟨.type "type",_,.cls cd,sl⟩=>(match cd.mro,sl.toList with
  |.ref C'::bm,[_,_,_,_,some (.builtin n),_]=>C'==C&&n=="ValueError.__new__" && !cd.hasDel&&tailIn K Af bm&&nsOkIn K cd.ns&&nsIn K cd.ns "__init__"==some (some (.ref fI))
  |_,_=>false)
 |_=>false
noncomputable def aV(s:Stmt):Arguments:=match s with
 |.FunctionDef _ a _ _ _ _ _ _ _ _=>a
 |_=>{posonlyargs:=[],args:=[],vararg:=none,kwonlyargs:=[],kw_defaults:=[],kwarg:=none,defaults:=[]}
noncomputable def aO(s:Stmt):List Stmt:=match s with
 |.FunctionDef _ _ b _ _ _ _ _ _ _=>b
 |_=>[]
noncomputable def au(s:Stmt):Scope:=match s with
 |.FunctionDef _ _ _ _ _ _ sc _ _ _=>sc
 |_=>{kind:=.function,names:=[],isGenerator:=false,isCoroutine:=false}
end L2
namespace Mi
open PySem PySem.Spec PyProof.Rows L2 PySem.W
noncomputable def Gh(n c:Nat):Nat:=if c<n then c else 0
noncomputable def Ag(n c e:Nat):Bool:=Gh n e==0||Gh n c==Gh n e
noncomputable def gC(L:List Addr)(c:Nat):Addr:=L.getD (Gh L.length c) 0
noncomputable def Xn(K:W.Frag)(C:Addr):Bool:=
 PySem.W.findIn K (.ref C) "__getattribute__"==some (some (.builtin "BaseException.__getattribute__"))&&PySem.W.findIn K (.ref C) "__getattr__"==some none&&PySem.W.findIn K (.ref C) "__class__"==some (some (.builtin "object.__class__")) &&
 PySem.W.mroIn K C (.type "BaseException")==some true&&PySem.W.mroIn K C (.type "object")==some true&&(PySem.W.clsIn K C).isSome &&
 PySem.W.specialIn K (.builtin "object.__class__") "__get__"==some (some (.builtin "getset_descriptor.__get__"))&&PySem.W.takesIn K (.builtin "object.__class__")==some true
noncomputable def uE(K:W.Frag)(L:List Addr):Bool:=(List.range L.length).all λc=>Xn K (L.getD c 0)&&PySem.W.kitOne K (.ref (L.getD c 0)) (.type "ValueError")==some true &&
 (List.range L.length).all λe=>PySem.W.kitOne K (.ref (L.getD c 0)) (.ref (L.getD e 0))==some (Ag L.length c e)
noncomputable def subB(K:W.Frag)(L:List Addr)(d:Nat):Bool:=(List.range L.length).all λc=>!(Ag L.length c d)||L2.subIn K (L.getD c 0) (gC L d)
noncomputable def oG(fd:FuncData):FuncData:={fd with kwdefaults:=.none,doc:=.none,pyModule:=.none,annotations:=none,code:=.none,closureTuple:=.none}
noncomputable def qD(x:Str)(st:Stmt):FuncData:=fnOf x x (aV st) (aO st) (au st) .none .none .none .none none .none .none
noncomputable def vQ(K:Frag)(x:Str):Option (Addr×FuncData):=match nsIn K mainGlobals x with
 |some (some (.ref f))=>(match K.lookup f with
  |some ⟨_,_,.func fd,_⟩=>(match codeIn K fd.code x&&keepIn K (.ref f) with
   |true=>some (f,fd)
   |false=>none)
  |_=>none)
 |_=>none
noncomputable def Jl(K:Frag)(x:Str):Addr:=match nsIn K mainGlobals x with
 |some (some (.ref C))=>C
 |_=>0
noncomputable def Ah(K:Frag)(x:Str):Bool:=match nsIn K mainGlobals x with
 |some (some (.ref _))=>true
 |_=>false
noncomputable def jA(K:Frag)(p:Str×Int):Bool:=match nsIn K mainGlobals p.1 with
 |some (some (.int i _))=>decide (i=p.2)
 |_=>false
noncomputable def mY(K:Frag)(x:Str):Bool:=match nsIn K mainGlobals x with
 |some none=>true
 |_=>false
noncomputable def Ai(K:Frag)(C:Addr):Bool:=excIn K C [.type "ValueError",.type "Exception",.type "BaseException",.type "object"] "ValueError.__new__"
structure Lk where
 Aj:List Str
 yJ:List (Str×Int)
 Qv:List Str
 Qw:List Nat
 Qx:List Nat
noncomputable def Lk.L(l:Lk)(K:Frag):List Addr:=l.Aj.map (Jl K)
noncomputable def Lk.good(l:Lk)(K:Frag):Bool:=
 l.Aj.all (Ah K)&&(l.Aj.isEmpty||uE K (l.L K))&&l.Qw.all (λk=>Ai K (gC (l.L K) k))&&l.Qx.all (λk=>subB K (l.L K) k)&&l.yJ.all (jA K)&&l.Qv.all (mY K)
noncomputable def mZ(h:Heap):List Addr->Frag
 |[]=>[]
 |a::r=>match h.get? a with
  |some o=>(a,o)::mZ h r
  |none=>mZ h r
noncomputable def vR(q:Str)(st:Stmt):FuncData:=fnOf "__init__" q (aV st) (aO st) (au st) .none .none .none .none none .none .none
noncomputable def Ak(K:Frag)(C:Addr):Option FuncData:=match clsIn K C with
 |some cd=>(match nsIn K cd.ns "__init__" with
  |some (some (.ref f))=>(match K.lookup f with
   |some ⟨.type "function",_,.func fd,_⟩=>(match codeIn K fd.code fd.qualname&&o7 K C f&&oZ cd.mro&&cd.hasDict with
    |true=>some fd
    |false=>none)
   |_=>none)
  |_=>none)
 |none=>none
noncomputable def setB(K:Frag)(C:Addr)(fs:List Str):Bool:=findIn K (.ref C) "__setattr__"==some (some (.builtin "object.__setattr__"))&&fs.all (λf=>findIn K (.ref C) f==some none)
noncomputable def Gi(K:Frag)(C:Addr)(f:Str):Bool:=findIn K (.ref C) "__getattribute__"==some (some (.builtin "BaseException.__getattribute__"))&&findIn K (.ref C) "__getattr__"==some none&&mroIn K C (.type "BaseException")==some true&&findIn K (.ref C) f==some none&&hasDictIn K C
structure rC where
 c:Nat
 q:Str
 st:Stmt
 fs:List Str
noncomputable def Al:Nat->List Obj->Frag
 |_,[]=>[]
 |i,o::r=>match o.isFreed with
  |true=>Al (i+1) r
  |false=>(i,o)::Al (i+1) r
noncomputable def bM(h:Heap):Frag:=mZ h [mainGlobals]++(Al 0 h.objs.toList).reverse
noncomputable def nZ(fs:List (Str×Stmt))(ms:List rC)(xs:List (Nat×Str))(l:Lk)(s:Shared):List (Option FuncData)×List (Option FuncData)×Bool:=
 (fs.map (λp=>(vQ (bM s.heap) p.1).map (λq=>oG q.2)),ms.map (λm=>(Ak (bM s.heap) (gC (l.L (bM s.heap)) m.c)).map oG),
  l.good (bM s.heap)&&ms.all (λm=>setB (bM s.heap) (gC (l.L (bM s.heap)) m.c) m.fs)&&xs.all (λx=>Gi (bM s.heap) (gC (l.L (bM s.heap)) x.1) x.2))
noncomputable def o8(fs:List (Str×Stmt))(ms:List rC)(w:World):List (Option FuncData)×List (Option FuncData)×Bool:=(fs.map (λp=>some (qD p.1 p.2)),ms.map (λm=>some (vR m.q m.st)),true)
noncomputable def Gj(fs:List (Str×Stmt))(s:Shared):List (Option FuncData):=fs.map (λp=>(vQ (bM s.heap) p.1).map (λq=>oG q.2))
noncomputable def Qy(ms:List rC)(xs:List (Nat×Str))(l:Lk)(s:Shared):List (Option FuncData)×Bool:=(ms.map (λm=>(Ak (bM s.heap) (gC (l.L (bM s.heap)) m.c)).map oG),
  l.good (bM s.heap)&&ms.all (λm=>setB (bM s.heap) (gC (l.L (bM s.heap)) m.c) m.fs)&&xs.all (λx=>Gi (bM s.heap) (gC (l.L (bM s.heap)) x.1) x.2))
theorem Xo{p q:Program}{loose:List Str}{Xt:Shared->Bool}{N:Nat}{fs1 n6:List (Str×Stmt)}{ms:List rC}{xs:List (Nat×Str)}{l:Lk}
  (a:∀w,(openEnds treeTable p w N).map (λs=>openSeen q loose (importedModules p.main.body) Xt true s)=some (openGood q loose))
  (b1:∀w,(openEnds treeTable p w N).map (Gj fs1)=some (fs1.map λp=>some (qD p.1 p.2)))
  (b2:∀w,(openEnds treeTable p w N).map (Gj n6)=some (n6.map λp=>some (qD p.1 p.2)))
  (c:∀w,(openEnds treeTable p w N).map (Qy ms xs l)=some (ms.map (λm=>some (vR m.q m.st)),true)):LeftO p q loose Xt (nZ (fs1++n6) ms xs l) (o8 (fs1++n6) ms) N:=by
 intro w;have a:=a w;have b1:=b1 w;have b2:=b2 w;have c:=c w;cases e:openEnds treeTable p w N with
 |none=>rw[e] at a;cases a
 |some s=>
  rw[e] at a b1 b2 c;have a:openSeen q loose (importedModules p.main.body) Xt true s=openGood q loose:=bR a;have b1:=bR b1;have b2:=bR b2;have c:=bR c;have c1:=uD Prod.fst c;have c2:=uD Prod.snd c;show some (_,nZ (fs1++n6) ms xs l s)=_;rw[a];have:nZ (fs1++n6) ms xs l s=o8 (fs1++n6) ms w:=by
   unfold nZ o8;rw[lY,lY];have b1:List.map _ fs1=List.map _ fs1:=b1;have b2:List.map _ n6=List.map _ n6:=b2;rw[b1,b2];exact Prod.ext rfl (Prod.ext c1 c2)
  rw[this]
inductive Tr where
 |em
 |lv (o:Obj)
 |nd (l r:Tr)
noncomputable def Tr.lf(t:Tr):Tr:=Tr.rec (motive:=λ_=>Tr) .em (λ_=>.em) (λl _ _ _=>l) t
noncomputable def Tr.rt(t:Tr):Tr:=Tr.rec (motive:=λ_=>Tr) .em (λ_=>.em) (λ_ r _ _=>r) t
noncomputable def Tr.get(d:Nat):Tr->Nat->Option Obj:=Nat.rec (motive:=λ_=>Tr->Nat->Option Obj) (λt _=>Tr.rec (motive:=λ_=>Option Obj) none (λo=>some o) (λ_ _ _ _=>none) t)
 (λ_ f t a=>cond (Nat.beq (Nat.mod a 2) 0) (f t.lf (Nat.div a 2)) (f t.rt (Nat.div a 2))) d
noncomputable def Tr.put(d:Nat):Tr->Nat->Obj->Tr:=Nat.rec (motive:=λ_=>Tr->Nat->Obj->Tr) (λ_ _ o=>.lv o)
 (λ_ f t a o=>cond (Nat.beq (Nat.mod a 2) 0) (.nd (f t.lf (Nat.div a 2) o) t.rt) (.nd t.lf (f t.rt (Nat.div a 2) o))) d
theorem Jm(a:Nat):(Nat.beq (a%2) 0=true/\a%2=0)\/(Nat.beq (a%2) 0=false/\a%2=1):=by
 rcases(show a%2=0\/a%2=1 by lia) with e|e<;>rw[e]
 ·exact .inl ⟨rfl,rfl⟩
 ·exact .inr ⟨rfl,rfl⟩
theorem Jo(o:Obj):∀(d:Nat) (t:Tr) (a:Nat),Tr.get d (Tr.put d t a o) a=some o
 |0,_,_=>rfl
 |d+1,t,a=>by
  have ih:=Jo o d;show cond (Nat.beq (a%2) 0) (Tr.get d (Tr.lf (cond (Nat.beq (a%2) 0) _ _)) (a/2)) (Tr.get d (Tr.rt (cond (Nat.beq (a%2) 0) _ _)) (a/2))=_;rcases Jm a with ⟨e,_⟩|⟨e,_⟩<;>rw[e]
  ·exact ih t.lf (a/2)
  ·exact ih t.rt (a/2)
theorem Jp(o:Obj):∀(d:Nat) (t:Tr) (a b:Nat),a<2^d->b<2^d->a≠b->Tr.get d (Tr.put d t a o) b=Tr.get d t b
 |0,_,a,b,h1,h2,h=>by lia
 |d+1,t,a,b,h1,h2,h=>by
  have ih:=Jp o d;show cond (Nat.beq (b%2) 0) (Tr.get d (Tr.lf (cond (Nat.beq (a%2) 0) _ _)) (b/2)) (Tr.get d (Tr.rt (cond (Nat.beq (a%2) 0) _ _)) (b/2))=cond (Nat.beq (b%2) 0) _ _;rw[Nat.pow_succ] at h1 h2;rcases Jm a with ⟨e,x⟩|⟨e,x⟩<;>rw[e]<;>rcases Jm b with ⟨f,y⟩|⟨f,y⟩<;>rw[f]
  ·exact ih t.lf (a/2) (b/2) gV gV gV
  ·rfl
  ·rfl
  ·exact ih t.rt (a/2) (b/2) gV gV gV
noncomputable def Xp(o:Option Obj):Option Obj:=match o with
 |some ⟨_,_,.freed,_⟩=>none
 |o=>o
noncomputable def mj(t:Tr)(z a:Nat):Option Obj:=cond (Nat.ble (Nat.succ a) z) (Xp (t.get 12 a)) none
structure Rl(t:Tr)(z:Nat)(h:Heap):Prop where
 sz:h.objs.size=z
 le:z<=4096
 at_:∀a,a<z->t.get 12 a=h.objs[a]?
theorem Rl.get{t:Tr}{z:Nat}{h:Heap}(r:Rl t z h)(a:Nat):mj t z a=h.get? a:=by
 unfold mj Heap.get?;by_cases e:a<z
 ·rw[show Nat.ble (Nat.succ a) z=true from Nat.ble_eq.mpr e,r.at_ a e];rfl
 ·rw[show Nat.ble (Nat.succ a) z=false from Bool.eq_false_iff.mpr λx=>e (Nat.ble_eq.mp x)];have:h.objs[a]?=none:=by simp only[Array.getElem?_eq_none_iff,r.sz];lia
  rw[this];rfl
theorem Rl.push{t:Tr}{z:Nat}{h:Heap}(r:Rl t z h)(o:Obj)(hz:z<4096):Rl (t.put 12 z o) (z+1) (h.push o):=by
 obtain⟨objs,l⟩:=h;obtain⟨sz,le,at_⟩:=r;dsimp only at sz at_;refine⟨by show (objs.push o).size=_;rw[Array.size_push,sz],hz,λa ha=>?_⟩;show _=(objs.push o)[a]?;by_cases e:a=z
 ·subst e;rw[Jo,Array.getElem?_push,if_pos sz.symm]
 ·rw[Jp o 12 t z a hz (by show a<4096;lia) (Ne.symm e),at_ a gV,Array.getElem?_push,if_neg gV]
theorem Rl.upd{t:Tr}{z:Nat}{h:Heap}(r:Rl t z h){a:Nat}{o:Obj}{f:Obj->Obj}(ho:h.get? a=some o):Rl (t.put 12 a (f o)) z (h.update a f):=by
 have ha:h.objs[a]?=some o:=(Heap.get?_some_iff.mp ho).1;obtain⟨objs,l⟩:=h;obtain⟨sz,le,at_⟩:=r;dsimp only at sz at_ ha;have hl:a<objs.size:=(Iv.mp ha).1;refine⟨by show (objs.modify a f).size=_;rw[Array.size_modify,sz],le,λb hb=>?_⟩;show _=(objs.modify a f)[b]?;rw[Array.getElem?_modify];by_cases e:a=b
 ·subst e;rw[Jo,if_pos rfl,ha];rfl
 ·rw[Jp _ 12 t a b (by show a<4096;lia) (by show b<4096;lia) e,at_ b hb,if_neg e]
inductive Xq where
 |ld (a:Addr) (k:Obj->Sem Fin)
 |la (a:Addr) (k:Option Obj->Sem Fin)
 |up (a:Addr) (f:Obj->Obj) (k:Unit->Sem Fin)
 |al (o:Obj) (k:Addr->Sem Fin)
 |st
 |no
noncomputable def vU:Sem Fin->Xq
 |.load a _ k=>.ld a k
 |.loadIfAlive a k=>.la a k
 |.update a _ f k=>.up a f k
 |.alloc o k=>.al o k
 |.pure _=>.st
 |.at ..=>.st
 |.rule ..=>.st
 |.ask _=>.st
 |.fresh _=>.st
 |.point ..=>.st
 |.stack _=>.st
 |.call ..=>.st
 |_=>.no
theorem Xr{den:Code->Sem Fin}{p:Program}{w:World}{h:Heap}{s s':Shared}{t t':Thread}(hn:vU t.cur=.st)(e:step den p w s t=.go s' t'):step den p w {s with heap:=h} t=.go {s' with heap:=h} t':=by
 obtain⟨cur,code,pos,stack⟩:=t;cases cur with
 |pure a=>
  cases a with
  |again c=>cases e;rfl
  |done f=>
   cases stack with
   |nil=>
    have e:(if leftWithCleanup s.gens=true then Step.halt _ _ else Step.halt _ _)=.go s' t':=e;split at e<;>cases e
   |cons r l=>cases r<;>cases e<;>rfl
 |«at»=>cases e;rfl
 |rule=>cases e;rfl
 |ask=>cases e;rfl
 |fresh=>cases e;rfl
 |point=>cases e;rfl
 |stack=>cases e;rfl
 |call=>cases e;rfl
 |_=>cases hn
theorem Xu{c:Sem Fin}{a:Addr}{k:Obj->Sem Fin}(h:vU c=.ld a k):∃q,c=.load a q k:=by
 cases c<;>cases h;exact⟨_,rfl⟩
theorem Xw{c:Sem Fin}{a:Addr}{k:Option Obj->Sem Fin}(h:vU c=.la a k):c=.loadIfAlive a k:=by
 cases c<;>cases h;rfl
theorem Xx{c:Sem Fin}{a:Addr}{f:Obj->Obj}{k:Unit->Sem Fin}(h:vU c=.up a f k):∃q,c=.update a q f k:=by
 cases c<;>cases h;exact⟨_,rfl⟩
theorem Xy{c:Sem Fin}{o:Obj}{k:Addr->Sem Fin}(h:vU c=.al o k):c=.alloc o k:=by
 cases c<;>cases h;rfl
noncomputable def lg(tb:String->Option Builtin)(p:Program)(w:World)(n₀:Nat)(ann:Option Value):Nat->Tr->Nat->Shared->Thread->Option (Tr×Nat×Shared)
 |0,_,_,_,_=>none
 |m+1,t,z,s,th=>match through th with
  |true=>some (t,z,s)
  |false=>match stepOk n₀ ann th with
   |false=>none
   |true=>match vU th.cur with
    |.ld a k=>(match mj t z a with
     |some o=>lg tb p w n₀ ann m t z s ⟨k o,th.code,th.pos,th.stack⟩
     |none=>none)
    |.la a k=>lg tb p w n₀ ann m t z s ⟨k (mj t z a),th.code,th.pos,th.stack⟩
    |.up a f k=>(match mj t z a with
     |some o=>lg tb p w n₀ ann m (t.put 12 a (f o)) z s ⟨k (),th.code,th.pos,th.stack⟩
     |none=>none)
    |.al o k=>(match Nat.succ z with
     |0=>none
     |n+1=>match Nat.ble n 4095 with
      |true=>lg tb p w n₀ ann m (t.put 12 n o) (n+1) s ⟨k n,th.code,th.pos,th.stack⟩
      |false=>none)
    |.st=>(match step (denote tb) p w s th with
     |.go s' t'=>lg tb p w n₀ ann m t z s' t'
     |.halt _ _=>none)
    |.no=>none
theorem Xz{tb:String->Option Builtin}{p:Program}{w:World}{n₀:Nat}{ann:Option Value}:∀(m:Nat) {t t':Tr} {z z':Nat} {s s':Shared} {th:Thread} {h:Heap},Rl t z h->lg tb p w n₀ ann m t z s th=some (t',z',s')->
  ∃h',Rl t' z' h'/\h'.life=h.life/\topRun tb p w n₀ ann m {s with heap:=h} th=some {s' with heap:=h'}:=by
 intro m
 induction m with
 |zero=>intro t t' z z' s s' th h r e;cases e
 |succ m ih=>
  intro t t' z z' s s' th h r e;unfold lg at e;unfold topRun;cases ht:through th with
  |true=>
   rw[ht] at e;cases e;exact⟨h,r,rfl,rfl⟩
  |false=>
   rw[ht] at e;cases hk:stepOk n₀ ann th with
   |false=>rw[hk] at e;cases e
   |true=>
    rw[hk] at e;dsimp only at e ⊢;cases ho:vU th.cur with
    |no=>rw[ho] at e;cases e
    |st=>
     rw[ho] at e;cases hs:step (denote tb) p w s th with
     |halt _ _=>rw[hs] at e;cases e
     |go s1 t1=>
      rw[hs] at e;rw[Xr (h:=h) ho hs];exact ih r e
    |ld a k=>
     rw[ho] at e;dsimp only at e;cases hg:mj t z a with
     |none=>rw[hg] at e;cases e
     |some o=>
      rw[hg] at e;rw[r.get] at hg;obtain⟨cur,code,pos,stack⟩:=th;obtain⟨q,rfl⟩:=Xu ho;simp only[step,hg];exact ih r e
    |la a k=>
     rw[ho] at e;obtain⟨cur,code,pos,stack⟩:=th;obtain rfl:=Xw ho;obtain⟨h',a1,b,c⟩:=ih r e;rw[r.get] at c;exact⟨h',a1,b,c⟩
    |up a f k=>
     rw[ho] at e;dsimp only at e;cases hg:mj t z a with
     |none=>rw[hg] at e;cases e
     |some o=>
      rw[hg] at e;rw[r.get] at hg;obtain⟨cur,code,pos,stack⟩:=th;obtain⟨q,rfl⟩:=Xx ho;obtain⟨h',a1,b,c⟩:=ih (r.upd hg) e;refine⟨h',a1,b.trans (by cases h;rfl),?_⟩;simp only[step,hg];exact c
    |al o k=>
     rw[ho] at e;cases hb:Nat.ble z 4095 with
     |false=>dsimp only at e;rw[hb] at e;cases e
     |true=>
      dsimp only at e;rw[hb] at e;obtain⟨cur,code,pos,stack⟩:=th;obtain rfl:=Xy ho;obtain⟨h',a1,b,c⟩:=ih (r.push o (by have:=Nat.ble_eq.mp hb;lia)) e;refine⟨h',a1,b.trans (by cases h;rfl),?_⟩;simp only[step,r.sz];exact c
noncomputable def lst(g:Nat->Option Obj):Nat->Nat->List Obj
 |0,_=>[]
 |n+1,i=>match g i with
  |some o=>o::lst g n (i+1)
  |none=>[]
theorem Qz{g:Nat->Option Obj}:∀{l:List Obj} {i:Nat},(∀j,j<l.length->g (i+j)=l[j]?)->lst g l.length i=l
 |[],_,_=>rfl
 |o::l,i,h=>by
  have h0:=h 0 (Nat.zero_lt_succ _);show (match g i with|some o=>o::lst g l.length (i+1)|none=>[])=_;rw[show g i=some o from h0,Qz (l:=l) λj hj=>by rw[show i+1+j=i+(j+1) by lia];exact h (j+1) (Nat.succ_lt_succ hj)]
noncomputable def uF(t:Tr)(z:Nat)(l:Life):Heap:=⟨⟨lst (t.get 12) z 0⟩,l⟩
theorem Rl.uF{t:Tr}{z:Nat}{h:Heap}(r:Rl t z h):uF t z h.life=h:=by
 obtain⟨⟨objs⟩,l⟩:=h;have sz:objs.length=z:=r.sz;subst sz;unfold Mi.uF;rw[Qz λj hj=>by rw[Nat.zero_add];exact(r.at_ j hj).trans J0]
noncomputable def Gk:List Obj->Nat->Tr->Tr
 |[],_,t=>t
 |o::r,i,t=>Gk r (i+1) (t.put 12 i o)
theorem QB{l:Life}:∀{r a:List Obj} {t:Tr},(a++r).length<=4096->Rl t a.length ⟨⟨a⟩,l⟩->Rl (Gk r a.length t) (a++r).length ⟨⟨a++r⟩,l⟩
 |[],a,t,_,h=>by rw[lZ];exact h
 |o::r,a,t,hl,h=>by
  have h2:=h.push o (by rw[bO,gB] at hl;lia);have e:a++o::r=(a++[o])++r:=by simp
  rw[e] at hl ⊢;have h3:=QB (l:=l) (r:=r) (a:=a++[o]) (t:=t.put 12 a.length o) hl (by
   rw[bO];have e2:(⟨⟨a++[o]⟩,l⟩ : Heap)=Heap.push ⟨⟨a⟩,l⟩ o:=by unfold Heap.push;simp
   rw[e2];exact h2)
  rw[bO] at h3;exact h3
noncomputable def o9(p:Program)(w:World)(N:Nat):Option Shared:=(fencedOpening treeTable p w N).bind λs₀=>match s₀.heap.isNs mainGlobals&&s₀.gens.size==0&&Nat.ble s₀.heap.objs.size 4096 with
 |true=>(lg treeTable p w s₀.heap.objs.size (s₀.heap.nsMap mainGlobals "__annotations__") N (Gk s₀.heap.objs.toList 0 .em) s₀.heap.objs.size s₀ (topStub p)).bind λr=>
  match staticsOk (importedModules p.main.body) s₀.heap (uF r.1 r.2.1 s₀.heap.life)&&namesBound p (uF r.1 r.2.1 s₀.heap.life)&&gensDone r.2.2&&laidKept s₀.heap (uF r.1 r.2.1 s₀.heap.life) with
   |true=>some {r.2.2 with heap:=uF r.1 r.2.1 s₀.heap.life}
   |false=>none
 |false=>none
theorem XD{p:Program}{w:World}{N:Nat}{s:Shared}(e:o9 p w N=some s):openEnds treeTable p w N=some s:=by
 unfold o9 at e;unfold openEnds;obtain⟨s₀,h0,e⟩:=uf.mp e;rw[h0];show topFrom treeTable p w N s₀=some s;unfold topFrom;cases hb:(s₀.heap.isNs mainGlobals&&s₀.gens.size==0&&Nat.ble s₀.heap.objs.size 4096) with
 |false=>rw[hb] at e;cases e
 |true=>
  rw[hb] at e;obtain⟨h1,h2⟩:=Je.mp hb;rw[h1];obtain⟨⟨t,z,s₁⟩,h3,e⟩:=uf.mp e;have r0:Rl (Gk s₀.heap.objs.toList 0 .em) s₀.heap.objs.size s₀.heap:=QB (l:=s₀.heap.life) (r:=s₀.heap.objs.toList) (a:=[]) (t:=.em) (Nat.ble_eq.mp h2) ⟨rfl,uy _,λa ha=>absurd ha (Ga a)⟩;obtain⟨h',r,l,c⟩:=Xz N r0 h3;dsimp only at e ⊢;rw[show ({s₀ with heap:=s₀.heap}:Shared)=s₀ from rfl] at c;rw[c];rw[<-l,r.uF] at e;exact e
theorem fe{p:Program}{w:World}{N:Nat}{α:Type}{f:Shared->α}{v:α}(e:(o9 p w N).map f=some v):(openEnds treeTable p w N).map f=some v:=by
 obtain⟨s,h,e⟩:=kZ.mp e;rw[XD h,<-e];rfl
end Mi
namespace dG
open PySem PySem.Spec PyProof.Rows PySem.W L2 Mi
noncomputable def top(i:Nat):Stmt:=PySem.Challenge.pw_ringhues_k25_full_rounds_told.main.body.getD i (.Pass ⟨0,0,0,0⟩)
noncomputable def fs1:List (Str×Stmt):=("is_whole",top 6)::("is_within",top 7)::("is_row",top 8)::("is_ring",top 11)::("is_spot",top 12)::("check_ring",top 13)::("gap_of",top 14)::("is_web",top 17)::("is_many",top 18)::("is_place",top 19)::("is_tie",top 20)::("check_web",top 21)::("tied_to",top 22)::("all_ends",top 23)::("are_spots",top 25)::("are_hues",top 26)::("check_hues",top 27)::("clash_of",top 28)::[]
noncomputable def n6:List (Str×Stmt):=("full_rounds",top 30)::("full_nexts",top 31)::("rounds_among",top 32)::("gather_rounds",top 33)::("_law_cell",top 35)::("_law_pen",top 36)::("_law_draw",top 37)::("_law_whole",top 38)::("_law_web",top 39)::("_law_apart",top 40)::("_law_fit_spots",top 41)::("_law_first",top 42)::("_law_tight",top 43)::("_law_few",top 44)::("_law_some_hues",top 45)::("_law_is_next",top 46)::("_law_rounds",top 47)::("_law_right",top 48)::("law",top 49)::[]
noncomputable abbrev fs:List (Str×Stmt):=fs1++n6
noncomputable def lk:Lk:=⟨[],[("MOST_SPOTS",24),("MOST_PLACES",8)],["abs","all","bool","divmod","enumerate","int","isinstance","len","list","max","min","range","sorted","tuple","zip"],[],[]⟩
noncomputable def ms:List rC:=[]
noncomputable def xs:List (Nat×Str):=[]
noncomputable abbrev pv:Program:=PySem.Challenge.pw_ringhues_k25_full_rounds_told
noncomputable def qv:Program:={pv with main:={pv.main with body:=[pv.main.body.getD 49 (.Pass ⟨0,0,0,0⟩)]}}
noncomputable def loose:List Str:=(["HueError","NoRing","NoHues","NoWeb","is_whole","is_within","is_row","MOST_SPOTS","is_ring","is_spot","check_ring","gap_of","MOST_PLACES","is_web","is_many","is_place","is_tie","check_web","tied_to","all_ends","are_spots","are_hues","check_hues","clash_of","full_rounds","full_nexts","rounds_among","gather_rounds","_law_cell","_law_pen","_law_draw","_law_whole","_law_web","_law_apart","_law_fit_spots","_law_first","_law_tight","_law_few","_law_some_hues","_law_is_next","_law_rounds","_law_right"]:List String).map Str.ofString
theorem XH(w:World):(openEnds treeTable pv w 20000).map (λs=>openSeen qv loose (importedModules pv.main.body) (λs=>xlAt qv [] s&&recOk [] s) true s)=some (openGood qv loose):=by
 refine fe ?_
 kernel_rfl
theorem XJ(w:World):(openEnds treeTable pv w 20000).map (Gj fs1)=some (fs1.map λp=>some (qD p.1 p.2)):=by
 refine fe ?_
 kernel_rfl
theorem XM(w:World):(openEnds treeTable pv w 20000).map (Gj n6)=some (n6.map λp=>some (qD p.1 p.2)):=by
 refine fe ?_
 kernel_rfl
theorem XQ(w:World):(openEnds treeTable pv w 20000).map (Qy ms xs lk)=some (ms.map (λm=>some (vR m.q m.st)),true):=by
 refine fe ?_
 kernel_rfl
theorem ws:PySem.Challenge.rw_ringhues_k25_full_rounds_told.wellSaid=true:=by
 kernel_rfl
theorem left:LeftO pv qv loose (λs=>xlAt qv [] s&&recOk [] s) (nZ fs ms xs lk) (o8 fs ms) 20000:=Xo XH XJ XM XQ
end dG
namespace L2
open PySem PySem.Spec PyProof.Rows
theorem eY{α:Sort u}{β:Sort v}{A B C:α->β->Prop}{P:Prop}(h:∃x y,A x y/\B x y/\C x y)(k:∀x y,A x y->B x y->C x y->P):P:=by
 obtain⟨x,y,a,b,c⟩:=h;exact k x y a b c
theorem Jq{α:Sort u}{β:Sort v}{γ:Sort w}{A B:α->β->Prop}{C D:α->β->γ->Prop}{P:Prop}(h:∃x y,A x y/\B x y/\∃z,C x y z/\D x y z)(k:∀x y,A x y->B x y->∀z,C x y z->D x y z->P):P:=by
 obtain⟨x,y,a,b,z,c,d⟩:=h;exact k x y a b z c d
theorem qF{α:Sort u}{A B:α->Prop}{P:Prop}(h:∃x,A x/\B x)(k:∀x,A x->B x->P):P:=by
 obtain⟨x,a,b⟩:=h;exact k x a b
noncomputable abbrev Key:=Sum Int Str
noncomputable def uG:Key->Value->Bool
 |.inl k,v=>Value.isInt k v
 |.inr x,v=>Value.isStrOf x v
noncomputable def Jr(w:World):Key->Int
 |.inl k=>hashInt k
 |.inr x=>hashStr w x
theorem rD:∀{k:Key} {v:Value},uG k v=true->(∃i t,k=Sum.inl i/\v=Value.int i t)\/(∃x t,k=Sum.inr x/\v=Value.str x t)
 |.inl i,v,h=>by
  obtain⟨t,e⟩:=Value.isInt_shape (k:=i) (v:=v) h;exact .inl ⟨i,t,rfl,e⟩
 |.inr x,v,h=>by
  obtain⟨t,e⟩:=Value.isStrOf_shape (x:=x) (v:=v) h;exact .inr ⟨x,t,rfl,e⟩
theorem XR(a b:Int):decide ((Sum.inl a:Key)=Sum.inl b)=(a==b):=by
 by_cases e:a=b
 ·subst e;simp
 ·have h:¬(Sum.inl a:Key)=Sum.inl b:=λq=>e (Sum.inl.inj q);rw[eU h];exact(beq_eq_false_iff_ne.mpr e).symm
theorem X3(a b:Str):decide ((Sum.inr a:Key)=Sum.inr b)=decide (a=b):=by
 by_cases e:a=b
 ·subst e;simp
 ·have h:¬(Sum.inr a:Key)=Sum.inr b:=λq=>e (Sum.inr.inj q);rw[eU h,eU e]
theorem X4(a:Int)(b:Str):decide ((Sum.inl a:Key)=Sum.inr b)=false:=eU (λq=>nomatch q)
theorem X5(a:Str)(b:Int):decide ((Sum.inr a:Key)=Sum.inl b)=false:=eU (λq=>nomatch q)
noncomputable def m5(prog:Program)(w:World):PySem.KeyKind prog w Key where
 is:=uG
 hash:=Jr w
 inj:=λv a b ha hb=>by
  rcases rD ha with ⟨i,t,rfl,rfl⟩|⟨x,t,rfl,rfl⟩
  ·rcases rD hb with ⟨j,u,rfl,e⟩|⟨y,u,rfl,e⟩
   ·injection e with e1 _;rw[e1]
   ·exact nomatch e
  ·rcases rD hb with ⟨j,u,rfl,e⟩|⟨y,u,rfl,e⟩
   ·exact nomatch e
   ·injection e with e1 _;rw[e1]
 byValue:=λk v h=>by
  rcases rD h with ⟨i,t,rfl,rfl⟩|⟨x,t,rfl,rfl⟩<;>rfl
 pyHash:=λhv h=>by
  rcases rD hv with ⟨i,t,rfl,rfl⟩|⟨x,t,rfl,rfl⟩
  ·exact wpAny_pyHash_int h
  ·exact wpAny_pyHash_str h
 eqBool:=λhu hv h=>by
  rcases rD hu with ⟨i,t,rfl,rfl⟩|⟨x,t,rfl,rfl⟩
  ·rcases rD hv with ⟨j,u,rfl,rfl⟩|⟨y,u,rfl,rfl⟩
   ·rw[XR] at h;exact wpAny_eqBool_int h
   ·rw[X4] at h;exact SeqAt.EqAt.int_str i t y u _ _ _ _ h
  ·rcases rD hv with ⟨j,u,rfl,rfl⟩|⟨y,u,rfl,rfl⟩
   ·rw[X5] at h;exact SeqAt.EqAt.str_int x t j u _ _ _ _ h
   ·rw[X3] at h;exact wpAny_eqBool_str h
 «strs»:=λk x t v h=>by
  rcases rD h with ⟨i,u,rfl,e⟩|⟨y,u,rfl,e⟩
  ·exact nomatch e
  ·injection e with e1 _;subst e1;cases v<;>rfl
inductive V where
 |non|bl (b:Bool)|int (i:Int)|str (x:Str)|Gm (b:Array UInt8)|flt (b:UInt64)|ref (a:Addr)|ty (n:String)
 deriving DecidableEq
noncomputable def RelV:V->Value->Prop
 |.non,u=>u=Value.none
 |.bl b,u=>u=Value.bool b
 |.int i,u=>∃t,u=Value.int i t
 |.str x,u=>∃t,u=Value.str x t
 |.Gm b,u=>∃t,u=Value.bytes b t
 |.flt b,u=>∃t,u=Value.float b t
 |.ref a,u=>u=Value.ref a
 |.ty n,u=>u=Value.type n
noncomputable abbrev Vals:List V->List Value->Prop:=Paired RelV
theorem Vals.length{xs:List V}{us:List Value}(r:Vals xs us):xs.length=us.length:=Paired.length r
theorem Vals.get:∀{xs:List V} {us:List Value} {i:Nat} {x:V},Vals xs us->xs[i]?=some x->∃u,us[i]?=some u/\RelV x u
 |_,_,_,_,.nil,e=>by simp at e
 |_,_,0,_,.cons r _,e=>by simp at e;subst e;exact⟨_,rfl,r⟩
 |_,_,i+1,x,.cons _ t,e=>by
  obtain⟨u,h1,h2⟩:=Vals.get (i:=i) (x:=x) t (by simpa using e);exact⟨u,by simpa using h1,h2⟩
theorem Vals.set{x:V}{u:Value}(r:RelV x u):∀{xs:List V} {us:List Value} (i:Nat),Vals xs us->Vals (xs.set i x) (us.set i u)
 |_,_,_,.nil=>.nil
 |_,_,0,.cons _ t=>.cons r t
 |_,_,i+1,.cons q t=>.cons q (Vals.set r i t)
theorem Vals.append{xs ys:List V}{us ws:List Value}(h:Vals xs us)(s:Vals ys ws):Vals (xs++ys) (us++ws):=by
 induction h with
 |nil=>exact s
 |cons r _ ih=>exact .cons r ih
theorem Vals.take:∀{xs:List V} {us:List Value} (n:Nat),Vals xs us->Vals (xs.take n) (us.take n)
 |_,_,0,_=>.nil
 |_,_,_+1,.nil=>.nil
 |_,_,n+1,.cons r t=>.cons r (Vals.take n t)
theorem Vals.drop:∀{xs:List V} {us:List Value} (n:Nat),Vals xs us->Vals (xs.drop n) (us.drop n)
 |_,_,0,r=>r
 |_,_,_+1,.nil=>.nil
 |_,_,n+1,.cons _ t=>Vals.drop n t
noncomputable def Am:Option V->Option Value->Prop
 |some v,some u=>RelV v u
 |none,none=>True
 |_,_=>False
noncomputable def KV{κ:Type}:List (κ×V)->List (κ×Value)->Prop:=Paired λ(p:κ×V) (q:κ×Value)=>p.1=q.1/\RelV p.2 q.2
noncomputable def kV:Key->V
 |.inl i=>.int i
 |.inr x=>.str x
inductive HO where
 |lst (xs:List V)
 |tup (xs:List V)
 |dK (kvs:List (Key×V))|dT (kvs:List (List Key×V))
 |set (S:Int->Bool) (n:Nat)
 |ins (C dx:Addr) (fs:List (Str×V))
 |own (x:Addr)
 |xd (fs:List (Str×V))
 |met (f x:Addr)
 |rng (lo hi:Int)
 |qG (o:Obj) (u:HO)
 |vV (ps:Array Value)
 |ext (U:Heap->Prop)
noncomputable abbrev Hp:=Addr->Option HO
noncomputable def upd(H:Hp)(a:Addr)(o:HO):Hp:=λb=>if b=a then some o else H b
theorem lq{H:Hp}{a:Addr}{o:HO}:upd H a o a=some o:=by unfold upd;rw[if_pos rfl]
theorem dR{H:Hp}{a b:Addr}{o:HO}(h:b≠a):upd H a o b=H b:=by unfold upd;rw[if_neg h]
theorem X6{H:Hp}{a:Addr}{o u:HO}:upd (upd H a o) a u=upd H a u:=by
 funext b;unfold upd;split<;>rfl
theorem yK{H:Hp}{a b:Addr}{o:HO}(h:H a=some o)(h':H b=none):a≠b:=by
 intro e;subst e;rw[h] at h';cases h'
section
variable (P:Program)(w:World)
noncomputable def bF(H:Hp)(h:Heap)(a:Addr):HO->Prop
 |.lst xs=>xs.length<=sizeLine/\∃(its:List Value) (n:Nat),Vals xs its/\h.get? a=some {cls:=.type "list",data:=.seq its.toArray n}
 |.tup xs=>xs.length<=sizeLine/\∃its:List Value,Vals xs its/\IsTup h a its.toArray
 |.dK kvs=>kvs.length<=sizeLine/\(a==sysModules)=false/\∃vs,KV kvs vs/\h.DictOf (m5 P w) a vs
 |.dT kvs=>kvs.length<=sizeLine/\(a==sysModules)=false/\∃xs:List (List Key×Addr×Value),
   Paired (λ(p:List Key×V) (q:List Key×Addr×Value)=>p.1=q.1/\H q.2.1=some (.tup (p.1.map kV))/\RelV p.2 q.2.2) kvs xs /\
   ∃o es ep,h.get? a=some o/\o.ExactDict/\o.data=.dict es ep/\es.toList=xs.map (entryOfKey (tupleKind (m5 P w)))/\(xs.map (·.1)).Nodup
 |.set S n=>h.SetOf (intKind P w) a S n
 |.ins C dx fs=>H dx=some (.own a)/\fs.length<=1000/\dx≠a/\h.get? a=some (PySem.W.instObj C dx) /\
   ∃mA,h.Ns1 dx mA/\(∀f,Am (fs.lookup f) (mA f))/\PySem.Within mA (fs.map (·.1))
 |.own _=>∃o,h.get? a=some o
 |.xd fs=>∃mA,h.Ns1 a mA/\∀f,Am (fs.lookup f) (mA f)
 |.rng lo hi=>∃t u v,h.get? a=some {cls:=.type "range",data:=.fields #[.int lo t,.int hi u,.int 1 v]}
 |.qG o u=>h.get? a=some o/\bF H h a u
 |.vV ps=>h.get? a=some {cls:=.none,data:=.fields ps}
 |.met f x=>h.get? a=some (PySem.W.methodObj (.ref f) (.ref x))
 |.ext U=>U h/\(∃o,h.get? a=some o)/\∀h1 h2:Heap,U h1->(∀o,h1.get? a=some o->h2.get? a=some o)->U h2
def gD(H:Hp)(h:Heap):Prop:=∀a o,H a=some o->bF P w H h a o
end
section
variable {P:Program}{w:World}{H H':Hp}{h h':Heap}{a:Addr}{o:HO}
theorem bF.lt(x:bF P w H h a o):a<h.objs.size:=by
 cases o with
 |lst xs=>obtain⟨_,_,_,_,e⟩:=x;exact bW e
 |tup xs=>obtain⟨_,_,_,p⟩:=x;exact p.lt
 |dK kvs=>obtain⟨_,_,_,_,o,_,_,e,_⟩:=x;exact bW e
 |dT kvs=>obtain⟨_,_,_,_,o,_,_,e,_⟩:=x;exact bW e
 |set S n=>obtain⟨o,_,_,_,e,_⟩:=x;exact bW e
 |ins C dx fs=>obtain⟨_,_,_,e,_⟩:=x;exact bW e
 |own y=>obtain⟨_,e⟩:=x;exact bW e
 |xd fs=>obtain⟨_,⟨_,_,_,e,_⟩,_⟩:=x;exact bW e
 |rng lo hi=>obtain⟨_,_,_,e⟩:=x;exact bW e
 |qG ob u=>obtain⟨e,_⟩:=x;exact bW e
 |vV ps=>exact bW (show h.get? a=some _ from x)
 |met f y=>exact bW (show h.get? a=some _ from x)
 |ext U=>obtain⟨_,⟨_,e⟩,_⟩:=x;exact bW e
theorem QC{α β:Type}{F G:α->β->Prop}:∀{l₁:List α} {l₂:List β},Paired F l₁ l₂->(∀a b,F a b->G a b)->Paired G l₁ l₂
 |_,_,.nil,_=>.nil
 |_,_,.cons r t,f=>.cons (f _ _ r) (QC t f)
theorem bF.stay(x:bF P w H h a o)(k:∀b u,(b=a\/H b=some (.own a))->h.get? b=some u->h'.get? b=some u)
  (ho:∀b,H b=some (.own a)->H' b=some (.own a)) (ht:∀b xs,H b=some (.tup xs)->H' b=some (.tup xs)):bF P w H' h' a o:=by
 induction o with
 |lst xs=>obtain⟨z,its,n,r,e⟩:=x;exact⟨z,its,n,r,k _ _ (.inl rfl) e⟩
 |tup xs=>obtain⟨z,its,r,ob,e,c⟩:=x;exact⟨z,its,r,ob,k _ _ (.inl rfl) e,c⟩
 |dK kvs=>obtain⟨z,y,vs,r,ob,es,ep,e,c⟩:=x;exact⟨z,y,vs,r,ob,es,ep,k _ _ (.inl rfl) e,c⟩
 |dT kvs=>
  obtain⟨z,y,xs,r,ob,es,ep,e,c⟩:=x;exact⟨z,y,xs,QC r λp q z=>⟨z.1,ht _ _ z.2.1,z.2.2⟩,ob,es,ep,k _ _ (.inl rfl) e,c⟩
 |set S n=>obtain⟨ob,es,ep,t,e,c⟩:=x;exact⟨ob,es,ep,t,k _ _ (.inl rfl) e,c⟩
 |ins C dx fs=>
  obtain⟨d,z,ne,e,mA,⟨od,es,ep,e2,c⟩,r⟩:=x;exact⟨ho _ d,z,ne,k _ _ (.inl rfl) e,mA,⟨od,es,ep,k _ _ (.inr d) e2,c⟩,r⟩
 |own y=>obtain⟨ob,e⟩:=x;exact⟨ob,k _ _ (.inl rfl) e⟩
 |xd fs=>obtain⟨mA,⟨od,es,ep,e,c⟩,r⟩:=x;exact⟨mA,⟨od,es,ep,k _ _ (.inl rfl) e,c⟩,r⟩
 |rng lo hi=>obtain⟨t,u,v,e⟩:=x;exact⟨t,u,v,k _ _ (.inl rfl) e⟩
 |qG ob u ih=>obtain⟨e,q⟩:=x;exact⟨k _ _ (.inl rfl) e,ih q⟩
 |vV ps=>
  have e:h.get? a=some {cls:=.none,data:=.fields ps}:=x;show h'.get? a=some {cls:=.none,data:=.fields ps};exact k a _ (.inl rfl) e
 |met f y=>
  have e:h.get? a=some (PySem.W.methodObj (.ref f) (.ref y)):=x;show h'.get? a=some (PySem.W.methodObj (.ref f) (.ref y));exact k a _ (.inl rfl) e
 |ext U=>obtain⟨p,⟨o,e⟩,st⟩:=x;exact⟨st _ _ p λo q=>k _ _ (.inl rfl) q,⟨o,k _ _ (.inl rfl) e⟩,st⟩
theorem gD.lt(x:gD P w H h)(e:H a=some o):a<h.objs.size:=(x a o e).lt
theorem gD.fresh(x:gD P w H h)(e:h.objs.size<=a):H a=none:=by
 cases q:H a with
 |none=>rfl
 |some u=>exact absurd (gq (x.lt q) e) (nY _)
theorem gD.kept(x:gD P w H h)(k:∀b u,h.get? b=some u->h'.get? b=some u):gD P w H h':=λa o e=>
 (x a o e).stay (λb u _ q=>k b u q) (λ_ q=>q) λ_ _ q=>q
theorem gD.laid(x:gD P w H h)(k:∀b u,h.get? b=some u->h'.get? b=some u)(hp:h.objs.size<=a)(new:bF P w (upd H a o) h' a o):gD P w (upd H a o) h':=λb u e=>by
 have hn:=x.fresh hp;by_cases hb:b=a
 ·subst hb;rw[lq] at e;cases e;exact new
 ·rw[dR hb] at e;exact(x b u e).stay (λc v _ q=>k c v q) (λc q=>by rw[dR (yK q hn)];exact q) λc xs q=>by rw[dR (yK q hn)];exact q
end
def Rd(H:Hp)(a:Addr)(u:HO):Prop:=H a=some u\/∃o,H a=some (.qG o u)
theorem Rd.ok{P:Program}{w:World}{H:Hp}{h:Heap}{a:Addr}{u:HO}(r:Rd H a u)(x:gD P w H h):bF P w H h a u:=by
 rcases r with r|⟨o,r⟩
 ·exact x a u r
 ·obtain⟨_,q⟩:=x a _ r;exact q
noncomputable def Gn:Option HO->Prop
 |some (.lst _)=>True
 |some (.dK _)=>True
 |some (.dT _)=>True
 |some (.set _ _)=>True
 |some (.ins _ _ _)=>True
 |some (.ext _)=>True
 |_=>False
section
variable {P:Program}{w:World}{H:Hp}{h h':Heap}{x e:Addr}{o':HO}
theorem gD.write(ok:gD P w H h)(mu:Gn (H x))(he:e=x\/H e=some (.own x))(k:∀b u,b≠e->h.get? b=some u->h'.get? b=some u)(yL:∃u,h'.get? e=some u)
  (new:bF P w (upd H x o') h' x o'):gD P w (upd H x o') h':=λb u q=>by
 have Ao:∀c y,H c=some (.own y)->c≠x:=λc y r z=>by subst z;rw[r] at mu;exact mu
 have Js:∀c xs,H c=some (.tup xs)->c≠x:=λc xs r z=>by subst z;rw[r] at mu;exact mu
 by_cases hb:b=x
 ·subst hb;rw[lq] at q;cases q;exact new
 ·rw[dR hb] at q;by_cases vW:b=e
  ·have q':H b=some (.own x):=by
    rcases he with z|z
    ·exact absurd (vW.trans z) hb
    ·rw[vW];exact z
   rw[q] at q';cases q';obtain⟨v,hv⟩:=yL;exact⟨v,by rw[vW];exact hv⟩
  ·refine(ok b u q).stay (λc v hc r=>k c v ?_ r) (λc r=>by rw[dR (Ao c b r)];exact r) λc xs r=>by rw[dR (Js c xs r)];exact r
   rcases hc with rfl|hc
   ·exact vW
   ·rintro rfl;rcases he with z|z
    ·exact Ao c b hc z
    ·rw[hc] at z;cases z;exact hb rfl
end
structure Un(fs ex:List Addr)(H H':Hp)(h h':Heap):Prop where
 keep:∀b o,h.get? b=some o->H b=none->b∉fs->b∉ex->h'.get? b=some o
 slot:∀b o,h.get? b=some o->H b=none->b∈fs->b∉ex->∃sl,h'.get? b=some {o with slots:=sl}
 free:∀b o,h.get? b=some o->H b=none->b∉ex->H' b=none
 there:∀b o,h.get? b=some o->b∉ex->∃o',h'.get? b=some o'
 tups:∀b xs,H b=some (.tup xs)->H' b=some (.tup xs)
 iY:∀b o u,H b=some (.qG o u)->H' b=some (.qG o u)
 jB:∀b ps,H b=some (.vV ps)->∃more,H' b=some (.vV (ps++more))
section
variable {fs fs' ex ex':List Addr}{H H1 H2:Hp}{h h1 h2 h':Heap}{a x e:Addr}{o:HO}
theorem Un.any(u:Un fs ex H H1 h h1){b:Addr}{ob:Obj}(q:h.get? b=some ob)(n:H b=none)(hx:b∉ex):∃sl,h1.get? b=some {ob with slots:=sl}:=by
 by_cases hb:b∈fs
 ·exact u.slot b ob q n hb hx
 ·exact⟨ob.slots,u.keep b ob q n hb hx⟩
theorem Un.kept(k:∀b u,h.get? b=some u->h'.get? b=some u):Un fs ex H H h h':=
 ⟨λb ob q _ _ _=>k b ob q,λb ob q _ _ _=>⟨ob.slots,k b ob q⟩,λ_ _ _ n _=>n,λb ob q _=>⟨ob,k b ob q⟩,λ_ _ q=>q,λ_ _ _ q=>q,λ_ ps q=>⟨#[],by rw[q];simp⟩⟩
theorem Un.refl:Un fs ex H H h h:=Un.kept λ_ _ q=>q
theorem Un.laid(k:∀b u,h.get? b=some u->h'.get? b=some u)(hp:h.objs.size<=a)(hn:H a=none):Un fs ex H (upd H a o) h h' where
 keep:=λb u q _ _ _=>k b u q
 slot:=λb u q _ _ _=>⟨u.slots,k b u q⟩
 free:=λb u q n _=>by rw[dR (fL (gq (bW q) hp))];exact n
 there:=λb u q _=>⟨u,k b u q⟩
 tups:=λb xs q=>by rw[dR (yK q hn)];exact q
 iY:=λb u xs q=>by rw[dR (yK q hn)];exact q
 jB:=λb ps q=>⟨#[],by rw[dR (yK q hn),q];simp⟩
theorem Un.write(mu:Gn (H x))(he:e=x\/H e=some (.own x))(k:∀b u,b≠e->h.get? b=some u->h'.get? b=some u)(yL:∃u,h'.get? e=some u):Un fs ex H (upd H x o) h h':=by
 have hx:∀b,H b=none->b≠x:=λb n z=>by subst z;rw[n] at mu;exact mu
 have hb:∀b,H b=none->b≠e:=λb n z=>by
  subst z;rcases he with r|r
  ·exact hx b n r
  ·rw[n] at r;cases r
 have hm:∀b u,H b=some u->¬Gn (some u)->b≠x:=λb u q nm z=>by subst z;rw[q] at mu;exact nm mu
 refine⟨λb u q n _ _=>k b u (hb b n) q,λb u q n _ _=>⟨u.slots,k b u (hb b n) q⟩,λb u q n _=>by rw[dR (hx b n)];exact n,λb u q _=>?_,
  λb xs q=>by rw[dR (hm b _ q λz=>z)];exact q,λb u xs q=>by rw[dR (hm b _ q λz=>z)];exact q,λb ps q=>⟨#[],by rw[dR (hm b _ q λz=>z),q];simp⟩⟩
 by_cases vW:b=e
 ·subst vW;exact yL
 ·exact⟨u,k b u vW q⟩
end
noncomputable def Gp(h:Heap)(H:Hp):List Addr:=(List.range h.objs.size).filter λa=>(H a).isSome
noncomputable def jC(h:Heap)(H:Hp):Heap:=PySem.W.hideAll h (Gp h H)
theorem X7(h:Heap)(H:Hp):(jC h H).objs.size=h.objs.size:=PySem.W.hideAll_size _ _
theorem X8{h:Heap}{H:Hp}{b:Addr}{o:Obj}(e:h.get? b=some o)(n:H b=none):(jC h H).get? b=some o:=
 PySem.W.hideAll_get _ e λhm=>by
  have q:(H b).isSome=true:=(iw.mp hm).2;rw[n] at q;simp at q
theorem X_{h:Heap}{H:Hp}{b:Addr}{o:Obj}(e:(jC h H).get? b=some o):h.get? b=some o/\H b=none:=by
 have e':h.get? b=some o:=PySem.W.of_hideAll (Gp h H) e;refine⟨e',?_⟩;cases q:H b with
 |none=>rfl
 |some x=>
  have hm:b∈Gp h H:=iw.mpr ⟨kh.mpr (bW e'),by simp[q]⟩;have z:(jC h H).get? b=none:=PySem.W.hideAll_none (Gp h H) hm;rw[z] at e;cases e
structure Mod(K:W.Frag)(mg:Str->Option Value)(base:Heap):Prop where
 yJ:K.In base
 glob:base.Ns mainGlobals mg
 blt:∃mb,base.Ns builtinsNs mb/\∀x:Str,x≠"__name__"->mb x=bootBuiltins x
 nolimit:base.NoLimit
structure Cx where
 prog:Program
 w:World
 K:W.Frag
 mg:Str->Option Value
 base:Heap
 A:Around
 N:List Str
 s₀:Shared
 H₀:Hp
 env:Env
 outer:List Env
 stack:List Env
 ex:List Addr
 fn:Str->Bool
 aj:Bool
 pn:List (Addr×Obj)
 xe:Value->Shared->Prop
noncomputable def frs(l:List Env):List Addr:=l.filterMap (·.frame)
noncomputable abbrev Cx.fs(X:Cx):List Addr:=frs X.outer
def Jt(sc:Scope)(x:Str):Prop:=sc.names.lookup x=some .local\/sc.names.lookup x=some .cell\/sc.names.lookup x=some .free
def Loc(sc:Scope)(x:Str):Prop:=sc.names.lookup x=some .local\/sc.names.lookup x=some .cell
def Look(env:Env)(h:Heap)(m:Str->Option Value)(x:Str)(u:Value):Prop:=
 (env.kindOf x=some .local/\m x=some u)\/((env.kindOf x=some .cell\/env.kindOf x=some .free)/\∃c,env.cells.lookup x=some c/\h.IsCell c (some u))
structure Cx.Ok(X:Cx):Prop where
 mod:Mod X.K X.mg X.base
 kind:X.env.scope.kind=.function
 glob:X.env.globals=mainGlobals
 blt:X.env.builtins=builtinsNs
 above:X.s₀.heap.objs.size<=X.env.locals
 inj:∀x y c,X.env.cells.lookup x=some c->X.env.cells.lookup y=some c->x=y
 has:∀x,(X.env.kindOf x=some .cell\/X.env.kindOf x=some .free)->∃c,X.env.cells.lookup x=some c
 cab:∀x c,X.fn x=true->X.env.cells.lookup x=some c->X.s₀.heap.objs.size<=c
 hd:X.aj=true->X.A.handled=none
 frames:X.A.frames=some X.stack
 stk:X.stack=X.outer\/(X.stack=X.env::X.outer/\X.env.frame=some X.env.locals)
 exf:∀b∈X.ex,b≠X.env.locals/\∀x c,X.env.cells.lookup x=some c->c≠b
 bs:∀b o,X.base.get? b=some o->X.s₀.heap.get? b=some o/\X.H₀ b=none
 yM:X.base.objs.size<=X.s₀.heap.objs.size
 vX:∀b o,X.base.get? b=some o->b∉X.ex
 Aq:∀b∈X.ex,b∉X.fs
 jD:X.s₀.heap.FunFrames X.base X.outer
 Gq:∀b∈X.fs,X.H₀ b=none
structure Inv(X:Cx)(ak:List (Addr×Obj))(Z:List (Option V))(H:Hp)(s:Shared):Prop where
 ok:X.Ok
 os:s.os=X.s₀.os
 bare:AllBare s.gens
 base:Un X.fs X.ex X.H₀ H X.s₀.heap s.heap
 loc:∃m,s.heap.Ns X.env.locals m/\∀(i:Nat) (x:Str) (v:V),X.N[i]?=some x->Z[i]?=some (some v)->Jt X.env.scope x->∃u,RelV v u/\Look X.env s.heap m x u
 cell:∀x c,X.env.cells.lookup x=some c->∃v,s.heap.IsCell c v
 free:H X.env.locals=none
 gO:∀x c,X.env.cells.lookup x=some c->H c=none
 pin:∀p∈X.pn++ak,s.heap.get? p.1=some p.2/\H p.1=none/\p.1≠X.env.locals/\p.1∉X.fs/\∀v,p.2.data≠.cell v
 hok:gD X.prog X.w H s.heap
 len:Z.length=X.N.length
section
variable {X:Cx}{ak:List (Addr×Obj)}{Z:List (Option V)}{H H':Hp}{s:Shared}{h':Heap}
theorem Cx.Ok.Ju(ok:X.Ok){b:Addr}{o:Obj}(e:X.base.get? b=some o):b∉X.fs:=λhb=>by
 have:=(ok.jD.mem hb).1;rw[e] at this;cases this
theorem Inv.bs(I:Inv X ak Z H s):∀b o,X.base.get? b=some o->s.heap.get? b=some o/\H b=none:=λb o e=>
 ⟨I.base.keep b o (I.ok.bs b o e).1 (I.ok.bs b o e).2 (I.ok.Ju e) (I.ok.vX b o e),I.base.free b o (I.ok.bs b o e).1 (I.ok.bs b o e).2 (I.ok.vX b o e)⟩
theorem Inv.bk(I:Inv X ak Z H s):∀b o,X.base.get? b=some o->s.heap.get? b=some o:=λb o e=>(I.bs b o e).1
theorem Inv.mod(I:Inv X ak Z H s):Mod X.K X.mg X.base:=I.ok.mod
theorem Inv.rE(I:Inv X ak Z H s):X.K.In s.heap:=I.ok.mod.yJ.keeps I.bk
theorem Inv.lt(I:Inv X ak Z H s):X.env.locals<s.heap.objs.size:=let ⟨_,hn,_⟩:=I.loc;hn.lt
theorem Inv.sz(I:Inv X ak Z H s):X.s₀.heap.objs.size<=s.heap.objs.size:=kj I.ok.above (vN I.lt)
theorem Inv.Jv(I:Inv X ak Z H s){a:Addr}(h:s.heap.objs.size<=a):a∉X.fs:=λhb=>by
 obtain⟨_,o,ho,_⟩:=I.ok.jD.mem hb;exact absurd (gq (bW ho) (kj I.sz h)) (nY _)
theorem Inv.vY(I:Inv X ak Z H s):∀x c,X.env.cells.lookup x=some c->c≠X.env.locals:=λx c e z=>by
 obtain⟨v,o,ho,hd⟩:=I.cell x c e;obtain⟨m,⟨o',es,ep,o_,Jw,_⟩,_⟩:=I.loc;rw[z,o_] at ho;cases ho;rw[Jw] at hd;cases hd
theorem Inv.jD(I:Inv X ak Z H s):s.heap.FunFrames X.base X.outer:=by
 have all:∀(l:List Env),(∀b∈frs l,b∈X.fs)->X.s₀.heap.FunFrames X.base l->s.heap.FunFrames X.base l:=by
  intro l
  induction l with
  |nil=>intro _ _;trivial
  |cons env r ih=>
   intro hs hl;obtain⟨hk,⟨L,o,hf,hn,ho,hd⟩,hr⟩:=hl;have hL:L∈X.fs:=hs L (by unfold frs;rw[rm,hf];exact mV);obtain⟨sl,e⟩:=I.base.slot L o ho (I.ok.Gq L hL) hL λz=>I.ok.Aq L z hL;exact⟨hk,⟨L,_,hf,hn,e,hd⟩,ih (λb hb=>hs b (by unfold frs;rw[rm,hf];exact iD _ hb)) hr⟩
 exact all X.outer (λ_ hb=>hb) I.ok.jD
theorem Inv.stack(I:Inv X ak Z H s):s.heap.FunFrames X.base X.stack:=by
 rcases I.ok.stk with e|⟨e,hf⟩
 ·rw[e];exact I.jD
 ·rw[e];obtain⟨m,hn,_⟩:=I.loc;refine .cons (by rw[I.ok.kind];decide) hf hn ?_ I.jD;exact zX (kj I.ok.yM I.ok.above)
theorem Inv.jE(I:Inv X ak Z H s):∀b∈frs X.stack,b∈X.env.locals::X.fs:=λb hb=>by
 rcases I.ok.stk with e|⟨e,hf⟩
 ·rw[e] at hb;exact iD _ hb
 ·rw[e] at hb;unfold frs at hb;rw[rm,hf] at hb;exact hb
theorem Inv.jF(I:Inv X ak Z H s):∀b∈frs X.stack,H b=none:=λb hb=>by
 rcases iy.mp (I.jE b hb) with e|hb
 ·rw[e];exact I.free
 ·obtain⟨_,o,ho,_⟩:=I.ok.jD.mem hb;exact I.base.free b o ho (I.ok.Gq b hb) λz=>I.ok.Aq b z hb
theorem Inv.step{g':Array GenState}{t':Nat}{d':Drawn}{ch:List Addr}(I:Inv X ak Z H s)
  (qH:∀b∈ch,(b∈X.ex\/X.s₀.heap.get? b=none)/\b≠X.env.locals/\(∀x c,X.env.cells.lookup x=some c->c≠b)/\∀p∈X.pn++ak,p.1≠b)
  (keep:∀b o,b≠X.env.locals->b∉X.fs->b∉ch->s.heap.get? b=some o->H b=none->h'.get? b=some o)
  (slot:∀b o,b≠X.env.locals->b∈X.fs->b∉ch->s.heap.get? b=some o->H b=none->∃sl,h'.get? b=some {o with slots:=sl}) (free:∀b o,b∉ch->s.heap.get? b=some o->H b=none->H' b=none)
  (there:∀b o,b∉ch->s.heap.get? b=some o->∃o',h'.get? b=some o')
  (tups:∀b xs,H b=some (.tup xs)->H' b=some (.tup xs)) (iY:∀b o u,H b=some (.qG o u)->H' b=some (.qG o u)) (jB:∀b ps,H b=some (.vV ps)->∃more,H' b=some (.vV (ps++more)))
  (ns:∀m,s.heap.Ns X.env.locals m->h'.Ns X.env.locals m) (hok:gD X.prog X.w H' h') (hg:AllBare g') :
  Inv X ak Z H' {s with heap:=h',gens:=g',drawn:=d',toks:=t'}:=by
 have QD:∀b o,X.s₀.heap.get? b=some o->b≠X.env.locals:=λb o e=>fL (gq (bW e) I.ok.above);have Gs:∀b o,X.s₀.heap.get? b=some o->b∉X.ex->b∉ch:=λb o e hx hb=>by
  rcases(qH b hb).1 with z|z
  ·exact hx z
  ·rw[e] at z;cases z
 have cellK:∀x c,X.env.cells.lookup x=some c->∀v,s.heap.IsCell c v->h'.IsCell c v:=λx c e v hx=>qF hx λo ho hd=>by
  have Ar:c∉ch:=λz=>(qH c z).2.2.1 x c e rfl;by_cases hc:c∈X.fs
  ·obtain⟨sl,q⟩:=slot c o (I.vY x c e) hc Ar ho (I.gO x c e);exact⟨_,q,hd⟩
  ·exact⟨o,keep c o (I.vY x c e) hc Ar ho (I.gO x c e),hd⟩
 refine⟨I.ok,I.os,hg,⟨λb o e n hb hx=>?_,λb o e n hb hx=>?_,λb o e n hx=>?_,λb o e hx=>?_,λb xs e=>tups b xs (I.base.tups b xs e),λb o xs e=>iY b o xs (I.base.iY b o xs e),λb ps e=>?_⟩,?_,λx c e=>?_,?_,λx c e=>?_,λp hp=>?_,hok,I.len⟩
 ·exact keep b o (QD b o e) hb (Gs b o e hx) (I.base.keep b o e n hb hx) (I.base.free b o e n hx)
 ·obtain⟨sl,e1⟩:=I.base.slot b o e n hb hx;obtain⟨sl',e2⟩:=slot b _ (QD b o e) hb (Gs b o e hx) e1 (I.base.free b o e n hx);exact⟨sl',e2⟩
 ·obtain⟨o',e1⟩:=I.base.there b o e hx;exact free b o' (Gs b o e hx) e1 (I.base.free b o e n hx)
 ·obtain⟨o',e1⟩:=I.base.there b o e hx;exact there b o' (Gs b o e hx) e1
 ·obtain⟨m1,e1⟩:=I.base.jB b ps e;obtain⟨m2,e2⟩:=jB b _ e1;exact⟨m1++m2,by rw[e2,Array.append_assoc]⟩
 ·obtain⟨m,hn,hl⟩:=I.loc;refine⟨m,ns m hn,λi x v e1 e2 e3=>?_⟩;obtain⟨u,r,l⟩:=hl i x v e1 e2 e3;refine⟨u,r,?_⟩;rcases l with l|⟨k,c,e,z⟩
  ·exact .inl l
  ·exact .inr ⟨k,c,e,cellK x c e _ z⟩
 ·obtain⟨v,z⟩:=I.cell x c e;exact⟨v,cellK x c e v z⟩
 ·obtain⟨m,⟨o,_,_,ho,_⟩,_⟩:=I.loc;exact free _ o (λz=>(qH _ z).2.1 rfl) ho I.free
 ·obtain⟨v,o,ho,hd⟩:=I.cell x c e;exact free c o (λz=>(qH c z).2.2.1 x c e rfl) ho (I.gO x c e)
 ·obtain⟨e,n,ne,nf,d⟩:=I.pin p hp;have Ar:p.1∉ch:=λz=>(qH p.1 z).2.2.2 p hp rfl;exact⟨keep p.1 p.2 ne nf Ar e n,free p.1 p.2 Ar e n,ne,nf,d⟩
theorem Inv.un{t':Nat}(I:Inv X ak Z H s)(u:Un X.fs [] H H' s.heap h')(hok:gD X.prog X.w H' h'):Inv X ak Z H' {s with heap:=h',toks:=t'}:=by
 obtain⟨m,⟨o,es,ep,ho,r⟩,_⟩:=id I.loc;obtain⟨sl,hL⟩:=u.any ho I.free J0;exact I.step (g':=s.gens) (d':=s.drawn) (ch:=[]) (λ_ z=>nomatch z) (λb o _ hb _ e n=>u.keep b o e n hb J0) (λb o _ hb _ e n=>u.slot b o e n hb J0) (λb o _ e n=>u.free b o e n J0) (λb o _ e=>u.there b o e J0) u.tups u.iY u.jB (λm' hm=>by
  obtain⟨o',es',ep',o_,r'⟩:=hm;rw[ho] at o_;cases o_;exact⟨_,es',ep',hL,r'⟩) hok I.bare
theorem Inv.call{g':Array GenState}{t':Nat}{d':Drawn}{ch:List Addr}(I:Inv X ak Z H s)(u:Un (frs X.stack) ch H H' s.heap h')(hok:gD X.prog X.w H' h')(hg:AllBare g')
  (qH:∀b∈ch,(b∈X.ex\/X.s₀.heap.get? b=none)/\b≠X.env.locals/\(∀x c,X.env.cells.lookup x=some c->c≠b)/\∀p∈X.pn++ak,p.1≠b) :
  Inv X ak Z H' {s with heap:=h',gens:=g',drawn:=d',toks:=t'}:=by
 obtain⟨m,⟨o,es,ep,ho,r⟩,_⟩:=id I.loc;obtain⟨sl,hL⟩:=u.any ho I.free λz=>(qH _ z).2.1 rfl;exact I.step (ch:=ch) qH (λb o hL hb hc e n=>u.keep b o e n (λz=>(iy.mp (I.jE b z)).elim hL hb) hc) (λb o _ _ hc e n=>u.any e n hc) (λb o hc e n=>u.free b o e n hc) (λb o hc e=>u.there b o e hc) u.tups u.iY u.jB (λm' hm=>by
  obtain⟨o',es',ep',o_,r'⟩:=hm;rw[ho] at o_;cases o_;exact⟨_,es',ep',hL,r'⟩) hok hg
theorem Inv.turned{t':Nat}{it:Addr}(I:Inv X ak Z H s)(k:∀b o,b≠it->s.heap.get? b=some o->h'.get? b=some o)(hn:H it=none)(hL:it≠X.env.locals)
  (h1:it∈X.ex\/X.s₀.heap.objs.size<=it) (h2:∀x c,X.env.cells.lookup x=some c->c≠it) (h3:∀p∈X.pn++ak,p.1≠it):Inv X ak Z H {s with heap:=h',toks:=t'}:=by
 have uH:∀b u,H b=some u->b≠it:=λb u e z=>by rw[z,hn] at e;cases e
 refine I.step (g':=s.gens) (d':=s.drawn) (ch:=[it]) (λb hb=>?_) (λb o _ _ hc e _=>k b o (λz=>hc (by simp[z])) e) (λb o _ _ hc e _=>⟨o.slots,k b o (λz=>hc (by simp[z])) e⟩) (λ_ _ _ _ n=>n)
  (λb o hc e=>⟨o,k b o (λz=>hc (by simp[z])) e⟩) (λ_ _ e=>e) (λ_ _ _ e=>e) (λb ps e=>⟨#[],by rw[e];simp⟩) (λm hm=>?_) (λb u e=>?_) I.bare
 ·have e:b=it:=by simpa using hb
  subst e;exact⟨h1.imp id λz=>zX z,hL,h2,h3⟩
 ·obtain⟨o,es,ep,ho,r⟩:=hm;exact⟨o,es,ep,k _ o (Ne.symm hL) ho,r⟩
 ·refine(I.hok b u e).stay (λc v hc q=>k c v ?_ q) (λ_ q=>q) λ_ _ q=>q;rcases hc with z|z
  ·rw[z];exact uH b u e
  ·exact uH c _ z
theorem Inv.tok(I:Inv X ak Z H s)(t:Nat):Inv X ak Z H {s with toks:=t}:=I.un (h':=s.heap) (t':=t) Un.refl I.hok
theorem Inv.kept{t':Nat}(I:Inv X ak Z H s)(k:∀b u,s.heap.get? b=some u->h'.get? b=some u):Inv X ak Z H {s with heap:=h',toks:=t'}:=I.un (Un.kept k) (I.hok.kept k)
theorem Inv.laid{a:Addr}{o:HO}{t':Nat}(I:Inv X ak Z H s)(k:∀b u,s.heap.get? b=some u->h'.get? b=some u)(hp:s.heap.objs.size<=a)(new:bF X.prog X.w (upd H a o) h' a o) :
  Inv X ak Z (upd H a o) {s with heap:=h',toks:=t'}:=I.un (Un.laid k hp (I.hok.fresh hp)) (I.hok.laid k hp new)
theorem Inv.write{x e:Addr}{o:HO}{t':Nat}(I:Inv X ak Z H s)(mu:Gn (H x))(he:e=x\/H e=some (.own x))(k:∀b u,b≠e->s.heap.get? b=some u->h'.get? b=some u)(yL:∃u,h'.get? e=some u)
  (new:bF X.prog X.w (upd H x o) h' x o):Inv X ak Z (upd H x o) {s with heap:=h',toks:=t'}:=I.un (Un.write mu he k yL) (I.hok.write mu he k yL new)
theorem Inv.jG{gP:List (Addr×Obj)}(I:Inv X ak Z H s)(h:∀p∈gP,s.heap.get? p.1=some p.2/\H p.1=none/\p.1≠X.env.locals/\p.1∉X.fs/\∀v,p.2.data≠.cell v):Inv X gP Z H s:=
 ⟨I.ok,I.os,I.bare,I.base,I.loc,I.cell,I.free,I.gO,λp hp=>(iG.mp hp).elim (λz=>I.pin p (yt _ z)) (h p),I.hok,I.len⟩
theorem QF{N:List Str}(hN:N.Nodup){i j:Nat}{x:Str}(a:N[i]?=some x)(b:N[j]?=some x):i=j:=by
 obtain⟨h1,e1⟩:=fQ.mp a;obtain⟨h2,e2⟩:=fQ.mp b;exact(List.getElem_inj hN).mp (e1.trans e2.symm)
theorem QG{M:Model}{A:Around}{E:Value->Shared->Prop}{i:Nat}{x:Str}{v:V}{u:Value}{Q:Unit->Shared->Prop}(I:Inv X ak Z H s)(hN:X.N.Nodup)(hi:X.N[i]?=some x)(hx:Loc X.env.scope x)(r:RelV v u)
  (h:∀s',Inv X ak (Z.set i (some v)) H s'->(∃a,Heap.SameBut a s.heap s'.heap/\(a=X.env.locals\/X.env.cells.lookup x=some a))->Q () s') (hf:X.fn x=true\/X.env.scope.names.lookup x=some .local:=by first|exact .inl rfl|exact .inr rfl|assumption):wpAny M A (storeName X.env x u) Q E s:=by
 obtain⟨m,hn,hl⟩:=id I.loc;have Jx:(X.env.scope.kind==.class||(X.env.scope.kind==.module&&X.env.locals != X.env.globals))=false:=by rw[I.ok.kind];rfl
 have QJ:i<Z.length:=by rw[I.len];exact(fQ.mp hi).1
 have vY:=I.vY;have tracked:∀{a:Addr} {h':Heap},(∃o,s.heap.get? a=some o/\H a=none)->Heap.SameBut a s.heap h'->gD X.prog X.w H h':=λ{a h'} ha hs b ob e=>by
  obtain⟨_,_,m6⟩:=ha;refine(I.hok b ob e).stay (λc w' hc q=>(hs.2 c ?_).trans q) (λ_ q=>q) λ_ _ q=>q;rintro rfl;rcases hc with rfl|hc
  ·rw[m6] at e;cases e
  ·rw[m6] at hc;cases hc
 rcases hx with hk|hk
 ·refine wpAny_storeName_local hk hn (λh' Yb hs=>?_) Jx;obtain⟨oL,_,_,Gu,_⟩:=id hn;refine h _ ⟨I.ok,I.os,I.bare,⟨λb o e n hb hx=>?_,λb o e n hb hx=>?_,I.base.free,λb o e hx=>?_,I.base.tups,I.base.iY,I.base.jB⟩,⟨_,Yb,λj y v' e1 e2 e3=>?_⟩,λy c e=>?_,I.free,I.gO,λp hp=>?_,tracked ⟨oL,Gu,I.free⟩ hs,by simpa using I.len⟩ ⟨_,hs,.inl rfl⟩
  ·exact(hs.2 b (fL (gq (bW e) I.ok.above))).trans (I.base.keep b o e n hb hx)
  ·obtain⟨sl,e1⟩:=I.base.slot b o e n hb hx;exact⟨sl,(hs.2 b (fL (gq (bW e) I.ok.above))).trans e1⟩
  ·obtain⟨o',e1⟩:=I.base.there b o e hx;exact⟨o',(hs.2 b (fL (gq (bW e) I.ok.above))).trans e1⟩
  ·by_cases hj:j=i
   ·subst hj;rw[hi] at e1;cases e1;rw[yq QJ] at e2;cases e2;exact⟨u,r,.inl ⟨hk,by simp⟩⟩
   ·rw[q_ (Ne.symm hj)] at e2;obtain⟨u',r',q⟩:=hl j y v' e1 e2 e3;refine⟨u',r',?_⟩;rcases q with ⟨k,e⟩|⟨k,c,e,z⟩
    ·refine .inl ⟨k,?_⟩;have:y≠x:=λe=>hj (QF hN e1 (e▸hi));simp[this,e]
    ·exact .inr ⟨k,c,e,z.sameBut hs (vY y c e)⟩
  ·obtain⟨w',z⟩:=I.cell y c e;exact⟨w',z.sameBut hs (vY y c e)⟩
  ·obtain⟨e,n,ne,nf,d⟩:=I.pin p hp;exact⟨(hs.2 p.1 ne).trans e,n,ne,nf,d⟩
 ·have Jy:X.fn x=true:=by
   rcases hf with z|z
   ·exact z
   ·rw[z] at hk;cases hk
  obtain⟨c,hc⟩:=I.ok.has x (.inl hk);obtain⟨w',z⟩:=I.cell x c hc;refine wpAny_storeName_cell I.ok.kind hk hc z (λh' iZ hs=>?_);obtain⟨oc,QK,Jz⟩:=id z;refine h {s with heap:=h'} ⟨I.ok,I.os,I.bare,⟨λb o e n hb hx=>?_,λb o e n hb hx=>?_,I.base.free,λb o e hx=>?_,I.base.tups,I.base.iY,I.base.jB⟩,⟨m,hn.sameBut hs (Ne.symm (vY x c hc)),λj y v' e1 e2 e3=>?_⟩,λy c' e=>?_,I.free,I.gO,λp hp=>?_,tracked ⟨oc,QK,I.gO x c hc⟩ hs,by simpa using I.len⟩ ⟨c,hs,.inr hc⟩
  ·exact(hs.2 b (fL (gq (bW e) (I.ok.cab x c Jy hc)))).trans (I.base.keep b o e n hb hx)
  ·obtain⟨sl,e1⟩:=I.base.slot b o e n hb hx;exact⟨sl,(hs.2 b (fL (gq (bW e) (I.ok.cab x c Jy hc)))).trans e1⟩
  ·obtain⟨o',e1⟩:=I.base.there b o e hx;exact⟨o',(hs.2 b (fL (gq (bW e) (I.ok.cab x c Jy hc)))).trans e1⟩
  ·by_cases hj:j=i
   ·subst hj;rw[hi] at e1;cases e1;rw[yq QJ] at e2;cases e2;exact⟨u,r,.inr ⟨.inl hk,c,hc,iZ⟩⟩
   ·rw[q_ (Ne.symm hj)] at e2;obtain⟨u',r',q⟩:=hl j y v' e1 e2 e3;refine⟨u',r',?_⟩;rcases q with q|⟨k,c',e,z'⟩
    ·exact .inl q
    ·refine .inr ⟨k,c',e,z'.sameBut hs ?_⟩;rintro rfl;exact hj (QF hN e1 (I.ok.inj _ _ _ e hc▸hi))
  ·by_cases QL:c'=c
   ·subst QL;exact⟨_,iZ⟩
   ·obtain⟨w2,z2⟩:=I.cell y c' e;exact⟨w2,z2.sameBut hs QL⟩
  ·obtain⟨e,n,ne,nf,d⟩:=I.pin p hp;refine⟨(hs.2 p.1 ?_).trans e,n,ne,nf,d⟩;intro q;rw[q,QK] at e;have q':oc=p.2:=bR e;exact d w' (by rw[<-q'];exact Jz)
theorem QM{M:Model}{A:Around}{E:Value->Shared->Prop}{i:Nat}{x:Str}{v:V}{u:Value}{Q:Unit->Shared->Prop}(I:Inv X ak Z H s)(hN:X.N.Nodup)(hi:X.N[i]?=some x)(hx:Loc X.env.scope x)(r:RelV v u)
  (h:∀s',Inv X ak (Z.set i (some v)) H s'->Q () s') (hf:X.fn x=true\/X.env.scope.names.lookup x=some .local:=by first|exact .inl rfl|exact .inr rfl|assumption):wpAny M A (storeName X.env x u) Q E s:=
 QG I hN hi hx r (λs' I' _=>h s' I') hf
theorem Inv.call'{s':Shared}{ch:List Addr}(I:Inv X ak Z H s)(ho:s'.os=s.os)(u:Un (frs X.stack) ch H H' s.heap s'.heap)(hok:gD X.prog X.w H' s'.heap)(hg:AllBare s'.gens)
  (qH:∀b∈ch,(b∈X.ex\/X.s₀.heap.get? b=none)/\b≠X.env.locals/\(∀x c,X.env.cells.lookup x=some c->c≠b)/\∀p∈X.pn++ak,p.1≠b):Inv X ak Z H' s':=by
 obtain⟨h',g',d',t',o'⟩:=s';have e:o'=s.os:=ho;subst e;exact I.call (g':=g') (t':=t') (d':=d') u hok hg qH
end
noncomputable abbrev XK:=Value->Option Addr->Hp->Prop
noncomputable abbrev St:=List (Option V)
noncomputable abbrev VK:=V->Hp->Prop
noncomputable abbrev TE:=St->Hp->VK->Prop
noncomputable abbrev TT:=St->Hp->(Bool->Hp->Prop)->Prop
noncomputable abbrev TA:=St->Hp->(List V->Hp->Prop)->Prop
structure Ends where
 nx:St->Hp->Prop
 rt:VK
 bk:St->Hp->Prop:=λ_ _=>False
 ct:St->Hp->Prop:=λ_ _=>False
noncomputable abbrev TS:=Ends->St->Hp->Prop
def EP(X:Cx)(ak:List (Addr×Obj))(Z:St)(Q:VK)(u:Value)(s':Shared):Prop:=∃v H',Inv X ak Z H' s'/\RelV v u/\Q v H'
def TP(X:Cx)(ak:List (Addr×Obj))(Z:St)(Q:Bool->Hp->Prop)(b:Bool)(s':Shared):Prop:=∃H',Inv X ak Z H' s'/\Q b H'
def AP(X:Cx)(ak:List (Addr×Obj))(Z:St)(Q:List V->Hp->Prop)(us:List Value)(s':Shared):Prop:=∃vs H',Inv X ak Z H' s'/\Vals vs us/\Q vs H'
def SP(X:Cx)(ak:List (Addr×Obj))(D:Ends)(f:Flow)(s':Shared):Prop:=
 match f with
 |.next=>∃Z' H',Inv X ak Z' H' s'/\D.nx Z' H'
 |.brk=>∃Z' H',Inv X ak Z' H' s'/\D.bk Z' H'
 |.cont=>∃Z' H',Inv X ak Z' H' s'/\D.ct Z' H'
 |.ret u=>∃v Z' H',Inv X ak Z' H' s'/\RelV v u/\D.rt v H'
def PE(X:Cx)(e:Expr)(t:TE):Prop:=
 ∀(ak:List (Addr×Obj)) (s:Shared) (Z:St) (H:Hp) (Q:VK),Inv X ak Z H s->t Z H Q->wpAny (model X.prog X.w) X.A (eval e X.env) (EP X ak Z Q) X.xe s
def PT(X:Cx)(e:Expr)(t:TT):Prop:=
 ∀(ak:List (Addr×Obj)) (s:Shared) (Z:St) (H:Hp) (Q:Bool->Hp->Prop),Inv X ak Z H s->t Z H Q->wpAny (model X.prog X.w) X.A (isTrue e X.env (eval e X.env)) (TP X ak Z Q) X.xe s
def PW(X:Cx)(e:Expr)(t:TT):Prop:=
 ∀(whole:Sem Value) (ak:List (Addr×Obj)) (s:Shared) (Z:St) (H:Hp) (Q:Bool->Hp->Prop),Inv X ak Z H s->t Z H Q->wpAny (model X.prog X.w) X.A (isTrue e X.env whole) (TP X ak Z Q) X.xe s
theorem Yc{X:Cx}{e:Expr}{t:TT}(h:PW X e t):PT X e t:=h _
def PA(X:Cx)(es:List Expr)(t:TA):Prop:=
 ∀(pos:Pos) (ak:List (Addr×Obj)) (s:Shared) (Z:St) (H:Hp) (Q:List V->Hp->Prop),Inv X ak Z H s->t Z H Q->wpAny (model X.prog X.w) X.A (spliced (backTo pos (starEach es X.env))) (AP X ak Z Q) X.xe s
def PS(X:Cx)(st:Stmt)(t:TS):Prop:=
 ∀(ak:List (Addr×Obj)) (s:Shared) (Z:St) (H:Hp) (D:Ends),Inv X ak Z H s->t D Z H->wpAny (model X.prog X.w) X.A (exec st X.env) (SP X ak D) X.xe s
def m7(X:Cx)(st:List Stmt)(t:TS):Prop:=
 ∀(ak:List (Addr×Obj)) (s:Shared) (Z:St) (H:Hp) (D:Ends),Inv X ak Z H s->t D Z H->wpAny (model X.prog X.w) X.A (execs st X.env) (SP X ak D) X.xe s
theorem bf{α:Type}{t:Sem α}{Q Q':α->Shared->Prop}{M:Model}{A:Around}{E:Value->Shared->Prop}{s:Shared}(h:wpAny M A t Q E s)(hQ:∀a s,Q a s->Q' a s):wpAny M A t Q' E s:=mX h hQ λ_ _ x=>x
section
variable {X:Cx}
noncomputable def JD(i:Nat):TE:=λZ H Q=>∃v,Z[i]?=some (some v)/\Q v H
noncomputable def tC(v:V):TE:=λ_ H Q=>Q v H
theorem Yd{i:Nat}{x:Str}{pos:Pos}(hN:X.N[i]?=some x)(hv:Jt X.env.scope x)(hd:(x==("__debug__" : Str))=false:=by decide)(lu:(x==("__classdict__" : Str))=false:=by decide):PE X (.Name x pos) (JD i):=by
 intro ak s Z H Q I h;obtain⟨v,e,h⟩:=h;obtain⟨m,hn,hl⟩:=I.loc;obtain⟨u,r,l⟩:=hl i x v hN e hv;have fin:EP X ak Z Q u s:=⟨v,H,I,r,h⟩;rcases l with ⟨hk,hm⟩|⟨hk,c,hc,uI⟩
 ·exact wpAny_Name (wpAny_loadName_local I.ok.kind hk hn hm fin) hd
 ·rcases hk with hk|hk
  ·exact wpAny_Name (wpAny_loadName_cell I.ok.kind hk hc uI fin) hd
  ·exact wpAny_Name (wpAny_loadName_free I.ok.kind hk hc uI fin lu) hd
theorem Ye{i j pos}:PE X (.Constant (.int i) j pos) (tC (.int i)):=λ_ _ _ H _ I h=>wpAny_Constant_int ⟨.int i,H,I.tok _,⟨_,rfl⟩,h⟩
theorem Yg{b j pos}:PE X (.Constant (.bool b) j pos) (tC (.bl b)):=λ_ _ _ H _ I h=>Constant_bool ⟨.bl b,H,I,rfl,h⟩
theorem Yh{j pos}:PE X (.Constant .none j pos) (tC .non):=λ_ _ _ H _ I h=>Constant_none ⟨.non,H,I,rfl,h⟩
def Gl(X:Cx)(x:Str):Prop:=X.env.kindOf x=some .globalImplicit
theorem QS{E:Value->Shared->Prop}{ak:List (Addr×Obj)}{s:Shared}{Z:St}{H:Hp}{x:Str}{u:Value}{pos:Pos}{Q:Value->Shared->Prop}(I:Inv X ak Z H s)(hg:Gl X x)(hm:X.mg x=some u)(h:Q u s)
  (hd:(x==("__debug__" : Str))=false:=by decide):wpAny (model X.prog X.w) X.A (eval (.Name x pos) X.env) Q E s:=
 Calls.Name_function_global I.ok.kind hg (Calls.loadGlobal_global (by rw[I.ok.glob];exact I.mod.glob.keeps I.bk) hm h) hd
theorem vZ{E:Value->Shared->Prop}{ak:List (Addr×Obj)}{s:Shared}{Z:St}{H:Hp}{x:Str}{u:Value}{pos:Pos}{Q:Value->Shared->Prop}(I:Inv X ak Z H s)(hg:Gl X x)(hm:X.mg x=none)(hv:bootBuiltins x=some u)(h:Q u s)
  (hn:x≠"__name__":=by decide) (hd:(x==("__debug__" : Str))=false:=by decide):wpAny (model X.prog X.w) X.A (eval (.Name x pos) X.env) Q E s:=by
 obtain⟨mb,h1,h2⟩:=I.mod.blt;exact Calls.Name_function_global I.ok.kind hg (Calls.loadGlobal_builtin (by rw[I.ok.glob];exact I.mod.glob.keeps I.bk) hm (by rw[I.ok.blt];exact h1.keeps I.bk) ((h2 x hn).trans hv) h) hd
theorem Yi{x:Str}{v:V}{u:Value}{pos:Pos}(hg:Gl X x)(hm:X.mg x=some u)(r:RelV v u)(hd:(x==("__debug__" : Str))=false:=by decide):PE X (.Name x pos) (tC v):=
 λ_ _ _ H _ I h=>QS I hg hm ⟨v,H,I,r,h⟩ hd
variable {a b:Expr}{ta tb:TE}{pos:Pos}
def PC(X:Cx)(op:CmpOp)(a b:Expr)(t:TE):Prop:=
 ∀(ak:List (Addr×Obj)) (s:Shared) (Z:St) (H:Hp) (Q:VK),Inv X ak Z H s->t Z H Q->
  wpAny (model X.prog X.w) X.A (eval a X.env) (λv s₁=>wpAny (model X.prog X.w) X.A (eval b X.env) (λu s₂=>wpAny (model X.prog X.w) X.A (compareOp op v u) (EP X ak Z Q) X.xe s₂) X.xe s₁) X.xe s
theorem lA(b:Expr){op:CmpOp}(h:op≠.In)(h2:op≠.NotIn):behindInMarks op b=false:=by
 have e1:(op==CmpOp.In)=false:=by cases op<;>first|rfl|exact absurd rfl h
 have e2:(op==CmpOp.NotIn)=false:=by cases op<;>first|rfl|exact absurd rfl h2
 cases b<;>simp[behindInMarks,e1,e2]
noncomputable def JF(ta:TE):TE:=λZ H Q=>ta Z H λx H1=>Q (.bl (decide (x=.non))) H1
noncomputable def Av(ta:TE):TE:=λZ H Q=>ta Z H λx H1=>Q (.bl (!decide (x=.non))) H1
theorem RelV.lB{x:V}{v:Value}(r:RelV x v):(v==Value.none)=decide (x=.non):=by
 cases x with
 |non=>cases r;rfl
 |bl _=>cases r;rfl
 |int _=>obtain⟨t,rfl⟩:=r;rfl
 |str _=>obtain⟨t,rfl⟩:=r;rfl
 |Gm _=>obtain⟨t,rfl⟩:=r;rfl
 |flt _=>obtain⟨t,rfl⟩:=r;rfl
 |ref _=>cases r;rfl
 |ty _=>cases r;rfl
theorem Yj{j pos'}(ha:PE X a ta):PC X .Is a (.Constant .none j pos') (JF ta):=by
 intro ak s Z H Q I h;refine bf (ha ak s Z H _ I h) λv s1 hx=>eY hx λx H1 I1 r1 q1=>?_;exact Constant_none (is_none_gen ⟨.bl _,H1,I1,by rw[r1.lB];rfl,q1⟩)
theorem Yk{j pos'}(ha:PE X a ta):PC X .IsNot a (.Constant .none j pos') (Av ta):=by
 intro ak s Z H Q I h;refine bf (ha ak s Z H _ I h) λv s1 hx=>eY hx λx H1 I1 r1 q1=>?_;exact Constant_none (isnot_none_gen ⟨.bl _,H1,I1,by rw[r1.lB];rfl,q1⟩)
noncomputable def tB(t:TE):TT:=λZ H Q=>t Z H λx H1=>∃c,x=.bl c/\Q c H1
theorem Yl{op:CmpOp}{t:TE}(h:PC X op a b t)(h1:behindInMarks op b=false:=by first|exact lA _ Dc Dc|rfl):PE X (.Compare a [op] [b] pos) t:=λak s Z H Q I hw=>wpAny_Compare1 (h ak s Z H Q I hw) h1
theorem Ym{op:CmpOp}{t:TE}(h:PC X op a b t)(h1:behindInMarks op b=false:=by first|exact lA _ Dc Dc|rfl):PT X (.Compare a [op] [b] pos) (tB t):=by
 intro ak s Z H Q I hw;refine wpAny_isTrue_Compare1 (bf (h ak s Z H _ I hw) λv s1 h1=>bf h1 λu s2 h2=>bf h2 λc s3 hx=>eY hx λx H1 I1 r1 q1=>?_) h1;obtain⟨d,rfl,q⟩:=q1;cases r1;exact vI ⟨H1,I1,q⟩
theorem Yn{e:Expr}{t:TE}(h:PE X e t)(he:∀whole,isTrue e X.env whole=(do let v <-whole;standAt e.pos;holding [v] (truthy v)):=by intro _;rfl):PT X e (tB t):=by
 intro ak s Z H Q I hw;refine isTrue_plain (bf (h ak s Z H _ I hw) λv s1 hx=>eY hx λx H1 I1 r1 q1=>?_) (he _);obtain⟨d,rfl,q⟩:=q1;cases r1;exact vI ⟨H1,I1,q⟩
variable {tA Gv:TT}{rest:List Expr}
noncomputable def JL(t u:TT):TT:=λZ H Q=>t Z H λc H1=>if c=true then u Z H1 Q else Q false H1
noncomputable def Yo(t u:TT):TT:=λZ H Q=>t Z H λc H1=>if c=true then Q true H1 else u Z H1 Q
noncomputable def JM(t:TT):TT:=λZ H Q=>t Z H λc H1=>Q (!c) H1
theorem Yp(ha:PT X a tA):PW X (.BoolOp .And [a] pos) tA:=by
 intro wh ak s Z H Q I h;refine isTrue_and (bf (ha ak s Z H Q I h) λc s1 e=>?_);cases c with
 |true=>exact isTrue_and_nil e
 |false=>exact e
theorem Yq(ha:PT X a tA):PW X (.BoolOp .Or [a] pos) tA:=by
 intro wh ak s Z H Q I h;refine isTrue_or (bf (ha ak s Z H Q I h) λc s1 e=>?_);cases c with
 |false=>exact isTrue_or_nil e
 |true=>exact e
theorem Yr(ha:PT X a tA)(hb:PW X (.BoolOp .And (b::rest) pos) Gv):PW X (.BoolOp .And (a::b::rest) pos) (JL tA Gv):=by
 intro wh ak s Z H Q I h;refine isTrue_and (bf (ha ak s Z H _ I h) λc s1 hx=>qF hx λH1 I1 q1=>?_);cases c with
 |true=>exact hb wh ak s1 Z H1 Q I1 q1
 |false=>exact⟨H1,I1,q1⟩
theorem Ys(ha:PT X a tA)(hb:PW X (.BoolOp .Or (b::rest) pos) Gv):PW X (.BoolOp .Or (a::b::rest) pos) (Yo tA Gv):=by
 intro wh ak s Z H Q I h;refine isTrue_or (bf (ha ak s Z H _ I h) λc s1 hx=>qF hx λH1 I1 q1=>?_);cases c with
 |true=>exact⟨H1,I1,q1⟩
 |false=>exact hb wh ak s1 Z H1 Q I1 q1
theorem Yt(ha:PT X a tA):PT X (.UnaryOp .Not a pos) (JM tA):=by
 intro ak s Z H Q I h;exact isTrue_not (ha ak s Z H (λc H1=>Q (!c) H1) I h)
noncomputable def Aw(ta tb:TE):TE:=λZ H Q=>ta Z H λx H1=>∃c,x=.bl c/\if c=true then tb Z H1 Q else Q (.bl false) H1
noncomputable def Ax(ta:TE):TE:=λZ H Q=>ta Z H λx H1=>∃c,x=.bl c/\Q (.bl (!c)) H1
theorem Yu{op}{t:TE}(h:PE X a t):PE X (.BoolOp op [a] pos) t:=λak s Z H Q I hw=>BoolOp_one (h ak s Z H Q I hw)
theorem Yv(ha:PE X a ta)(hb:PE X (.BoolOp .And (b::rest) pos) tb):PE X (.BoolOp .And (a::b::rest) pos) (Aw ta tb):=by
 intro ak s Z H Q I h;refine BoolOp_and (bf (ha ak s Z H _ I h) λv s1 hx=>eY hx λx H1 I1 r1 q1=>?_);obtain⟨c,rfl,q1⟩:=q1;cases r1;refine vI ?_;cases c with
 |true=>exact hb ak s1 Z H1 Q I1 q1
 |false=>exact⟨.bl false,H1,I1,rfl,q1⟩
theorem Yw(ha:PE X a ta):PE X (.UnaryOp .Not a pos) (Ax ta):=by
 intro ak s Z H Q I h;refine UnaryOp_ (bf (ha ak s Z H _ I h) λv s1 hx=>eY hx λx H1 I1 r1 q1=>?_);obtain⟨c,rfl,q1⟩:=q1;cases r1;exact not_of (vI ⟨.bl (!c),H1,I1,rfl,q1⟩)
noncomputable def Yx(t:TT)(ta tb:TE):TE:=λZ H Q=>t Z H λc H1=>if c=true then ta Z H1 Q else tb Z H1 Q
theorem Yy{c:Expr}(hc:PT X c tA)(ha:PE X a ta)(hb:PE X b tb):PE X (.IfExp c a b pos) (Yx tA ta tb):=by
 intro ak s Z H Q I h;refine wpAny_IfExp (bf (hc ak s Z H _ I h) λd s1 hx=>qF hx λH1 I1 q1=>?_);cases d with
 |true=>exact ha ak s1 Z H1 Q I1 q1
 |false=>exact hb ak s1 Z H1 Q I1 q1
end
def cW(K:W.Frag)(H:Hp)(a:Addr)(xs:List V):Prop:=
 Rd H a (.lst xs) \/
  ∃(o:Obj) (its:Array Value) (n:Nat),K.lookup a=some o/\o.cls=.type "list"/\o.dict=none/\o.data=.seq its n/\its.size<=sizeLine/\Vals xs its.toList
def gF(K:W.Frag)(H:Hp)(a:Addr)(xs:List V):Prop:=
 Rd H a (.tup xs) \/
  ∃(o:Obj) (its:Array Value) (n:Nat),K.lookup a=some o/\o.cls=.type "tuple"/\o.data=.seq its n/\its.size<=sizeLine/\Vals xs its.toList
noncomputable def JV:Value->Option V
 |.none=>some .non
 |.bool b=>some (.bl b)
 |.int i _=>some (.int i)
 |.str x _=>some (.str x)
 |.bytes b _=>some (.Gm b)
 |.float b _=>some (.flt b)
 |.ref a=>some (.ref a)
 |.type n=>some (.ty n)
 |_=>none
theorem RelV.abs{x:V}{u:Value}(r:RelV x u):JV u=some x:=by
 cases x with
 |non=>cases r;rfl
 |bl _=>cases r;rfl
 |int _=>obtain⟨t,rfl⟩:=r;rfl
 |str _=>obtain⟨t,rfl⟩:=r;rfl
 |Gm _=>obtain⟨t,rfl⟩:=r;rfl
 |flt _=>obtain⟨t,rfl⟩:=r;rfl
 |ref _=>cases r;rfl
 |ty _=>cases r;rfl
theorem RelV.inj{x y:V}{u:Value}(r:RelV x u)(q:RelV y u):x=y:=bR (r.abs.symm.trans q.abs)
theorem Vals.inj{xs ys:List V}{us:List Value}(h:Vals xs us)(h':Vals ys us):xs=ys:=by
 induction h generalizing ys with
 |nil=>cases h';rfl
 |cons r _ ih=>
  cases h' with
  |cons r' t'=>rw[r.inj r',ih t']
section
variable {X:Cx}{ak:List (Addr×Obj)}{Z:St}{H:Hp}{s:Shared}{a:Addr}{xs ys:List V}
theorem cW.of{K:W.Frag}(h:H a=some (.lst xs)):cW K H a xs:=.inl (.inl h)
theorem Inv.list(I:Inv X ak Z H s)(h:cW X.K H a xs):∃its:List Value,Vals xs its/\PlainL s.heap a its.toArray/\xs.length<=sizeLine:=by
 rcases h with h|⟨o,its,n,hk,hc,hd,hs,hz,r⟩
 ·obtain⟨z,its,n,r,e⟩:=h.ok I.hok;exact⟨its,r,⟨_,n,e,rfl,rfl,rfl⟩,z⟩
 ·refine⟨its.toList,r,⟨o,n,I.rE a o hk,hc,hd,by simpa using hs⟩,?_⟩;have e:=r.length;simp only[zY] at e
  lia
theorem Inv.tuple(I:Inv X ak Z H s)(h:gF X.K H a xs):∃its:List Value,Vals xs its/\IsTup s.heap a its.toArray/\xs.length<=sizeLine:=by
 rcases h with h|⟨o,its,n,hk,hc,hs,hz,r⟩
 ·obtain⟨z,its,r,p⟩:=h.ok I.hok;exact⟨its,r,p,z⟩
 ·refine⟨its.toList,r,⟨o,I.rE a o hk,hc,n,by simpa using hs⟩,?_⟩;have e:=r.length;simp only[zY] at e
  lia
theorem Inv.lC(I:Inv X ak Z H s)(h:cW X.K H a xs)(h':cW X.K H a ys):xs=ys:=by
 obtain⟨its,r,⟨o,n,e,_,_,d⟩,_⟩:=I.list h;obtain⟨its',r',⟨o',n',e',_,_,d'⟩,_⟩:=I.list h';rw[e] at e';cases e';rw[d] at d';injection d' with d1 _;have:its=its':=by simpa using uD Array.toList d1
 subst this;exact r.inj r'
theorem Inv.jk(I:Inv X ak Z H s)(h:gF X.K H a xs)(h':gF X.K H a ys):xs=ys:=by
 obtain⟨its,r,⟨o,e,_,n,d⟩,_⟩:=I.tuple h;obtain⟨its',r',⟨o',e',_,n',d'⟩,_⟩:=I.tuple h';rw[e] at e';cases e';rw[d] at d';injection d' with d1 _;have:its=its':=by simpa using uD Array.toList d1
 subst this;exact r.inj r'
end
section
variable {X:Cx}{st:Stmt}{rest:List Stmt}{t u:TS}{e:Expr}{te:TE}{pos:Pos}
noncomputable def Ay:TS:=λD Z H=>D.nx Z H
noncomputable def JZ(t u:TS):TS:=λD Z H=>t {D with nx:=u D} Z H
theorem Yz:m7 X [] Ay:=λ_ _ Z H _ I h=>wpAny_execs_nil ⟨Z,H,I,h⟩
theorem YB(h1:PS X st t)(h2:m7 X rest u):m7 X (st::rest) (JZ t u):=by
 intro ak s Z H D I h;refine wpAny_execs_cons (bf (h1 ak s Z H {D with nx:=u D} I h) λf s1 q=>?_);cases f with
 |next=>
  obtain⟨Z',H',I',q⟩:=q;exact h2 ak s1 Z' H' D I' q
 |ret v=>exact q
 |brk=>exact q
 |cont=>exact q
theorem Inv.quiet{ak:List (Addr×Obj)}{Z:St}{H:Hp}{s:Shared}(I:Inv X ak Z H s):interactive X.env=false:=by simp[interactive,I.ok.kind]
noncomputable def Az(te:TE):TS:=λD Z H=>te Z H λ_ H1=>D.nx Z H1
theorem YC(he:PE X e te)(hs:swapsWith e none pos.line X.env=pure false:=by rfl):PS X (.Expr e pos) (Az te):=by
 intro ak s Z H D I h;exact wpAny_Expr_any (bf (he ak s Z H _ I h) λv s1 hx=>eY hx λx H1 I1 r1 q1=>⟨Z,H1,I1,q1⟩) I.quiet hs
noncomputable def J1(te:TE):TS:=λD Z H=>te Z H D.rt
theorem YD(he:PE X e te):PS X (.Return (some e) pos) (J1 te):=by
 intro ak s Z H D I h;exact wpAny_Return_some (bf (he ak s Z H _ I h) λv s1 hx=>eY hx λx H1 I1 r1 q1=>⟨x,Z,H1,I1,r1,q1⟩)
noncomputable def J2(c:TT)(t u:TS):TS:=λD Z H=>c Z H λb H1=>if b=true then t D Z H1 else u D Z H1
theorem YF{c:Expr}{a b:List Stmt}{tc:TT}(hc:PT X c tc)(ha:m7 X a t)(hb:m7 X b u):PS X (.If c a b pos) (J2 tc t u):=by
 intro ak s Z H D I h;refine wpAny_If (bf (hc ak s Z H _ I h) λd s1 hx=>qF hx λH1 I1 q1=>?_);cases d with
 |true=>exact ha ak s1 Z H1 D I1 q1
 |false=>exact hb ak s1 Z H1 D I1 q1
end
noncomputable abbrev TG:=V->St->Hp->(St->Hp->Prop)->Prop
noncomputable abbrev v7:=List V->St->Hp->(St->Hp->Prop)->Prop
def PG(X:Cx)(target:Expr)(t:TG):Prop:=
 ∀(ak:List (Addr×Obj)) (s:Shared) (Z:St) (H:Hp) (v:V) (u:Value) (Q:St->Hp->Prop),Inv X ak Z H s->RelV v u->t v Z H Q->
  wpAny (model X.prog X.w) X.A (assign target X.env u) (λ_ s'=>∃Z' H',Inv X ak Z' H' s'/\Q Z' H') X.xe s
def Gw(X:Cx)(ts:List Expr)(t:v7):Prop:=
 ∀(ak:List (Addr×Obj)) (s:Shared) (Z:St) (H:Hp) (vs:List V) (us:List Value) (Q:St->Hp->Prop),Inv X ak Z H s->Vals vs us->t vs Z H Q->
  wpAny (model X.prog X.w) X.A (assignInOrder ((assignEach ts X.env).map (·.2)) us) (λ_ s'=>∃Z' H',Inv X ak Z' H' s'/\Q Z' H') X.xe s
noncomputable abbrev v8:=V->V->V->Hp->(Hp->Prop)->Prop
def A_(X:Cx)(t:v8):Prop:=
 ∀(ak:List (Addr×Obj)) (s:Shared) (Z:St) (H:Hp) (o i v:V) (ov iv u:Value) (Q:Hp->Prop),Inv X ak Z H s->RelV o ov->RelV i iv->RelV v u->t o i v H Q->
  wpAny (model X.prog X.w) X.A (setItem ov iv u) (λ_ s'=>∃H',Inv X ak Z H' s'/\Q H') X.xe s
section
variable {X:Cx}{pos:Pos}
noncomputable def cY(i:Nat):TG:=λv Z H Q=>Q (Z.set i (some v)) H
theorem Gx{i:Nat}{x:Str}(hN:X.N.Nodup)(hi:X.N[i]?=some x)(hx:Loc X.env.scope x)(hf:X.fn x=true\/X.env.scope.names.lookup x=some .local:=by first|exact .inl rfl|exact .inr rfl|assumption):PG X (.Name x pos) (cY i):=by
 intro ak s Z H v u Q I r h;exact wpAny_assign_Name (QM I hN hi hx r (λs' I'=>⟨_,H,I',h⟩) hf)
noncomputable def pq:v7:=λvs Z H Q=>vs=[]/\Q Z H
noncomputable def fV(t:TG)(u:v7):v7:=λvs Z H Q=>∃v r,vs=v::r/\t v Z H λZ' H'=>u r Z' H' Q
theorem YG:Gw X [] pq:=by
 intro ak s Z H vs us Q I r h;obtain⟨e,h⟩:=h;subst e;cases r;exact assignInOrder_nil ⟨Z,H,I,h⟩
theorem QT{e:Expr}{es:List Expr}{t:TG}{u:v7}(h1:PG X e t)(h2:Gw X es u)
  (hs:(assignEach (e::es) X.env).map (·.2)=assign e X.env::(assignEach es X.env).map (·.2):=by rfl):Gw X (e::es) (fV t u):=by
 intro ak s Z H vs us Q I r h;obtain⟨v,vr,e1,h⟩:=h;subst e1;cases r with
 |cons r rr=>
  rw[hs];refine assignInOrder_cons (bf (h1 ak s Z H _ _ _ I r h) λ_ s1 ⟨Z1,H1,I1,q1⟩=>?_);exact h2 ak s1 Z1 H1 _ _ Q I1 rr q1
noncomputable def pA(K:W.Frag)(n:Nat)(t:v7):TG:=λv Z H Q=>∃a xs,v=.ref a/\gF K H a xs/\xs.length=n/\t xs Z H Q
theorem YH{es:List Expr}{k:Nat}{t:v7}{n:Nat}(hc:X.aj=true)(h:Gw X es t)
  (hn:(assignEach es X.env).length=n:=by rfl) (J3:(assignEach es X.env).findIdx? (·.1)=none:=by rfl):PG X (.Tuple es k pos) (pA X.K n t):=by
 intro ak s Z H v u Q I r hw;obtain⟨a,xs,e1,hq,hl,hw⟩:=hw;subst e1;cases r;obtain⟨its,rv,ht,hz⟩:=I.tuple hq;refine assign_Tuple_tuple (I.ok.hd hc) ht (by simp[hn,<-hl,rv.length]) J3 λh' hx=>?_;have I1:Inv X ak Z H {s with heap:=h'}:=I.kept (t':=s.toks) λb o e=>hx b o (fL (bW e)) e;exact h ak _ Z H xs _ Q I1 (by simpa using rv) hw
noncomputable def J5(to ti:TE)(t:v8):TG:=λv Z H Q=>to Z H λo H1=>ti Z H1 λi H2=>t o i v H2 λH3=>Q Z H3
theorem YJ{o i:Expr}{to ti:TE}{t:v8}(ho:PE X o to)(hi:PE X i ti)(hs:A_ X t)
  (ha:∀v,assign (.Subscript o i pos) X.env v=(do
   let ov <-holding [v] (eval o X.env)
   let iv <-holding [v,ov] (eval i X.env)
   standAt pos
   holding [v,ov,iv] (setItem ov iv v)
   release [v,ov,iv] []):=by intro _;rfl):PG X (.Subscript o i pos) (J5 to ti t):=by
 intro ak s Z H v u Q I r h;rw[ha];refine aF (qC (bf (ho ak s Z H _ I h) λov s1 hx=>eY hx λx H1 I1 r1 q1=>?_));refine aF (qC (bf (hi ak s1 Z H1 _ I1 q1) λiv s2 hx=>eY hx λy H2 I2 r2 q2=>?_));refine aF (wpAny_standAt (aF (qC (bf (hs ak s2 Z H2 x y v ov iv u _ I2 r1 r2 r q2) λ_ s3 hx=>qF hx λH3 I3 q3=>?_))));exact wpAny_release ⟨Z,H3,I3,q3⟩
noncomputable def v9(te:TE)(g:TG):TS:=λD Z H=>te Z H λx H1=>g x Z H1 D.nx
theorem QV{tg e:Expr}{te:TE}{g:TG}(he:PE X e te)(hg:PG X tg g)(hs:swapsWithSole [tg] e pos.line X.env=pure false:=by rfl)(hw:swappedStores [tg] e X.env=pure none:=by rfl)
  (h1:(assignEach [tg] X.env).map (·.2)=[assign tg X.env]:=by rfl):PS X (.Assign [tg] e pos) (v9 te g):=by
 intro ak s Z H D I h;refine wpAny_Assign_stores (bf (he ak s Z H _ I h) λv s1 hx=>eY hx λx H1 I1 r1 q1=>?_) hs hw;rw[h1];exact bf (hg ak s1 Z H1 x v _ I1 r1 q1) λ_ s2 q=>q
theorem YK{i:Nat}{x:Str}{e:Expr}{te:TE}{pos':Pos}(hN:X.N.Nodup)(hi:X.N[i]?=some x)(hx:Loc X.env.scope x)(he:PE X e te)(hs:swapsWith e (some (.Name x pos')) pos.line X.env=pure false:=by rfl)(hf:X.fn x=true\/X.env.scope.names.lookup x=some .local:=by first|exact .inl rfl|exact .inr rfl|assumption) :
  PS X (.Assign [.Name x pos'] e pos) (v9 te (cY i)):=by
 intro ak s Z H D I h;refine wpAny_Assign_Name (bf (he ak s Z H _ I h) λv s1 ⟨y,H1,I1,r1,q1⟩=>?_) hs;exact QM I1 hN hi hx r1 (λs2 I2=>⟨_,H1,I2,q1⟩) hf
end
section
variable {X:Cx}{pos:Pos}
noncomputable def wg(c:TT)(tb:TS):TS:=λD Z H=>∃W:Nat->St->Hp->Prop,(∃m,W m Z H)/\∀m Z H,W m Z H->
 c Z H λb H1=>if b=true then ∃N:St->Hp->Prop,(∀Z' H',N Z' H'->∃m',m'<m/\W m' Z' H')/\tb {D with nx:=N,ct:=N,bk:=D.nx} Z H1 else D.nx Z H1
theorem YL{c:Expr}{body:List Stmt}{tc:TT}{tb:TS}(hp:PassesOwn (model X.prog X.w) X.A X.env X.xe)(hc:PT X c tc)(hb:m7 X body tb):PS X (.While c body [] pos) (wg tc tb):=by
 intro ak s Z H D I h;obtain⟨W,⟨m0,w0⟩,turn⟩:=h;refine wpAny_While (codeAny_whileLoop (λn s'=>∃Z' H',Inv X ak Z' H' s'/\W n Z' H') ?_ m0 ⟨Z,H,I,w0⟩);rintro n s1 ⟨Z1,H1,I1,w1⟩;refine vK hp (bf (hc ak s1 Z1 H1 _ I1 (turn n Z1 H1 w1)) λb s2 hx=>qF hx λH2 I2 q2=>?_);cases b with
 |true=>
  obtain⟨N,hN,q2⟩:=q2;rw[if_pos rfl];refine vK hp (bf (hb ak s2 Z1 H2 _ I2 q2) λf s3 q3=>?_);cases f with
  |next=>
   obtain⟨Z3,H3,I3,n3⟩:=q3;obtain⟨m',hm,w3⟩:=hN Z3 H3 n3;exact⟨m',hm,Z3,H3,I3,w3⟩
  |cont=>
   obtain⟨Z3,H3,I3,n3⟩:=q3;obtain⟨m',hm,w3⟩:=hN Z3 H3 n3;exact⟨m',hm,Z3,H3,I3,w3⟩
  |brk=>exact q3
  |ret v=>exact q3
 |false=>
  rw[if_neg Fy];exact wpAny_execs_nil ⟨Z1,H2,I2,q2⟩
end
structure It where
 go:Nat->Hp->Prop
 wj:Nat->Hp->V->Hp->Prop
 stop:Nat->Hp->Prop
def gG(X:Cx)(ak:List (Addr×Obj))(H:Hp)(b:Addr):Prop:=
 H b=none/\b≠X.env.locals/\b∉X.fs/\(b∈X.ex\/X.s₀.heap.objs.size<=b)/\(∀x c,X.env.cells.lookup x=some c->c≠b)/\∀p∈X.pn++ak,p.1≠b
theorem Inv.pB{X:Cx}{ak:List (Addr×Obj)}{Z:St}{H H':Hp}{s:Shared}{b:Addr}(I:Inv X ak Z H s)(hb:s.heap.objs.size<=b)(hn:H' b=none):gG X ak H' b:=by
 refine⟨hn,vO (gq I.lt hb),I.Jv hb,.inr (kj I.sz hb),λx c e z=>?_,λp hp z=>?_⟩
 ·obtain⟨v,q⟩:=I.cell x c e;exact absurd (gq q.lt (by rw[z];exact hb)) (nY _)
 ·exact absurd (gq (bW (I.pin p hp).1) (by rw[z];exact hb)) (nY _)
structure Turn(P:Program)(w:World)(K:W.Frag)(tg:Expr)(cI:It)(fp:List Addr)(it:Addr)(tn:Nat->Heap->Prop):Prop where
 mem:it∈fp
 obj:∀i h,tn i h->∀b∈fp,∃o,h.get? b=some o/\∀v,o.data≠.cell v
 keep:∀i h h',tn i h->(∀b∈fp,∀o,h.get? b=some o->h'.get? b=some o)->tn i h'
 item:∀(X:Cx),X.prog=P->X.w=w->X.K=K->X.aj=true->∀(i:Nat) (ak:List (Addr×Obj)) (s:Shared) (Z:St) (H:Hp) (E:Value->Shared->Prop),Inv X ak Z H s->(∀b∈fp,gG X ak H b)->tn i s.heap->cI.go i H->
  wpAny (model P w) X.A (pyNext (.ref it)) (λr s1=>∃u,r=some u /\
   wpAny (model P w) X.A (letOwnedTupleGo tg (.ref it) u) (λ_ s2=>∃x H',Inv X ak Z H' s2/\RelV x u/\cI.wj i H x H'/\tn (i+1) s2.heap/\∀b∈fp,H' b=none) E s1) E s
 done:∀(X:Cx),X.prog=P->X.w=w->X.K=K->X.aj=true->∀(i:Nat) (ak:List (Addr×Obj)) (s:Shared) (Z:St) (H:Hp) (E:Value->Shared->Prop),Inv X ak Z H s->(∀b∈fp,gG X ak H b)->tn i s.heap->cI.stop i H->
  wpAny (model P w) X.A (pyNext (.ref it)) (λr s1=>r=none/\Inv X ak Z H s1) E s
 self:∀(A:Around) (i:Nat) (s:Shared) (Q:Value->Shared->Prop) (E:Value->Shared->Prop),tn i s.heap->Q (.ref it) s->wpAny (model P w) A (pyIter (.ref it)) Q E s
noncomputable abbrev TI:=St->Hp->(It->Hp->Prop)->Prop
def PIE(X:Cx)(ak:List (Addr×Obj))(Z:St)(tg:Expr)(R:It->Hp->Prop)(itv:Value)(s2:Shared):Prop:=
 ∃(it:Addr) (fp:List Addr) (tn:Nat->Heap->Prop) (cI:It) (H':Hp),itv=.ref it/\Inv X ak Z H' s2/\Turn X.prog X.w X.K tg cI fp it tn/\tn 0 s2.heap/\(∀b∈fp,gG X ak H' b)/\R cI H'
def PI(X:Cx)(tg iter:Expr)(wi:TI):Prop:=
 ∀(ak:List (Addr×Obj)) (s:Shared) (Z:St) (H:Hp) (R:It->Hp->Prop),Inv X ak Z H s->wi Z H R->
  wpAny (model X.prog X.w) X.A (eval iter X.env) (λv s1=>wpAny (model X.prog X.w) X.A (pyIter v) (PIE X ak Z tg R) X.xe s1) X.xe s
theorem J6{M:Model}{A:Around}{E:Value->Shared->Prop}{s:Shared}{tg:Expr}{it:Addr}{u:Value}{o:Obj}{n:String}{vs:Array Value}{Q:Unit->Shared->Prop}(ho:s.heap.get? it=some o)(hc:o.cls=.type n)(hd:o.data=.fields vs)
  (hn:["enumerate","zip","dict_itemiterator","dict_reverseitemiterator","odict_iterator","itertools.zip_longest","itertools.pairwise"].contains n=false) (hQ:Q () s):wpAny M A (letOwnedTupleGo tg (.ref it) u) Q E s:=by
 unfold letOwnedTupleGo;cases tg<;>first
  |exact bI hQ
  | (cases u<;>first
    |exact bI hQ
    | (refine aF (wpAny_load ho ?_)
       rw[hc,hd];show wpAny M A (if (["enumerate","zip","dict_itemiterator","dict_reverseitemiterator","odict_iterator","itertools.zip_longest","itertools.pairwise"].contains n&&vs[0]?==some (rawInt _))=true then _ else _) Q E s;rw[if_neg (by intro h;rw[hn,Bool.false_and] at h;cases h)];exact bI hQ))
noncomputable def Gy(K:W.Frag)(a:Addr):It:=
 ⟨λi H=>∃xs x,cW K H a xs/\xs[i]?=some x,λi H x H'=>H'=H/\∀xs,cW K H a xs->xs[i]?=some x,λi H=>∃xs,cW K H a xs/\xs.length<=i⟩
noncomputable def J7(K:W.Frag)(a:Addr):It:=
 ⟨λi H=>∃xs x,gF K H a xs/\xs[i]?=some x,λi H x H'=>H'=H/\∀xs,gF K H a xs->xs[i]?=some x,λi H=>∃xs,gF K H a xs/\xs.length<=i⟩
noncomputable def Ba(lo:Int)(n:Nat):It:=⟨λi _=>i<n,λi H x H'=>H'=H/\x=.int (lo+i),λi _=>n<=i⟩
theorem YM{P:Program}{w:World}{K:W.Frag}{tg:Expr}(a it:Addr):Turn P w K tg (Gy K a) [it] it (λi h=>h.IsListIter it a i) where
 mem:=by simp
 obj:=λi h st b hb=>by
  have e:b=it:=by simpa using hb
  subst e;obtain⟨o,e,c,d⟩:=st;exact⟨o,e,λv z=>by rw[d] at z;cases z⟩
 keep:=λi h h' st k=>st.at λo e=>k it J0 o e
 item:=by
  intro X hP hw hK hc i ak s Z H E I hf st hg;subst hP hw hK;obtain⟨xs,x,hq,hx⟩:=hg;obtain⟨its,rv,p,hz⟩:=I.list hq;obtain⟨u,hu,ru⟩:=rv.get hx;obtain⟨f0,f1,f2,f3,f4,f5⟩:=hf it J0;refine wpAny_pyNext_list_item st p.isList (x:=u) (by simpa using hu) λh' st' sb=>?_;have I1:Inv X ak Z H {s with heap:=h'}:=I.turned (t':=s.toks) (λb o hb e=>(sb.2 b hb).trans e) f0 f1 f3 f4 f5;obtain⟨o,e,c,d⟩:=id st';exact⟨u,rfl,J6 (s:={s with heap:=h'}) e c d Dc ⟨x,H,I1,ru,⟨rfl,λys hy=>by rw[I.lC hy hq];exact hx⟩,st',λb hb=>(hf b hb).1⟩⟩
 done:=by
  intro X hP hw hK hc i ak s Z H E I hf st hg;subst hP hw hK;obtain⟨xs,hq,hx⟩:=hg;obtain⟨its,rv,p,hz⟩:=I.list hq;obtain⟨f0,f1,f2,f3,f4,f5⟩:=hf it J0;have hl:=rv.length;exact wpAny_pyNext_list_end (I.ok.hd hc) st p.isList (by simp;lia) λh' eb=>⟨rfl,I.turned (t':=s.toks) (λb o hb e=>eb b o hb e) f0 f1 f3 f4 f5⟩
 self:=λ_ _ _ _ _ st h=>wpAny_pyIter_listiter st h
theorem YQ{P:Program}{w:World}{K:W.Frag}{tg:Expr}(a it:Addr):Turn P w K tg (J7 K a) [it] it (λi h=>h.IsTupleIter it a i) where
 mem:=by simp
 obj:=λi h st b hb=>by
  have e:b=it:=by simpa using hb
  subst e;obtain⟨o,e,c,d⟩:=st;exact⟨o,e,λv z=>by rw[d] at z;cases z⟩
 keep:=λi h h' st k=>st.at λo e=>k it J0 o e
 item:=by
  intro X hP hw hK hc i ak s Z H E I hf st hg;subst hP hw hK;obtain⟨xs,x,hq,hx⟩:=hg;obtain⟨its,rv,p,hz⟩:=I.tuple hq;obtain⟨u,hu,ru⟩:=rv.get hx;obtain⟨f0,f1,f2,f3,f4,f5⟩:=hf it J0;refine wpAny_pyNext_tuple_item st (show s.heap.IsTuple a its.toArray from p) (x:=u) (by simpa using hu) λh' st' sb=>?_;have I1:Inv X ak Z H {s with heap:=h'}:=I.turned (t':=s.toks) (λb o hb e=>(sb.2 b hb).trans e) f0 f1 f3 f4 f5;obtain⟨o,e,c,d⟩:=id st';exact⟨u,rfl,J6 (s:={s with heap:=h'}) e c d Dc ⟨x,H,I1,ru,⟨rfl,λys hy=>by rw[I.jk hy hq];exact hx⟩,st',λb hb=>(hf b hb).1⟩⟩
 done:=by
  intro X hP hw hK hc i ak s Z H E I hf st hg;subst hP hw hK;obtain⟨xs,hq,hx⟩:=hg;obtain⟨its,rv,p,hz⟩:=I.tuple hq;obtain⟨f0,f1,f2,f3,f4,f5⟩:=hf it J0;have hl:=rv.length;exact wpAny_pyNext_tuple_end (I.ok.hd hc) st (show s.heap.IsTuple a its.toArray from p) (by simp;lia) λh' eb=>⟨rfl,I.turned (t':=s.toks) (λb o hb e=>eb b o hb e) f0 f1 f3 f4 f5⟩
 self:=λ_ _ _ _ _ st h=>wpAny_pyIter_tupleiter st h
theorem YS{P:Program}{w:World}{K:W.Frag}{tg:Expr}(it:Addr)(lo:Int)(n:Nat):Turn P w K tg (Ba lo n) [it] it (λi h=>IsRangeIter h it (lo+(i:Nat)*1) ((n:Int)-(i:Nat)) 1) where
 mem:=by simp
 obj:=λi h st b hb=>by
  have e:b=it:=by simpa using hb
  subst e;exact⟨_,st,λv z=>by
   have z':Data.fields _=Data.cell v:=z;cases z'⟩
 keep:=λi h h' st k=>k it J0 _ st
 item:=by
  intro X hP hw hK hc i ak s Z H E I hf st hg;subst hP hw hK;obtain⟨f0,f1,f2,f3,f4,f5⟩:=hf it J0;have W:=Walks.range (prog:=X.prog) (w:=X.w) (I.ok.hd hc) it lo 1 n;refine W.item i s _ _ hg st λv h' tk hv st' kk=>?_;obtain⟨t,rfl⟩:=hv;have I1:Inv X ak Z H {s with heap:=h',toks:=tk}:=I.turned (λb o hb e=>kk b o (by simpa using hb) e) f0 f1 f3 f4 f5;refine⟨_,rfl,J6 (s:={s with heap:=h',toks:=tk}) (n:="range_iterator") st' rfl rfl Dc ⟨.int (lo+i),H,I1,⟨t,?_⟩,⟨rfl,rfl⟩,st',λb hb=>(hf b hb).1⟩⟩;rw[Int.mul_one]
 done:=by
  intro X hP hw hK hc i ak s Z H E I hf st hg;subst hP hw hK;obtain⟨f0,f1,f2,f3,f4,f5⟩:=hf it J0;exact wpAny_pyNext_range_end (I.ok.hd hc) st (by have:n<=i:=hg;lia) λh' eb=>⟨rfl,I.turned (t':=s.toks) (λb o hb e=>eb b o hb e) f0 f1 f3 f4 f5⟩
 self:=λ_ _ _ _ _ st h=>wpAny_pyIter_rangeiter st h
section
variable {X:Cx}{tg:Expr}
theorem QW{ak:List (Addr×Obj)}{Z:St}{H:Hp}{s:Shared}{R:It->Hp->Prop}{E:Value->Shared->Prop}{lo hi:Int}{t u v:Tok}{tk:Nat}(I:Inv X ak Z H s)(h1 : -(2^62)<=lo)(h2:lo<2^62)(h3 : -(2^62)<=hi)(h4:hi<2^62)
  (q:R (Ba lo (hi-lo).toNat) H):wpAny (model X.prog X.w) X.A (pyIter (.ref s.heap.objs.size)) (PIE X ak Z tg R) E {s with heap:=s.heap.push {cls:=.type "range",data:=.fields #[.int lo t,.int hi u,.int 1 v]},toks:=tk}:=by
 refine wpAny_pyIter_range (IsRange.new ..) (small_one h1 h2 h3 h4) ?_;have I1:Inv X ak Z H {s with heap:=s.heap.push {cls:=.type "range",data:=.fields #[.int lo t,.int hi u,.int 1 v]},toks:=tk}:=I.kept λb o e=>dz _ e;refine⟨(s.heap.push {cls:=.type "range",data:=.fields #[.int lo t,.int hi u,.int 1 v]}).objs.size,[(s.heap.push {cls:=.type "range",data:=.fields #[.int lo t,.int hi u,.int 1 v]}).objs.size],_,_,H,rfl,
  I1.kept (t':=tk) λb o e=>dz _ e,YS _ lo (hi-lo).toNat,?_,λb hb=>?_,q⟩
 ·have e1:lo+((0:Nat):Int)*1=lo:=by simp
  have e2:(((hi-lo).toNat:Nat):Int)-((0:Nat):Int)=Builtin.Range.rangeSize lo hi 1:=by rw[rangeSize_one];split<;>lia
  show IsRangeIter _ _ (lo+((0:Nat):Int)*1) ((((hi-lo).toNat:Nat):Int)-((0:Nat):Int)) 1;rw[e1,e2];exact iu _ rfl
 ·have e:b=(s.heap.push {cls:=.type "range",data:=.fields #[.int lo t,.int hi u,.int 1 v]}).objs.size:=by simpa using hb
  subst e;exact I1.pB (bT _) (I1.hok.fresh (bT _))
noncomputable def Bb(ta:TA):TI:=λZ H R=>ta Z H λvs H1=>∃j:Int,vs=[.int j]/\-(2^62)<=j/\j<2^62/\R (Ba 0 j.toNat) H1
noncomputable def Bc(ta:TA):TI:=λZ H R=>ta Z H λvs H1=>∃i j:Int,vs=[.int i,.int j]/\(-(2^62)<=i/\i<2^62/\-(2^62)<=j/\j<2^62)/\R (Ba i (j-i).toNat) H1
theorem YT{a:Expr}{ta:TA}{p pos:Pos}(hg:Gl X "range")(hm:X.mg "range"=none)(ha:PA X [a] ta)(hs:starEach [a] X.env=[(false,eval a X.env)]:=by rfl):PI X tg (.Call (.Name "range" p) [a] [] pos) (Bb ta):=by
 intro ak s Z H R I h;refine Call_ (vZ I hg hm boot_range (zU (bf (ha pos ak s Z H _ I h) λus s1 hx=>eY hx λvs H1 I1 r1 q1=>?_) hs rfl));obtain⟨j,e,q1,q2,q⟩:=q1;subst e;cases r1 with
 |cons r rr=>
  cases rr;obtain⟨t,rfl⟩:=r;exact call_range_1 (QW I1 gV gV q1 q2 (by simpa using q))
theorem YW{a b:Expr}{ta:TA}{p pos:Pos}(hg:Gl X "range")(hm:X.mg "range"=none)(ha:PA X [a,b] ta)(hs:starEach [a,b] X.env=[(false,eval a X.env),(false,eval b X.env)]:=by rfl)(Bf:starEach [b] X.env=[(false,eval b X.env)]:=by rfl) :
  PI X tg (.Call (.Name "range" p) [a,b] [] pos) (Bc ta):=by
 intro ak s Z H R I h;refine Call_ (vZ I hg hm boot_range (zU (bf (ha pos ak s Z H _ I h) λus s1 hx=>eY hx λvs H1 I1 r1 q1=>?_) (by rw[hs,Bf]) (by rw[Bf];rfl)));obtain⟨i,j,e,⟨q1,q2,q3,q4⟩,q⟩:=q1;subst e;cases r1 with
 |cons r rr=>
  cases rr with
  |cons r' rr=>
   cases rr;obtain⟨t,rfl⟩:=r;obtain⟨t',rfl⟩:=r';exact call_range_2 (QW I1 q1 q2 q3 q4 q)
noncomputable def J8(wi:TI)(g:TG)(tb:TS):TS:=λD Z H=>wi Z H λcI H1=>∃W:Nat->Nat->St->Hp->Prop,(∃m,W 0 m Z H1)/\∀i m Z H,W i m Z H->
 (cI.stop i H/\D.nx Z H)\/(cI.go i H/\∃N:St->Hp->Prop,(∀Z' H',N Z' H'->∃m',m'<m/\W (i+1) m' Z' H')/\∀x H',cI.wj i H x H'->g x Z H' λZ2 H2=>tb {D with nx:=N,ct:=N,bk:=D.nx} Z2 H2)
noncomputable def iH(fp:List Addr)(h:Heap):List (Addr×Obj):=fp.filterMap λb=>(h.get? b).map λo=>(b,o)
theorem Gz{fp:List Addr}{h:Heap}{b:Addr}{o:Obj}(hb:b∈fp)(e:h.get? b=some o):(b,o)∈iH fp h:=ug.mpr ⟨b,hb,by rw[e];rfl⟩
theorem YX{fp:List Addr}{h:Heap}{p:Addr×Obj}(hp:p∈iH fp h):p.1∈fp/\h.get? p.1=some p.2:=by
 obtain⟨b,hb,e⟩:=ug.mp hp;cases q:h.get? b with
 |none=>rw[q] at e;cases e
 |some o=>
  rw[q] at e;have e':(b,o)=p:=bR e;subst e';exact⟨hb,q⟩
theorem Inv.pinned{ak:List (Addr×Obj)}{Z:St}{H:Hp}{s:Shared}{fp:List Addr}(I:Inv X ak Z H s)(hf:∀b∈fp,gG X ak H b)(ho:∀b∈fp,∃o,s.heap.get? b=some o/\∀v,o.data≠.cell v):Inv X (ak++iH fp s.heap) Z H s:=
 I.jG λp hp=>(iG.mp hp).elim (λz=>I.pin p (qx _ z)) λz=>by
  obtain⟨hb,e⟩:=YX z;obtain⟨f0,f1,f2,_⟩:=hf p.1 hb;obtain⟨o,e',d⟩:=ho p.1 hb;rw[e] at e';cases e';exact⟨e,f0,f1,f2,d⟩
theorem Inv.fW{ak pl:List (Addr×Obj)}{Z:St}{H:Hp}{s:Shared}(I:Inv X (ak++pl) Z H s):Inv X ak Z H s:=I.jG λp hp=>I.pin p (qx _ (yt _ hp))
theorem YZ{iter:Expr}{body:List Stmt}{wi:TI}{g:TG}{tb:TS}{pos:Pos}(hp:PassesOwn (model X.prog X.w) X.A X.env X.xe)(hc:X.aj=true)(hi:PI X tg iter wi)(hg:PG X tg g)(hb:m7 X body tb)
  (hs:∀x,foldedSetIterable iter X.env x=pure x:=by intro _;rfl):PS X (.For tg iter body [] pos) (J8 wi g tb):=by
 intro ak s Z H D I h;refine wpAny_For (bf (hi ak s Z H _ I h) λv s1 h1=>bf h1 λitv s2 h2=>?_) hs;obtain⟨it,fp,tn,cI,H2,e,I2,T,st2,f2,W,⟨m0,w0⟩,turn⟩:=h2;subst e;have stat:∀{H':Hp},(∀b∈fp,H' b=none)->∀b∈fp,gG X ak H' b:=λhn b hb=>⟨hn b hb,(f2 b hb).2⟩;refine codeAny_forLoop_any (λn s'=>∃i Z' H',Inv X ak Z' H' s'/\tn i s'.heap/\(∀b∈fp,H' b=none)/\W i n Z' H') ?_ m0 ⟨0,Z,H2,I2,st2,λb hb=>(f2 b hb).1,w0⟩;rintro n s3 ⟨i,Z3,H3,I3,st3,QX,w3⟩;rcases turn i n Z3 H3 w3 with ⟨stop,qn⟩|⟨go,N,hN,step⟩
 ·refine vK hp (bf (T.done X rfl rfl rfl hc i ak s3 Z3 H3 X.xe I3 (stat QX) st3 stop) λr s4 ⟨hr,I4⟩=>?_);subst hr;exact wpAny_execs_nil ⟨Z3,H3,I4,qn⟩
 ·refine vK hp (bf (T.item X rfl rfl rfl hc i ak s3 Z3 H3 X.xe I3 (stat QX) st3 go) λr s4 hx=>qF hx λu hr h4=>?_);subst hr;refine vK hp (bf h4 λ_ s5 ⟨x,H5,I5,r5,y5,yN,GC⟩=>?_);have Y0:=I5.pinned (stat GC) (T.obj _ _ yN);refine vK hp (bf (hg _ s5 Z3 H5 x u _ Y0 r5 (step x H5 y5)) λ_ s6 ⟨Z6,H6,I6,q6⟩=>?_);refine vK hp (bf (hb _ s6 Z6 H6 _ I6 q6) λf s7 q7=>?_);have again:∀{Z7:St} {H7:Hp},Inv X (ak++iH fp s5.heap) Z7 H7 s7->N Z7 H7->∃m,m<n/\∃i Z' H',Inv X ak Z' H' s7/\tn i s7.heap/\(∀b∈fp,H' b=none)/\W i m Z' H':=λ{Z7 H7} I7 n7=>by
   obtain⟨m',hm,w7⟩:=hN Z7 H7 n7;refine⟨m',hm,i+1,Z7,H7,I7.fW,T.keep _ _ _ yN λb hb o e=>(I7.pin (b,o) (qx _ (qx _ (Gz hb e)))).1,λb hb=>?_,w7⟩;obtain⟨o,e,d⟩:=T.obj _ _ yN b hb;exact(I7.pin (b,o) (qx _ (qx _ (Gz hb e)))).2.1
  cases f with
  |next=>obtain⟨Z7,H7,I7,n7⟩:=q7;exact again I7 n7
  |cont=>obtain⟨Z7,H7,I7,n7⟩:=q7;exact again I7 n7
  |brk=>obtain⟨Z7,H7,I7,q7⟩:=q7;exact⟨Z7,H7,I7.fW,q7⟩
  |ret v=>obtain⟨x7,Z7,H7,I7,r7,q7⟩:=q7;exact⟨x7,Z7,H7,I7.fW,r7,q7⟩
end
noncomputable abbrev R2:=V->V->Hp->VK->Prop
def dw(X:Cx)(f:Value->Value->Sem Value)(r:R2):Prop:=
 ∀(ak:List (Addr×Obj)) (s:Shared) (Z:St) (H:Hp) (x y:V) (v u:Value) (Q:VK),Inv X ak Z H s->RelV x v->RelV y u->r x y H Q->
  wpAny (model X.prog X.w) X.A (f v u) (EP X ak Z Q) X.xe s
def GD(X:Cx)(f:Value->Sem Value)(r:V->Hp->VK->Prop):Prop:=
 ∀(ak:List (Addr×Obj)) (s:Shared) (Z:St) (H:Hp) (x:V) (v:Value) (Q:VK),Inv X ak Z H s->RelV x v->r x H Q->
  wpAny (model X.prog X.w) X.A (f v) (EP X ak Z Q) X.xe s
def cT(X:Cx)(f:Value)(r:List V->Hp->VK->Prop):Prop:=
 ∀(ak:List (Addr×Obj)) (s:Shared) (Z:St) (H:Hp) (xs:List V) (us:List Value) (Q:VK),Inv X ak Z H s->Vals xs us->r xs H Q->
  wpAny (model X.prog X.w) X.A (call f us) (EP X ak Z Q) X.xe s
noncomputable def GF(r:R2)(ta tb:TE):TE:=λZ H Q=>ta Z H λx H1=>tb Z H1 λy H2=>r x y H2 Q
noncomputable def Y4(r:V->Hp->VK->Prop)(ta:TE):TE:=λZ H Q=>ta Z H λx H1=>r x H1 Q
noncomputable def rI(C:Int->Int->Prop)(g:Int->Int->V):R2:=λx y H Q=>∃i j,x=.int i/\y=.int j/\C i j/\Q (g i j) H
noncomputable def mq(g:Int->Int->V):R2:=λx y H Q=>∃i j,x=.int i/\y=.int j/\Q (g i j) H
noncomputable def rU(g:Int->V):V->Hp->VK->Prop:=λx H Q=>∃i,x=.int i/\Q (g i) H
section
variable {X:Cx}{a b c:Expr}{ta tb tc:TE}{pos:Pos}
theorem wk(ha:PE X a ta)(hb:PE X b tb){ak:List (Addr×Obj)}{s:Shared}{Z:St}{H:Hp}{R:V->V->Hp->Prop}(I:Inv X ak Z H s)
  (h:ta Z H λx H1=>tb Z H1 λy H2=>R x y H2) {Q:Value->Shared->Prop} {f:Value->Value->Sem Value}
  (hf:∀v u s2 x y H2,Inv X ak Z H2 s2->RelV x v->RelV y u->R x y H2->wpAny (model X.prog X.w) X.A (f v u) Q X.xe s2) :
  wpAny (model X.prog X.w) X.A (eval a X.env) (λv s₁=>wpAny (model X.prog X.w) X.A (eval b X.env) (λu s₂=>wpAny (model X.prog X.w) X.A (f v u) Q X.xe s₂) X.xe s₁) X.xe s:=by
 refine bf (ha ak s Z H _ I h) λv s1 hx=>eY hx λx H1 I1 r1 q1=>?_;refine bf (hb ak s1 Z H1 _ I1 q1) λu s2 hx=>eY hx λy H2 I2 r2 q2=>?_;exact hf v u s2 x y H2 I2 r1 r2 q2
theorem Y5{op:Operator}{r:R2}(ho:dw X (binaryOp op) r)(ha:PE X a ta)(hb:PE X b tb):PE X (.BinOp a op b pos) (GF r ta tb):=by
 intro ak s Z H Q I h;exact wpAny_BinOp (wk ha hb I h λv u s2 x y H2 I2 rx ry q=>ho ak s2 Z H2 x y v u Q I2 rx ry q)
theorem Y6{op:UnaryOp}{r:V->Hp->VK->Prop}(ho:GD X (unaryOp op) r)(ha:PE X a ta):PE X (.UnaryOp op a pos) (Y4 r ta):=by
 intro ak s Z H Q I h;exact UnaryOp_ (bf (ha ak s Z H _ I h) λv s1 hx=>eY hx λx H1 I1 r1 q1=>ho ak s1 Z H1 x v Q I1 r1 q1)
theorem GJ{f:Value->Value->Sem Value}{C:Int->Int->Prop}{g:Int->Int->Int}
  (rule:∀(i j:Int) (t u:Tok) (s:Shared) (Q:Value->Shared->Prop) (E:Value->Shared->Prop),C i j->Q (.int (g i j) s.toks) {s with toks:=s.toks+1}->wpAny (model X.prog X.w) X.A (f (.int i t) (.int j u)) Q E s) :
  dw X f (rI C λi j=>.int (g i j)):=by
 intro ak s Z H x y v u Q I rx ry h;obtain⟨i,j,rfl,rfl,hc,q⟩:=h;obtain⟨t,rfl⟩:=rx;obtain⟨t',rfl⟩:=ry;exact rule i j t t' s _ _ hc ⟨.int (g i j),H,I.tok _,⟨_,rfl⟩,q⟩
theorem Bg{f:Value->Value->Sem Value}{g:Int->Int->Int}
  (rule:∀(i j:Int) (t u:Tok) (s:Shared) (Q:Value->Shared->Prop) (E:Value->Shared->Prop),Q (.int (g i j) s.toks) {s with toks:=s.toks+1}->wpAny (model X.prog X.w) X.A (f (.int i t) (.int j u)) Q E s) :
  dw X f (mq λi j=>.int (g i j)):=by
 intro ak s Z H x y v u Q I rx ry h;obtain⟨i,j,rfl,rfl,q⟩:=h;obtain⟨t,rfl⟩:=rx;obtain⟨t',rfl⟩:=ry;exact rule i j t t' s _ _ ⟨.int (g i j),H,I.tok _,⟨_,rfl⟩,q⟩
theorem rF{f:Value->Value->Sem Value}{g:Int->Int->Bool}
  (rule:∀(i j:Int) (t u:Tok) (s:Shared) (Q:Value->Shared->Prop) (E:Value->Shared->Prop),Q (.bool (g i j)) s->wpAny (model X.prog X.w) X.A (f (.int i t) (.int j u)) Q E s) :
  dw X f (mq λi j=>.bl (g i j)):=by
 intro ak s Z H x y v u Q I rx ry h;obtain⟨i,j,rfl,rfl,q⟩:=h;obtain⟨t,rfl⟩:=rx;obtain⟨t',rfl⟩:=ry;exact rule i j t t' s _ _ ⟨.bl (g i j),H,I,rfl,q⟩
def rG(i j:Int):Prop:=0<j/\j<1073741824
def Bh(i j:Int):Prop:=0<=j/\j<=1000000/\i.natAbs<2^64
def rH(i j:Int):Prop:=(-(2^64)<i/\i<2^64)\/(-(2^64)<j/\j<2^64)
theorem rH.ok{i j:Int}(h:rH i j):IntMulOk i j:=by
 rcases h with ⟨h1,h2⟩|⟨h1,h2⟩
 ·exact .of_left (intBits_le_64 h1 h2)
 ·exact .of_right (intBits_le_64 h1 h2)
theorem wu:dw X (binaryOp .Add) (mq λi j=>.int (i+j)):=Bg λ_ _ _ _ _ _ _ q=>add_int q
theorem Y7:dw X (binaryOp .Sub) (mq λi j=>.int (i-j)):=Bg λ_ _ _ _ _ _ _ q=>sub_int q
theorem Y8:dw X (binaryOp .Mult) (rI rH λi j=>.int (i*j)):=GJ λ_ _ _ _ _ _ _ hc q=>mul_int q hc.ok
theorem Y9:dw X (binaryOp .FloorDiv) (rI rG λi j=>.int (i/j)):=GJ λi j _ _ _ _ _ hc q=>by
 have h1:(0:Int)<j:=hc.1;have h2:j<1073741824:=hc.2;exact floordiv_int gV (by rw[Int.fdiv_eq_ediv_of_nonneg i gV];exact q) (.inl (PyProof.noPylong_small gV))
theorem Y_:dw X (binaryOp .Mod) (rI (λ_ j=>0<j) λi j=>.int (i%j)):=GJ λi j _ _ _ _ _ hc q=>by
 have h1:(0:Int)<j:=hc;exact mod_int' gV (by rw[Int.fmod_eq_emod_of_nonneg i gV];exact q)
theorem Za:dw X (binaryOp .Pow) (rI Bh λi j=>.int (i^j.toNat)):=GJ λ_ _ _ _ _ _ _ hc q=>pow_int_small hc.1 hc.2.1 hc.2.2 q
theorem Zb{f:Value->Sem Value}{g:Int->Int}
  (rule:∀(i:Int) (t:Tok) (s:Shared) (Q:Value->Shared->Prop) (E:Value->Shared->Prop),Q (.int (g i) s.toks) {s with toks:=s.toks+1}->wpAny (model X.prog X.w) X.A (f (.int i t)) Q E s) :
  GD X f (rU λi=>.int (g i)):=by
 intro ak s Z H x v Q I rx h;obtain⟨i,rfl,q⟩:=h;obtain⟨t,rfl⟩:=rx;exact rule i t s _ _ ⟨.int (g i),H,I.tok _,⟨_,rfl⟩,q⟩
theorem Zc:GD X (unaryOp .USub) (rU λi=>.int (-i)):=Zb λ_ _ _ _ _ q=>neg_int q
end
section
variable {X:Cx}{a b c:Expr}{ta tb tc:TE}{pos:Pos}
theorem Bj:dw X (compareOp .Lt) (mq λi j=>.bl (decide (i<j))):=rF λ_ _ _ _ _ _ _ q=>lt_int q
theorem Zd:dw X (compareOp .LtE) (mq λi j=>.bl (decide (i<=j))):=rF λ_ _ _ _ _ _ _ q=>le_int q
theorem Ze:dw X (compareOp .Gt) (mq λi j=>.bl (decide (j<i))):=rF λ_ _ _ _ _ _ _ q=>gt_int q
theorem Zf:dw X (compareOp .GtE) (mq λi j=>.bl (decide (j<=i))):=rF λ_ _ _ _ _ _ _ q=>ge_int q
theorem dw.or{f:Value->Value->Sem Value}{r r':R2}(h:dw X f r)(h':dw X f r'):dw X f (λx y H Q=>r x y H Q\/r' x y H Q):=by
 intro ak s Z H x y v u Q I rx ry q;rcases q with q|q
 ·exact h ak s Z H x y v u Q I rx ry q
 ·exact h' ak s Z H x y v u Q I rx ry q
theorem Zg{op:CmpOp}{r:R2}(ho:dw X (compareOp op) r)(ha:PE X a ta)(hb:PE X b tb)(hm:behindInMarks op b=false):PE X (.Compare a [op] [b] pos) (GF r ta tb):=by
 intro ak s Z H Q I h;exact wpAny_Compare1 (wk ha hb I h λv u s2 x y H2 I2 rx ry q=>ho ak s2 Z H2 x y v u Q I2 rx ry q) hm
noncomputable def Bk(t:TE):TT:=λZ H Q=>t Z H λx H'=>∃k,x=.bl k/\Q k H'
theorem Zh{op:CmpOp}{r:R2}(ho:dw X (compareOp op) r)(ha:PE X a ta)(hb:PE X b tb)(hm:behindInMarks op b=false):PT X (.Compare a [op] [b] pos) (Bk (GF r ta tb)):=by
 intro ak s Z H Q I h;refine wpAny_isTrue_Compare1 (bf (ha ak s Z H _ I h) λv s1 hx=>eY hx λx H1 I1 r1 q1=>bf (hb ak s1 Z H1 _ I1 q1) λu s2 hx=>eY hx λy H2 I2 r2 q2=>
  bf (ho ak s2 Z H2 x y v u _ I2 r1 r2 q2) λc s3 hx=>Jq hx λz H3 I3 r3 k e q3=>?_) hm
 subst e;cases r3;exact vI ⟨H3,I3,q3⟩
noncomputable def wz(r r':R2)(ta tb tc:TE):TE:=λZ H Q=>ta Z H λx H1=>tb Z H1 λy H2=>r x y H2 λz H3=>∃k,z=.bl k /\
 (if k=true then tc Z H3 λw' H4=>r' y w' H4 Q else Q (.bl false) H3)
theorem Zi{op op':CmpOp}{r r':R2}(ho:dw X (compareOp op) r)(o_:dw X (compareOp op') r')(ha:PE X a ta)(hb:PE X b tb)(hc:PE X c tc)
  (hm:lastMarks [op,op'] [b,c]=false:=by with_unfolding_all rfl):PE X (.Compare a [op,op'] [b,c] pos) (wz r r' ta tb tc):=by
 intro ak s Z H Q I h;refine Compare_chain (bf (ha ak s Z H _ I h) λv s1 hx=>eY hx λx H1 I1 r1 q1=>chain_link (bf (hb ak s1 Z H1 _ I1 q1) λu s2 hx=>eY hx λy H2 I2 r2 q2=>
  bf (ho ak s2 Z H2 x y v u _ I2 r1 r2 q2) λd s3 hx=>Jq hx λz H3 I3 r3 k e q3=>?_)) hm
 subst e;cases r3;refine vI ?_;cases k with
 |false=>exact ite_ff ⟨.bl false,H3,I3,rfl,q3⟩
 |true=>exact ite_tt (chain_last (bf (hc ak s3 Z H3 _ I3 q3) λw' s4 hx=>eY hx λz' H4 I4 r4 q4=>o_ ak s4 Z H4 y z' u w' Q I4 r2 r4 q4))
theorem iI:(sizeLine:Nat)<2^63:=by rw[uz];decide
theorem Zj:dw X (binaryOp .Add) (λx y H Q=>∃i j,x=.str i/\y=.str j/\i.length+j.length<=sizeLine/\Q (.str (i++j)) H):=by
 intro ak s Z H x y v u Q I rx ry h;obtain⟨i,j,rfl,rfl,hz,q⟩:=h;obtain⟨t,rfl⟩:=rx;obtain⟨t',rfl⟩:=ry;exact add_str (λt' tk=>⟨.str (i++j),H,I.tok _,⟨_,rfl⟩,q⟩) hz
theorem vals1{x:V}{us:List Value}(r:Vals [x] us):∃u,us=[u]/\RelV x u:=by
 cases r with
 |cons r1 r2=>cases r2;exact⟨_,rfl,r1⟩
theorem vals2{x y:V}{us:List Value}(r:Vals [x,y] us):∃u w',us=[u,w']/\RelV x u/\RelV y w':=by
 cases r with
 |cons r1 r2=>
  cases r2 with
  |cons r3 r4=>cases r4;exact⟨_,_,rfl,r1,r3⟩
theorem Zk:cT X (.builtin "abs") (λxs H Q=>∃i,xs=[.int i]/\Q (.int (if i<0 then -i else i)) H):=by
 intro ak s Z H xs us Q I r h;obtain⟨i,rfl,q⟩:=h;obtain⟨u,rfl,t,rfl⟩:=vals1 r;exact call_abs_int λu tk=>⟨.int (if i<0 then -i else i),H,I.tok _,⟨_,rfl⟩,q⟩
theorem Zm(hc:X.aj=true):cT X (.builtin "max") (λxs H Q=>∃i j,xs=[.int i,.int j]/\Q (.int (if j>i then j else i)) H):=by
 intro ak s Z H xs us Q I r h;obtain⟨i,j,rfl,q⟩:=h;obtain⟨u,w',rfl,⟨t,rfl⟩,⟨t',rfl⟩⟩:=vals2 r;refine max_two_ints (I.ok.hd hc) λh' tk k=>⟨_,H,I.kept k,?_,q⟩;by_cases hj:j>i
 ·rw[if_pos hj,if_pos hj];exact⟨_,rfl⟩
 ·rw[if_neg hj,if_neg hj];exact⟨_,rfl⟩
theorem Zn(hc:X.aj=true):cT X (.builtin "min") (λxs H Q=>∃i j,xs=[.int i,.int j]/\Q (.int (if j<i then j else i)) H):=by
 intro ak s Z H xs us Q I r h;obtain⟨i,j,rfl,q⟩:=h;obtain⟨u,w',rfl,⟨t,rfl⟩,⟨t',rfl⟩⟩:=vals2 r;refine min_two_ints (I.ok.hd hc) λh' tk k=>⟨_,H,I.kept k,?_,q⟩;by_cases hj:j<i
 ·rw[if_pos hj,if_pos hj];exact⟨_,rfl⟩
 ·rw[if_neg hj,if_neg hj];exact⟨_,rfl⟩
theorem Zo:cT X (.type "int") (λxs H Q=>(∃i,xs=[.int i]/\Q (.int i) H)\/∃k,xs=[.bl k]/\Q (.int (if k then 1 else 0)) H):=by
 intro ak s Z H xs us Q I r h;rcases h with ⟨i,rfl,q⟩|⟨k,rfl,q⟩
 ·obtain⟨u,rfl,t,rfl⟩:=vals1 r;exact call_int_int ⟨.int i,H,I,⟨_,rfl⟩,q⟩
 ·obtain⟨u,rfl,r1⟩:=vals1 r;cases r1;exact call_int_bool ⟨.int (if k then 1 else 0),H,I.tok _,⟨_,rfl⟩,q⟩
theorem Zq:cT X (.builtin "divmod") (λxs H Q=>∃i j,xs=[.int i,.int j]/\rG i j/\∀p,H p=none->Q (.ref p) (upd H p (.tup [.int (i/j),.int (i%j)]))):=by
 intro ak s Z H xs us Q I r h;obtain⟨i,j,rfl,⟨h1,h2⟩,q⟩:=h;obtain⟨u,w',rfl,⟨t,rfl⟩,⟨t',rfl⟩⟩:=vals2 r;refine divmod_int gV ?_ (.inl (PyProof.noPylong_small gV));rw[Int.fdiv_eq_ediv_of_nonneg i gV,Int.fmod_eq_emod_of_nonneg i gV];have hn:H s.heap.objs.size=none:=I.hok.fresh (bT _);refine⟨.ref s.heap.objs.size,_,?_,rfl,q _ hn⟩;refine I.laid (λb o e=>dz _ e) (bT _) ⟨by simp only[gB,z_];rw[uz];decide,[.int (i/j) s.toks,.int (i%j) (s.toks+1)],.cons ⟨_,rfl⟩ (.cons ⟨_,rfl⟩ .nil),?_⟩;exact⟨_,iu s.heap rfl,rfl,0,rfl⟩
end
structure cD(k:Nat)(A:Around):Prop where
 dp:A.depth+3*k+5<recursionLimit
 un:A.units+16*k+200<cLine
 gd:A.guards=some []
theorem cD.deeper{k:Nat}{A:Around}(r:cD (k+1) A)(env:Env):cD k (A.deeper env):=
 ⟨by have:=r.dp;show A.depth+1+3*k+5<_;lia,by have:=r.un;show A.units+3+16*k+200<_;lia,r.gd⟩
theorem cD.depth{k:Nat}{A:Around}(r:cD k A):A.depth<recursionLimit:=by have:=r.dp;lia
noncomputable def J9:TA:=λ_ H Q=>Q [] H
noncomputable def Bl(ta:TE)(tr:TA):TA:=λZ H Q=>ta Z H λx H1=>tr Z H1 λxs H2=>Q (x::xs) H2
section
variable {X:Cx}{e:Expr}{es:List Expr}{te:TE}{t:TA}{pos:Pos}
theorem wA:PA X [] J9:=λ_ _ _ _ H Q I h=>Calls.spliced_nil ⟨[],H,I,.nil,h⟩
theorem qI(ha:PE X e te)(hr:PA X es t)(hs:starEach (e::es) X.env=(false,eval e X.env)::starEach es X.env:=by rfl):PA X (e::es) (Bl te t):=by
 intro pos ak s Z H Q I h;rw[hs];show wpAny _ _ (spliced ((false,eval e X.env)::backTo pos (starEach es X.env))) _ _ s;refine Calls.spliced_cons (bf (ha ak s Z H _ I h) λu s1 hx=>eY hx λx H1 I1 r1 q1=>?_);exact bf (hr pos ak s1 Z H1 _ I1 q1) λus s2 hx=>eY hx λxs H2 I2 r2 q2=>⟨x::xs,H2,I2,.cons r1 r2,q2⟩
noncomputable def J_(t:TA):TE:=λZ H Q=>t Z H λxs H1=>xs.length<=sizeLine/\∀p,H1 p=none->Q (.ref p) (upd H1 p (.tup xs))
noncomputable def Ka(t:TA):TE:=λZ H Q=>t Z H λxs H1=>xs.length<=sizeLine/\∀p,H1 p=none->Q (.ref p) (upd H1 p (.lst xs))
theorem Zr{x1}(h:PA X es t):PE X (.Tuple es x1 pos) (J_ t):=by
 intro ak s Z H Q I hq;refine wpAny_Tuple_spliced (bf (h pos ak s Z H _ I hq) λus s1 ⟨xs,H1,I1,r,z,q⟩=>⟨by rw[<-r.length];exact z,?_⟩);have hf:H1 s1.heap.objs.size=none:=I1.hok.fresh (bT _);refine⟨.ref s1.heap.objs.size,upd H1 s1.heap.objs.size (.tup xs),I1.laid (t':=s1.toks) (λb u e=>dz _ e) (bT _) ?_,rfl,q _ hf⟩;exact⟨z,us,r,⟨_,iu _ rfl,rfl,_,rfl⟩⟩
theorem Zu(h:PA X es t):PE X (.List es pos) (Ka t):=by
 intro ak s Z H Q I hq;refine wpAny_List_spliced (bf (h pos ak s Z H _ I hq) λus s1 ⟨xs,H1,I1,r,z,q⟩=>⟨by rw[<-r.length];exact z,?_⟩);have hf:H1 s1.heap.objs.size=none:=I1.hok.fresh (bT _);refine⟨.ref s1.heap.objs.size,upd H1 s1.heap.objs.size (.lst xs),I1.laid (t':=s1.toks) (λb u e=>dz _ e) (bT _) ?_,rfl,q _ hf⟩;exact⟨z,us,0,r,iu _ rfl⟩
end
noncomputable abbrev Sp:=List V->Hp->VK->XK->Prop
noncomputable abbrev oH:=List Env->Hp->Shared->XK->Value->Shared->Prop
structure rJ(P:Program)(w:World)(K:W.Frag)(mg:Str->Option Value)(base:Heap)(A:Around)(outer:List Env)(s:Shared)(H:Hp):Prop where
 frames:A.frames=some outer
 mod:Mod K mg base
 bs:∀b o,base.get? b=some o->s.heap.get? b=some o/\H b=none
 yM:base.objs.size<=s.heap.objs.size
 jD:s.heap.FunFrames base outer
 Gq:∀b∈frs outer,H b=none
 hok:gD P w H s.heap
 bare:AllBare s.gens
def CE(outer:List Env)(P:Program)(w:World)(H:Hp)(s:Shared)(Q:VK)(u:Value)(s':Shared):Prop:=
 ∃v H',s'.os=s.os/\AllBare s'.gens/\Un (frs outer) [] H H' s.heap s'.heap/\gD P w H' s'.heap/\RelV v u/\Q v H'
def CR(CX:oH)(outer:List Env)(P:Program)(w:World)(H:Hp)(s:Shared)(Q:VK)(E:XK)(r:Result)(s':Shared):Prop:=
 match r with
 |.ok (.ret u)=>CE outer P w H s Q u s'
 |.ok _=>False
 |.error e=>CX outer H s E e s'
structure dB(P:Program)(w:World)(K:W.Frag)(mg:Str->Option Value)(base:Heap)(CX:oH)(cm:Bool)(k:Nat)(f:Addr)(fd:FuncData)(ps:List Str)(sp:Sp):Prop where
 len:∀vs H Q E,sp vs H Q E->vs.length=ps.length
 run:∀(A:Around) (outer:List Env) (s:Shared) (H:Hp) (args:Args) (us:List Value) (vs:List V) (Q:VK) (E:XK),(cm=true->A.handled=none)->cD k A->rJ P w K mg base A outer s H->BindsTo s fd args (ps.zip us)->Vals vs us->sp vs H Q E->
  codeAny (model P w) A (.call (.ref f) args) (CR CX outer P w H s Q E) s
theorem dB.imp{P:Program}{w:World}{K:W.Frag}{mg:Str->Option Value}{base:Heap}{CX:oH}{cm:Bool}{k:Nat}{f:Addr}{fd:FuncData}{ps:List Str}{sp QZ:Sp}(F:dB P w K mg base CX cm k f fd ps sp)
  (h:∀vs H Q E,QZ vs H Q E->sp vs H Q E):dB P w K mg base CX cm k f fd ps QZ:=
 ⟨λvs H Q E q=>F.len vs H Q E (h _ _ _ _ q),λA outer s H args us vs Q E n8 hr he hb hv hs=>F.run A outer s H args us vs Q E n8 hr he hb hv (h _ _ _ _ hs)⟩
section
variable {X:Cx}{ak:List (Addr×Obj)}{Z:St}{H:Hp}{s s':Shared}
theorem Inv.env0(I:Inv X ak Z H s):rJ X.prog X.w X.K X.mg X.base X.A X.stack s H:=
 ⟨I.ok.frames,I.ok.mod,I.bs,kj I.ok.yM I.sz,I.stack,I.jF,I.hok,I.bare⟩
theorem Inv.after{Q:VK}{u:Value}(I:Inv X ak Z H s)(h:CE X.stack X.prog X.w H s Q u s'):EP X ak Z Q u s':=by
 obtain⟨v,H',os,bare,un,hok,r,q⟩:=h;obtain⟨hh,g,d,t,os'⟩:=s';obtain rfl:os'=s.os:=os;exact⟨v,H',I.call (h':=hh) (g':=g) (d':=d) (t':=t) (ch:=[]) un hok bare (λb z=>absurd z J0),r,q⟩
end
def Binds(K:W.Frag)(fd:FuncData)(ps:List Str)(ds:List Value):Prop:=
 ∀(s:Shared) (us:List Value),K.In s.heap->(us++ds).length=ps.length->BindsTo s fd ⟨us,[]⟩ (ps.zip (us++ds))
theorem Binds.all{K:W.Frag}{fd:FuncData}{ps:List Str}(h:∀us:List Value,us.length=ps.length->bindArgs fd ⟨us,[]⟩=pure (ps.zip us)):Binds K fd ps []:=λs us _ hl=>by
 rw[lZ] at hl ⊢;exact .of_eq (h us hl)
structure dU(N P:List Str)(sc:Scope):Prop where
 kind:sc.kind=.function
 co:sc.isCoroutine=false
 gen:sc.isGenerator=false
 nd:N.Nodup
 pre:N.take P.length=P
 par:∀x∈P,sc.names.lookup x=some .local\/sc.names.lookup x=some .cell
 wB:∀y∈sc.names,y.2≠.free
theorem Q0{kindOf:Str->Option NameKind}{x:Str}:∀{binds:List (Str×Value)} {m:Str->Option Value},(∀v,(x,v)∉binds)->bindL kindOf binds m x=m x
 |[],_,_=>rfl
 |(n,v)::r,m,h=>by
  unfold bindL;rw[Q0 λw hw=>h w (iD _ hw)]
  split
  ·have:x≠n:=by rintro rfl;exact h v mV
   simp[this]
  ·rfl
theorem Q5{kindOf:Str->Option NameKind}{x:Str}:∀{binds:List (Str×Value)} {m:Str->Option Value},(∀v,(x,v)∉binds)->bindC kindOf binds m x=m x
 |[],_,_=>rfl
 |(n,v)::r,m,h=>by
  unfold bindC;rw[Q5 λw hw=>h w (iD _ hw)]
  split
  ·rfl
  ·have:x≠n:=by rintro rfl;exact h v mV
   simp[this]
theorem Q6{kindOf:Str->Option NameKind}{x:Str}{v:Value}:∀{P:List Str} {vs:List Value} {i:Nat} {m:Str->Option Value},P.Nodup->P[i]?=some x->vs[i]?=some v->kindOf x=some .local->
  bindL kindOf (P.zip vs) m x=some v
 |[],_,_,_,_,h,_,_=>by simp at h
 |_::_,[],_,_,_,_,h,_=>by simp at h
 |p::P,w::vs,0,m,nd,h1,h2,hk=>by
  simp at h1 h2;subst h1;subst h2;show bindL kindOf ((p,w)::P.zip vs) m p=_;unfold bindL;rw[Q0 λv hv=>(uw.mp nd).1 (List.of_mem_zip hv).1,if_pos hk];simp
 |p::P,w::vs,i+1,m,nd,h1,h2,hk=>by
  show bindL kindOf ((p,w)::P.zip vs) m x=_;unfold bindL;exact Q6 (i:=i) (uw.mp nd).2 (by simpa using h1) (by simpa using h2) hk
theorem Q7{kindOf:Str->Option NameKind}{x:Str}{v:Value}:∀{P:List Str} {vs:List Value} {i:Nat} {m:Str->Option Value},P.Nodup->P[i]?=some x->vs[i]?=some v->kindOf x≠some .local->
  bindC kindOf (P.zip vs) m x=some v
 |[],_,_,_,_,h,_,_=>by simp at h
 |_::_,[],_,_,_,_,h,_=>by simp at h
 |p::P,w::vs,0,m,nd,h1,h2,hk=>by
  simp at h1 h2;subst h1;subst h2;show bindC kindOf ((p,w)::P.zip vs) m p=_;unfold bindC;rw[Q5 λv hv=>(uw.mp nd).1 (List.of_mem_zip hv).1,if_neg hk];simp
 |p::P,w::vs,i+1,m,nd,h1,h2,hk=>by
  show bindC kindOf ((p,w)::P.zip vs) m x=_;unfold bindC;exact Q7 (i:=i) (uw.mp nd).2 (by simpa using h1) (by simpa using h2) hk
noncomputable def start(N:List Str)(vs:List V):St:=vs.map some++List.replicate (N.length-vs.length) none
noncomputable def gH(CX:oH)(P:Program)(w:World)(K:W.Frag)(mg:Str->Option Value)(base:Heap)(N:List Str)(qual:Str)(scope:Scope)(f:Addr)(cd:Value)(A:Around)(outer:List Env)(s:Shared)(H:Hp)(E:XK)(cm:Bool):Cx where
 prog:=P
 w:=w
 K:=K
 mg:=mg
 base:=base
 A:=A.deeper (envOfC qual scope s.heap.objs.size f cd)
 N:=N
 s₀:=s
 H₀:=H
 env:=envOfC qual scope s.heap.objs.size f cd
 outer:=outer
 stack:=envOfC qual scope s.heap.objs.size f cd::outer
 ex:=[]
 aj:=cm
 fn:=λ_=>true
 pn:=[]
 xe:=λe s'=>wpAny (model P w) (A.deeper (envOfC qual scope s.heap.objs.size f cd)) (leaving (envOfC qual scope s.heap.objs.size f cd) e) (λ_ s''=>CX outer H s E e s'') (λe' s''=>CX outer H s E e' s'') s'
theorem zdt{sc:Scope}{n:Nat}{x:Str}(h:sc.names.lookup x=some .cell):∃c,(cellsFrom n sc.names []).lookup x=some c:=by
 have q:=I9 sc.names n [] (.inl h);exact Iz.mp q
theorem Zv{CX:oH}{P:Program}{w:World}{K:W.Frag}{mg:Str->Option Value}{base:Heap}{N ps:List Str}{qual:Str}{scope:Scope}{f:Addr}{cd:Value}{A:Around}{outer:List Env}{s s1:Shared}{H:Hp}{E:XK}{us:List Value}{vs:List V}
  {cm:Bool} (S:dU N ps scope) (hd:cm=true->A.handled=none) (e0:rJ P w K mg base A outer s H) (hl:vs.length=ps.length) (r:Vals vs us)
  (x:InCallC s s.heap.objs.size (bindL (envOfC qual scope s.heap.objs.size f cd).kindOf (ps.zip us) λ_=>none) (cellsFrom (s.heap.objs.size+1) scope.names []) (bindC (envOfC qual scope s.heap.objs.size f cd).kindOf (ps.zip us) λ_=>none) s1) :
  Inv (gH CX P w K mg base N qual scope f cd A outer s H E cm) [] (start N vs) H s1:=by
 have c7:ps.length<=N.length:=by have:=uD List.length S.pre;rw[rB] at this;lia
 obtain⟨h1,tk,rfl,hk⟩:=x.done;have Bm:∀b:Addr,b∉(gH CX P w K mg base N qual scope f cd A outer s H E cm).ex:=λb z=>absurd (show b∈([]:List Addr) from z) J0;refine⟨⟨e0.mod,S.kind,rfl,rfl,bT _,λy z c h1 h2=>?_,λy hy=>?_,λy c _ h=>?_,hd,Around.frames_deeper e0.frames,.inr ⟨rfl,rfl⟩,λb z=>absurd z (Bm b),e0.bs,e0.yM,λb _ _=>Bm b,λb z=>absurd z (Bm b),e0.jD,e0.Gq⟩,
  rfl,e0.bare,Un.kept hk,⟨_,x.toInCall.ns,λi y v h1 h2 h3=>?_⟩,λy c h=>⟨_,x.cell y c h⟩,e0.hok.fresh (bT _),λy c h=>?_,λp hp=>absurd (show p∈([]:List (Addr×Obj)) from hp) J0,e0.hok.kept hk,?_⟩
 ·exact name_of_addr x.apart (yu h1) (yu h2)
 ·have hy:scope.names.lookup y=some .cell\/scope.names.lookup y=some .free:=hy;rcases hy with hy|hy
  ·exact zdt hy
  ·exact absurd rfl (S.wB _ (yu hy))
 ·exact vN (x.above y c (yu h))
 ·have hi:i<vs.length:=by
   unfold start at h2;by_cases hi:i<vs.length
   ·exact hi
   ·rw[mU (by simpa using hi)] at h2;rw[Fj] at h2;split at h2<;>cases h2
  have ha:vs[i]?=some v:=by
   unfold start at h2;rw[kY (by simpa using hi),gZ] at h2;cases e:vs[i]? with
   |none=>rw[e] at h2;cases h2
   |some a=>rw[e] at h2;cases h2;rfl
  obtain⟨u,hu,rv⟩:=r.get ha;have hp:ps[i]?=some y:=by
   rw[<-S.pre,List.getElem?_take_of_lt gV];exact h1
  have Q8:ps.Nodup:=by rw[<-S.pre];exact S.nd.sublist (List.take_sublist _ _)
  refine⟨u,rv,?_⟩;rcases S.par y (fU hp) with k|k
  ·exact .inl ⟨k,Q6 Q8 hp hu k⟩
  ·obtain⟨c,e⟩:=zdt (n:=s.heap.objs.size+1) k;refine .inr ⟨.inl k,c,e,?_⟩;have q:=x.cell y c e;rw[Q7 Q8 hp hu (by show scope.names.lookup y≠_;rw[k];decide)] at q;exact q
 ·exact e0.hok.fresh (vN (x.above y c (yu h)))
 ·unfold start;show _=N.length;rw[bO,cH,Ft]
  lia
theorem Zw{CX:oH}{cm:Bool}{P:Program}{w:World}{K:W.Frag}{mg:Str->Option Value}{base:Heap}{k:Nat}{f:Addr}{name qual:Str}{params:Arguments}{body:List Stmt}{scope:Scope}{dV kV doc pm cdv ct oc:Value}{an od:Option Addr}
  {osl:Array (Option Value)} {N ps:List Str} {sp:Sp} (lk:K.lookup f=some ⟨oc,od,.func (PySem.W.fnOf name qual params body scope dV kV doc pm an cdv ct),osl⟩) (lu:PySem.W.codeIn K cdv qual=true) (S:dU N ps scope)
  (len:∀vs H Q E,sp vs H Q E->vs.length=ps.length)
  (Bo:∀(A:Around) (outer:List Env) (s:Shared) (H:Hp) (vs:List V) (Q:VK) (E:XK),cD (k+1) A->sp vs H Q E->
   ∃t,m7 (gH CX P w K mg base N qual scope f cdv A outer s H E cm) body t/\t {nx:=λ_ H'=>Q .non H',rt:=Q} (start N vs) H) :
  dB P w K mg base CX cm (k+1) f (PySem.W.fnOf name qual params body scope dV kV doc pm an cdv ct) ps sp:=by
 refine⟨len,λA outer s H args us vs Q E n8 hr e0 hb r GK=>?_⟩;have hl:=len _ _ _ _ GK;have KX:K.In s.heap:=e0.mod.yJ.keeps λb o e=>(e0.bs b o e).1;have lim:s.heap.NoLimit:=e0.mod.nolimit.keeps λb o e=>(e0.bs b o e).1;have Bp:∀y∈ps.zip us,scope.names.lookup y.1=some .local\/(scope.names.lookup y.1=some .cell/\((cellsFrom (s.heap.objs.size+1) scope.names []).lookup y.1).isSome=true):=λ⟨n,v⟩ hy=>by
  rcases S.par n (List.of_mem_zip hy).1 with q|q
  ·exact .inl q
  ·exact .inr ⟨q,I9 _ _ _ (.inl q)⟩
 refine codeAny_call_function hr.depth (KX _ _ lk) rfl S.co S.gen rfl (PySem.W.codeRec_of KX lu) (hb _ _ _ _ ?_);refine wpAny_newFunctionEnv_cells S.kind Bp λenv he s1 x=>?_;subst he;refine⟨lim.keeps x.toInCall.keep,codeAny_func ?_⟩;obtain⟨t,ht,hq⟩:=Bo A outer s H vs Q E hr GK;have I:Inv (gH CX P w K mg base N qual scope f cdv A outer s H E cm) [] (start N vs) H s1:=Zv S n8 e0 hl r x;refine mX (ht [] s1 (start N vs) H _ I hq) (λfl s' hs=>?_) λe s' hs=>hs;have fin:∀{Z':St} {H':Hp} {v:V} {u:Value},Inv (gH CX P w K mg base N qual scope f cdv A outer s H E cm) [] Z' H' s'->RelV v u->Q v H'->CE outer P w H s Q u s':=
  λ{Z' H' v u} cI rv q=>⟨v,H',cI.os,cI.bare,cI.base,cI.hok,rv,q⟩
 cases fl with
 |ret u=>
  obtain⟨v,Z',H',cI,rv,q⟩:=hs;exact fin cI rv q
 |next=>
  obtain⟨Z',H',cI,q⟩:=hs;exact fin (v:=V.non) (u:=Value.none) cI rfl q
 |brk=>
  obtain⟨_,_,_,q⟩:=hs;exact False.elim q
 |cont=>
  obtain⟨_,_,_,q⟩:=hs;exact False.elim q
section
variable {X:Cx}{x:Str}{p pos:Pos}{e:Expr}{es:List Expr}{t:TA}{id T:String}{r:List V->Hp->VK->Prop}
noncomputable def Q9(r:List V->Hp->VK->Prop)(t:TA):TE:=λZ H Q=>t Z H λvs H1=>r vs H1 Q
theorem Q_(hc:cT X (.builtin id) r)(hg:Gl X x)(hm:X.mg x=none)(hv:bootBuiltins x=some (.builtin id))(ha:PA X (e::es) t)(hn:x≠"__name__":=by decide)(pC:(x==("__debug__" : Str))=false:=by decide)
  (he:starEach (e::es) X.env=(false,eval e X.env)::starEach es X.env:=by rfl) (c7:(backTo pos (starEach es X.env)).any (·.1)=false:=by rfl):PE X (.Call (.Name x p) (e::es) [] pos) (Q9 r t):=by
 intro ak s Z H Q I h;refine wpAny_Call_Name_kw (vZ I hg hm hv ?_ hn pC);exact PyProof.Rows.callWith_builtin1 (bf (ha pos ak s Z H _ I h) λus s1 hx=>eY hx λvs H1 I1 r1 q1=>hc ak s1 Z H1 vs us Q I1 r1 q1) he c7
theorem Zx(hc:cT X (.type T) r)(hg:Gl X x)(hm:X.mg x=none)(hv:bootBuiltins x=some (.type T))(ha:PA X (e::es) t)(hn:x≠"__name__":=by decide)(pC:(x==("__debug__" : Str))=false:=by decide)
  (he:starEach (e::es) X.env=(false,eval e X.env)::starEach es X.env:=by rfl) (c7:(backTo pos (starEach es X.env)).any (·.1)=false:=by rfl):PE X (.Call (.Name x p) (e::es) [] pos) (Q9 r t):=by
 intro ak s Z H Q I h;refine wpAny_Call_Name_kw (vZ I hg hm hv ?_ hn pC);exact zU (bf (ha pos ak s Z H _ I h) λus s1 hx=>eY hx λvs H1 I1 r1 q1=>hc ak s1 Z H1 vs us Q I1 r1 q1) he c7
end
end L2
namespace HT
open PySem PyProof.Rows
noncomputable def lexLt:List Int->List Int->Bool
 |[],[]=>false
 |[],_::_=>true
 |_::_,[]=>false
 |x::xs,y::ys=>if x=y then lexLt xs ys else decide (x<y)
theorem iJ(x y:Int)(xs ys:List Int):lexLt (x::xs) (y::ys)=if x=y then lexLt xs ys else decide (x<y):=rfl
theorem Zy:lexLt [] []=false:=rfl
theorem Zz(y:Int)(ys:List Int):lexLt [] (y::ys)=true:=rfl
theorem ZC(x:Int)(xs:List Int):lexLt (x::xs) []=false:=rfl
theorem ZD(A:Around)(s:Shared)(a:Int)(t:Tok)(c:Int)(u:Tok):∃e,SeqAt.EqAt A s (.int a t) (.int c u) e/\(e=true↔a=c):=
 ⟨(a==c),SeqAt.EqAt.int_int a t c u,by simp⟩
theorem ZF(A:Around)(s:Shared)(a:Int)(t:Tok)(c:Int)(u:Tok)(prog:Program)(w:World)(E:Value->Shared->Prop)(Q:Value->Shared->Prop)(h:Q (.bool (decide (a<c))) s) :
  wpAny (model prog w) A (richCompare .Lt (.int a t) (.int c u)) Q E s:=
 (PyProof.Rows.lt_int h:wpAny (model prog w) A (compareOp .Lt (.int a t) (.int c u)) Q E s)
section
open PySem.SeqAt
open PySem.AutoSeq1 (wpAny_loadPart')
open PySem.MeetsSeq PySem.MeetsSeq2 PySem.MeetsSeq3
theorem ZG(l b:Addr)(items items2:Array Value)(n n2:Nat)(dd dd2:Option Addr)(sl sl2:Array (Option Value))(ns ms:List Int)(hi:IntsAre items.toList ns)(hj:IntsAre items2.toList ms) :
  Meets (Builtin.«tuple.__lt__» ⟨[.ref l,.ref b],[]⟩)
   (λ_ R s=>s.heap.get? l=some {cls:=.type "tuple",dict:=dd,data:=.seq items n,slots:=sl}/\s.heap.get? b=some {cls:=.type "tuple",dict:=dd2,data:=.seq items2 n2,slots:=sl2} /\
    R (.ok (.ret (.bool (lexLt ns ms)))) s):=
 .of_wp λprog w A R s h=>by
  obtain⟨hp,g,d,tk,os⟩:=s;obtain⟨hl,hb,h⟩:=h;have f2:=AutoSeq1.sub_tuple_tuple;have z1:items.size=ns.length:=by rw[<-hi.length];simp
  have z2:items2.size=ms.length:=by rw[<-hj.length];simp
  wp_walk using wpAny_loadPart' hl,wpAny_loadPart' hb,wpAny_forIn_list _ (λrest b s'=>b.1=none/\s'=⟨hp,g,d,tk,os⟩/\∃(vs ws:List Value) (ns' yO:List Int),rest=vs.zip ws /\
   IntsAre vs ns'/\IntsAre ws yO/\ns'.length+items2.size=yO.length+items.size/\R (.ok (.ret (.bool (lexLt ns' yO)))) ⟨hp,g,d,tk,os⟩) _
  case turn=>
   rintro⟨y,x⟩ rest b s' ⟨hb',rfl,vs,ws,ns',yO,hz,Kc,GP,hlen,hR⟩;cases Kc with
   |nil=>rw[List.zip_nil_left] at hz;cases hz
   |cons a t Ke=>
    cases GP with
    |nil=>rw[List.zip_nil_right] at hz;cases hz
    |cons c u Kf=>
     rw[Jj] at hz;injection hz with ZJ Bq;injection ZJ with hy hx;subst hy hx;rw[iJ] at hR;simp only[gB] at hlen;obtain⟨e,he,pD⟩:=ZD A.in1 ⟨hp,g,d,tk,os⟩ a t c u;refine aF (he prog w _ _ ?_);cases e with
     |true=>
      rw[if_pos (pD.mp rfl)] at hR
      wp_walk
      exact⟨rfl,rfl,_,_,_,_,Bq,Ke,Kf,by lia,hR⟩
     |false=>
      rw[if_neg (λq=>absurd (pD.mpr q) Fy)] at hR;have ZK:=ZF A.in1 ⟨hp,g,d,tk,os⟩ a t c u prog w
      wp_walk using ZK
      exact⟨_,rfl,by simpa using hR⟩
  case fin=>
   rintro⟨b1,b2⟩ s' ⟨hb',rfl,vs,ws,ns',yO,hz,Kc,GP,hlen,hR⟩;simp only at hb';subst hb';have hv:lexLt ns' yO=decide (items.size<items2.size):=by
    cases Kc with
    |nil=>
     cases GP with
     |nil=>
      simp only[z_] at hlen;rw[Zy];exact(eU gV).symm
     |cons c u hw=>
      simp only[z_,gB] at hlen;rw[Zz];exact(cX gV).symm
    |cons a t hv=>
     cases GP with
     |nil=>
      simp only[z_,gB] at hlen;rw[ZC];exact(eU gV).symm
     |cons c u hw=>
      rw[Jj] at hz;cases hz
   rw[hv] at hR
   wp_walk
   exact⟨_,rfl,by simpa [Builtin.Tuple.tupleCompareSizes] using hR⟩
  case h=>
   exact⟨rfl,rfl,items.toList,items2.toList,ns,ms,rfl,hi,hj,by lia,h⟩
end
section
variable {prog:Program}{w:World}{A:Around}{E:Value->Shared->Prop}{s:Shared}
theorem mz{l b:Addr}{items items2:Array Value}{ns ms:List Int}{Q:Value->Shared->Prop}(hl:IsTup s.heap l items)(hb:IsTup s.heap b items2)(hi:IntsAre items.toList ns)(hj:IntsAre items2.toList ms)
  (hu:A.units<cLine) (h:Q (.bool (lexLt ns ms)) s):wpAny (model prog w) A (compareOp .Lt (.ref l) (.ref b)) Q E s:=by
 obtain⟨⟨cls,dd,data,sl⟩,ho,hc,n,hd⟩:=id hl;obtain⟨⟨cls2,dd2,data2,sl2⟩,mC,oJ,n2,hd2⟩:=id hb;simp only at hc hd oJ hd2;subst hc hd oJ hd2;exact richCompare_meets_room (op:=.Lt) ⟨_,ho,rfl⟩ ⟨_,mC,rfl⟩ PySem.F.slot_tuple_lt PySem.F.entry_tuple_lt (PySem.F.args_tuple_lt_2 _ _) (ZG l b items items2 n n2 dd dd2 sl sl2 ns ms hi hj)
  ⟨ho,mC,show Value.bool (lexLt ns ms)≠Value.notImplemented/\Q (.bool (lexLt ns ms)) s from ⟨(λx=>nomatch x),h⟩⟩ hu
theorem rK{t b:Addr}{vs ws:List Value}{Q:Value->Shared->Prop}(ht:IsTup s.heap t vs.toArray)(hb:IsTup s.heap b ws.toArray)(hv:vs≠[])
  (h1:ws=[]->Q (.ref t) s) (h2:ws≠[]->Q (.ref s.heap.objs.size) {s with heap:=s.heap.push {cls:=.type "tuple",data:=.seq (vs++ws).toArray}})
  (lR:vs.length+ws.length<=sizeLine):wpAny (model prog w) A (binaryOp .Add (.ref t) (.ref b)) Q E s:=by
 obtain⟨⟨cls,dd,data,sl⟩,ho,hc,n,hd⟩:=id ht;obtain⟨⟨cls2,dd2,data2,sl2⟩,mC,oJ,n2,hd2⟩:=id hb;simp only at hc hd oJ hd2;subst hc hd oJ hd2;have e:vs.toArray++ws.toArray=(vs++ws).toArray:=by simp
 by_cases hw:ws=[]
 ·exact concat_meets ⟨_,ho,rfl⟩ ⟨_,mC,rfl⟩ noFill_tuple_add seq_tuple_add I_ IW (IK _ _)
   (tuple_addW1 t b vs.toArray ws.toArray n n2 dd dd2 sl sl2 (by simpa using hv) (by simp[hw])) ⟨ho,mC,h1 hw⟩
 ·refine concat_meets ⟨_,ho,rfl⟩ ⟨_,mC,rfl⟩ noFill_tuple_add seq_tuple_add I_ IW (IK _ _)
   (tuple_addW2 t b vs.toArray ws.toArray n n2 dd dd2 sl sl2 (by simpa using hv) (by simpa using hw) (by rw[fG,fG];exact lR)) ⟨ho,mC,?_⟩
  rw[e];exact h2 hw
noncomputable def bB(n d:Nat):Option Int->Nat
 |none=>d
 |some v=>if v<0 then (v+(n:Int)).toNat else min v.toNat n
theorem iK(n d:Nat):bB n d none=d:=rfl
theorem jH(n d k:Nat):bB n d (some (k:Int))=min k n:=by
 show (if (k:Int)<0 then ((k:Int)+(n:Int)).toNat else min (k:Int).toNat n)=min k n;rw[if_neg gV,rA]
theorem ZL(n d:Nat)(hd:d<=n)(o:Option Int):bB n d o<=n:=by
 cases o with
 |none=>exact hd
 |some v=>
  show (if v<0 then (v+(n:Int)).toNat else min v.toNat n)<=n;by_cases hv:v<0
  ·rw[if_pos hv];lia
  ·rw[if_neg hv];exact Nat.min_le_right _ _
theorem Ra(v:Int)(n d:Nat):(if v<0 then max (v+(n:Int)) 0 else min v (n:Int))=((bB n d (some v):Nat):Int):=by
 show (if v<0 then max (v+(n:Int)) 0 else min v (n:Int))=(((if v<0 then (v+(n:Int)).toNat else min v.toNat n):Nat):Int);by_cases hv:v<0
 ·simp only[if_pos hv];lia
 ·simp only[if_neg hv];lia
theorem ZM(lo hi:Option Int)(n:Nat):Builtin.Slice.sliceAdjust lo hi 1 (n:Int)=(((bB n 0 lo:Nat):Int),((bB n n hi:Nat):Int)):=by
 have h1:¬((1:Int)<0):=by lia
 unfold Builtin.Slice.sliceAdjust;simp only[h1,vP];refine Prod.ext ?_ ?_
 ·cases lo with
  |none=>rfl
  |some v=>exact Ra v n 0
 ·cases hi with
  |none=>rfl
  |some v=>exact Ra v n n
theorem ZP(i j:Nat):Builtin.Slice.slicePlaces (i:Int) (j:Int) 1=j-i:=by
 unfold Builtin.Slice.slicePlaces;have h1:(1:Int)>0:=by lia
 simp only[h1,if_true,Int.ediv_one]
 split<;>lia
theorem Rb{v:Value}{o:Option Int}{Q:Option Int->Shared->Prop}(p:IsPart v o)(h:Q o s):wpAny (model prog w) A (Builtin.Slice.slicePartIndex v) Q E s:=by
 cases p with
 |none=>exact slicePart_none h
 |int i t=>exact slicePart_int h
theorem Rf{sl:Addr}{vl vu:Value}{lo hi:Option Int}{n:Nat}{Q:Int×Int×Nat->Shared->Prop}(hs:s.heap.IsSliceOf sl vl vu .none)(pl:IsPart vl lo)(pu:IsPart vu hi)
  (h:Q (((bB n 0 lo:Nat):Int),1,bB n n hi-bB n 0 lo) s):wpAny (model prog w) A (Builtin.Slice.sliceApplied (.ref sl) (pure (n:Int))) Q E s:=by
 obtain⟨os,wC,GQ,Br⟩:=id hs;unfold Builtin.Slice.sliceApplied Builtin.Slice.sliceFields;refine aF (aF (jz wC Br (x:=vl) rfl (aF (jz wC Br (x:=vu) rfl (aF (jz wC Br (x:=.none) rfl (bI ?_)))))));refine aF (slicePart_none ?_);show wpAny _ _ (if ((1:Int)==0)=true then _ else _) _ _ s;rw[if_neg Dc];refine aF (Rb pl (aF (Rb pu (aF (bI ?_)))));show wpAny _ _ (match Builtin.Slice.sliceAdjust lo hi 1 (n:Int) with|(lo,hi)=>pure (lo,(1:Int),Builtin.Slice.slicePlaces lo hi 1)) _ _ s;rw[ZM lo hi n];show wpAny _ _ (pure (((bB n 0 lo:Nat):Int),(1:Int),Builtin.Slice.slicePlaces ((bB n 0 lo:Nat):Int) ((bB n n hi:Nat):Int) 1)) _ _ s;rw[ZP];exact bI h
theorem ZQ(xs:Array Value)(i k:Nat):((List.range k).filterMap λ(m:Nat)=>xs[((i:Int)+(m:Int)*1).toNat]?).toArray=((xs.toList.drop i).take k).toArray:=by
 have e:(λ(m:Nat)=>xs[((i:Int)+(m:Int)*1).toNat]?)=λm=>xs[i+m]?:=by
  funext m
  have:((i:Int)+(m:Int)*1).toNat=i+m:=by lia
  rw[this]
 rw[e];have:=pick_run xs i k;rw[List.filterMap_map] at this;have e2:((λx=>xs[x]?)∘λx=>i+x)=λm=>xs[i+m]?:=rfl;rw[e2] at this;rw[this]
theorem fX{t sl:Addr}{items:Array Value}{vl vu:Value}{lo hi:Option Int}{Q:Value->Shared->Prop}(ht:IsTup s.heap t items)(hs:s.heap.IsSliceOf sl vl vu .none)(pl:IsPart vl lo)(pu:IsPart vu hi)
  (hw:¬(bB items.size 0 lo=0/\bB items.size items.size hi=items.size))
  (h:Q (.ref s.heap.objs.size) {s with heap:=s.heap.push {cls:=.type "tuple",data:=.seq ((items.toList.drop (bB items.size 0 lo)).take (bB items.size items.size hi-bB items.size 0 lo)).toArray}})
  (lR:items.size<=sizeLine):wpAny (model prog w) A (getItem (.ref t) (.ref sl)) Q E s:=by
 have m8:sizeOk (.seq ((items.toList.drop (bB items.size 0 lo)).take (bB items.size items.size hi-bB items.size 0 lo)).toArray):=by
  show ((items.toList.drop (bB items.size 0 lo)).take (bB items.size items.size hi-bB items.size 0 lo)).toArray.size<=sizeLine;rw[fG,rB,zZ,zY]
  lia
 have hj:bB items.size items.size hi<=items.size:=ZL _ _ (bT _) hi;obtain⟨os,wC,GQ,Br⟩:=id hs;have Kg:s.TypeIs (.ref sl) "slice":=⟨os,wC,GQ⟩;unfold getItem
 try with_reducible refine qC ?_
 first|refine aF (bI ?_)|skip
 refine aF (wpAny_sequenceKey ht.typeIs Dc ?_);refine aF (vH (name:=Str.ofString "__getitem__") ht.typeIs yj
  (ur yj ht.typeIs entry_tuple_getitem ?_ (args_tuple_getitem _ _)))
 show wpAny _ _ (Builtin.Tuple.tupleItemsOf (.ref t) >>= _) _ _ s;refine aF (tupleItemsOf_ ht ?_);refine aF (wpAny_typeOf Kg ?_);rw[if_pos Dc];refine aF (Rf hs pl pu ?_);have Kh:¬((((bB items.size 0 lo:Nat):Int)==0&&(1:Int)==1&&(bB items.size items.size hi-bB items.size 0 lo)==items.size)=true):=by
  intro q;rw[fK,fK] at q;have q1:((bB items.size 0 lo:Nat):Int)=0:=eq_of_beq q.1.1;have q2:bB items.size items.size hi-bB items.size 0 lo=items.size:=eq_of_beq q.2;exact hw ⟨by lia,by lia⟩
 show wpAny _ _ (if (((bB items.size 0 lo:Nat):Int)==0&&(1:Int)==1&&(bB items.size items.size hi-bB items.size 0 lo)==items.size)=true then _ else _) _ _ s;rw[if_neg Kh,ZQ]
 first
  |exact aF (m:=Builtin.Tuple.tupleExact _) (uq (bI ⟨_,rfl,bI h⟩) m8)
  |exact aF (m:=Builtin.Tuple.tupleExact _) (uq (aF (bI (bI ⟨_,rfl,bI h⟩))) m8)
  |exact aF (aF (m:=Builtin.Tuple.tupleExact _) (uq (bI (bI ⟨_,rfl,bI h⟩)) m8))
  |exact aF (aF (m:=Builtin.Tuple.tupleExact _) (uq (bI ⟨_,rfl,bI h⟩) m8))
end
end HT
namespace L2
open PySem PySem.Spec PyProof.Rows
noncomputable abbrev TO:=St->Hp->(Option Int->Hp->Prop)->Prop
def PO(X:Cx)(e:Option Expr)(t:TO):Prop:=
 ∀(ak:List (Addr×Obj)) (s:Shared) (Z:St) (H:Hp) (Q:Option Int->Hp->Prop),Inv X ak Z H s->t Z H Q->
  wpAny (model X.prog X.w) X.A (evalPart e X.env) (λu s'=>∃o H',Inv X ak Z H' s'/\IsPart u o/\Q o H') X.xe s
noncomputable def rM:TO:=λ_ H Q=>Q none H
noncomputable def Bs(t:TE):TO:=λZ H Q=>t Z H λx H1=>∃i,x=.int i/\Q (some i) H1
theorem Rg{ns:List Int}:∀{us:List Value},Vals (ns.map V.int) us->IntsAre us ns:=by
 induction ns with
 |nil=>intro us r;rw[List.map_nil] at r;cases r;exact .nil
 |cons n ns ih=>
  intro us r;rw[oY] at r;cases r with
  |cons r1 r2=>
   obtain⟨t,e⟩:=r1;subst e;exact .cons n t (ih r2)
section
variable {X:Cx}{e:Expr}{te:TE}{lo hi:Option Expr}{tl th:TO}{pos p2:Pos}
theorem ZR:PO X none rM:=by
 intro ak s Z H Q I h;rw[evalPart_none];exact bI ⟨none,H,I,.none,h⟩
theorem ZS(h:PE X e te):PO X (some e) (Bs te):=by
 intro ak s Z H Q I hw;rw[evalPart_some];refine bf (h ak s Z H _ I hw) λu s1 hx=>eY hx λx H1 I1 r1 q1=>?_;obtain⟨i,rfl,q⟩:=q1;obtain⟨t,rfl⟩:=r1;exact⟨some i,H1,I1,.int i t,q⟩
def rN(X:Cx)(r:V->Option Int->Option Int->Hp->VK->Prop):Prop:=
 ∀(ak:List (Addr×Obj)) (s:Shared) (Z:St) (H:Hp) (x:V) (v vl vu:Value) (lo hi:Option Int) (sl:Addr) (Q:VK),Inv X ak Z H s->RelV x v->s.heap.IsSliceOf sl vl vu .none->IsPart vl lo->IsPart vu hi->r x lo hi H Q->
  ∃T id,typeLookup (.type T) "__getitem__"=pure (some (.builtin id))/\s.TypeIs v T/\wpAny (model X.prog X.w) X.A (getItem v (.ref sl)) (EP X ak Z Q) X.xe s
theorem rN.or{r r':V->Option Int->Option Int->Hp->VK->Prop}(h:rN X r)(h':rN X r'):rN X (λx lo hi H Q=>r x lo hi H Q\/r' x lo hi H Q):=by
 intro ak s Z H x v vl vu lo hi sl Q I rx hs pl pu q;rcases q with q|q
 ·exact h ak s Z H x v vl vu lo hi sl Q I rx hs pl pu q
 ·exact h' ak s Z H x v vl vu lo hi sl Q I rx hs pl pu q
noncomputable def ZV(r:V->Option Int->Option Int->Hp->VK->Prop)(te:TE)(tl th:TO):TE:=λZ H Q=>te Z H λx H1=>tl Z H1 λl H2=>th Z H2 λu H3=>r x l u H3 Q
theorem ZW{r:V->Option Int->Option Int->Hp->VK->Prop}(hr:rN X r)(he:PE X e te)(hl:PO X lo tl)(hu:PO X hi th):PE X (.Subscript e (.Slice lo hi none p2) pos) (ZV r te tl th):=by
 intro ak s Z H Q I h;refine Subscript_ (bf (he ak s Z H _ I h) λv s1 hx=>eY hx λx H1 I1 r1 q1=>?_);refine wpAny_Slice (bf (hl ak s1 Z H1 _ I1 q1) λvl s2 hx=>eY hx λl H2 I2 pl q2=>bf (hu ak s2 Z H2 _ I2 q2) λvu s3 hx=>eY hx λu H3 I3 pu q3=>?_);rw[evalPart_none];refine bI ?_;have I4:Inv X ak Z H3 {s3 with heap:=s3.heap.push {cls:=.type "slice",data:=.fields #[vl,vu,.none]}}:=I3.kept (t':=s3.toks) λb ob q=>dz _ q;obtain⟨T,id,hT,ht,hg⟩:=hr ak {s3 with heap:=s3.heap.push {cls:=.type "slice",data:=.fields #[vl,vu,.none]}} Z H3 x v vl vu l u s3.heap.objs.size Q I4 r1 (Heap.IsSliceOf.new ..) pl pu q3;show wpAny (model X.prog X.w) X.A (subscriptTail e (.Slice lo hi none p2) v (.ref s3.heap.objs.size)) (EP X ak Z Q) X.xe {s3 with heap:=s3.heap.push {cls:=.type "slice",data:=.fields #[vl,vu,.none]}};exact tail_any (ops:=[.ref s3.heap.objs.size,v]) ht hT hg (by with_unfolding_all rfl)
noncomputable def jJ(xs:List V)(lo hi:Option Int):List V:=(xs.drop (HT.bB xs.length 0 lo)).take (HT.bB xs.length xs.length hi-HT.bB xs.length 0 lo)
theorem Rh(xs:List V)(lo hi:Option Int):(jJ xs lo hi).length<=xs.length:=by
 unfold jJ;rw[rB,zZ]
 lia
noncomputable def Kl(K:W.Frag):V->Option Int->Option Int->Hp->VK->Prop:=λx lo hi H Q=>∃a xs,x=.ref a/\gF K H a xs /\
 ¬(HT.bB xs.length 0 lo=0/\HT.bB xs.length xs.length hi=xs.length)/\∀p,H p=none->Q (.ref p) (upd H p (.tup (jJ xs lo hi)))
theorem ZX:rN X (Kl X.K):=by
 intro ak s Z H x v vl vu lo hi sl Q I rx hs pl pu h;obtain⟨a,xs,rfl,hx,hw,q⟩:=h;cases rx;obtain⟨its,r,ht,hz⟩:=I.tuple hx;have hlen:its.toArray.size=xs.length:=by rw[fG];exact r.length.symm
 refine⟨"tuple",_,yj.lookup,ht.typeIs,?_⟩;refine HT.fX ht hs pl pu (by rw[hlen];exact hw) ?_ (by rw[hlen];exact hz);rw[hlen];refine⟨.ref s.heap.objs.size,_,I.laid (t':=s.toks) (o:=.tup (jJ xs lo hi)) (λb ob q=>dz _ q) (bT _) ?_,rfl,q _ (I.hok.fresh (bT _))⟩;exact⟨kj (Rh xs lo hi) hz,_,(r.drop (HT.bB xs.length 0 lo)).take (HT.bB xs.length xs.length hi-HT.bB xs.length 0 lo),IsTup.new _ _⟩
noncomputable def Bt(K:W.Frag):R2:=λx y H Q=>∃a b ns ms,x=.ref a/\y=.ref b/\gF K H a (ns.map V.int)/\gF K H b (ms.map V.int)/\Q (.bl (HT.lexLt ns ms)) H
theorem Z0(hu:X.A.units<cLine):dw X (compareOp .Lt) (Bt X.K):=by
 intro ak s Z H x y v u Q I rx ry h;obtain⟨a,b,ns,ms,rfl,rfl,ha,hb,q⟩:=h;cases rx;cases ry;obtain⟨its,r1,p1,_⟩:=I.tuple ha;obtain⟨its2,r2,p2,_⟩:=I.tuple hb;have i1:IntsAre its.toArray.toList ns:=Rg r1;have i2:IntsAre its2.toArray.toList ms:=Rg r2;exact HT.mz p1 p2 i1 i2 hu ⟨.bl (HT.lexLt ns ms),H,I,rfl,q⟩
theorem Vals.jK{xs:List V}{us:List Value}(r:Vals xs us):us=[]↔xs=[]:=by
 cases r with
 |nil=>simp
 |cons _ _=>simp
end
noncomputable def oK(n:Nat)(i:Int):Option Nat:=if 0<=i then (if i<n then some i.toNat else none) else if -(n:Int)<=i then some (i+n).toNat else none
noncomputable def m9{α:Type}(xs:List α)(i:Int):Option α:=(oK xs.length i).bind λj=>xs[j]?
theorem Ri{n:Nat}{i:Int}{j:Nat}(h:oK n i=some j):seqIndex? i n=some j/\j<n/\-(n:Int)<=i/\i<n:=by
 unfold oK at h;by_cases h0:0<=i
 ·rw[if_pos h0] at h;by_cases h1:i<n
  ·rw[if_pos h1] at h;have e:i.toNat=j:=bR h;exact⟨by rw[seqIndex_of h0 h1,e],by lia,by lia,h1⟩
  ·rw[if_neg h1] at h;cases h
 ·rw[if_neg h0] at h;by_cases h1 : -(n:Int)<=i
  ·rw[if_pos h1] at h;have e:(i+n).toNat=j:=bR h;exact⟨by rw[seqIndex_neg gV h1,e],by lia,h1,by lia⟩
  ·rw[if_neg h1] at h;cases h
theorem Km{α:Type}{xs:List α}{i:Int}{v:α}(h:m9 xs i=some v):∃j,seqIndex? i xs.length=some j/\xs[j]?=some v/\j<xs.length/\-(xs.length:Int)<=i/\i<xs.length:=by
 unfold m9 at h;cases e:oK xs.length i with
 |none=>rw[e] at h;cases h
 |some j=>
  rw[e] at h;obtain⟨h1,h2,h3,h4⟩:=Ri e;exact⟨j,h1,h,h2,h3,h4⟩
def m_(b:Expr):Prop:=∀o i,subscripted b false o i=operate [o,i] (getItem o i)
def rO(X:Cx)(r:R2):Prop:=
 ∀(value slice:Expr) (ak:List (Addr×Obj)) (s:Shared) (Z:St) (H:Hp) (x y:V) (v u:Value) (Q:VK),Inv X ak Z H s->RelV x v->RelV y u->r x y H Q->
  subscripted slice false v u=operate [v,u] (getItem v u)->wpAny (model X.prog X.w) X.A (subscriptTail value slice v u) (EP X ak Z Q) X.xe s
def Rj(X:Cx)(id:String)(r:V->List V->Hp->VK->Prop):Prop:=
 ∀(ak:List (Addr×Obj)) (s:Shared) (Z:St) (H:Hp) (x:V) (xs:List V) (v:Value) (us:List Value) (Q:VK),Inv X ak Z H s->RelV x v->Vals xs us->r x xs H Q->
  wpAny (model X.prog X.w) X.A (call (.builtin id) (v::us)) (EP X ak Z Q) X.xe s
section
variable {X:Cx}{a b:Expr}{ta tb:TE}{pos:Pos}
theorem rO.or{r r':R2}(h:rO X r)(h':rO X r'):rO X (λx y H Q=>r x y H Q\/r' x y H Q):=by
 intro value slice ak s Z H x y v u Q I rx ry q hs;rcases q with q|q
 ·exact h value slice ak s Z H x y v u Q I rx ry q hs
 ·exact h' value slice ak s Z H x y v u Q I rx ry q hs
theorem Z9{r:R2}(hr:rO X r)(ha:PE X a ta)(hb:PE X b tb)(hs:m_ b):PE X (.Subscript a b pos) (GF r ta tb):=by
 intro ak s Z H Q I h;exact Subscript_ (wk ha hb I h λv u s2 x y H2 I2 rx ry q=>hr a b ak s2 Z H2 x y v u Q I2 rx ry q (hs _ _))
noncomputable def Bu(K:W.Frag):R2:=λx y H Q=>∃p xs i v,x=.ref p/\y=.int i/\cW K H p xs/\m9 xs i=some v/\Q v H
noncomputable def Bv(K:W.Frag):R2:=λx y H Q=>∃p xs i v,x=.ref p/\y=.int i/\gF K H p xs/\m9 xs i=some v/\Q v H
noncomputable def Bw:R2:=λx y H Q=>∃z i c,x=.str z/\y=.int i/\z.length<=sizeLine/\m9 z.cps.toList i=some c/\Q (.str ⟨#[c]⟩) H
theorem rP:rO X (Bu X.K):=by
 intro value slice ak s Z H x y v u Q I rx ry h hs;obtain⟨p,xs,i,z,rfl,rfl,hq,he,q⟩:=h;cases rx;obtain⟨t,rfl⟩:=ry;obtain⟨its,r,pl,hz⟩:=I.list hq;obtain⟨j,h1,h2,h3,h4,h5⟩:=Km he;obtain⟨w,ew,jL⟩:=r.get h2;have hl:=r.length;have hn:=iI;have fin:EP X ak Z Q w s:=⟨z,H,I,jL,q⟩;by_cases h0:0<=i
 ·have hj:i.toNat=j:=by
   rw[seqIndex_of h0 h5] at h1;exact bR h1
  exact item_listR pl.isList h0 gV (by rw[hj];simpa using ew) fin hs
 ·have hj:(i+(its.toArray.size:Int)).toNat=j:=by
   rw[seqIndex_neg gV h4] at h1;rw[fG,<-hl];exact bR h1
  exact subscriptTail_builtinR (x:=w) pl.isList.typeIs slot_list_getitem.lookup
   (wpAny_getItem_list_neg (Q:=λr s'=>r=w/\EP X ak Z Q r s') pl.isList gV (by rw[fG]<;>lia) gV (by rw[hj];simpa using ew) ⟨rfl,fin⟩) hs
theorem wD:rO X (Bv X.K):=by
 intro value slice ak s Z H x y v u Q I rx ry h hs;obtain⟨p,xs,i,z,rfl,rfl,hq,he,q⟩:=h;cases rx;obtain⟨t,rfl⟩:=ry;obtain⟨its,r,pl,hz⟩:=I.tuple hq;obtain⟨j,h1,h2,h3,h4,h5⟩:=Km he;obtain⟨w,ew,jL⟩:=r.get h2;have hl:=r.length;have hn:=iI;have fin:EP X ak Z Q w s:=⟨z,H,I,jL,q⟩;exact subscriptTail_builtinR (x:=w) pl.typeIs slot_tuple_getitem.lookup
  (getItem_tuple (j:=j) (Q:=λr s'=>r=w/\EP X ak Z Q r s') pl gV gV (by rw[fG,<-hl];exact h1) (by simpa using ew) ⟨rfl,fin⟩) hs
theorem Z_:rO X Bw:=by
 intro value slice ak s Z H x y v u Q I rx ry h hs;obtain⟨z,i,c,rfl,rfl,hz,he,q⟩:=h;obtain⟨t,rfl⟩:=rx;obtain⟨t',rfl⟩:=ry;obtain⟨j,h1,h2,h3,h4,h5⟩:=Km he;have hl:z.cps.toList.length=z.length:=by simp[Str.length]
 rw[hl] at h1 h4 h5;have hn:=iI;exact tail_any (typeIs_str s z t) slot_str_getitem.lookup (getItem_str (c:=c) (by
  have e1:decide (i < -(2^63:Int))=false:=eU gV;have e2:decide (i>=2^63)=false:=eU gV;rw[e1,e2,Bool.or_false]) (by rw[h1];simpa using h2) ⟨.str ⟨#[c]⟩,H,I.tok _,⟨_,rfl⟩,q⟩) hs
noncomputable def Ko(K:W.Frag):R2:=λx y H Q=>Bu K x y H Q\/Bv K x y H Q\/Bw x y H Q
theorem zi6:rO X (Ko X.K):=rP.or (wD.or Z_)
theorem zdD(its:List Value)(n j:Nat)(u:Value):Obj.mapSeq (·.setIfInBounds j u) {cls:=.type "list",data:=.seq its.toArray n}={cls:=.type "list",data:=.seq (its.set j u).toArray n}:=by
 simp[Obj.mapSeq]
theorem Inv.lst{ak:List (Addr×Obj)}{Z:St}{H:Hp}{s:Shared}{p:Addr}{xs:List V}(I:Inv X ak Z H s)(h:H p=some (.lst xs)) :
  ∃(its:List Value) (n:Nat),Vals xs its/\s.heap.get? p=some {cls:=.type "list",data:=.seq its.toArray n}/\xs.length<=sizeLine:=by
 obtain⟨z,its,n,r,e⟩:=I.hok p _ h;exact⟨its,n,r,e,z⟩
theorem Inv.wF{ak:List (Addr×Obj)}{Z:St}{H:Hp}{s:Shared}{p:Addr}{xs ys:List V}{its its':List Value}{n n':Nat}{f:Obj->Obj}(I:Inv X ak Z H s)(h:H p=some (.lst xs))
  (ho:s.heap.get? p=some {cls:=.type "list",data:=.seq its.toArray n}) (hf:f {cls:=.type "list",data:=.seq its.toArray n}={cls:=.type "list",data:=.seq its'.toArray n'}) (r:Vals ys its') (hz:ys.length<=sizeLine) (t:Nat) :
  Inv X ak Z (upd H p (.lst ys)) {s with heap:=s.heap.update p f,toks:=t}:=by
 have e:(s.heap.update p f).get? p=some {cls:=.type "list",data:=.seq its'.toArray n'}:=by
  rw[zW f ho (by rw[hf]<;>rfl),hf]
 refine I.write (x:=p) (e:=p) (by rw[h];trivial) (.inl rfl) (λb u hb q=>(yr _ _ (Ne.symm hb)).trans q) ⟨_,e⟩ ?_;exact⟨hz,its',n',r,e⟩
noncomputable def BJ:V->V->V->Hp->(Hp->Prop)->Prop:=λo i v H Q=>∃p xs k j,o=.ref p/\i=.int k/\H p=some (.lst xs)/\oK xs.length k=some j/\Q (upd H p (.lst (xs.set j v)))
theorem zgg:A_ X BJ:=by
 intro ak s Z H o i v ov iv u Q I ro ri rv h;obtain⟨p,xs,k,j,rfl,rfl,hp,hj,q⟩:=h;cases ro;obtain⟨t,rfl⟩:=ri;obtain⟨its,n,r,ho,hz⟩:=I.lst hp;obtain⟨h1,h2,h3,h4⟩:=Ri hj;have hl:=r.length;have hn:=iI;have I':Inv X ak Z (upd H p (.lst (xs.set j v))) {s with heap:=s.heap.update p (Obj.mapSeq (·.setIfInBounds j u))}:=
  I.wF hp ho (zdD its n j u) (r.set rv j) (by rw[qz];exact hz) s.toks
 by_cases h0:0<=k
 ·have hk:k.toNat=j:=by
   rw[seqIndex_of h0 h4] at h1;exact bR h1
  exact PySem.W.ki_setAt ho h0 gV (by rw[fG,<-hl];exact h4) (by rw[hk];exact⟨_,I',q⟩)
 ·have hk:(k+(its.toArray.size:Int)).toNat=j:=by
   rw[seqIndex_neg gV h3] at h1;rw[fG,<-hl];exact bR h1
  exact PySem.W.ki_setBack ho gV (by rw[fG,<-hl];exact h3) gV (by rw[hk];exact⟨_,I',q⟩)
theorem zcs(lo hi:Option Int)(n:Nat):(sliceBounds lo hi none n).1=((HT.bB n 0 lo:Nat):Int)/\(sliceBounds lo hi none n).2.1=((HT.bB n n hi:Nat):Int)/\(sliceBounds lo hi none n).2.2=1:=by
 refine⟨?_,?_,rfl⟩
 ·cases lo with
  |none=>simp[sliceBounds,HT.bB]
  |some i=>
   simp only[sliceBounds,HT.bB,Option.getD_none,show (1:Int)>0 by decide,if_true];by_cases h:i<0
   ·simp only[h,if_true]<;>lia
   ·simp only[h,vP]<;>lia
 ·cases hi with
  |none=>simp[sliceBounds,HT.bB]
  |some i=>
   simp only[sliceBounds,HT.bB,Option.getD_none,show (1:Int)>0 by decide,if_true];by_cases h:i<0
   ·simp only[h,if_true]<;>lia
   ·simp only[h,vP]<;>lia
theorem zbS(its:List Value)(lo hi:Option Int):slicePick its.toArray lo hi none=((its.drop (HT.bB its.length 0 lo)).take (HT.bB its.length its.length hi-HT.bB its.length 0 lo)).toArray:=by
 obtain⟨h1,h2,h3⟩:=zcs lo hi its.toArray.size;unfold slicePick;rw[h1,h2,h3];simp only[sliceRange_one,pick_run,fG]<;>rfl
noncomputable def BK(K:W.Frag):V->Option Int->Option Int->Hp->VK->Prop:=λx lo hi H Q=>∃a xs,x=.ref a/\cW K H a xs/\∀p,H p=none->Q (.ref p) (upd H p (.lst (jJ xs lo hi)))
theorem rQ:rN X (BK X.K):=by
 intro ak s Z H x v vl vu lo hi sl Q I rx hs pl pu h;obtain⟨a,xs,rfl,hx,q⟩:=h;cases rx;obtain⟨its,r,ht,hz⟩:=I.list hx;have hlen:=r.length;refine⟨"list",_,slot_list_getitem.lookup,ht.isList.typeIs,?_⟩;refine wpAny_getItem_list_slice ht.isList hs pl pu .none J0 ?_ (by rw[fG]<;>lia);rw[zbS,<-hlen];refine⟨.ref s.heap.objs.size,_,I.laid (t':=s.toks) (o:=.lst (jJ xs lo hi)) (λb ob q=>dz _ q) (bT _) ?_,rfl,q _ (I.hok.fresh (bT _))⟩;exact⟨kj (Rh xs lo hi) hz,_,0,(r.drop (HT.bB xs.length 0 lo)).take (HT.bB xs.length xs.length hi-HT.bB xs.length 0 lo),iu _ rfl⟩
theorem zcg:cT X (.builtin "len") (λxs H Q=>∃p ys,xs=[.ref p]/\(cW X.K H p ys\/gF X.K H p ys)/\Q (.int ys.length) H):=by
 intro ak s Z H xs us Q I r h;obtain⟨p,ys,rfl,hq,q⟩:=h;obtain⟨u,rfl,rx⟩:=vals1 r;cases rx;have hn:=iI;rcases hq with hq|hq
 ·obtain⟨its,r',pl,hz⟩:=I.list hq;have hlen:=r'.length;exact Calls.call_len_list pl.isList (by simp only[fG]<;>lia) ⟨.int ys.length,H,I.tok _,⟨s.toks+1,by rw[fG,hlen]⟩,q⟩
 ·obtain⟨its,r',pl,hz⟩:=I.tuple hq;have hlen:=r'.length;exact len_tuple pl (by simp only[fG]<;>lia) ⟨.int ys.length,H,I.tok _,⟨s.toks+1,by rw[fG,hlen]⟩,q⟩
theorem zb6:cT X (.type "tuple") (λxs H Q=>∃p ys,xs=[.ref p]/\((cW X.K H p ys/\∀l,H l=none->Q (.ref l) (upd H l (.tup ys)))\/(gF X.K H p ys/\Q (.ref p) H))):=by
 intro ak s Z H xs us Q I r h;obtain⟨p,ys,rfl,h⟩:=h;obtain⟨u,rfl,rx⟩:=vals1 r;cases rx;rcases h with ⟨hq,q⟩|⟨hq,q⟩
 ·obtain⟨its,r',pl,hz⟩:=I.list hq;have hlen:=r'.length;refine call_tuple_list pl.isList (λh' kp=>?_) (by simp only[fG]<;>lia);have I1:Inv X ak Z H {s with heap:=h'}:=I.kept (t':=s.toks) kp;have I2:Inv X ak Z (upd H h'.objs.size (.tup ys)) {s with heap:=h'.push {cls:=.type "tuple",data:=.seq its.toArray}}:=
   I1.laid (t':=s.toks) (λb o e=>dz _ e) (bT _) (show bF X.prog X.w _ _ _ (.tup ys) from ⟨hz,its,r',IsTup.new _ _⟩)
  exact⟨.ref h'.objs.size,_,I2,rfl,q _ (I1.hok.fresh (bT _))⟩
 ·obtain⟨its,r',pl,hz⟩:=I.tuple hq;exact call_tuple_same pl ⟨.ref p,H,I,rfl,q⟩
def Kp(K:W.Frag)(T:String)(x:V)(H:Hp):Prop:=match x with
 |.str _=>T="str"
 |.int _=>T="int"
 |.ref p=>(T="list"/\∃xs,cW K H p xs)\/(T="tuple"/\∃o,K.lookup p=some o/\o.cls=.type "tuple"/\o.dict=none) \/
   (T="dict"/\((∃kvs,H p=some (.dK kvs))\/∃kvs,H p=some (.dT kvs)))\/(T="set"/\∃S n,H p=some (.set S n))
 |_=>False
theorem Rm{ak:List (Addr×Obj)}{Z:St}{H:Hp}{s:Shared}{T:String}{x:V}{v:Value}(I:Inv X ak Z H s)(r:RelV x v)(ty:Kp X.K T x H) :
  s.TypeIs v T/\∀a,v=.ref a->∃ob,s.heap.get? a=some ob/\ob.dict=none:=by
 cases x with
 |str z=>
  obtain⟨t,rfl⟩:=r;cases (show T="str" from ty);exact⟨typeIs_str s z t,λ_ e=>nomatch e⟩
 |int i=>
  obtain⟨t,rfl⟩:=r;cases (show T="int" from ty);exact⟨typeIs_int s i t,λ_ e=>nomatch e⟩
 |ref p=>
  cases r;rcases ty with ⟨rfl,xs,hq⟩|⟨rfl,o,hk,hc,hd⟩|⟨rfl,hk⟩|⟨rfl,S,n,hk⟩
  ·obtain⟨its,_,pl,_⟩:=I.list hq;refine⟨pl.isList.typeIs,λa e=>?_⟩;cases e;obtain⟨o,n,e,c,hd,_⟩:=pl;exact⟨o,e,hd⟩
  ·refine⟨⟨o,I.rE p o hk,hc⟩,λa e=>?_⟩;cases e;exact⟨o,I.rE _ o hk,hd⟩
  ·have z:∃o,s.heap.get? p=some o/\o.ExactDict:=by
    rcases hk with ⟨kvs,hk⟩|⟨kvs,hk⟩
    ·obtain⟨_,_,_,_,o,_,_,e,ex,_⟩:=I.hok p _ hk;exact⟨o,e,ex⟩
    ·obtain⟨_,_,_,_,o,_,_,e,ex,_⟩:=I.hok p _ hk;exact⟨o,e,ex⟩
   obtain⟨o,e,ex⟩:=z;refine⟨⟨o,e,ex.1⟩,λa e2=>?_⟩;cases e2;exact⟨o,e,ex.2.1⟩
  ·obtain⟨o,_,_,_,e,ex,_⟩:=I.hok p _ hk;refine⟨⟨o,e,ex.1⟩,λa e2=>?_⟩;cases e2;exact⟨o,e,ex.2.1⟩
 |_=>exact False.elim ty
noncomputable def Kq(K:W.Frag)(T:String)(r:V->List V->Hp->VK->Prop)(to:TE):TE:=λZ H Q=>to Z H λx H1=>Kp K T x H1/\r x [] H1 Q
noncomputable def tBM(K:W.Frag)(T:String)(r:V->List V->Hp->VK->Prop)(to:TE)(t:TA):TE:=λZ H Q=>to Z H λx H1=>Kp K T x H1/\t Z H1 λxs H2=>r x xs H2 Q
variable {o e:Expr}{es:List Expr}{to:TE}{t:TA}{name:Str}{apos cpos:Pos}{T id:String}{r:V->List V->Hp->VK->Prop}
theorem zie(pa:PlainAttrs T)(slot:Slot T name id)(Kr:typeOf (.builtin id)=pure (.type "method_descriptor"))(hm:Rj X id r)(ho:PE X o to)
  (dH:attributeBase o name X.env (eval o X.env)=eval o X.env:=by rfl) (dI:(apos.endLine==cpos.line)=true:=by rfl):PE X (.Call (.Attribute o name apos) [] [] cpos) (Kq X.K T r to):=by
 intro ak s Z H Q I h;refine wpAny_Call_method0_late dH dI (bf (ho ak s Z H _ I h) λv s1 ⟨x,H1,I1,r1,ty,q1⟩=>?_);obtain⟨h1,h2⟩:=Rm I1 r1 ty;exact⟨T,id,pa,slot,Kr,h1,h2,Calls.callWith_builtin rfl (PySem.evalArgs_none (hm ak s1 Z H1 x [] v [] Q I1 r1 .nil q1))⟩
theorem zkA(pa:PlainAttrs T)(slot:Slot T name id)(Kr:typeOf (.builtin id)=pure (.type "method_descriptor"))(hm:Rj X id r)(ho:PE X o to)(ha:PA X (e::es) t)
  (dH:attributeBase o name X.env (eval o X.env)=eval o X.env:=by rfl)
  (wG:((backTo cpos (starEach (e::es) X.env)).all (λx=>!x.1)&&(backToKw cpos (keywordEach [] X.env)).all (λx=>x.1.isSome)
  &&decide ((e::es).length+([]:List Keyword).length+(if ([]:List Keyword).isEmpty then 0 else 1)<30))=true:=by rfl)
  (dI:(apos.endLine==cpos.line)=true:=by rfl) (hs:starEach (e::es) X.env=(false,eval e X.env)::starEach es X.env:=by rfl) (mD:(backTo cpos (starEach es X.env)).any (·.1)=false:=by rfl) :
  PE X (.Call (.Attribute o name apos) (e::es) [] cpos) (tBM X.K T r to t):=by
 intro ak s Z H Q I h;refine wpAny_Call_method_late dH wG dI rfl (bf (ho ak s Z H _ I h) λv s1 ⟨x,H1,I1,r1,ty,q1⟩=>?_);obtain⟨h1,h2⟩:=Rm I1 r1 ty;refine⟨T,id,pa,slot,Kr,h1,h2,?_⟩;have hA:=ha cpos ak s1 Z H1 _ I1 q1;rw[hs] at hA ⊢;refine Calls.callWith_builtin (by show (false||(backTo cpos (starEach es X.env)).any (·.1))=false;rw[mD]<;>rfl) (Calls.evalArgs_plain ?_);exact bf hA λus s2 hx=>eY hx λvs H2 I2 r2 q2=>hm ak s2 Z H2 x vs v us Q I2 r1 r2 q2
end
def Rn(X:Cx)(id:String)(r:V->List V->Hp->VK->Prop):Prop:=
 ∀(ak:List (Addr×Obj)) (s:Shared) (Z:St) (H:Hp) (x:V) (xs:List V) (v:Value) (us:List Value) (Q:VK),Inv X ak Z H s->RelV x v->Vals xs us->r x xs H Q->
  wpAny (model X.prog X.w) X.A (call (.builtin id) (v::us)) (EP X ak Z Q) X.xe s
theorem Vals.one{x:V}{us:List Value}(h:Vals [x] us):∃u,us=[u]/\RelV x u:=by
 cases h with
 |cons r t=>cases t;exact⟨_,rfl,r⟩
theorem Vals.two{x y:V}{us:List Value}(h:Vals [x,y] us):∃u v,us=[u,v]/\RelV x u/\RelV y v:=by
 cases h with
 |cons r t=>
  obtain⟨v,rfl,q⟩:=Vals.one t;exact⟨_,_,rfl,r,q⟩
theorem Vals.zero:∀{us:List Value},Vals [] us->us=[]
 |_,.nil=>rfl
theorem Vals.dropLast{xs:List V}{us:List Value}(h:Vals xs us):Vals xs.dropLast us.dropLast:=by
 induction h with
 |nil=>exact .nil
 |cons r t ih=>
  cases t with
  |nil=>exact .nil
  |cons q t'=>exact .cons r ih
theorem zdX{α:Type}(l:List α):l.eraseIdx (l.length-1)=l.dropLast:=by
 induction l with
 |nil=>rfl
 |cons a r ih=>
  cases r with
  |nil=>rfl
  |cons b r=>
   have e:(a::b::r).length-1=((b::r).length-1)+1:=by
    have h1:(a::b::r).length=r.length+2:=rfl;have h2:(b::r).length=r.length+1:=rfl
    lia
   rw[e,List.eraseIdx_cons_succ,ih]
   all_goals rfl
section
variable {X:Cx}{ak:List (Addr×Obj)}{Z:St}{H:Hp}{s:Shared}{l b:Addr}{xs ys zs:List V}
theorem Inv.BL{its its':List Value}{n:Nat}{f:Array Value->Array Value}{t':Nat}(I:Inv X ak Z H s)(hH:H l=some (.lst xs))
  (e:s.heap.get? l=some {cls:=.type "list",data:=.seq its.toArray n}) (hf:f its.toArray=its'.toArray) (hv:Vals ys its') (hz:ys.length<=sizeLine) :
  Inv X ak Z (upd H l (.lst ys)) {s with heap:=s.heap.update l (Obj.mapSeq f),toks:=t'}:=by
 have q:=PySem.IsL.update e f;rw[hf] at q;refine I.write (x:=l) (e:=l) (by rw[hH];exact trivial) (.inl rfl) (λb' u hb hu=>(yr s.heap (Obj.mapSeq f) (Ne.symm hb)).trans hu) ⟨_,q⟩ ?_;exact⟨hz,its',_,hv,q⟩
theorem Inv.Ks{its:List Value}{t':Nat}(I:Inv X ak Z H s)(hv:Vals ys its)(hz:ys.length<=sizeLine) :
  Inv X ak Z (upd H s.heap.objs.size (.lst ys)) {s with heap:=s.heap.push {cls:=.type "list",data:=.seq its.toArray},toks:=t'}:=
 I.laid (λ_ _ q=>dz _ q) (bT _) ⟨hz,its,0,hv,iu _ rfl⟩
theorem Inv.fresh(I:Inv X ak Z H s):H s.heap.objs.size=none:=I.hok.fresh (bT _)
theorem Inv.BP(I:Inv X ak Z H s)(hH:H l=some (.lst xs)):xs.length<=sizeLine/\∃(its:List Value) (n:Nat),Vals xs its/\xs.length=its.length/\s.heap.get? l=some {cls:=.type "list",data:=.seq its.toArray n}:=by
 obtain⟨z,its,n,r,e⟩:=I.hok l _ hH;exact⟨z,its,n,r,r.length,e⟩
end
section
variable {X:Cx}
noncomputable def rR:V->List V->Hp->VK->Prop:=λx vs H Q=>∃l xs y,x=.ref l/\vs=[y]/\H l=some (.lst xs)/\xs.length<sizeLine/\Q .non (upd H l (.lst (xs++[y])))
theorem Ro:Rn X "list.append" rR:=by
 intro ak s Z H x vs v us Q I rx rv h;obtain⟨l,xs,y,rfl,rfl,hH,hz,q⟩:=h;cases rx;obtain⟨u,rfl,ru⟩:=rv.one;obtain⟨z,its,n,r,hl,e⟩:=I.BP hH;refine call_meets F.slot_list_append ⟨_,e,rfl⟩ F.entry_list_append (F.args_list_append_2 _ _) (PySem.list_append l its.toArray n u (by rw[fG];lia)) ⟨e,?_⟩;refine⟨.non,_,I.BL (its':=its++[u]) hH e J0 (r.append (.cons ru .nil)) ?_,rfl,q⟩;rw[bO,List.length_singleton]
 lia
noncomputable def Ku:V->List V->Hp->VK->Prop:=λx vs H Q=>∃l xs y,x=.ref l/\vs=[]/\H l=some (.lst xs)/\xs[xs.length-1]?=some y/\Q y (upd H l (.lst xs.dropLast))
theorem zjw:Rn X "list.pop" Ku:=by
 intro ak s Z H x vs v us Q I rx rv h;obtain⟨l,xs,y,rfl,rfl,hH,hy,q⟩:=h;cases rx;have hus:=rv.zero;subst hus;obtain⟨z,its,n,r,hl,e⟩:=I.BP hH;obtain⟨u,hu,ru⟩:=r.get hy;have hy':its.toArray[its.toArray.size-1]?=some u:=by
  show its.toArray[its.length-1]?=some u;rw[<-Array.getElem?_toList,<-hl];exact hu
 refine call_meets F.slot_list_pop ⟨_,e,rfl⟩ F.entry_list_pop (F.args_list_pop_1 _) (MeetsSeq.list_pop_last l its.toArray n u hy' (by rw[fG];lia)) ⟨e,?_⟩;refine⟨y,_,I.BL (its':=its.dropLast) hH e ?_ r.dropLast ?_,ru,q⟩
 ·show its.toArray.eraseIdxIfInBounds (its.toArray.size-1)=its.dropLast.toArray;rw[fG,List.eraseIdxIfInBounds_toArray,zdX]
 ·rw[List.length_dropLast]
  lia
end
section
variable {prog:Program}{w:World}{A:Around}{E:Value->Shared->Prop}{s:Shared}
set_option maxRecDepth 100000 in
end
end L2
namespace Rp
open PySem PySem.W PySem.Calls PyProof.Rows
theorem zbB{P:Params}{h:Heap}:∀(ns:List Int) (vs:List Value),WellAll P h vs (ns.map WData.int)->IntsAre vs ns:=by
 intro ns
 induction ns with
 |nil=>
  intro vs w;rw[List.map_nil] at w;cases w;exact .nil
 |cons n ns ih=>
  intro vs w;rw[oY] at w;cases w with
  |cons a b=>
   cases a;exact .cons _ _ (ih _ b)
theorem zeP{l:OpenLaw}{n:Nat}(hn:l.most=some n){P:Params}{h:Heap}{args:List WData}{vals:List Value}
  (hpre:l.row.toRowW.claim.pre args=true) (Kv:WellAll P h vals args) :
  ∃a vs ns,vals=[Value.ref a]/\args=[WData.list (ns.map WData.int)]/\h.get? a=some {cls:=.type "list",data:=.seq vs.toArray}/\IntsAre vs ns/\ns.length<=n:=by
 have hsh:WShape.hasAll [] args [.list .int]=true:=(pre_splitW hpre).1;have hc:l.pre.holds [] {args:=args}=true:=(pre_splitW hpre).2;obtain⟨d,r,rfl,h1,h2⟩:=hasAllW_cons hsh;obtain rfl:=hasAllW_nil h2;obtain⟨xs,rfl,h3⟩:=hasW_list h1;obtain⟨ns,rfl⟩:=items_int h3;have hlen:ns.length<=n:=by
  unfold OpenLaw.pre at hc;have h4:(WTm.not (.lt (.lit (.int (n:Int))) (.len (.arg 0)))).holds [] {args:=[.list (ns.map .int)]}=true:=by
   have h4:=(holds_andW hc).1;rw[hn] at h4;exact h4
  have h5:=condW_of h4 (w_not (w_lt w_lit (w_len_list (w_arg rfl))));rw[cH] at h5;refine FW λq=>?_;have q':(n:Int)<((ns.length:Nat):Int):=by lia
  first
   |(rw[cX q'] at h5;exact absurd h5 Dc)
   |(simp at h5;lia)
 cases Kv with
 |cons w1 w2=>
  cases w2;cases w1 with
  |list ho Kw=>exact⟨_,_,ns,rfl,rfl,ho,zbB ns _ Kw,hlen⟩
theorem zeV(l:OpenLaw)(args:List WData):l.row.toRowW.claim.post args (.bool true) args=true:=
 postW_of (r:=l.row.toRowW) (X:=(true==true))
  (show WShape.has [] (.bool true) .bool=true by first|rfl|decide|simp[WShape.has,WShape.arms,WShape.armsAll])
  (show (WTm.eq .res (.lit (.bool true))).value [] {args:=args,res:=some (.bool true),after:=args}=some (.bool (true==true)) from w_eq_bool (w_res rfl) w_lit) rfl
theorem lD{l:OpenLaw}{n:Nat}{q:Program}{loose:List Str}{XP:(Str->Option Value)->Heap->Prop}{YP:World->Heap->Prop}{d:DefRec}
  (hn:l.most=some n) (Ky:d.params.defaults=[])
  (call:∀(w:World) (s₀ s₁:Shared) (mg mb:Str->Option Value) (fa:Addr) (o:Obj) (pm cd doc:Value) (a:Addr) (vs:List Value) (ns:List Int),
   Ground q loose [] XP w s₀ mg mb s₁.heap->YP w s₁.heap->
   s₁.heap.get? fa=some o->o.data=.func (docDef d.name d.params d.body d.scope pm cd doc)->s₁.heap.CodeRec cd d.name->mg d.name=some (.ref fa)->
   s₁.heap.get? a=some {cls:=.type "list",data:=.seq vs.toArray}->IntsAre vs ns->ns.length<=n->s₁.gens=#[]->
   codeAny (model l.prog w) callerA (.call (.ref fa) ⟨[.ref a],[]⟩) (λr s'=>r=.ok (.ret (.bool true))/\OldK s₁.heap s'.heap/\s'.os=s₁.os/\AllBare s'.gens) s₁) :
  WalkO q loose XP YP l.row.toRowW d [] (λf vs=>PySem.call f vs):=by
 intro w s₀ s₁ mg mb G Y fa o pm cd doc dV kV ho hd lu hD hmg hg args vals as hpre aac hrd Kv wH;obtain rfl:dV=.none:=Dflts.none hD Ky;obtain rfl:kV=.none:=Dflts.noKw hD;obtain⟨a,vs,ns,rfl,rfl,wI,hints,hlen⟩:=zeP hn hpre Kv;refine enter_call (codeAny_mono (call w s₀ s₁ mg mb fa o pm cd doc a vs ns G Y ho (fd_plain hd) lu hmg wI hints hlen hg) λr s' hq=>?_);obtain⟨rfl,h2,h3,h4⟩:=hq;exact⟨.inl ⟨.bool true,.bool true,[],rfl,λ_=>rfl,.bool true,zeV l _,λ_=>⟨List.Pairwise.nil,λ_ hm=>(nomatch hm)⟩⟩,h2,h3,h4⟩
end Rp
namespace L2
open PySem PySem.Spec PyProof.Rows
theorem Rq:∀{vs:List Value} {ns:List Int},IntsAre vs ns->Vals (ns.map V.int) vs
 |_,_,.nil=>.nil
 |_,_,.cons n t h=>.cons ⟨t,rfl⟩ (Rq h)
def Only(H:Hp):Prop:=∀b,H b=none\/∃o xs,H b=some (.qG o (.lst xs))
theorem zgq{P:Program}{w:World}{K:W.Frag}{mg mb:Str->Option Value}{CX:oH}{k:Nat}{fa a:Addr}{fd:FuncData}{x:Str}{sp:Sp}{s₁:Shared}{vs:List Value}{ns:List Int}
  (KX:K.In s₁.heap) (Rr:s₁.heap.Ns mainGlobals mg) (hb:s₁.heap.Ns builtinsNs mb) (hbb:∀x:Str,x≠"__name__"->mb x=bootBuiltins x) (Kz:s₁.heap.NoLimit) (hg:s₁.gens=#[])
  (ha:s₁.heap.get? a=some {cls:=.type "list",data:=.seq vs.toArray}) (hi:IntsAre vs ns) (hl:ns.length<=sizeLine) (hr:cD k callerA)
  (F:∀base:Heap,K.In base->base.Ns mainGlobals mg->dB P w K mg base CX true k fa fd [x] sp) (BR:∀(s:Shared) (u:Value),BindsTo s fd ⟨[u],[]⟩ [(x,u)])
  (GK:∀H:Hp,Only H->cW K H a (ns.map V.int)->sp [.ref a] H (λv _=>v=.bl true) λ_ _ _=>False)
  (hCX:∀H e s',CX [] H s₁ (λ_ _ _=>False) e s'->False) :
  codeAny (model P w) callerA (.call (.ref fa) ⟨[.ref a],[]⟩) (λr s'=>r=.ok (.ret (.bool true))/\OldK s₁.heap s'.heap/\s'.os=s₁.os/\AllBare s'.gens) s₁:=by
 have rv:=Rq hi;have lenV:=hi.length;have core:∀H:Hp,Only H->cW K H a (ns.map V.int)->gD P w H s₁.heap->(∀b,H b≠none->b=a)->(H a≠none->K.lookup a=none)->
   codeAny (model P w) callerA (.call (.ref fa) ⟨[.ref a],[]⟩) (λr s'=>r=.ok (.ret (.bool true))/\OldK s₁.heap s'.heap/\s'.os=s₁.os/\AllBare s'.gens) s₁:=by
  intro H hO hS hok hA hK;have ni:∀{b:Addr} {o:Obj},s₁.heap.get? b=some o->H b=none->(jC s₁.heap H).get? b=some o:=λe n=>X8 e n;have Bm:∀{b:Addr} {o:Obj} {es:Array DictEntry} {ep:Nat},s₁.heap.get? b=some o->o.data=.dict es ep->H b=none:=λ{b o es ep} e d=>by
   cases q:H b with
   |none=>rfl
   |some u=>
    have e':b=a:=hA b (by rw[q];simp);subst e';rw[ha] at e;cases e;have d':Data.seq vs.toArray _=Data.dict es ep:=d;cases d'
  have GR:∀{b:Addr} {m:Str->Option Value},s₁.heap.Ns b m->(jC s₁.heap H).Ns b m:=λ{b m} ⟨o,es,ep,e,d,r⟩=>⟨o,es,ep,ni e (Bm e d),d,r⟩;have Rt:K.In (jC s₁.heap H):=λb o e=>ni (KX b o e) (by
   cases q:H b with
   |none=>rfl
   |some u=>
    have e':b=a:=hA b (by rw[q];simp);subst e';rw[hK (by rw[q];simp)] at e;cases e)
  have hM:Mod K mg (jC s₁.heap H):=⟨Rt,GR Rr,⟨mb,GR hb,hbb⟩,let ⟨mc,h1,h2⟩:=Kz;⟨mc,GR h1,h2⟩⟩;have e0:rJ P w K mg (jC s₁.heap H) callerA [] s₁ H:=⟨rfl,hM,λb o e=>X_ e,Nat.le_of_eq (X7 _ _),trivial,λb hb=>absurd (show b∈([]:List Addr) from hb) J0,hok,.of_eq hg⟩;refine codeAny_mono ((F _ Rt (GR Rr)).run callerA [] s₁ H ⟨[.ref a],[]⟩ [.ref a] [.ref a] _ _ (λ_=>rfl) hr e0 (BR s₁ (.ref a)) (.cons rfl .nil) (GK H hO hS)) λr s' h=>?_;cases r with
  |error e=>exact(hCX H e s' h).elim
  |ok fl=>
   cases fl with
   |next=>exact False.elim h
   |brk=>exact False.elim h
   |cont=>exact False.elim h
   |ret u=>
    obtain⟨v,H',os,bare,un,KC,r',q⟩:=h;have q':v=.bl true:=q;subst q';obtain rfl:u=Value.bool true:=r';refine⟨rfl,OldK.of_keep λb o e=>?_,os,bare⟩;cases q:H b with
    |none=>exact un.keep b o e q (by intro z;exact absurd (show b∈([]:List Addr) from z) J0) J0
    |some u=>
     rcases hO b with z|⟨ob,xs,z⟩
     ·rw[q] at z;cases z
     ·have z2:=un.iY b ob _ z;obtain⟨e1,_⟩:=hok b _ z;obtain⟨e2,_⟩:=KC b _ z2;rw[e] at e1;cases e1;exact e2
 cases hk:K.lookup a with
 |some o=>
  have e:=KX a o hk;rw[ha] at e;cases e;refine core (λ_=>none) (λ_=>.inl rfl) (.inr ⟨_,vs.toArray,_,hk,rfl,rfl,rfl,by rw[fG,lenV];exact hl,by simpa using rv⟩) (λb u z=>by have z':(none:Option HO)=some u:=z;cases z') (λb z=>absurd rfl z) λz=>absurd rfl z
 |none=>
  refine core (λb=>if b=a then some (.qG {cls:=.type "list",data:=.seq vs.toArray} (.lst (ns.map V.int))) else none) (λb=>?_) (.inl (.inr ⟨{cls:=.type "list",data:=.seq vs.toArray},if_pos rfl⟩)) (λb u z=>?_) (λb z=>?_) λ_=>hk
  ·by_cases hb:b=a
   ·exact .inr ⟨_,_,if_pos hb⟩
   ·exact .inl (if_neg hb)
  ·by_cases hb:b=a
   ·have z':=(if_pos hb).symm.trans z;cases z';subst hb;exact⟨ha,by rw[cH];exact hl,vs,_,rv,ha⟩
   ·have z':=(if_neg hb).symm.trans z;cases z'
  ·by_cases hb:b=a
   ·exact hb
   ·exact absurd (if_neg hb) z
def KD(h0:Heap)(H:Hp)(h:Heap)(e:Addr)(hd:Value):Prop:=
 hd=.none\/∃T oT ts,hd=.ref T/\h0.get? T=none/\H T=none/\T≠e/\h.get? T=some oT/\oT.data=.fields ts/\ts[3]?=some .none
structure Exc(h0:Heap)(H:Hp)(h:Heap)(e C:Addr)(dx:Option Addr):Prop where
 new:h0.get? e=none
 un:H e=none
 ob:∃oe vs hd,h.get? e=some oe/\oe.cls=.ref C/\oe.dict=dx/\oe.data=.fields vs/\vs[1]?=some hd/\KD h0 H h e hd
structure KH(h0:Heap)(H:Hp)(fr:List Addr)(h h':Heap)(ch:List Addr):Prop where
 rec_:∀b∈ch,h0.get? b=none/\H b=none/\∃o vs,h.get? b=some o/\o.data=.fields vs
 keep:∀b o,h.get? b=some o->b∉fr->b∉ch->h'.get? b=some o
 slot:∀b o,h.get? b=some o->b∈fr->∃sl,h'.get? b=some {o with slots:=sl}
 there:∀b o,h.get? b=some o->∃o',h'.get? b=some o'
noncomputable def pF(head:Value)(L:Addr)(pl:List Value):Obj:=
 {cls:=.type "traceback",dict:=none,data:=.fields ([head,.ref L,.none,rawInt L,.none]++(if pl.isEmpty then List.replicate 6 Value.none else pl)).toArray}
theorem Ru(o:Obj)(f:Array Value->Array Value):(o.mapFields f).dict=o.dict:=by
 obtain⟨c,d,dt,sl⟩:=o;cases dt<;>rfl
theorem Rw(o:Obj)(f:Array Value->Array Value):(o.mapFields f).cls=o.cls:=by
 obtain⟨c,d,dt,sl⟩:=o;cases dt<;>rfl
section
variable {M:Model}{A:Around}{E:Value->Shared->Prop}{s:Shared}{base h0:Heap}{env:Env}{outer:List Env}{L e C:Addr}{dx:Option Addr}{H:Hp}{Q:Unit->Shared->Prop}
theorem Rx(hfr:A.frames=some (env::outer))(hl:s.heap.FunFrames base (env::outer))(hf:env.frame=some L)
  (he:s.heap.get? e=some oe) (hd:oe.data=.fields vs) (lR:1<vs.size)
  (k:∀h' T oT ts,s.heap.objs.size<=T->(∀b o,s.heap.get? b=some o->b∉frs (env::outer)->b≠e->h'.get? b=some o)->(∀b o,s.heap.get? b=some o->b∈frs (env::outer)->∃sl,h'.get? b=some {o with slots:=sl})->
   h'.get? e=some (oe.mapFields (·.setIfInBounds 1 (.ref T)))->h'.get? T=some oT->oT.data=.fields ts->3<ts.size->ts[3]?=some (rawInt L)->Q () {s with heap:=h'}) :
  wpAny M A (do let a <-frameOf env;let pl <-entryPlaceOf L hn;let b <-EntryCells.newEntry head a .none (rawInt L) .none pl;setField (.ref e) 1 b) Q E s:=by
 have BW:e∉frs (env::outer):=λhm=>by
  obtain⟨_,o,ho,hx⟩:=hl.mem hm;rw[he] at ho;cases ho;exact hx vs hd
 refine aF (wpAny_frameOf_fun hfr hl hf λh₁ sl₁=>?_);refine aF (wpAny_entryPlaceOf λpl c7=>?_);unfold EntryCells.newEntry newFields;refine aF (uq ?_ (c7.sizeOk5 _ _ _ _ _));have e1:h₁.get? e=some oe:=(sl₁.2.1 e BW).trans he;have e2:(h₁.push (pF head L pl)).get? e=some oe:=dz _ e1;refine Ac e2 hd lR ?_;have ne:h₁.objs.size≠e:=vO (bW e1);have d3:=uh hd (·.setIfInBounds 1 (Value.ref h₁.objs.size));have kp:∀b o,h₁.get? b=some o->b≠e->((h₁.push (pF head L pl)).update e (Obj.mapFields (·.setIfInBounds 1 (Value.ref h₁.objs.size)))).get? b=some o:=λb o q n=>by
  rw[yr _ _ n.symm];exact dz _ q
 refine k _ h₁.objs.size (pF head L pl) _ (by rw[sl₁.1];exact bT _) (λb o q n1 n2=>kp b o ((sl₁.2.1 b n1).trans q) n2) (λb o q m=>?_) (zW _ e2 (Fv d3)) ?_ rfl ?_ ?_
 ·obtain⟨sl,z⟩:=sl₁.2.2 b o q;exact⟨sl,kp b _ z λy=>BW (y▸m)⟩
 ·rw[yr _ _ ne.symm];exact iu _ rfl
 ·simp only[fG,bO,gB,z_]<;>lia
 ·first
   |(simp;done)
   |(rcases c7 with rfl|⟨_,_,_,_,_,_,_,rfl⟩<;>simp)
theorem zga(hfr:A.frames=some (env::outer))(hl:s.heap.FunFrames base (env::outer))(hf:env.frame=some L)(x:Exc h0 H s.heap e C dx)
  (k:∀h' T oT oe ts vs ch,KH h0 H (frs (env::outer)) s.heap h' ch->s.heap.objs.size<=T->h'.get? e=some oe->oe.cls=.ref C->oe.dict=dx->oe.data=.fields vs->vs[1]?=some (.ref T)->h'.get? T=some oT->oT.data=.fields ts->
   3<ts.size->ts[3]?=some (rawInt L)->Q () {s with heap:=h'}):wpAny M A (noteFrame (.ref e) env) Q E s:=by
 obtain⟨oe,vs,hd,he,hc,GX,qJ,h1,tb⟩:=x.ob;have lR:1<vs.size:=(Iv.mp h1).1;have BW:∀b o ws,s.heap.get? b=some o->o.data=.fields ws->b∉frs (env::outer):=λb o ws q d hm=>by
  obtain⟨_,o',ho,hx⟩:=hl.mem hm;rw[q] at ho;cases ho;exact hx ws d
 unfold noteFrame;simp only[hf];refine aF (jz he qJ h1 ?_);rcases tb with rfl|⟨T,oT,ts,rfl,nT,uT,neT,gT,dT,h3⟩
 ·rw[if_neg Dc];refine Rx hfr hl hf he qJ lR λh' T oT ts lt kp sl ge gT dT z3 z4=>?_;refine k h' T oT _ ts _ [e] ⟨λb hb=>?_,λb o q n1 n2=>kp b o q n1 λz=>n2 (by rw[z];exact .head _),sl,λb o q=>?_⟩ lt ge ((Rw _ _).trans hc) ((Ru _ _).trans GX) (uh qJ _) (by simp[lR]) gT dT z3 z4
  ·obtain rfl:b=e:=by simpa using hb
   exact⟨x.new,x.un,oe,vs,he,qJ⟩
  ·by_cases z:b=e
   ·subst z;exact⟨_,ge⟩
   ·by_cases m:b∈frs (env::outer)
    ·obtain⟨w,q'⟩:=sl b o q m;exact⟨_,q'⟩
    ·exact⟨o,kp b o q m z⟩
 ·rw[if_pos (show (Value.ref T != Value.none)=true from by simp)];refine aF (jz gT dT h3 ?_);rw[if_neg (show ¬((Value.none==rawInt L)=true) from by simp[rawInt])];have z3:3<ts.size:=(Iv.mp h3).1;refine aF (Ac gT dT z3 ?_);have oth:∀b,b≠T->(s.heap.update T (Obj.mapFields (·.setIfInBounds 3 Value.none))).get? b=s.heap.get? b:=λb n=>yr _ _ n.symm;have hl':(s.heap.update T (Obj.mapFields (·.setIfInBounds 3 Value.none))).FunFrames base (env::outer):=hl.of_keeps λb o q nd=>⟨o,(oth b λz=>by subst z;rw[gT] at q;cases q;exact nd ts dT).trans q,rfl⟩;have sT:(s.heap.update T (Obj.mapFields (·.setIfInBounds 3 Value.none))).get? T=some (oT.mapFields (·.setIfInBounds 3 Value.none)):=zW _ gT (Fv (uh dT _));refine Rx hfr hl' hf ((oth e neT.symm).trans he) qJ lR λh' T' oT' ts' lt kp sl ge gT' dT' z3' z4'=>?_;have lt':s.heap.objs.size<=T':=by
   have:=lt;simp only[Heap.size_after_update] at this;exact this
  refine k h' T' oT' _ ts' _ [e,T] ⟨λb hb=>?_,λb o q n1 n2=>kp b o ((oth b λz=>n2 (by simp[z])).trans q) n1 λz=>n2 (by simp[z]),λb o q m=>?_,λb o q=>?_⟩ lt' ge ((Rw _ _).trans hc) ((Ru _ _).trans GX) (uh qJ _) (by simp[lR]) gT' dT' z3' z4'
  ·have hb':b=e\/b=T:=by simpa using hb
   rcases hb' with rfl|rfl
   ·exact⟨x.new,x.un,oe,vs,he,qJ⟩
   ·exact⟨nT,uT,oT,ts,gT,dT⟩
  ·exact sl b o ((oth b λz=>by subst z;exact BW b o ts q (by rw[gT] at q;cases q;exact dT) m).trans q) m
  ·by_cases z:b=e
   ·subst z;exact⟨_,ge⟩
   ·by_cases y:b=T
    ·subst y;exact⟨_,kp b _ sT (BW b oT ts gT dT) z⟩
    ·by_cases m:b∈frs (env::outer)
     ·obtain⟨w,q'⟩:=sl b o ((oth b y).trans q) m;exact⟨_,q'⟩
     ·exact⟨o,kp b o ((oth b y).trans q) m z⟩
theorem zfP(he:s.heap.get? e=some oe)(hd:oe.data=.fields vs)(h1:vs[1]?=some (.ref T))(gT:s.heap.get? T=some oT)(dT:oT.data=.fields ts)(z3:3<ts.size)
  (k:∀h',(∀b o,b≠T->s.heap.get? b=some o->h'.get? b=some o)->h'.get? T=some (oT.mapFields (·.setIfInBounds 3 Value.none))->Q () {s with heap:=h'}):wpAny M A (setFlight (.ref e) none) Q E s:=by
 unfold setFlight;refine aF (jz he hd h1 ?_);rw[if_pos (show (Value.ref T != Value.none)=true from by simp)];exact Ac gT dT z3 (k _ (λb o n q=>(yr _ _ n.symm).trans q) (zW _ gT (Fv (uh dT _))))
theorem zej(hfr:A.frames=some (env::outer))(hl:s.heap.FunFrames base (env::outer))(hf:env.frame=some L)(x:Exc h0 H s.heap e C dx)
  (m6:∀b,s.heap.objs.size<=b->H b=none) (h0s:∀b o,h0.get? b=some o->∃o',s.heap.get? b=some o')
  (k:∀h' ch,KH h0 H (frs (env::outer)) s.heap h' ch->Exc h0 H h' e C dx->Q () {s with heap:=h'}) :
  wpAny M A (noteFrame (.ref e) env) (λ_ s₁=>wpAny M A (setFlight (.ref e) none) Q E s₁) E s:=by
 have ele:∃o,s.heap.get? e=some o:=let ⟨oe,_,_,he,_⟩:=x.ob;⟨oe,he⟩;refine zga hfr hl hf x λh' T oT oe ts vs ch t lt ge hc GX qJ h1 gT dT z3 z4=>?_;have neT:T≠e:=λz=>by
  obtain⟨o,q⟩:=ele;exact absurd (gq (bW q) (z▸lt)) (nY _)
 refine zfP (s:={s with heap:=h'}) ge qJ h1 gT dT z3 λh2 kp gT2=>?_;have nT:∀b o,s.heap.get? b=some o->b≠T:=λb o q z=>absurd (gq (bW q) (z▸lt)) (nY _);refine k h2 ch ⟨t.rec_,λb o q n1 n2=>kp b o (nT b o q) (t.keep b o q n1 n2),λb o q m=>?_,λb o q=>?_⟩ ⟨x.new,x.un,oe,vs,.ref T,kp e oe neT.symm ge,hc,GX,qJ,h1,.inr ⟨T,_,_,rfl,?_,m6 T lt,neT,gT2,uh dT _,by simp[z3]⟩⟩
 ·obtain⟨sl,q'⟩:=t.slot b o q m;exact⟨sl,kp b _ (nT b o q) q'⟩
 ·obtain⟨o',q'⟩:=t.there b o q;exact⟨o',kp b o' (nT b o q) q'⟩
 ·cases z:h0.get? T with
  |none=>rfl
  |some o=>
   obtain⟨o',q⟩:=h0s T o z;exact absurd rfl (nT T o' q)
end
noncomputable abbrev XS:=St->Value->Option Addr->Hp->Prop
def Sub(h0 h:Heap):Prop:=∀b o,h0.get? b=some o->∃o',h.get? b=some o'
theorem Sub.none{h0 h:Heap}(x:Sub h0 h){b:Addr}(e:h.get? b=none):h0.get? b=none:=by
 cases q:h0.get? b with
 |none=>rfl
 |some o=>
  obtain⟨o',z⟩:=x b o q;rw[e] at z;cases z
theorem Exc.older{h0 h1:Heap}{H:Hp}{h:Heap}{e C:Addr}{dx:Option Addr}(x:Exc h1 H h e C dx)(y:Sub h0 h1):Exc h0 H h e C dx:=by
 obtain⟨oe,vs,hd,a,b,c,d,f,tb⟩:=x.ob;refine⟨y.none x.new,x.un,oe,vs,hd,a,b,c,d,f,?_⟩;rcases tb with z|⟨T,oT,ts,z1,z2,z3⟩
 ·exact .inl z
 ·exact .inr ⟨T,oT,ts,z1,y.none z2,z3⟩
section
variable {X:Cx}{ak:List (Addr×Obj)}{Z:St}{H:Hp}{s:Shared}{h0 h':Heap}{ch fr:List Addr}
theorem gD.tbd{P:Program}{w:World}{h:Heap}(x:gD P w H h)(t:KH h0 H fr h h' ch)(hf:∀b∈fr,H b=none):gD P w H h':=λa o e=>by
 have st:∀b u,(b=a\/H b=some (.own a))->h.get? b=some u->h'.get? b=some u:=λb u z q=>by
  have nb:H b≠none:=by
   rcases z with z|z
   ·rw[z,e];simp
   ·rw[z];simp
  exact t.keep b u q (λm=>nb (hf b m)) λm=>nb (t.rec_ b m).2.1
 exact(x a o e).stay st (λ_ z=>z) λ_ _ z=>z
end
def Raises(X:Cx)(EX:XS):Prop:=
 ∀(ak:List (Addr×Obj)) (Z:St) (H:Hp) (s:Shared) (h0:Heap) (e C:Addr) (dx:Option Addr),Inv X ak Z H s->(∀b o,X.s₀.heap.get? b=some o->b∉X.ex->∃o',h0.get? b=some o')->
  (∀p∈X.pn++ak,∃o,h0.get? p.1=some o)->Sub h0 s.heap->Exc h0 H s.heap e C dx->EX Z (.ref C) dx H->X.xe (.ref e) s
noncomputable def i_(P:Program)(w:World):oH:=λouter H s E e s'=>
 ∃(a C:Addr) (dx:Option Addr) (H':Hp),e=.ref a/\s'.os=s.os/\AllBare s'.gens/\Un (frs outer) [] H H' s.heap s'.heap/\gD P w H' s'.heap/\Exc s.heap H' s'.heap a C dx/\E (.ref C) dx H'
theorem zdQ{P:Program}{w:World}{K:W.Frag}{mg:Str->Option Value}{base:Heap}{N:List Str}{qual:Str}{scope:Scope}{f:Addr}{cd:Value}{A:Around}{outer:List Env}{s:Shared}{H:Hp}{E:XK}{cm:Bool} :
  Raises (gH (i_ P w) P w K mg base N qual scope f cd A outer s H E cm) (λ_ C dx H'=>E C dx H'):=by
 intro ak Z H1 s1 h0 e C dx I hs hp h01 x ex;have I0:Inv (gH (i_ P w) P w K mg base N qual scope f cd A outer s H E cm) [] Z H1 s1:=I.jG λp z=>absurd z J0;show wpAny (model P w) (A.deeper (envOfC qual scope s.heap.objs.size f cd)) (leaving (envOfC qual scope s.heap.objs.size f cd) (.ref e)) _ _ s1;unfold leaving;have hsub:Sub s.heap h0:=λb o q=>hs b o q (by show b∉([]:List Addr);simp);refine aF (zej (base:=base) (outer:=outer) (L:=s.heap.objs.size) I0.ok.frames I0.stack rfl x (λb z=>I0.hok.fresh z) h01 λh' ch t x'=>?_);have fin:∀b o,s.heap.get? b=some o->b∉ch:=λb o q m=>by
  have z:=hsub.none (t.rec_ b m).1;rw[q] at z;cases z
 have nL:∀b o,s.heap.get? b=some o->b∉frs outer->b∉frs (envOfC qual scope s.heap.objs.size f cd::outer):=λb o q n m=>by
  have m':b∈s.heap.objs.size::frs outer:=m;rcases iy.mp m' with z|z
  ·exact absurd (bW q) (by rw[z];exact nY _)
  ·exact n z
 refine⟨e,C,dx,H1,rfl,I0.os,I0.bare,⟨λb o q n hb _=>?_,λb o q n hb _=>?_,λb o q n _=>I0.base.free b o q n (by show b∉([]:List Addr);simp),λb o q _=>?_,I0.base.tups,I0.base.iY,I0.base.jB⟩,I0.hok.tbd t I0.jF,x'.older hsub,ex⟩
 ·exact t.keep b o (I0.base.keep b o q n hb (by show b∉([]:List Addr);simp)) (nL b o q hb) (fin b o q)
 ·obtain⟨sl,q1⟩:=I0.base.slot b o q n hb (by show b∉([]:List Addr);simp);obtain⟨sl',q2⟩:=t.slot b _ q1 (show b∈s.heap.objs.size::frs outer from iD _ hb);exact⟨sl',q2⟩
 ·obtain⟨o',q1⟩:=I0.base.there b o q (by show b∉([]:List Addr);simp);exact t.there b o' q1
section
variable {X:Cx}{cm:Bool}{k:Nat}{f C:Addr}{fd:FuncData}{ps:List Str}{sp:Sp}{EX:XS}{x m:Str}{p pos apos:Pos}{e o:Expr}{es:List Expr}{ta:TE}{t:TA}
theorem Raises.pass(R:Raises X EX)(I:Inv X ak Z H s)(h:i_ X.prog X.w X.stack H s (EX Z) v s'):X.xe v s':=by
 obtain⟨a,C,dx,H',rfl,os,bare,un,hok,x,q⟩:=h;have ao:Sub s.heap s'.heap:=λb o z=>un.there b o z J0;refine R ak Z H' s' s.heap a C dx (I.call' os un hok bare λb z=>absurd z J0) (λb o z n=>I.base.there b o z n) (λp hp=>?_) ao x q;exact⟨p.2,(I.pin p hp).1⟩
noncomputable def wJ(sp:Sp)(EX:XS)(t:TA):TE:=λZ H Q=>t Z H λvs H1=>sp vs H1 Q (EX Z)
theorem zhM(F:dB X.prog X.w X.K X.mg X.base (i_ X.prog X.w) cm k f fd ps sp)(n8:cm=true->X.aj=true)(hr:cD k X.A)(hb:Binds X.K fd ps [])(R:Raises X EX)
  (I:Inv X ak Z H s) (r:Vals vs us) (h:sp vs H Q (EX Z)):wpAny (model X.prog X.w) X.A (call (.ref f) us) (EP X ak Z Q) X.xe s:=by
 have hl:us.length=ps.length:=by rw[<-r.length];exact F.len _ _ _ _ h
 have hb':=hb s us I.rE (by rw[lZ];exact hl);rw[lZ] at hb';refine wpAny_call (codeAny_mono (F.run X.A X.stack s H ⟨us,[]⟩ us vs Q (EX Z) (λz=>I.ok.hd (n8 z)) hr I.env0 hb' r h) λr s' hq=>?_);cases r with
 |error v=>exact R.pass I hq
 |ok fl=>
  cases fl with
  |ret u=>exact I.after hq
  |next=>exact False.elim hq
  |brk=>exact False.elim hq
  |cont=>exact False.elim hq
theorem zfs(F:dB X.prog X.w X.K X.mg X.base (i_ X.prog X.w) cm k f fd ps sp)(n8:cm=true->X.aj=true)(hr:cD k X.A)(hg:Gl X x)(hm:X.mg x=some (.ref f))(hk:PySem.W.keepIn X.K (.ref f)=true)(hb:Binds X.K fd ps [])(R:Raises X EX)
  (ha:PA X (e::es) t) (pC:(x==("__debug__" : Str))=false:=by decide) (he:starEach (e::es) X.env=(false,eval e X.env)::starEach es X.env:=by rfl) (c7:(backTo pos (starEach es X.env)).any (·.1)=false:=by rfl) :
  PE X (.Call (.Name x p) (e::es) [] pos) (wJ sp EX t):=by
 intro ak s Z H Q I h;refine wpAny_Call_Name_kw (QS I hg hm ?_ pC);exact PySem.W.callWith_K (h₀:=X.base) I.ok.mod.yJ hk (bf (ha pos ak s Z H _ I h) λus s1 ⟨vs,H1,I1,r,q⟩=>⟨I1.rE,zhM F n8 hr hb R I1 r q⟩) he c7
end
noncomputable def rT(a C:Addr)(dx:Option Addr):HO:=.ext λh=>∃oe vs,h.get? a=some oe/\oe.cls=.ref C/\oe.dict=dx/\oe.data=.fields vs
end L2
namespace L2
open PySem PySem.Spec PyProof.Rows PySem.W Builtin.ObjectAttr
section
variable {prog:Program}{w:World}{A:Around}{E:Value->Shared->Prop}{s:Shared}{K:Frag}{x C:Addr}{ox:Obj}{od:Option Obj}{name:Str}{tk:Tok}
theorem zgR(XI:K.In s.heap)(I:InstAt s.heap x ox C od)(hf:findObj K C od name=some r)
  (h:match r with|.value v=>Q (.done (.ret v)) s|.bind g a=>wpAny (model prog w) A (call g [a,.ref x,.ref C]) (λv s'=>Q (.done (.ret v)) s') E s|.missing=>False) :
  wpAny (model prog w) A (Builtin.«object.__getattribute__» ⟨[.ref x,.str name tk],[]⟩) Q E s:=by
 obtain⟨hh,g,d,t,os⟩:=s;have L0:=I.type (M:=model prog w);have L1:=looks_find (M:=model prog w) XI I hf;unfold Builtin.«object.__getattribute__»;refine aF (wpAny_of_eq (a:=(Value.ref x,[Value.str name tk])) (by rfl) ?_);refine aF (wpAny_of_eq (a:=name) (by rfl) ?_);refine aF (L0.at (aF (L1.at ?_)));cases r with
 |value v=>exact bI h
 |bind g a=>
  show wpAny _ _ (holding [a] (call g [a,.ref x,.ref C]) >>= ret) _ _ _;exact aF (qC (mX h (λv s' z=>bI z) λ_ _ z=>z))
 |missing=>exact h.elim
theorem zeR(XI:K.In s.heap)(I:InstAt s.heap x ox C od)(hb:mroIn K C (.type "BaseException")=some true)(hf:findObj K C od name=some r)
  (h:match r with|.value v=>R (.ok (.ret v)) s|.bind g a=>wpAny (model prog w) A.in1 (call g [a,.ref x,.ref C]) (λv s'=>R (.ok (.ret v)) s') (λe s'=>R (.error e) s') s|.missing=>False) :
  codeAny (model prog w) A (.call (.builtin "BaseException.__getattribute__") ⟨[.ref x,.str name tk],[]⟩) R s:=by
 have hk:builtinKind "BaseException.__getattribute__"=some .slot:=by decide +kernel
 have wK:splitId "BaseException.__getattribute__"=some ("BaseException","__getattribute__"):=by decide +kernel
 have ha:=F.args_bexc_ga (.ref x) (.str name tk);refine codeAny_call_builtin F.attr_ValueError.ga.plain F.entry_bexc_ga ?_;have fin:wpAny (model prog w) A.in1 (Builtin.«object.__getattribute__» ⟨[.ref x,.str name tk],[]⟩) (λfin s'=>match fin with|.done f=>R (.ok f) s'|.again c'=>c'.quiet=true/\codeAny (model prog w) A c' R s') (λe s'=>R (.error e) s') s:=by
  refine zgR XI I hf ?_;cases r with
  |value v=>exact h
  |bind g a=>exact h
  |missing=>exact h.elim
 have chk:∀Q:Unit->Shared->Prop,Q () s->wpAny (model prog w) A.in1 (checkBuiltinCall "BaseException.__getattribute__" ⟨[.ref x,.str name tk],[]⟩) Q (λe s'=>R (.error e) s') s:=λQ hq=>by
  obtain⟨hh,g,d,t,os⟩:=s;have L0:=I.type (M:=model prog w);have L1:=looks_mroIn (M:=model prog w) XI hb;have LI:Looks (model prog w) hh (isInstance (.ref x) (.type "BaseException")) true:=L0.andThen L1;simp only[checkBuiltinCall,hk,wK];refine aF ?_
  repeat (first|with_reducible exact hq|with_reducible refine LI.at ?_|wp_step)
 exact chk _ fin
theorem bexc_get?(XI:K.In s.heap)(I:InstAt s.heap x ox C od)(hb:mroIn K C (.type "BaseException")=some true)(hga:findIn K (.ref C) "__getattribute__"=some (some (.builtin "BaseException.__getattribute__")))
  (hgn:findIn K (.ref C) "__getattr__"=some none) (hf:findObj K C od name=some r)
  (h:match r with|.value v=>wpAny (model prog w) A (handedOut v) (λu s'=>Q (some u) s') (λ_ _=>False) {s with toks:=s.toks+1}|.bind g a=>wpAny (model prog w) A.in1 (call g [a,.ref x,.ref C]) (λv s'=>wpAny (model prog w) A (handedOut v) (λu s''=>Q (some u) s'') (λ_ _=>False) s') (λ_ _=>False) {s with toks:=s.toks+1}|.missing=>False) :
  wpAny (model prog w) A (getAttr? (.ref x) name) Q E s:=by
 obtain⟨hh,g,d,t,os⟩:=s;have L0:=I.type (M:=model prog w);have L1:=looks_findIn (M:=model prog w) XI hga;have L2:=looks_findIn (M:=model prog w) XI hgn;have GZ:(Value.builtin "BaseException.__getattribute__"==Value.builtin "object.__getattribute__")=false:=by decide +kernel
 unfold getAttr? getAttrBy? getAttrBy;refine aF (wpAny_mkText (aF (Ae (qC (aF (L0.at (aF (L1.at ?_))))))));show wpAny _ _ (if (onTheHeap (.ref C)&&(Value.builtin "BaseException.__getattribute__"==Value.builtin "object.__getattribute__"))=true then _ else getAttrByItsOwn _ _ _ _ _ _) _ _ _;rw[GZ,Bool.and_false,if_neg Dc];unfold getAttrByItsOwn hookBefore callGetattribute boundAndCalled;refine aF (L2.at ?_);refine aF (Ae (qC (aF (wpAny_of_eq (F.attr_ValueError.ga.bind (.ref x)) ?_))));refine wpAny_call (zeR XI I hb hf ?_);cases r with
 |value v=>exact mX h (λv s'' hv=>bI hv) (λ_ _ z=>z.elim)
 |bind g a=>exact mX h (λv s' hv=>mX hv (λu s'' z=>bI z) λ_ _ z=>z.elim) (λ_ _ z=>z.elim)
 |missing=>exact h.elim
end
structure XC(K:Frag)(C:Addr):Prop where
 ga:findIn K (.ref C) "__getattribute__"=some (some (.builtin "BaseException.__getattribute__"))
 gn:findIn K (.ref C) "__getattr__"=some none
 cl:findIn K (.ref C) "__class__"=some (some (.builtin "object.__class__"))
 mb:mroIn K C (.type "BaseException")=some true
 mo:mroIn K C (.type "object")=some true
 cd:(clsIn K C).isSome=true
 dg:specialIn K (.builtin "object.__class__") "__get__"=some (some (.builtin "getset_descriptor.__get__"))
 dt:takesIn K (.builtin "object.__class__")=some true
theorem zee{K:Frag}{C:Addr}{od:Option Obj}{name:Str}{a g:Value}(hc:(clsIn K C).isSome=true)(ha:findIn K (.ref C) name=some (some a))(hg:specialIn K a "__get__"=some (some g))(ht:takesIn K a=some true):findObj K C od name=some (.bind g a):=by
 obtain⟨cd,z⟩:=Iz.mp hc;simp only[findObj,z,ha,hg,ht,Option.bind_some]
theorem Ry{K:Frag}{e C:Addr}(c:XC K C):KitX K (.ref e) (.ref C) (λh=>∃ox od,InstAt h e ox C od) where
 ty:=λ_ _ _ ⟨_,_,I⟩=>I.type
 it:=λ_ _ XI _=>by
  have q:=c.cd;unfold clsIn at q;split at q
  ·rename_i c' d' cd' sl' lk;intro A' Q' E' s' k z;unfold isType loadHead;exact aF (wpAny_loadPart (k _ _ (XI _ _ lk)) (bI z))
  ·cases q
 ne:=λh tp dd its n sl XI htp=>by
  refine Bool.eq_false_iff.mpr λz=>?_;have ee:C=tp:=Value.ref.inj (yI.mp z);subst ee;have q:=c.cd;unfold clsIn at q;split at q
  ·rename_i c' d' cd' sl' lk;have y:=(XI _ _ lk).symm.trans htp;cases y
  ·cases q
 ca:=λ{prog w A E Q s} XI ⟨ox,od,I⟩ k=>by
  have hf:findObj K C od "__class__"=some (.bind (.builtin "getset_descriptor.__get__") (.builtin "object.__class__")):=zee c.cd c.cl c.dg c.dt;refine bexc_get? XI I c.mb c.ga c.gn hf ?_;exact wpAny_call (class_get (s:={s with toks:=s.toks+1}) (ox:=ox) (od:=od) XI I c.mo (handed_on rfl k))
end L2
namespace L2
open PySem PySem.Spec PyProof.Rows
theorem zdA:∀(names:List (Str×NameKind)) (cs:List (Str×Addr)),(∀x∈names,x.2=.free->∃c,env.cells.lookup x.1=some c)->(∀x c,cs.lookup x=some c->env.cells.lookup x=some c)->
  ∃cl,(forIn names cs λx r=>(do
    if x.2==.free then
     let a <-cellOf env x.1
     pure (ForInStep.yield ((x.1,a)::r))
    else pure (ForInStep.yield r)):Sem (List (Str×Addr)))=pure cl/\(∀x c,cl.lookup x=some c->env.cells.lookup x=some c)/\(∀x c,cs.lookup x=some c->cl.lookup x=some c)/\∀x∈names,x.2=.free->∃c,cl.lookup x.1=some c:=by
 intro names
 induction names with
 |nil=>intro cs _ h;exact⟨cs,rfl,h,λ_ _ q=>q,λx z=>nomatch z⟩
 |cons y r ih=>
  intro cs h1 h2;obtain⟨n,k⟩:=y;by_cases hk:k=.free
  ·subst hk;obtain⟨c,hc⟩:=h1 (n,.free) mV rfl;have hc:env.cells.lookup n=some c:=hc;have h3:∀x d,((n,c)::cs).lookup x=some d->env.cells.lookup x=some d:=λx d q=>by
    rw[nW] at q;by_cases z:x=n
    ·subst z;simp at q;subst q;exact hc
    ·have z':(x==n)=false:=by simpa using z
     rw[z'] at q;exact h2 x d q
   obtain⟨cl,e,a,b,d⟩:=ih ((n,c)::cs) (λx z=>h1 x (iD _ z)) h3;have hco:cellOf env n=pure c:=by
    unfold cellOf;rw[hc]
   refine⟨cl,?_,a,λx q z=>?_,λx z q=>?_⟩
   ·rw[Aa];simp only[yE,if_true,hco];exact e
   ·by_cases y:x=n
    ·subst y;have z1:=h2 x q z;rw[hc] at z1;cases z1;exact b x c J0
    ·have y':(x==n)=false:=by simpa using y
     exact b x q (by rw[nW,y'];exact z)
   ·rcases iy.mp z with z|z
    ·subst z;exact⟨c,b n c J0⟩
    ·exact d x z q
  ·have hb:(k==NameKind.free)=false:=by simpa using hk
   obtain⟨cl,e,a,b,d⟩:=ih cs (λx z=>h1 x (iD _ z)) h2;refine⟨cl,?_,a,b,λx z q=>?_⟩
   ·rw[Aa];simp only[hb,Fz,vP];exact e
   ·rcases iy.mp z with z|z
    ·subst z;exact absurd q hk
    ·exact d x z q
theorem zdO(h:∀x∈scope.names,x.2=.free->∃c,env.cells.lookup x.1=some c):∃cl,closureFor scope env=pure cl/\(∀x c,cl.lookup x=some c->env.cells.lookup x=some c)/\∀x∈scope.names,x.2=.free->∃c,cl.lookup x.1=some c:=by
 obtain⟨cl,e,a,_,d⟩:=zdA scope.names [] h (λx c q=>by cases q);refine⟨cl,?_,a,d⟩;unfold closureFor;have e':=e;simp only[pure_bind,bind_pure] at e' ⊢;exact e'
theorem KN{env:Env}{k:NameKind}:∀{names:List (Str×NameKind)} {x:Str},(names.map λ(n,k)=>if (k==NameKind.free&&env.scope.kind==.function&&env.kindOf n==some .cell) then (n,NameKind.cell) else (n,k)).lookup x=some k->
  names.lookup x=some k\/(k=.cell/\names.lookup x=some .free)
 |[],x,h=>by simp at h
 |(n,q)::r,x,h=>by
  rw[oY,nW] at h;rw[nW];have hd:∀c:Bool,(if c=true then (n,NameKind.cell) else (n,q)).1=n:=λc=>by cases c<;>rfl
  rw[hd] at h;by_cases z:x=n
  ·subst z;simp only[yE] at h ⊢;split at h
   ·rename_i y;simp only[fK,yI] at y;cases h;exact .inr ⟨rfl,by rw[y.1.1]⟩
   ·cases h;exact .inl rfl
  ·have z':(x==n)=false:=by simpa using z
   simp only[z'] at h ⊢;exact KN h
theorem G3{env:Env}:∀{names:List (Str×NameKind)} {x:Str},names.lookup x=some .free->
  (names.map λ(n,k)=>if (k==NameKind.free&&env.scope.kind==.function&&env.kindOf n==some .cell) then (n,NameKind.cell) else (n,k)).lookup x=some .cell \/
  (names.map λ(n,k)=>if (k==NameKind.free&&env.scope.kind==.function&&env.kindOf n==some .cell) then (n,NameKind.cell) else (n,k)).lookup x=some .free
 |[],x,h=>by simp at h
 |(n,q)::r,x,h=>by
  rw[nW] at h;rw[oY,nW];have hd:∀c:Bool,(if c=true then (n,NameKind.cell) else (n,q)).1=n:=λc=>by cases c<;>rfl
  rw[hd];by_cases z:x=n
  ·subst z;simp only[yE] at h ⊢;cases h
   split
   ·exact .inl rfl
   ·exact .inr rfl
  ·have z':(x==n)=false:=by simpa using z
   simp only[z'] at h ⊢;exact G3 h
structure lE(n:Nat)(h1:Heap)(names:List (Str×NameKind))(cl iz:List (Str×Addr)):Prop where
 d1:∀x c,iz.lookup x=some c->(cl.lookup x=some c/\(x,NameKind.cell)∉names)\/((x,NameKind.cell)∈names/\n<c/\h1.IsCell c none)
 d2:∀x y c,n<c->iz.lookup x=some c->iz.lookup y=some c->x=y
 d3:∀x,names.lookup x=some .cell->∃c,iz.lookup x=some c
 d4:∀x c,(x,NameKind.cell)∉names->cl.lookup x=some c->iz.lookup x=some c
theorem cc:(NameKind.cell==NameKind.cell)=true:=by decide
theorem BX:∀(names:List (Str×NameKind)) (h:Heap) (b:Addr) (o:Obj),h.get? b=some o->(pushCells h names).get? b=some o
 |[],h,b,o,e=>e
 |(x,k)::r,h,b,o,e=>by
  rw[pushCells]
  split
  ·exact BX r _ b o (dz _ e)
  ·exact BX r h b o e
theorem KQ:∀(names:List (Str×NameKind)) (h:Heap) (acc:List (Str×Addr)) (x:Str) (c:Addr),(cellsFrom h.objs.size names acc).lookup x=some c->
  (acc.lookup x=some c/\(x,NameKind.cell)∉names)\/((x,NameKind.cell)∈names/\h.objs.size<=c/\(pushCells h names).IsCell c none)
 |[],h,acc,x,c,e=>.inl ⟨e,by simp⟩
 |(y,k)::r,h,acc,x,c,e=>by
  rw[cellsFrom] at e;rw[pushCells];by_cases hk:k=.cell
  ·subst hk;rw[if_pos cc] at e ⊢;have sz:(h.push {cls:=Value.type "cell",data:=Data.cell none}).objs.size=h.objs.size+1:=by unfold Heap.push;simp
   rw[<-sz] at e;rcases KQ r _ _ x c e with ⟨a,b⟩|⟨a,b,d⟩
   ·rw[nW] at a;by_cases z:x=y
    ·subst z;simp at a;subst a;exact .inr ⟨mV,bT _,_,BX r _ _ _ (iu _ rfl),rfl⟩
    ·have z':(x==y)=false:=by simpa using z
     rw[z'] at a;exact .inl ⟨a,by simp[z,b]⟩
   ·exact .inr ⟨iD _ a,by lia,d⟩
  ·have hb:(k==NameKind.cell)=false:=by simpa using hk
   rw[if_neg (by rw[hb];decide)] at e ⊢;rcases KQ r _ _ x c e with ⟨a,b⟩|⟨a,b,d⟩
   ·exact .inl ⟨a,by simp[b];intro _ q;exact hk q.symm⟩
   ·exact .inr ⟨iD _ a,b,d⟩
theorem KR:∀(names:List (Str×NameKind)) (n:Nat) (acc:List (Str×Addr)) (x y:Str) (c:Addr),(∀u v,acc.lookup u=some c->acc.lookup v=some c->u=v)->(∀u a,acc.lookup u=some a->a<n\/a≠c)->(cellsFrom n names acc).lookup x=some c->(cellsFrom n names acc).lookup y=some c->x=y
 |[],n,acc,x,y,c,h,_,e1,e2=>h x y e1 e2
 |(z,k)::r,n,acc,x,y,c,h,hl,e1,e2=>by
  rw[cellsFrom] at e1 e2;by_cases hk:k=.cell
  ·subst hk;rw[if_pos cc] at e1 e2;refine KR r (n+1) _ x y c (λu v a b=>?_) (λu a q=>?_) e1 e2
   ·rw[nW] at a b;by_cases u1:u=z
    ·by_cases v1:v=z
     ·rw[u1,v1]
     ·have v':(v==z)=false:=by simpa using v1
      subst u1;simp at a;rw[v'] at b;subst a;have b:acc.lookup v=some n:=b;rcases hl v n b with q|q
      ·exact absurd q (nY _)
      ·exact absurd rfl q
    ·have u':(u==z)=false:=by simpa using u1
     rw[u'] at a;have a:acc.lookup u=some c:=a;by_cases v1:v=z
     ·subst v1;simp at b;subst b;rcases hl u n a with q|q
      ·exact absurd q (nY _)
      ·exact absurd rfl q
     ·have v':(v==z)=false:=by simpa using v1
      rw[v'] at b;exact h u v a b
   ·rw[nW] at q;by_cases u1:u=z
    ·subst u1;simp at q;subst q;exact .inl (Nat.lt_succ_self _)
    ·have u':(u==z)=false:=by simpa using u1
     rw[u'] at q;exact(hl u a q).imp (λq=>yC q) id
  ·have hb:(k==NameKind.cell)=false:=by simpa using hk
   rw[if_neg (by rw[hb];decide)] at e1 e2;exact KR r n acc x y c h hl e1 e2
theorem KY:∀(names:List (Str×NameKind)) (n:Nat) (acc:List (Str×Addr)) (x:Str) (c:Addr),(x,NameKind.cell)∉names->acc.lookup x=some c->(cellsFrom n names acc).lookup x=some c
 |[],n,acc,x,c,_,e=>e
 |(z,k)::r,n,acc,x,c,h,e=>by
  rw[cellsFrom];have hr:(x,NameKind.cell)∉r:=λq=>h (iD _ q);by_cases hk:k=.cell
  ·subst hk;rw[if_pos cc];refine KY r (n+1) _ x c hr ?_;have:x≠z:=λq=>h (by rw[q];exact mV);have z':(x==z)=false:=by simpa using this
   rw[nW,z'];exact e
  ·have hb:(k==NameKind.cell)=false:=by simpa using hk
   rw[if_neg (by rw[hb];decide)];exact KY r n acc x c hr e
theorem KZ:∀(names:List (Str×NameKind)) (acc:List (Str×Addr)) (s:Shared) (Q:List (Str×Addr)->Shared->Prop),
  Q (cellsFrom s.heap.objs.size names acc) {s with heap:=pushCells s.heap names}->
  wpAny M A (forIn names acc λx (cells:List (Str×Addr))=>match x with
   |(name,kind)=>if (kind==NameKind.cell)=true then do
     let a <-alloc {cls:=Value.type "cell",data:=Data.cell none}
     pure (ForInStep.yield ((name,a)::cells))
    else pure (ForInStep.yield cells)) Q E s
 |[],acc,s,Q,h=>by
  rw[Gf];exact bI h
 |(z,k)::r,acc,s,Q,h=>by
  rw[Aa];rw[cellsFrom,pushCells] at h;by_cases hk:k=.cell
  ·subst hk;rw[if_pos cc,if_pos cc] at h;refine aF ?_;dsimp only;rw[if_pos cc];refine aF (wpAny_alloc (bI ?_));refine KZ r _ _ Q ?_;have sz:(s.heap.push {cls:=Value.type "cell",data:=Data.cell none}).objs.size=s.heap.objs.size+1:=by unfold Heap.push;simp
   rw[sz];exact h
  ·have hb:(k==NameKind.cell)=false:=by simpa using hk
   rw[if_neg (by rw[hb];decide),if_neg (by rw[hb];decide)] at h;refine aF ?_;dsimp only;rw[if_neg (by rw[hb];decide)];exact bI (KZ r _ _ Q h)
theorem zd2(old:∀x c,cl.lookup x=some c->c<s.heap.objs.size)(inj:∀x y c,cl.lookup x=some c->cl.lookup y=some c->x=y)
  (h:∀h1 iz,h1.Ns s.heap.objs.size (λ_=>none)->(∀b o,s.heap.get? b=some o->h1.get? b=some o)->lE s.heap.objs.size h1 scope.names cl iz->Q {scope:=scope,locals:=s.heap.objs.size,globals:=globals,cells:=iz,qual:=qual,func:=none,code:=env.code,frame:=env.frame,builtins:=env.builtins} {s with heap:=h1}) :
  wpAny M A (newFunctionEnv scope globals cl [] qual none .none (some env)) Q E s:=by
 unfold newFunctionEnv;refine aF (wpAny_alloc ?_);refine aF ?_;refine KZ scope.names cl _ _ ?_;dsimp only;rw[Gf];refine aF (bI (bI ?_));have sz:(s.heap.push {cls:=Value.type (if (some env).isSome=true then "dict" else "frame"),data:=Data.dict #[]}).objs.size=s.heap.objs.size+1:=by unfold Heap.push;simp
 refine h _ _ ?_ (λb o e=>BX _ _ _ _ (dz _ e)) ⟨λx c e=>?_,λx y c hc e1 e2=>?_,λx e=>?_,λx c hx e=>KY _ _ _ x c hx e⟩
 ·refine⟨_,#[],_,BX _ _ _ _ (iu _ rfl),rfl,?_,λ_=>rfl⟩;intro e he;simp at he
 ·rcases KQ _ _ _ x c e with ⟨a,b⟩|⟨a,b,d⟩
  ·exact .inl ⟨a,b⟩
  ·rw[sz] at b;exact .inr ⟨a,by lia,d⟩
 ·exact KR _ _ _ x y c (λu v a b=>inj u v c a b) (λu a q=>.inl (by rw[sz];exact yC (old u a q))) e1 e2
 ·have:=I9 scope.names (s.heap.push {cls:=Value.type (if (some env).isSome=true then "dict" else "frame"),data:=Data.dict #[]}).objs.size cl (.inl e);exact Iz.mp this
noncomputable def Cx.blk(X:Cx)(scope:Scope)(cl:List (Str×Addr))(N:List Str)(C:Addr)(s3:Shared)(H3:Hp)(fp:List Addr)(ak:List (Addr×Obj)):Cx where
 prog:=X.prog
 w:=X.w
 K:=X.K
 mg:=X.mg
 base:=X.base
 A:=X.A
 N:=N
 s₀:=s3
 H₀:=H3
 env:=compEnvC scope cl C X.env
 outer:=X.stack
 stack:=X.stack
 ex:=fp
 fn:=λx=>scope.names.lookup x==some .cell
 aj:=X.aj
 pn:=X.pn++ak
 xe:=λ_ _=>False
structure cU(sc scope:Scope):Prop where
 kind:scope.kind=.function
 RB:∀y∈scope.names,y.2=.cell->scope.names.lookup y.1=some .cell
 free:∀y∈scope.names,y.2=.free->sc.names.lookup y.1=some .cell\/sc.names.lookup y.1=some .free
 loc:∀y∈scope.names,y.2=.local->scope.names.lookup y.1=some .local
section
variable {X:Cx}{ak:List (Addr×Obj)}{Z:St}{H:Hp}{s:Shared}{scope:Scope}{cl:List (Str×Addr)}{N:List Str}{fp:List Addr}{ZY:St}
theorem zh7{h1:Heap}{t:Nat}{iz:List (Str×Addr)}(I:Inv X ak Z H s)(B:cU X.env.scope scope)(c1:∀x c,cl.lookup x=some c->X.env.cells.lookup x=some c)(c2:∀x∈scope.names,x.2=.free->∃c,cl.lookup x.1=some c)
  (f:∀b∈fp,gG X ak H b) (fo:∀b∈fp,∃o,s.heap.get? b=some o) (hn:h1.Ns s.heap.objs.size (λ_=>none)) (kp:∀b o,s.heap.get? b=some o->h1.get? b=some o) (CN:lE s.heap.objs.size h1 scope.names cl iz)
  (hl:ZY.length=N.length) (hZ:∀(i:Nat) (x:Str) (v:V),N[i]?=some x->ZY[i]?=some (some v)->scope.names.lookup x=some .free/\∃j:Nat,X.N[j]?=some x/\Z[j]?=some (some v)) :
  Inv (X.blk scope iz N s.heap.objs.size s H fp ak) [] ZY H {s with heap:=h1,toks:=t}:=by
 have lt:∀b o,s.heap.get? b=some o->b≠s.heap.objs.size:=λb o q=>fL (bW q);have RD:∀b,b≠X.env.locals->b∉X.fs->b∉frs X.stack:=λb a c z=>(iy.mp (I.jE b z)).elim a c;have mem_of:∀x k,scope.names.lookup x=some k->(x,k)∈scope.names:=λx k q=>yu q;have old:∀x c,cl.lookup x=some c->c<s.heap.objs.size:=λx c q=>by
  obtain⟨v,o,q1,q2⟩:=I.cell x c (c1 x c q);exact bW q1
 have RG:∀x,scope.names.lookup x=some .free->(x,NameKind.cell)∉scope.names:=λx q z=>by
  have:=B.RB _ z rfl;have this:scope.names.lookup x=some .cell:=this;rw[q] at this;cases this
 refine⟨⟨I.ok.mod,B.kind,I.ok.glob,I.ok.blt,bT _,λx y c a b=>?_,λx hx=>?_,λx c z q=>?_,I.ok.hd,I.ok.frames,.inl rfl,λb hb=>?_,I.bs,kj I.ok.yM I.sz,λb o q hb=>?_,λb hb=>RD b (f b hb).2.1 (f b hb).2.2.1,I.stack,I.jF⟩,
  rfl,I.bare,Un.kept kp,⟨_,hn,λi x v e1 e2 e3=>?_⟩,λx c q=>?_,I.hok.fresh (bT _),λx c q=>?_,λp hp=>?_,I.hok.kept kp,hl⟩
 ·by_cases hc:s.heap.objs.size<c
  ·exact CN.d2 x y c hc a b
  ·rcases CN.d1 x c a with ⟨a1,_⟩|⟨_,a1,_⟩
   ·rcases CN.d1 y c b with ⟨b1,_⟩|⟨_,b1,_⟩
    ·exact I.ok.inj x y c (c1 x c a1) (c1 y c b1)
    ·exact absurd b1 hc
   ·exact absurd a1 hc
 ·have hx:(relabel scope X.env).names.lookup x=some .cell\/(relabel scope X.env).names.lookup x=some .free:=hx;have fr:scope.names.lookup x=some .cell\/scope.names.lookup x=some .free:=by
   rcases hx with hx|hx
   ·rcases KN hx with z|⟨_,z⟩
    ·exact .inl z
    ·exact .inr z
   ·rcases KN hx with z|⟨z,_⟩
    ·exact .inr z
    ·cases z
  rcases fr with fr|fr
  ·exact CN.d3 x fr
  ·obtain⟨c,hc⟩:=c2 (x,.free) (mem_of x _ fr) rfl;exact⟨c,CN.d4 x c (RG x fr) hc⟩
 ·rcases CN.d1 x c q with ⟨_,q1⟩|⟨_,q1,_⟩
  ·have z:(scope.names.lookup x==some NameKind.cell)=true:=z;exact absurd (mem_of x _ (by simpa using z)) q1
  ·exact vN q1
 ·obtain⟨o,q⟩:=fo b hb;refine⟨lt b o q,λx c z=>?_⟩;rcases CN.d1 x c z with ⟨q1,_⟩|⟨_,q1,_⟩
  ·exact(f b hb).2.2.2.2.1 x c (c1 x c q1)
  ·exact λe=>absurd (bW q) (by rw[<-e];exact Nat.not_lt.mpr (vN q1))
 ·obtain⟨_,_,_,z,_⟩:=f b hb;rcases z with z|z
  ·exact I.ok.vX b o q z
  ·exact absurd (gq (bW q) (kj I.ok.yM z)) (nY _)
 ·obtain⟨fr,j,hj,hv⟩:=hZ i x v e1 e2;have hk:=B.free (x,.free) (mem_of x _ fr) rfl;obtain⟨m,hm,hlk⟩:=I.loc;obtain⟨u,r,l⟩:=hlk j x v hj hv (hk.elim (λz=>.inr (.inl z)) λz=>.inr (.inr z));obtain⟨c',iZ⟩:=c2 (x,.free) (mem_of x _ fr) rfl;have iZ:cl.lookup x=some c':=iZ;refine⟨u,r,.inr ⟨G3 fr,c',CN.d4 x c' (RG x fr) iZ,?_⟩⟩;rcases l with ⟨k1,_⟩|⟨_,c,k2,oc,k3,k4⟩
  ·have k1:X.env.scope.names.lookup x=some .local:=k1;rcases hk with hk|hk
   ·have hk:X.env.scope.names.lookup x=some .cell:=hk;rw[k1] at hk;cases hk
   ·have hk:X.env.scope.names.lookup x=some .free:=hk;rw[k1] at hk;cases hk
  ·have e:=c1 x c' iZ;rw[k2] at e;cases e;exact⟨oc,kp _ oc k3,k4⟩
 ·rcases CN.d1 x c q with ⟨q1,_⟩|⟨_,_,q1⟩
  ·obtain⟨v,o,q1,q2⟩:=I.cell x c (c1 x c q1);exact⟨v,o,kp c o q1,q2⟩
  ·exact⟨none,q1⟩
 ·rcases CN.d1 x c q with ⟨q1,_⟩|⟨_,q1,_⟩
  ·exact I.gO x c (c1 x c q1)
  ·exact I.hok.fresh (vN q1)
 ·have hp:p∈X.pn++ak:=by
   have z:p∈(X.pn++ak)++[]:=hp;simpa using z
  obtain⟨a1,a2,a3,a4,a5⟩:=I.pin p hp;exact⟨kp _ _ a1,a2,lt _ _ a1,RD _ a3 a4,a5⟩
theorem zcP(I:Inv X ak Z H s)(f:∀b∈fp,gG X ak H b)(cI:Inv (X.blk scope cl N s.heap.objs.size s H fp ak) [] Z' H' s'):Inv X ak Z H' s':=
 I.call' (ch:=fp) cI.os cI.base cI.hok cI.bare λb hb=>by
  obtain⟨_,a2,_,a4,a5,a6⟩:=f b hb;exact⟨a4.imp id λz=>zX z,a2,a5,a6⟩
theorem RJ{Z':St}{H':Hp}{s':Shared}{h2:Heap}{C:Addr}(cI:Inv X ak Z H' s')(hC:X.s₀.heap.objs.size<=C)(n1:H' C=none)(n2:C≠X.env.locals)(n3:∀x c,X.env.cells.lookup x=some c->c≠C)(n4:∀p∈X.pn++ak,p.1≠C)
  (sb:Heap.SameBut C s'.heap h2):Inv X ak Z H' {s' with heap:=h2}:=
 cI.turned (t':=s'.toks) (λb o z q=>(sb.2 b z).trans q) n1 n2 (.inr hC) n3 n4
end
noncomputable abbrev nj(ifs:List Expr)(env:Env):Sem Bool:=forIn ifs true λc r=>if r=true then do let ok <-isTrue c env (eval c env);pure (ForInStep.yield ok) else pure (ForInStep.yield r)
theorem zew{prog:Program}{w:World}{A:Around}{R:Result->Shared->Prop}{s:Shared}{elt target iter:Expr}{ifs:List Expr}{scope:Scope}{pos:Pos}{it acc:Value}{env:Env}(V:Nat->Shared->Prop)
  (turn:∀n s,V n s->wpAny (model prog w) A (pyNext it) (λr s₁=>match r with
   |none=>R (.ok .next) s₁
   |some v=>wpAny (model prog w) A (letOwnedTupleGo target it v) (λ_ s₂=>wpAny (model prog w) A (assign target env v) (λ_ s₃=>
     wpAny (model prog w) A (nj ifs env) (λok s₄=>
      if ok=true then wpAny (model prog w) A (eval elt env) (λx s₅=>wpAny (model prog w) A (call (.builtin "list.append") [acc,x]) (λ_ s₆=>∃m,m<n/\V m s₆) (λ_ _=>False) s₅) (λ_ _=>False) s₄
      else ∃m,m<n/\V m s₄) (λ_ _=>False) s₃) (λ_ _=>False) s₂) (λ_ _=>False) s₁) (λ_ _=>False) s)
  (n:Nat) (h:V n s):codeAny (model prog w) A (.compLoop (.ListComp elt [⟨target,iter,ifs,0⟩] scope pos) 0 it acc env) R s:=by
 refine codeAny_loop rfl V (λn s hV=>?_) n h;show wpAny _ A ((compTurn (.ListComp elt [⟨target,iter,ifs,0⟩] scope pos) 0 it acc env).onRaise (λx=>do noteFrame x env;theTreesLotGoes x)) _ _ s;refine wpAny_noted ?_;rw[compTurn_list];refine aF (wpAny_standAt (aF (mX (turn n s hV) (λr s₁ h₁=>?_) λ_ _ z=>z.elim)));cases r with
 |none=>exact bI h₁
 |some v=>
  refine aF (mX h₁ (λ_ s₂ h₂=>?_) λ_ _ z=>z.elim);refine aF (mX h₂ (λ_ s₃ h₃=>aF (mX h₃ (λok s₄ h₄=>?_) λ_ _ z=>z.elim)) λ_ _ z=>z.elim);cases ok with
  |true=>
   simp only[if_true] at h₄ ⊢;exact aF (aF (mX h₄ (λx s₅ h₅=>aF (mX h₅ (λ_ s₆ h₆=>bI (bI ⟨rfl,h₆⟩)) λ_ _ z=>z.elim)) λ_ _ z=>z.elim))
  |false=>
   simp only[Fz,vP] at h₄ ⊢;exact bI ⟨rfl,h₄⟩
def G4(X:Cx)(ifs:List Expr)(t:TT):Prop:=
 ∀(ak:List (Addr×Obj)) (s:Shared) (Z:St) (H:Hp) (Q:Bool->Hp->Prop),Inv X ak Z H s->t Z H Q->wpAny (model X.prog X.w) X.A (nj ifs X.env) (TP X ak Z Q) X.xe s
noncomputable def K1:TT:=λ_ H Q=>Q true H
theorem zhk:G4 X [] K1:=λ_ _ _ H _ I h=>wpAny_tests_nil ⟨H,I,h⟩
theorem zhs(h:PT X c t):G4 X [c] t:=λak s Z H Q I hq=>wpAny_tests_one (h ak s Z H Q I hq)
def BZ(ZY:St->St)(g:TG)(tt:TT)(te:TE)(cI:It)(Z:St)(H:Hp)(Q:VK):Prop:=∀D,H D=none->∃W:Nat->Nat->St->Hp->Prop,(∃m,W 0 m (ZY Z) (upd H D (.lst [])))/\∀i m Z' H',W i m Z' H'->
 (cI.stop i H'/\Q (.ref D) H')\/(cI.go i H'/\∃N:St->Hp->Prop,(∀Z2 H2,N Z2 H2->∃m',m'<m/\W (i+1) m' Z2 H2)/\∀x H2,cI.wj i H' x H2->g x Z' H2 λZ3 H3=>tt Z3 H3 λok H4=>
  if ok=true then te Z3 H4 λy H5=>∃ys,H5 D=some (.lst ys)/\ys.length<sizeLine/\N Z3 (upd H5 D (.lst (ys++[y]))) else N Z3 H4)
section
variable {X:Cx}{elt tg iter:Expr}{ifs:List Expr}{scope:Scope}{pos:Pos}{N:List Str}{ZY:St->St}{wi:TI}{g:TG}{tt:TT}{te:TE}
structure Parts(X:Cx)(elt tg:Expr)(ifs:List Expr)(scope:Scope)(N:List Str)(g:TG)(tt:TT)(te:TE):Prop where
 tgt:∀cl C s3 H3 fp ak,PG (X.blk scope cl N C s3 H3 fp ak) tg g
 tst:∀cl C s3 H3 fp ak,G4 (X.blk scope cl N C s3 H3 fp ak) ifs tt
 el:∀cl C s3 H3 fp ak,PE (X.blk scope cl N C s3 H3 fp ak) elt te
theorem RK(hc:X.aj=true)(B:cU X.env.scope scope)(P:Parts X elt tg ifs scope N g tt te)(hl:∀Z,(ZY Z).length=N.length)
  (hZ:∀(Z:St) (i:Nat) (x:Str) (v:V),N[i]?=some x->(ZY Z)[i]?=some (some v)->scope.names.lookup x=some .free/\∃j:Nat,X.N[j]?=some x/\Z[j]?=some (some v))
  {ak:List (Addr×Obj)} {s:Shared} {Z:St} {H:Hp} {Q:VK} {it:Addr} {fp:List Addr} {tn:Nat->Heap->Prop} {cI:It} (I:Inv X ak Z H s) (T:Turn X.prog X.w X.K tg cI fp it tn) (st:tn 0 s.heap) (f:∀b∈fp,gG X ak H b) (h:BZ ZY g tt te cI Z H Q)
  {cl:List (Str×Addr)} (c1:∀x c,cl.lookup x=some c->X.env.cells.lookup x=some c) (c2:∀x∈scope.names,x.2=.free->∃c,cl.lookup x.1=some c) {R:Value->Addr->Result->Shared->Prop} {E:Value->Shared->Prop}
  (k:∀D C s' H',Inv X ak Z H' s'->X.s₀.heap.objs.size<=C->H' C=none->C≠X.env.locals->(∀x c,X.env.cells.lookup x=some c->c≠C)->(∀p∈X.pn++ak,p.1≠C)->(∃m,s'.heap.Ns C m)->Q (.ref D) H'->R (.ref D) C (.ok .next) s') :
  wpAny (model X.prog X.w) X.A (newList []) (λacc s₃=>wpAny (model X.prog X.w) X.A (newFunctionEnv scope X.env.globals cl [] X.env.qual none .none (some X.env)) (λcenv s₄=>
   codeAny (model X.prog X.w) X.A (.compStart (.ListComp elt [⟨tg,iter,ifs,0⟩] scope pos) 0 (.ref it) acc {cenv with scope:=relabel scope X.env}) (R acc cenv.locals) s₄) E s₃) E s:=by
 refine uq ?_;have hD:H s.heap.objs.size=none:=I.hok.fresh (bT _);have I3:Inv X ak Z (upd H s.heap.objs.size (.lst [])) {s with heap:=s.heap.push {cls:=.type "list",dict:=none,data:=.seq ([]:List Value).toArray}}:=
  I.laid (t':=s.toks) (λb u q=>dz _ q) (bT _) ⟨uy _,[],0,.nil,iu _ rfl⟩
 have f3:∀b∈fp,gG X ak (upd H s.heap.objs.size (.lst [])) b:=λb hb=>by
  obtain⟨a1,a2⟩:=f b hb;obtain⟨o,q,_⟩:=T.obj 0 _ st b hb;exact⟨by rw[dR (fL (bW q))];exact a1,a2⟩
 have st3:tn 0 (s.heap.push {cls:=.type "list",dict:=none,data:=.seq ([]:List Value).toArray}):=T.keep _ _ _ st λb hb o q=>dz _ q;obtain⟨W,⟨m0,w0⟩,turn⟩:=h s.heap.objs.size hD;generalize hs3:({s with heap:=s.heap.push {cls:=.type "list",dict:=none,data:=.seq ([]:List Value).toArray}}:Shared)=s3 at *;have wL:tn 0 s3.heap:=by rw[<-hs3];exact st3
 generalize hH3:upd H s.heap.objs.size (.lst [])=H3 at *;refine zd2 (λx c q=>by obtain⟨v,o,q1,_⟩:=I3.cell x c (c1 x c q);exact bW q1) (λx y c a b=>I3.ok.inj x y c (c1 x c a) (c1 y c b)) λh1 iz hn kp CN=>?_;have K3:Inv (X.blk scope iz N s3.heap.objs.size s3 H3 fp ak) [] (ZY Z) H3 {s3 with heap:=h1}:=
  zh7 (t:=s3.toks) I3 B c1 c2 f3 (λb hb=>let ⟨o,q,_⟩:=T.obj 0 _ wL b hb;⟨o,q⟩) hn kp CN (hl Z) (hZ Z)
 have RL:tn 0 h1:=T.keep _ _ _ wL λb hb o q=>kp b o q;have fY:∀{H':Hp},(∀b∈fp,H' b=none)->∀b∈fp,gG (X.blk scope iz N s3.heap.objs.size s3 H3 fp ak) [] H' b:=λ{H'} z b hb=>by
  obtain⟨a1,a2,a3,a4,a5,a6⟩:=f3 b hb;obtain⟨o,q,_⟩:=T.obj 0 _ wL b hb;refine⟨z b hb,fL (bW q),λy=>(iy.mp (I3.jE b y)).elim a2 a3,.inl hb,λx c y=>?_,λp hp=>a6 p ?_⟩
  ·rcases CN.d1 x c y with ⟨q1,_⟩|⟨_,q1,_⟩
   ·exact a5 x c (c1 x c q1)
   ·exact λe=>absurd (bW q) (by rw[<-e];exact Nat.not_lt.mpr (vN q1))
  have y:p∈(X.pn++ak)++[]:=hp;simpa using y
 have loop:codeAny (model X.prog X.w) X.A (.compLoop (.ListComp elt [⟨tg,iter,ifs,0⟩] scope pos) 0 (.ref it) (.ref s.heap.objs.size) (compEnvC scope iz s3.heap.objs.size X.env)) (R (.ref s.heap.objs.size) s3.heap.objs.size) {s3 with heap:=h1}:=by
  refine zew (λn s'=>∃i Z' H',Inv (X.blk scope iz N s3.heap.objs.size s3 H3 fp ak) [] Z' H' s'/\tn i s'.heap/\(∀b∈fp,H' b=none)/\W i n Z' H') ?_ m0 ⟨0,ZY Z,H3,K3,RL,λb hb=>(f3 b hb).1,w0⟩;rintro n s5 ⟨i,Z5,H5,rW,yN,GC,w5⟩;rcases turn i n Z5 H5 w5 with ⟨stop,q⟩|⟨go,Nx,hN,step⟩
  ·refine bf (T.done (X.blk scope iz N s3.heap.objs.size s3 H3 fp ak) rfl rfl rfl hc i [] s5 Z5 H5 _ rW (fY GC) yN stop) λr s6 ⟨hr,wM⟩=>?_;subst hr;have JX:=zcP I3 f3 wM;refine k s.heap.objs.size s3.heap.objs.size s6 H5 JX I3.sz wM.free (vO I3.lt) (λx c y z=>?_) (λp hp z=>?_) ?_ q
   ·obtain⟨v,qc⟩:=I3.cell x c y;exact absurd qc.lt (by rw[z];exact nY _)
   ·exact absurd (bW (I3.pin p hp).1) (by rw[z];exact nY _)
   ·obtain⟨m,hm,_⟩:=wM.loc;exact⟨m,hm⟩
  ·refine bf (T.item (X.blk scope iz N s3.heap.objs.size s3 H3 fp ak) rfl rfl rfl hc i [] s5 Z5 H5 _ rW (fY GC) yN go) λr s6 hx=>qF hx λu hr h6=>?_;subst hr;refine bf h6 λ_ s7 ⟨x,H7,K4,r7,y7,K5,fr7⟩=>?_;have B_:=K4.pinned (fY fr7) (T.obj _ _ K5);refine bf (P.tgt iz s3.heap.objs.size s3 H3 fp ak _ s7 Z5 H7 x u _ B_ r7 (step x H7 y7)) λ_ s8 ⟨Z8,H8,K6,q8⟩=>?_;refine bf (P.tst iz s3.heap.objs.size s3 H3 fp ak _ s8 Z8 H8 _ K6 q8) λok s9 hx=>qF hx λH9 Ca q9=>?_;have again:∀{H':Hp} {s':Shared},Inv (X.blk scope iz N s3.heap.objs.size s3 H3 fp ak) ([]++iH fp s7.heap) Z8 H' s'->Nx Z8 H'->∃m,m<n/\∃i Z' H',Inv (X.blk scope iz N s3.heap.objs.size s3 H3 fp ak) [] Z' H' s'/\tn i s'.heap/\(∀b∈fp,H' b=none)/\W i m Z' H':=λ{H' s'} mF n'=>by
    obtain⟨m',hm,w'⟩:=hN Z8 H' n';refine⟨m',hm,i+1,Z8,H',mF.fW,T.keep _ _ _ K5 λb hb o e=>(mF.pin (b,o) (qx _ (qx _ (Gz hb e)))).1,λb hb=>?_,w'⟩;obtain⟨o,e,d⟩:=T.obj _ _ K5 b hb;exact(mF.pin (b,o) (qx _ (qx _ (Gz hb e)))).2.1
   cases ok with
   |false=>
    rw[if_neg Dc] at q9 ⊢;exact again Ca q9
   |true=>
    rw[if_pos rfl] at q9 ⊢;refine bf (P.el iz s3.heap.objs.size s3 H3 fp ak _ s9 Z8 H9 _ Ca q9) λv s10 ⟨y,H10,Cd,r10,ys,K7,hz,q10⟩=>?_;refine bf (Ro (X:=(X.blk scope iz N s3.heap.objs.size s3 H3 fp ak)) _ s10 Z8 H10 (.ref s.heap.objs.size) [y] (.ref s.heap.objs.size) [v] (λ_ H'=>Nx Z8 H') Cd rfl (.cons r10 .nil) ⟨s.heap.objs.size,ys,y,rfl,rfl,K7,hz,q10⟩) λ_ s11 hx=>eY hx λ_ H11 Ce _ q11=>again Ce q11
 exact codeAny_compStart_list loop (T.self _ 0 _ _ _ RL loop)
end
noncomputable def pG(wi:TI)(ZY:St->St)(g:TG)(tt:TT)(te:TE):TE:=λZ H Q=>wi Z H λcI H1=>BZ ZY g tt te cI Z H1 Q
section
variable {X:Cx}{elt tg iter:Expr}{ifs:List Expr}{scope:Scope}{pos spos py:Pos}{N:List Str}{ZY:St->St}{wi:TI}{g:TG}{tt:TT}{te:TE}{i:Nat}{y:Str}
theorem RM(I:Inv X ak Z H s)(B:cU X.env.scope scope):∃cl,closureFor scope X.env=pure cl/\(∀x c,cl.lookup x=some c->X.env.cells.lookup x=some c)/\∀x∈scope.names,x.2=.free->∃c,cl.lookup x.1=some c:=
 zdO λx hx hf=>I.ok.has x.1 (B.free x hx hf)
theorem zhT(hc:X.aj=true)(B:cU X.env.scope scope)(hi:PI X tg iter wi)(P:Parts X elt tg ifs scope N g tt te)(hl:∀Z,(ZY Z).length=N.length)
  (hZ:∀(Z:St) (i:Nat) (x:Str) (v:V),N[i]?=some x->(ZY Z)[i]?=some (some v)->scope.names.lookup x=some .free/\∃j:Nat,X.N[j]?=some x/\Z[j]?=some (some v))
  (hs:∀x,foldedSetIterable iter X.env x=pure x:=by intro _;rfl):PE X (.ListComp elt [⟨tg,iter,ifs,0⟩] scope pos) (pG wi ZY g tt te):=by
 intro ak s Z H Q I h;obtain⟨cl,yP,c1,c2⟩:=RM I B;rw[eval_ListComp];refine wpAny_comprehension_free (use:=none) rfl hs yP B.kind B.loc (bf (hi ak s Z H _ I h) λxv s1 h1=>bf h1 λitv s2 h2=>?_);obtain⟨it,fp,tn,cI,H2,e,I2,T,st2,f2,hq⟩:=h2;subst e;exact RK hc B P hl hZ I2 T st2 f2 hq c1 c2 (R:=λacc C=>compPost (model X.prog X.w) X.A X.xe none (EP X ak Z Q) acc C) λD C s' H' mF a b c d e ⟨m,hm⟩ q=>⟨m,hm,λh' sb=>⟨.ref D,H',RJ (Z':=Z) mF a b c d e sb,rfl,q⟩⟩
theorem zdW(hc:X.aj=true)(hN:X.N.Nodup)(wN:X.N[i]?=some y)(hx:Loc X.env.scope y)(hf:X.fn y=true\/X.env.scope.names.lookup y=some .local)(B:cU X.env.scope scope)(hi:PI X tg iter wi)(P:Parts X elt tg ifs scope N g tt te)(hl:∀Z,(ZY Z).length=N.length)
  (hZ:∀(Z:St) (i:Nat) (x:Str) (v:V),N[i]?=some x->(ZY Z)[i]?=some (some v)->scope.names.lookup x=some .free/\∃j:Nat,X.N[j]?=some x/\Z[j]?=some (some v))
  (Cg:swapsWith (.ListComp elt [⟨tg,iter,ifs,0⟩] scope pos) (some (.Name y py)) spos.line X.env=pure true) (hs:∀x,foldedSetIterable iter X.env x=pure x:=by intro _;rfl) :
  PS X (.Assign [.Name y py] (.ListComp elt [⟨tg,iter,ifs,0⟩] scope pos) spos) (v9 (pG wi ZY g tt te) (cY i)):=by
 intro ak s Z H D I h;obtain⟨cl,yP,c1,c2⟩:=RM I B;rw[exec_Assign_Name_used _ _ _ _ Cg];refine aF (wpAny_standAt (aF ?_));show wpAny _ X.A (do let _ <-comprehension (.ListComp elt [⟨tg,iter,ifs,0⟩] scope pos) scope X.env _ (newList []) false (eval iter X.env) (some (assign (.Name y py) X.env))) _ _ s;refine aF (wpAny_comprehension_free (use:=some (assign (.Name y py) X.env)) rfl hs yP B.kind B.loc (bf (hi ak s Z H _ I h) λxv s1 h1=>bf h1 λitv s2 h2=>?_));obtain⟨it,fp,tn,cI,H2,e,I2,T,st2,f2,hq⟩:=h2;subst e;refine RK hc B P hl hZ I2 T st2 f2 hq c1 c2 (R:=λacc C=>compPost (model X.prog X.w) X.A X.xe (some (assign (.Name y py) X.env)) _ acc C) λD' C s' H' mF a b c d e ⟨m,hm⟩ q=>?_;show wpAny _ _ (assign (.Name y py) X.env (.ref D')) _ _ s';refine wpAny_assign_Name (QG (v:=.ref D') mF hN wN hx rfl (λs5 rW ⟨ad,sb,had⟩=>?_) hf);have nC:C≠ad:=by
  rcases had with z|z
  ·rw[z];exact c
  ·exact(d y ad z).symm
 obtain⟨ol,es,ep,e1,r1⟩:=hm;refine⟨m,⟨ol,es,ep,(sb.2 C nC).trans e1,r1⟩,λh' sb'=>bI (bI ⟨_,H',RJ (Z':=Z) rW a b c d e sb',q⟩)⟩
end
end L2
namespace L2
open PySem PySem.Spec PyProof.Rows PySem.W
noncomputable def aZ{α:Type}(lt:Nat->Nat->Option Bool):KasT α->Option α
 |.ret a=>some a
 |.ask i j k=>match lt i j with
  |some b=>aZ lt (k b)
  |none=>none
theorem RN{α:Type}{lt:Nat->Nat->Option Bool}{cmp:Nat->Nat->(Bool->Shared->Prop)->Shared->Prop}{Q:α->Shared->Prop}{s:Shared}(hc:∀i j b C,lt i j=some b->C b s->cmp i j C s){a:α}(q:Q a s):∀{t:KasT α},aZ lt t=some a->t.kasWp cmp Q s
 |.ret a',h=>by
  unfold aZ at h;cases h;exact q
 |.ask i j k,h=>by
  unfold aZ at h;cases e:lt i j with
  |none=>rw[e] at h;cases h
  |some b=>
   rw[e] at h;exact hc i j b _ e (RN hc q h)
noncomputable def g8(vs:List Value)(p:Array Nat):Array Value:=if vs.length<2 then vs.toArray else List.toArray (p.toList.map λi=>vs.getD i Value.none)
section
variable {prog:Program}{w:World}{A:Around}{E:Value->Shared->Prop}{s:Shared}{κ:SortKind}{lt:Nat->Nat->Option Bool}{p:Array Nat}
theorem zb3{a:Addr}{vs:List Value}{n:Nat}{P:PySem.Fin->Shared->Prop}(ho:s.heap.get? a=some (seqObj "list" vs.toArray n))(h64:vs.length<64)
  (hk:2<=vs.length->∀(s':Shared) (Q:SortKind->Shared->Prop),(∀b o,b≠a->s.heap.get? b=some o->s'.heap.get? b=some o)->Q κ s'->wpAny (model prog w) A (keyKind' vs.toArray) Q E s')
  (eZ:2<=vs.length->∀(s':Shared) i j b C,(∀b o,b≠a->s.heap.get? b=some o->s'.heap.get? b=some o)->lt i j=some b->C b s'->kas_ask prog w A κ vs i j C s') (hr:2<=vs.length->aZ lt (kas_sort vs.length)=some p) (wO:2<=vs.length->p.size=vs.length)
  (h:P (.done (.ret .none)) {s with heap:=sortedHeap s.heap a vs (g8 vs p)}) :
  wpAny (model prog w) A (Builtin.«list.sort» ⟨[.ref a],[]⟩) P E s:=by
 rw[list_sort_plain];have ha:a<s.heap.objs.size:=bW ho;refine aF (listItems_at ho rfl ?_);refine aF (listUpdate_at ho rfl ?_ (by rw[fG,uz];lia) (uy _));obtain⟨e1,G5⟩ : ∃e1,(s.heap.update a (Obj.mapSeq λ_=>#[])).get? a=some (seqObj "list" #[] e1):=⟨_,get?_update_seq ho (λ_=>#[])⟩;refine aF (seqEpoch_at G5 rfl ?_);refine aF (wpAny_newTuple ?_ (by show vs.length<=_;rw[uz];lia));refine aF (wpAny_newList ?_ (uy _));refine qC ?_;have keep:∀b o,b≠a->s.heap.get? b=some o->(((s.heap.update a (Obj.mapSeq λ_=>(#[]:Array Value))).push (seqObj "tuple" vs.toArray 0)).push (seqObj "list" #[] 0)).get? b=some o:=λb o nb e=>
  dz _ (dz _ ((Heap.get?_update_ne _ _ _ _ nb).trans e))
 have G6:(((s.heap.update a (Obj.mapSeq λ_=>(#[]:Array Value))).push (seqObj "tuple" vs.toArray 0)).push (seqObj "list" #[] 0)).get? a=some (seqObj "list" #[] e1):=by
  rw[FP _ _ _ (by rw[size_push',Heap.size_update];exact fL (yC ha)),FP _ _ _ (by rw[Heap.size_update];exact fL ha)];exact G5
 show wpAny (model prog w) A _ P E {s with heap:=((s.heap.update a (Obj.mapSeq λ_=>#[])).push (seqObj "tuple" vs.toArray 0)).push (seqObj "list" #[] 0)};dsimp only;have lR:vs.toArray.size=vs.length:=by simp
 by_cases h2:vs.toArray.size<2
 ·rw[if_pos h2,if_pos h2];refine aF (bI ?_);rw[StateT.run_pure];refine aF (bI ?_);dsimp only;refine aF (seqEpoch_at G6 rfl ?_);refine aF (listUpdate_at G6 rfl ?_ (uy _) (by rw[Array.size_map];show (pairsOf vs).size<=_;rw[pairsOf_size,uz];lia));simp only[bne_self_eq_false,Fz,vP];have e:((vs.toArray.zip vs.toArray).map (·.2))=g8 vs p:=by
   unfold g8;rw[if_pos (by rw[lR] at h2;exact h2)];apply Array.toList_inj.mp;simp[List.map_snd_zip]
  refine bI ?_;have h':=h;rw[<-e] at h';exact h'
 ·rw[if_neg h2,if_neg h2];have lF:2<=vs.length:=by lia
  refine aF (hk lF _ _ keep ?_);refine aF (mX (kat_run (κ:=κ) (ks:=vs) (vs:=vs) (G:=λp' s'=>p'=p/\s'={s with heap:=((s.heap.update a (Obj.mapSeq λ_=>#[])).push (seqObj "tuple" vs.toArray 0)).push (seqObj "list" #[] 0)})
   (Q:=λst' s'=>arrOf st'=p.map (kas_item (vs.toArray.zip vs.toArray))/\failedOf st'=none/\s'={s with heap:=((s.heap.update a (Obj.mapSeq λ_=>#[])).push (seqObj "tuple" vs.toArray 0)).push (seqObj "list" #[] 0)})
   rfl lF h64 (λp' st' s' a1 a2 a3 a4=>⟨by rw[a2,a4.1],a3,a4.2⟩) (RN (λi j b C hl hC=>eZ lF _ i j b C keep hl hC) ⟨rfl,rfl⟩ (hr lF))) ?_ λ_ _ e=>e)
  rintro⟨⟨⟩,st'⟩ s' ⟨G7,hf,rfl⟩;dsimp only;have hout:=kat_snds (ks:=vs) (vs:=vs) rfl G7;have e:List.toArray (p.toList.map λi=>vs.getD i Value.none)=g8 vs p:=by
   unfold g8;rw[if_neg gV]
  rw[hout,e];have hso:(g8 vs p).size=vs.length:=by rw[<-e,fG,cH,zY,wO lF]
  refine aF (seqEpoch_at G6 rfl ?_);refine aF (listUpdate_at G6 rfl ?_ (uy _) (by rw[hso,uz];lia));rw[hf];simp only[bne_self_eq_false,Fz,vP];exact bI h
theorem K8(hl:s.heap.IsList l vs.toArray)(h64:vs.length<64)
  (hk:2<=vs.length->∀(s':Shared) (Q:SortKind->Shared->Prop) E,(∀b o,s.heap.get? b=some o->s'.heap.get? b=some o)->Q κ s'->wpAny (model prog w) A.in1.in1 (keyKind' vs.toArray) Q E s')
  (eZ:2<=vs.length->∀(s':Shared) i j b C,(∀b o,s.heap.get? b=some o->s'.heap.get? b=some o)->lt i j=some b->C b s'->kas_ask prog w A.in1.in1 κ vs i j C s') (hr:2<=vs.length->aZ lt (kas_sort vs.length)=some p) (wO:2<=vs.length->p.size=vs.length)
  (h:Q (.ref (s.heap.objs.size+1)) {s with heap:=sortedAll s.heap vs (g8 vs p)}) :
  wpAny (model prog w) A (call (.builtin "sorted") [.ref l]) Q E s:=by
 refine Calls.call_function_entry kind_sorted plain_sorted entry_sorted (args_sorted1 _) ?_;unfold Builtin.«sorted»;refine aF (m:=checkCount "sorted" 1 1 _) (bI ?_);refine aF (collect_list hl ?_ (by rw[uz];lia));refine aF (wpAny_newList ?_ (by rw[uz];lia));have lR:((s.heap.push (seqObj "list" #[] 0)).update s.heap.objs.size (Obj.mapSeq (·++vs.toArray))).objs.size=s.heap.objs.size+1:=by
  rw[Heap.size_update,size_push']
 have Gu:(((s.heap.push (seqObj "list" #[] 0)).update s.heap.objs.size (Obj.mapSeq (·++vs.toArray))).push (seqObj "list" vs.toArray 0)).get? (s.heap.objs.size+1)=some (seqObj "list" vs.toArray 0):=by
  rw[<-lR];exact iu _ rfl
 have keep:∀b o,s.heap.get? b=some o->(((s.heap.push (seqObj "list" #[] 0)).update s.heap.objs.size (Obj.mapSeq (·++vs.toArray))).push (seqObj "list" vs.toArray 0)).get? b=some o:=λb o q=>by
  have eZ:b<s.heap.objs.size:=bW q;rw[FP _ _ _ (by rw[lR];exact fL (yC eZ)),Heap.get?_update_ne _ _ _ _ (fL eZ),FP _ _ _ (fL eZ)];exact q
 show wpAny _ _ _ _ _ {s with heap:=((s.heap.push (seqObj "list" #[] 0)).update s.heap.objs.size (Obj.mapSeq (·++vs.toArray))).push (seqObj "list" vs.toArray 0)};rw[lR];have nn:∀b o,s.heap.get? b=some o->b≠s.heap.objs.size+1:=λb o e=>fL (yC (bW e));refine aF (qC (ur slot_list_sort ⟨_,Gu,rfl⟩ entry_list_sort (zb3 (κ:=κ) (lt:=lt) (p:=p) Gu h64 (λh2 s' Q' k q=>hk h2 s' Q' _ (λb o e=>k b o (nn b o e) (keep b o e)) q) (λh2 s' i j b C k e q=>eZ h2 s' i j b C (λb o e=>k b o (nn b o e) (keep b o e)) e q) hr wO ⟨_,rfl,?_⟩) (args_list_sort _)));exact bI ⟨_,rfl,h⟩
end
noncomputable def jd:List V->List V->Option Bool
 |[],ys=>some (decide (0<ys.length))
 |_::_,[]=>some false
 |.int x::xs,.int y::ys=>if x=y then jd xs ys else some (decide (x<y))
 |_::_,_::_=>none
theorem ziJ{prog:Program}{w:World}{A:Around}{s:Shared}{fin:Bool}{C:Bool->Shared->Prop}{b:Bool}:∀{us ws:List V} {its jts:List Value} {i:Nat},Vals us its->Vals ws jts->jd us ws=some b->fin=decide (us.length<ws.length)->C b s->KatLex prog w A true fin C (its.zip jts) i s:=by
 intro us ws its jts i r1
 induction r1 generalizing ws jts i with
 |nil=>
  intro _ h hf hc;rw[List.zip_nil_left];unfold jd at h;cases h;rw[hf];exact kat_nil hc
 |@cons x u us its rx ri ih=>
  intro r2 h hf hc;cases r2 with
  |nil=>
   rw[List.zip_nil_right];unfold jd at h;cases h;rw[hf];exact kat_nil (by simpa using hc)
  |@cons y v ws jts ry rj=>
   rw[Jj];cases x with
   |int a=>
    cases y with
    |int c=>
     obtain⟨t,rfl⟩:=rx;obtain⟨t',rfl⟩:=ry;unfold jd at h;refine kat_cons (wpAny_eqBool_int ?_);by_cases e:a=c
     ·rw[if_pos e] at h;subst e;rw[yE];exact kat_yes (ih rj h (by rw[hf];simp) hc)
     ·rw[if_neg e] at h;cases h;rw[show (a==c)=false by simpa using e];refine kat_no ?_;by_cases hi:i=0
      ·subst hi;exact oneLt_int hc
      ·rw[show (true&&i==0)=false by simpa using hi];exact kat_one _ _ (wpAny_lt_int hc)
    |_=>cases h
   |_=>cases y<;>cases h
def pH(K:W.Frag)(H:Hp)(ys:List V)(lt:Nat->Nat->Option Bool):Prop:=
 ((∀v∈ys,∃i,v=V.int i)/\∀i j b,lt i j=some b->∃x y,ys[i]?=some (.int x)/\ys[j]?=some (.int y)/\b=decide (x<y)) \/
 ((∀v∈ys,∃a i r,v=.ref a/\gF K H a (.int i::r))/\∀i j b,lt i j=some b->∃a c us ws,ys[i]?=some (.ref a)/\ys[j]?=some (.ref c)/\gF K H a us/\gF K H c ws/\jd us ws=some b)
noncomputable def je(ys:List V)(p:Array Nat):List V:=if ys.length<2 then ys else p.toList.map λi=>ys.getD i .non
theorem RP(r:Vals ys its):∀l:List Nat,Vals (l.map λi=>ys.getD i .non) (l.map λi=>its.getD i Value.none)
 |[]=>.nil
 |i::l=>by
  refine .cons ?_ (RP r l);cases e:ys[i]? with
  |some y=>
   obtain⟨u,e1,e2⟩:=r.get e;show RelV (ys.getD i .non) (its.getD i Value.none);rw[ji,ji,e,e1];exact e2
  |none=>
   have e1:its[i]?=none:=by rw[lO] at e ⊢;rw[<-r.length];exact e
   show RelV (ys.getD i .non) (its.getD i Value.none);rw[ji,ji,e,e1];rfl
theorem zfE{ys:List V}{its:List Value}(r:Vals ys its)(p:Array Nat):Vals (je ys p) (g8 its p).toList:=by
 unfold je g8;rw[r.length];by_cases h:its.length<2
 ·rw[if_pos h,if_pos h];exact r
 ·rw[if_neg h,if_neg h];exact RP r p.toList
theorem zfv{ys:List V}{its:List Value}(r:Vals ys its):∀u∈its,∃v∈ys,RelV v u:=by
 induction r with
 |nil=>intro u hu;cases hu
 |cons h t ih=>
  intro u hu;rcases iy.mp hu with rfl|hu
  ·exact⟨_,mV,h⟩
  ·obtain⟨v,a,b⟩:=ih u hu;exact⟨v,iD _ a,b⟩
section
variable {X:Cx}
theorem zex{prog:Program}{w:World}{A:Around}{E:Value->Shared->Prop}{s:Shared}{its:List Value}{Q:SortKind->Shared->Prop}(h2:2<=its.length)(hi:∀u∈its,∃i t,u=Value.int i t)(q:Q oneType' s):wpAny (model prog w) A (keyKind' its.toArray) Q E s:=
 kas_kind (T:=.type "int") h2 (λv hv=>by obtain⟨i,t,rfl⟩:=hi v hv;exact .of_pure rfl) Dc Dc q
theorem zg2{K:W.Frag}{ak:List (Addr×Obj)}{s:Shared}{Z:St}{H:Hp}(I:Inv X ak Z H s){h':Heap}(k:∀b o,s.heap.get? b=some o->h'.get? b=some o):∀{ys:List V} {its:List Value},Vals ys its->(∀v∈ys,∃a i r,v=.ref a/\gF X.K H a (.int i::r))->∃fs:List Value,fs.length=its.length/\(∀f∈fs,∃i t,f=Value.int i t)/\KatTups h' its fs:=by
 intro ys its r0
 induction r0 with
 |nil=>exact λ_=>⟨[],rfl,(λf hf=>by cases hf),trivial⟩
 |@cons v u ys its r rs ih=>
  intro h;obtain⟨a,i,r',rfl,hq⟩:=h _ mV;obtain⟨fs,l,hf,kt⟩:=ih λv hv=>h v (iD _ hv);obtain⟨its',rv,⟨o,ho,hc,n,hd⟩,_⟩:=I.tuple hq;cases (show u=Value.ref a from r);cases rv with
  |cons ri rr=>
   obtain⟨t,rfl⟩:=ri;refine⟨Value.int i t::fs,by simp[l],λf hf'=>?_,KatTups.cons (k _ _ ho) hc hd J0 kt⟩;rcases iy.mp hf' with rfl|z
   ·exact⟨i,t,rfl⟩
   ·exact hf f z
theorem zeO{prog:Program}{w:World}{A:Around}{E:Value->Shared->Prop}{s:Shared}{its fs:List Value}{Q:SortKind->Shared->Prop}(h2:2<=its.length)(hl:fs.length=its.length)(hi:∀u∈fs,∃i t,u=Value.int i t)(kt:KatTups s.heap its fs)(q:Q (tuples' true) s):wpAny (model prog w) A (keyKind' its.toArray) Q E s:=
 kat_kind (T:=.type "int") kt gV (λv hv=>by obtain⟨i,t,rfl⟩:=hi v hv;exact .of_pure rfl) Dc q
theorem G8{its:List Value}{i:Nat}{u:Value}(h:its[i]?=some u):its.getD i Value.none=u:=by rw[ji,h];rfl
theorem zcL:cT X (.builtin "sorted") (λxs H Q=>∃l ys lt p,xs=[.ref l]/\cW X.K H l ys/\ys.length<64/\(2<=ys.length->pH X.K H ys lt/\aZ lt (kas_sort ys.length)=some p/\p.size=ys.length)/\∀r,H r=none->Q (.ref r) (upd H r (.lst (je ys p)))):=by
 intro ak s Z H xs us Q I r h;obtain⟨l,ys,lt,p,rfl,hq,h64,hs,q⟩:=h;obtain⟨u,rfl,rx⟩:=vals1 r;cases rx;obtain⟨its,rv,pl,hz⟩:=I.list hq;have hlen:=rv.length;have fin:EP X ak Z Q (.ref (s.heap.objs.size+1)) {s with heap:=sortedAll s.heap its (g8 its p)}:=by
  obtain⟨e,he⟩:=sortedAll_at s.heap its (g8 its p);have hn:H (s.heap.objs.size+1)=none:=I.hok.fresh (Nat.le_succ _);refine⟨.ref (s.heap.objs.size+1),_,I.laid (t':=s.toks) (λb u q=>sortedAll_old q) (Nat.le_succ _) (show bF X.prog X.w _ _ _ (.lst (je ys p)) from ⟨?_,(g8 its p).toList,e,zfE rv p,by rw[Array.toArray_toList];exact he⟩),rfl,q _ hn⟩;unfold je;by_cases h2:ys.length<2
  ·rw[if_pos h2];exact hz
  ·rw[if_neg h2,cH,zY,(hs gV).2.2];exact hz
 by_cases h2:2<=ys.length
 ·obtain⟨hS,hr,hp⟩:=hs h2;rcases hS with ⟨hI,eZ⟩|⟨hT,eZ⟩
  ·refine K8 (κ:=oneType') (lt:=lt) (p:=p) pl.isList gV (λlF s' Q' E' k q'=>zex lF (λu hu=>?_) q') (λ_ s' i j b C k e hC=>?_) (λ_=>by rw[<-hlen];exact hr) (λ_=>by lia) fin
   ·obtain⟨v,hv,rr⟩:=zfv rv u hu;obtain⟨i,rfl⟩:=hI v hv;obtain⟨t,rfl⟩:=rr;exact⟨i,t,rfl⟩
   ·obtain⟨x,y,e1,e2,rfl⟩:=eZ i j b e;obtain⟨u1,f1,g1⟩:=rv.get e1;obtain⟨u2,f2,g2⟩:=rv.get e2;obtain⟨t1,rfl⟩:=g1;obtain⟨t2,rfl⟩:=g2;show wpAny _ _ (keyLt' oneType' (its.getD i Value.none) (its.getD j Value.none)) C _ s';rw[G8 f1,G8 f2];exact kat_lt_int hC
  ·refine K8 (κ:=tuples' true) (lt:=lt) (p:=p) pl.isList gV (λlF s' Q' E' k q'=>?_) (λ_ s' i j b C k e hC=>?_) (λ_=>by rw[<-hlen];exact hr) (λ_=>by lia) fin
   ·obtain⟨fs,l1,hf,kt⟩:=zg2 (K:=X.K) I k rv hT;exact zeO lF l1 hf kt q'
   ·obtain⟨a,c,us,ws,e1,e2,q1,q2,e3⟩:=eZ i j b e;obtain⟨u1,f1,g1⟩:=rv.get e1;obtain⟨u2,f2,g2⟩:=rv.get e2;cases (show u1=Value.ref a from g1);cases (show u2=Value.ref c from g2);obtain⟨i1,r1,⟨o1,G5,hc1,n1,hd1⟩,_⟩:=I.tuple q1;obtain⟨i2,r2,⟨o2,mC,oJ,n2,hd2⟩,_⟩:=I.tuple q2;show wpAny _ _ (keyLt' (tuples' true) (its.getD i Value.none) (its.getD j Value.none)) C _ s';rw[G8 f1,G8 f2];refine kat_lt (k _ _ G5) hd1 (k _ _ mC) hd2 (ziJ r1 r2 e3 ?_ hC);rw[r1.length,r2.length];simp
 ·exact K8 (κ:=oneType') (lt:=lt) (p:=p) pl.isList gV (λlF=>absurd lF gV) (λlF=>absurd lF gV) (λlF=>absurd lF gV) (λlF=>absurd lF gV) fin
end
end L2
namespace L2
open PySem PySem.Spec PyProof.Rows PySem.W PySem.Calls
structure XF(K:Frag)(C:Addr)(f:Str):Prop where
 ga:findIn K (.ref C) "__getattribute__"=some (some (.builtin "BaseException.__getattribute__"))
 gn:findIn K (.ref C) "__getattr__"=some none
 mb:mroIn K C (.type "BaseException")=some true
 no:findIn K (.ref C) f=some none
 hd:hasDictIn K C=true
end L2
namespace L2
open PySem PySem.Spec PyProof.Rows
section
variable {X:Cx}{ak:List (Addr×Obj)}{Z:St}{H:Hp}{s:Shared}{h':Heap}
theorem Inv.jm{t':Nat}{ch:List Addr}{a:Addr}{o:HO}(I:Inv X ak Z H s)(k:∀b u,b∉ch->s.heap.get? b=some u->h'.get? b=some u)(hf:∀b∈ch,gG X ak H b)(ha:s.heap.objs.size<=a)(new:bF X.prog X.w (upd H a o) h' a o) :
  Inv X ak Z (upd H a o) {s with heap:=h',toks:=t'}:=by
 have uH:∀b u,H b=some u->b∉ch:=λb u e z=>by rw[(hf b z).1] at e;cases e
 have hn:H a=none:=I.hok.fresh ha;have na:∀b u,H b=some u->b≠a:=λb u e z=>by rw[z,hn] at e;cases e
 have la:∀b u,s.heap.get? b=some u->b≠a:=λb u e=>fL (gq (bW e) ha);refine I.step (g':=s.gens) (d':=s.drawn) (ch:=ch) (λb hb=>?_) (λb o _ _ hc e _=>k b o hc e) (λb o _ _ hc e _=>⟨o.slots,k b o hc e⟩) (λb o' _ e n=>by rw[dR (la b o' e)];exact n)
  (λb o hc e=>⟨o,k b o hc e⟩) (λb xs e=>by rw[dR (na b _ e)];exact e) (λb o u e=>by rw[dR (na b _ e)];exact e) (λb ps e=>⟨#[],by rw[dR (na b _ e),e];simp⟩) (λm hm=>?_) (λb u e=>?_) I.bare
 ·obtain⟨f0,f1,f2,f3,f4,f5⟩:=hf b hb;exact⟨f3.imp id λz=>zX z,f1,f4,f5⟩
 ·obtain⟨o,es,ep,ho,r⟩:=hm;exact⟨o,es,ep,k _ o (λz=>(hf _ z).2.1 rfl) ho,r⟩
 ·by_cases z:b=a
  ·subst z;rw[lq] at e;cases e;exact new
  ·rw[dR z] at e;refine(I.hok b u e).stay (λc v hc q=>k c v ?_ q) (λc q=>by rw[dR (na c _ q)];exact q) λc _ q=>by rw[dR (na c _ q)];exact q
   rcases hc with y|y
   ·rw[y];exact uH b u e
   ·exact uH c _ y
theorem Inv.nq{t':Nat}{ch:List Addr}(I:Inv X ak Z H s)(k:∀b u,b∉ch->s.heap.get? b=some u->h'.get? b=some u)(hf:∀b∈ch,gG X ak H b):Inv X ak Z H {s with heap:=h',toks:=t'}:=by
 have uH:∀b u,H b=some u->b∉ch:=λb u e z=>by rw[(hf b z).1] at e;cases e
 refine I.step (g':=s.gens) (d':=s.drawn) (ch:=ch) (λb hb=>?_) (λb o _ _ hc e _=>k b o hc e) (λb o _ _ hc e _=>⟨o.slots,k b o hc e⟩) (λ_ _ _ _ n=>n)
  (λb o hc e=>⟨o,k b o hc e⟩) (λ_ _ e=>e) (λ_ _ _ e=>e) (λb ps e=>⟨#[],by rw[e];simp⟩) (λm hm=>?_) (λb u e=>?_) I.bare
 ·obtain⟨f0,f1,f2,f3,f4,f5⟩:=hf b hb;exact⟨f3.imp id λz=>zX z,f1,f4,f5⟩
 ·obtain⟨o,es,ep,ho,r⟩:=hm;exact⟨o,es,ep,k _ o (λz=>(hf _ z).2.1 rfl) ho,r⟩
 ·refine(I.hok b u e).stay (λc v hc q=>k c v ?_ q) (λ_ q=>q) λ_ _ q=>q;rcases hc with y|y
  ·rw[y];exact uH b u e
  ·exact uH c _ y
end
structure jo(prog:Program)(w:World)(it src:Addr)(st:Nat->Heap->Prop)(its:Array Value):Prop where
 item:∀(A:Around) (E:Value->Shared->Prop) (s:Shared) (i:Nat) (x:Value) (Q:Value->Shared->Prop),st i s.heap->its[i]?=some x->(∀h',st (i+1) h'->Heap.SameBut it s.heap h'->Q x {s with heap:=h'})->wpAny (model prog w) A (Builtin.SmallTypes.nextOf (.ref it)) Q E s
 fin:∀(A:Around) (E:Value->Shared->Prop) (s:Shared) (i:Nat) (Q:Value->Shared->Prop),A.handled=none->st i s.heap->its[i]?=none->(∀h' e,Heap.ExtBut it s.heap h'->(∃o,h'.get? e=some o/\o.cls=.type "StopIteration")->E (.ref e) {s with heap:=h'})->wpAny (model prog w) A (Builtin.SmallTypes.nextOf (.ref it)) Q E s
 keep:∀i h h',st i h->(∀b o,b=it\/b=src->h.get? b=some o->h'.get? b=some o)->st i h'
theorem jo.list(hne:l≠it):jo prog w it l (λi h=>h.IsListIter it l i/\h.IsList l its) its where
 item:=λA E s i x Q ⟨h1,h2⟩ hx q=>wpAny_nextOf_list_item h1 h2 hx λh' a sb=>q h' ⟨a,h2.at λo e=>(sb.2 l hne).trans e⟩ sb
 fin:=λA E s i Q hh ⟨h1,h2⟩ hx q=>wpAny_nextOf_list_end hh h1 h2 hx q
 keep:=λi h h' ⟨h1,h2⟩ k=>⟨h1.at λo e=>k it o (.inl rfl) e,h2.at λo e=>k l o (.inr rfl) e⟩
theorem RQ(l:Addr):¬((Value.ref l==Value.none)=true):=λz=>by cases (show false=true from z)
theorem IsTupleIter.at'{h h':Heap}{it l:Addr}{i:Nat}(x:h.IsTupleIter it l i)(k:∀o,h.get? it=some o->h'.get? it=some o):h'.IsTupleIter it l i:=by
 obtain⟨o,e,r⟩:=x;exact⟨o,k o e,r⟩
theorem IsTuple.at'{h h':Heap}{l:Addr}{xs:Array Value}(x:h.IsTuple l xs)(k:∀o,h.get? l=some o->h'.get? l=some o):h'.IsTuple l xs:=by
 obtain⟨o,e,r⟩:=x;exact⟨o,k o e,r⟩
section
variable {prog:Program}{w:World}{A:Around}{E:Value->Shared->Prop}{s:Shared}{it l:Addr}{i:Nat}{its:Array Value}
theorem zdV{x:Value}{Q:Value->Shared->Prop}(hi:s.heap.IsTupleIter it l i)(hl:s.heap.IsTuple l its)(hx:its[i]?=some x)(q:∀h',h'.IsTupleIter it l (i+1)->Heap.SameBut it s.heap h'->Q x {s with heap:=h'}) :
  wpAny (model prog w) A (Builtin.SmallTypes.nextOf (.ref it)) Q E s:=by
 obtain⟨oi,ei,ci,di⟩:=id hi;obtain⟨ol,el,_,nl,dl⟩:=hl;unfold Builtin.SmallTypes.nextOf;refine aF (vH (name:=Str.ofString "__next__") hi.typeIs Fi (ur Fi hi.typeIs F.entry_tuple_iterator_next ?_ (F.args_tuple_iterator_next_1 _)));show wpAny _ A.in1 (field (.ref it) 0 >>= _) _ E s;refine aF (jz ei di (x:=.ref l) rfl ?_);show wpAny _ A.in1 (if (Value.ref l==Value.none)=true then _ else _) _ E s;rw[if_neg (RQ l)];show wpAny _ A.in1 (field (.ref it) 1 >>= _) _ E s;refine aF (jz ei di (x:=.int i 0) rfl ?_);show wpAny _ A.in1 (seqItems? (.ref l) >>= _) _ E s;refine aF (ux el dl ?_);simp only[rA,hx];refine aF (Ac ei di J0 (bI ⟨x,rfl,bI (q _ ⟨_,zW _ ei (Fv (uh di _)),(Obj.cls_mapFields ..).trans ci,?_⟩ (Heap.SameBut.update ..))⟩));rw[uh di];simp[rawInt]
theorem zez{Q:Value->Shared->Prop}(hh:A.handled=none)(hi:s.heap.IsTupleIter it l i)(hl:s.heap.IsTuple l its)(hx:its[i]?=none)(q:∀h' e,Heap.ExtBut it s.heap h'->(∃o,h'.get? e=some o/\o.cls=.type "StopIteration")->E (.ref e) {s with heap:=h'}) :
  wpAny (model prog w) A (Builtin.SmallTypes.nextOf (.ref it)) Q E s:=by
 obtain⟨oi,ei,ci,di⟩:=id hi;obtain⟨ol,el,_,nl,dl⟩:=hl;unfold Builtin.SmallTypes.nextOf;refine aF (vH (name:=Str.ofString "__next__") hi.typeIs Fi (ur Fi hi.typeIs F.entry_tuple_iterator_next ?_ (F.args_tuple_iterator_next_1 _)));show wpAny _ A.in1 (field (.ref it) 0 >>= _) _ E s;refine aF (jz ei di (x:=.ref l) rfl ?_);show wpAny _ A.in1 (if (Value.ref l==Value.none)=true then _ else _) _ E s;rw[if_neg (RQ l)];show wpAny _ A.in1 (field (.ref it) 1 >>= _) _ E s;refine aF (jz ei di (x:=.int i 0) rfl ?_);show wpAny _ A.in1 (seqItems? (.ref l) >>= _) _ E s;refine aF (ux el dl ?_);simp only[rA,hx];refine aF (wpAny_rule (aF (Ac ei di J0 ?_)));show wpAny _ A.in1 (newExc (.type "StopIteration") [] >>= _) _ E _;refine aF ?_;simp only[newExc,newTuple];refine aF (uq (aF (m:=firstArgMember _ _) (wpAny_of_eq (a:=Value.none) (by first|rfl|(simp only[firstArgMember];rfl)) (uq ?_ (by size_fits)))) (by size_fits));simp only[raiseNew];refine aF (wpAny_handled ?_);rw[show A.in1.handled=none from hh];exact aF (bI (wpAny_throw (q _ _ (((Heap.SameBut.update ..).extBut.push _).push _) ⟨_,iu _ rfl,rfl⟩)))
end
theorem jo.tuple{prog:Program}{w:World}{it l:Addr}{its:Array Value}(hne:l≠it):jo prog w it l (λi h=>h.IsTupleIter it l i/\h.IsTuple l its) its where
 item:=λA E s i x Q ⟨h1,h2⟩ hx q=>zdV h1 h2 hx λh' a sb=>q h' ⟨a,IsTuple.at' h2 λo e=>(sb.2 l hne).trans e⟩ sb
 fin:=λA E s i Q hh ⟨h1,h2⟩ hx q=>zez hh h1 h2 hx q
 keep:=λi h h' ⟨h1,h2⟩ k=>⟨IsTupleIter.at' h1 λo e=>k it o (.inl rfl) e,IsTuple.at' h2 λo e=>k l o (.inr rfl) e⟩
structure jM(z TI TO i1 i2 l1 l2:Addr):Prop where
 zs:z≠TI/\z≠TO/\z≠i1/\z≠i2/\z≠l1/\z≠l2
 os:TO≠TI/\TO≠i1/\TO≠i2/\TO≠l1/\TO≠l2
 is:TI≠i1/\TI≠i2/\i1≠i2/\i1≠l1/\i1≠l2/\i2≠l1/\i2≠l2
section
variable {prog:Program}{w:World}{A:Around}{E:Value->Shared->Prop}{s:Shared}{z TI TO i1 i2 l1 l2:Addr}{st1 st2:Nat->Heap->Prop}{xs ys:Array Value}{k:Nat}{a b:Value}
theorem zfK(N1:jo prog w i1 l1 st1 xs)(N2:jo prog w i2 l2 st2 ys)(D:jM z TI TO i1 i2 l1 l2)(hz:IsZip s.heap z TI TO .none)(K_:IsPair s.heap TI (.ref i1) (.ref i2))(La:IsPair s.heap TO a b)
  (h1:st1 k s.heap) (h2:st2 k s.heap) (hx:xs[k]?=some x) (hy:ys[k]?=some y)
  (q:∀h',IsZip h' z TI TO (rawInt s.heap.objs.size)->IsPair h' TO x y->st1 (k+1) h'->st2 (k+1) h'->IsPair h' s.heap.objs.size x y->h'.objs.size=s.heap.objs.size+1->(∀c o,c≠z->c≠TO->c≠i1->c≠i2->s.heap.get? c=some o->h'.get? c=some o)->Q (some (.ref s.heap.objs.size)) {s with heap:=h'}) :
  wpAny (model prog w) A (pyNext (.ref z)) Q E s:=by
 obtain⟨⟨z1,z2,z3,z4,z5,z6⟩,⟨t1,t2,t3,t4,t5⟩,⟨j1,j2,j3,j4,j5,j6,j7⟩⟩:=D;have hT:s.TypeIs (.ref z) "zip":=⟨_,hz,rfl⟩;unfold pyNext;refine aF (Ae (vH (name:=Str.ofString "__next__") hT Gb (ur Gb hT F.entry_zip_next ?_ (F.args_zip_next_1 _))));show wpAny _ A.in1 (field (.ref z) 2 >>= _) _ _ s;refine aF (jz hz rfl (x:=.bool false) rfl ?_);show wpAny _ A.in1 (field (.ref z) 3 >>= _) _ _ s;refine aF (jz hz rfl (x:=.ref TI) rfl (aF (ux K_ rfl ?_)));show wpAny _ A.in1 (Builtin.SmallTypes.ownedTupleIsFree (.ref z) >>= _) _ _ s;refine aF ?_;unfold Builtin.SmallTypes.ownedTupleIsFree;refine aF (jz hz rfl (x:=.none) rfl (bI ?_));simp only[if_true];refine aF (wpAny_rule (aF (jz hz rfl (x:=.ref TO) rfl (aF (yw hz J0 λha za sa=>aF ?_)))))
 replace za:IsZip ha z TI TO .ellipsis:=za
 simp only[List.zipIdx_cons,List.zipIdx_nil,Aa,Gf];refine aF (aF (wpAny_onRaise ?_));show wpAny _ A.in1 (Builtin.SmallTypes.nextOf (.ref i1) >>= _) _ _ _;refine aF (N1.item _ _ {s with heap:=ha} k x _ (N1.keep _ _ _ h1 λc o hc e=>sa.extBut c o (by rcases hc with rfl|rfl;exact z3.symm;exact z5.symm) e) hx λhb RT sb=>bI ?_);have tb:IsPair hb TO a b:=sb.extBut _ _ t2 (sa.extBut _ _ z2.symm La);refine aF (ux tb rfl (aF (Jf tb λhc tc sc=>aF (wpAny_letGo (bI ?_)))))
 replace tc:IsPair hc TO x b:=tc
 refine aF (aF (wpAny_onRaise ?_));show wpAny _ A.in1 (Builtin.SmallTypes.nextOf (.ref i2) >>= _) _ _ _;have k2:st2 k hc:=N2.keep _ _ _ h2 λc o iZ e=>by
  rcases iZ with rfl|rfl
  ·exact sc.extBut _ _ t3.symm (sb.extBut _ _ j3.symm (sa.extBut _ _ z4.symm e))
  ·exact sc.extBut _ _ t5.symm (sb.extBut _ _ j5.symm (sa.extBut _ _ z6.symm e))
 have k1:st1 (k+1) hc:=N1.keep _ _ _ RT λc o iZ e=>by
  rcases iZ with rfl|rfl
  ·exact sc.extBut _ _ t2.symm e
  ·exact sc.extBut _ _ t4.symm e
 refine aF (N2.item _ _ {s with heap:=hc} k y _ k2 hy λhd sd2 sd=>bI ?_);have td:IsPair hd TO x b:=sd.extBut _ _ t3 tc;refine aF (ux td rfl (aF (Jf td λhe te se=>aF (wpAny_letGo (bI (bI ?_))))))
 replace te:IsPair he TO x y:=te
 refine aF (ux te rfl (aF (wpAny_newTuple ?_)));have size:he.objs.size=s.heap.objs.size:=by rw[se.1,sd.1,sc.1,sb.1,sa.1]
 have ze:IsZip he z TI TO .ellipsis:=se.extBut _ _ z2 (sd.extBut _ _ z4 (sc.extBut _ _ z2 (sb.extBut _ _ z3 za)));have kept:∀c o,c≠z->c≠TO->c≠i1->c≠i2->s.heap.get? c=some o->he.get? c=some o:=λc o c1 c2 c3 c4 e=>se.extBut _ _ c2 (sd.extBut _ _ c4 (sc.extBut _ _ c2 (sb.extBut _ _ c3 (sa.extBut _ _ c1 e))));have e1:st1 (k+1) he:=N1.keep _ _ _ k1 λc o iZ e=>by
  rcases iZ with rfl|rfl
  ·exact se.extBut _ _ t2.symm (sd.extBut _ _ j3 e)
  ·exact se.extBut _ _ t4.symm (sd.extBut _ _ j6.symm e)
 have e2:st2 (k+1) he:=N2.keep _ _ _ sd2 λc o iZ e=>by
  rcases iZ with rfl|rfl
  ·exact se.extBut _ _ t3.symm e
  ·exact se.extBut _ _ t5.symm e
 show wpAny _ A.in1 (Builtin.SmallTypes.ownedTupleHandOut (.ref z) (.ref he.objs.size) >>= _) _ _ _;refine aF ?_;unfold Builtin.SmallTypes.ownedTupleHandOut;have zf:IsZip (he.push {cls:=.type "tuple",data:=.seq #[x,y]}) z TI TO .ellipsis:=dz _ ze;refine aF (yw zf J0 λhg zg sg=>yw zg J0 λhh zh sh=>bI ⟨_,rfl,bI ?_⟩)
 replace zh:IsZip hh z TI TO (rawInt he.objs.size):=zh
 have up:∀c o,c≠z->he.get? c=some o->hh.get? c=some o:=λc o c1 e=>sh.extBut _ _ c1 (sg.extBut _ _ c1 (dz _ e));have lz:z<he.objs.size:=bW ze;have tn:IsPair hh he.objs.size x y:=sh.extBut _ _ (vO lz) (sg.extBut _ _ (vO lz) (iu _ rfl));have sz:hh.objs.size=he.objs.size+1:=by rw[sh.1,sg.1,vL]
 rw[size] at zh tn sz;show Q (some (.ref he.objs.size)) _;rw[size];exact q hh zh (up _ _ z2.symm te) (N1.keep _ _ _ e1 λc o iZ e=>up c o (by rcases iZ with rfl|rfl;exact z3.symm;exact z5.symm) e) (N2.keep _ _ _ e2 λc o iZ e=>up c o (by rcases iZ with rfl|rfl;exact z4.symm;exact z6.symm) e) tn sz λc o c1 c2 c3 c4 e=>up c o c1 (kept c o c1 c2 c3 c4 e)
theorem zhi(hn:A.handled=none)(N1:jo prog w i1 l1 st1 xs)(N2:jo prog w i2 l2 st2 ys)(D:jM z TI TO i1 i2 l1 l2)(hz:IsZip s.heap z TI TO .none)(K_:IsPair s.heap TI (.ref i1) (.ref i2))(La:IsPair s.heap TO a b)
  (h1:st1 k s.heap) (h2:st2 k s.heap) (hx:xs[k]?=none\/ys[k]?=none) (q:∀h',(∀c o,c≠z->c≠TO->c≠i1->c≠i2->s.heap.get? c=some o->h'.get? c=some o)->Q none {s with heap:=h'}):wpAny (model prog w) A (pyNext (.ref z)) Q E s:=by
 obtain⟨⟨z1,z2,z3,z4,z5,z6⟩,⟨t1,t2,t3,t4,t5⟩,⟨j1,j2,j3,j4,j5,j6,j7⟩⟩:=D;have hT:s.TypeIs (.ref z) "zip":=⟨_,hz,rfl⟩;have stop:∀(h':Heap) (e:Addr),(∀c o,c≠z->c≠TO->c≠i1->c≠i2->s.heap.get? c=some o->h'.get? c=some o)->(∃o,h'.get? e=some o/\o.cls=.type "StopIteration")->
   wpAny (model prog w) A (do if <-isInstance (.ref e) (.type "StopIteration") then pure none else throw (.ref e):Sem (Option Value)) Q E {s with heap:=h'}:=λh' e kp ⟨o,ho,hc⟩=>
  aF (wpAny_isInstance (T:="StopIteration") (b:=true) ⟨o,ho,hc⟩ isSubtype_stop (bI (q h' kp)))
 unfold pyNext;refine aF (Ae (vH (name:=Str.ofString "__next__") hT Gb (ur Gb hT F.entry_zip_next ?_ (F.args_zip_next_1 _))));show wpAny _ A.in1 (field (.ref z) 2 >>= _) _ _ s;refine aF (jz hz rfl (x:=.bool false) rfl ?_);show wpAny _ A.in1 (field (.ref z) 3 >>= _) _ _ s;refine aF (jz hz rfl (x:=.ref TI) rfl (aF (ux K_ rfl ?_)));show wpAny _ A.in1 (Builtin.SmallTypes.ownedTupleIsFree (.ref z) >>= _) _ _ s;refine aF ?_;unfold Builtin.SmallTypes.ownedTupleIsFree;refine aF (jz hz rfl (x:=.none) rfl (bI ?_));simp only[if_true];refine aF (wpAny_rule (aF (jz hz rfl (x:=.ref TO) rfl (aF (yw hz J0 λha za sa=>aF ?_)))))
 replace za:IsZip ha z TI TO .ellipsis:=za
 simp only[List.zipIdx_cons,List.zipIdx_nil,Aa,Gf];refine aF (aF (wpAny_onRaise ?_));show wpAny _ A.in1 (Builtin.SmallTypes.nextOf (.ref i1) >>= _) _ _ _;have ka:st1 k ha:=N1.keep _ _ _ h1 λc o hc e=>sa.extBut c o (by rcases hc with rfl|rfl;exact z3.symm;exact z5.symm) e;cases ex:xs[k]? with
 |none=>
  refine aF (N1.fin _ _ {s with heap:=ha} k _ hn ka ex λhb e sb se=>?_);obtain⟨oe,ho,hc⟩:=se;have zb:IsZip hb z TI TO .ellipsis:=sb _ _ z3 za;have ne:e≠z:=λy=>by subst y;rw[zb] at ho;cases ho;simp at hc
  exact yw zb J0 λhd _ sd=>stop hd e (λc o c1 _ c3 _ y=>sd.extBut _ _ c1 (sb _ _ c3 (sa.extBut _ _ c1 y))) ⟨oe,sd.extBut _ _ ne ho,hc⟩
 |some x=>
  have ey:ys[k]?=none:=by
   rcases hx with y|y
   ·rw[ex] at y;cases y
   ·exact y
  refine aF (N1.item _ _ {s with heap:=ha} k x _ ka ex λhb RT sb=>bI ?_);have tb:IsPair hb TO a b:=sb.extBut _ _ t2 (sa.extBut _ _ z2.symm La);refine aF (ux tb rfl (aF (Jf tb λhc tc sc=>aF (wpAny_letGo (bI ?_)))));refine aF (aF (wpAny_onRaise ?_));show wpAny _ A.in1 (Builtin.SmallTypes.nextOf (.ref i2) >>= _) _ _ _;have k2:st2 k hc:=N2.keep _ _ _ h2 λc o iZ e=>by
   rcases iZ with rfl|rfl
   ·exact sc.extBut _ _ t3.symm (sb.extBut _ _ j3.symm (sa.extBut _ _ z4.symm e))
   ·exact sc.extBut _ _ t5.symm (sb.extBut _ _ j5.symm (sa.extBut _ _ z6.symm e))
  refine aF (N2.fin _ _ {s with heap:=hc} k _ hn k2 ey λhd e sd se=>?_);obtain⟨oe,ho,yP⟩:=se;have zd:IsZip hd z TI TO .ellipsis:=sd _ _ z4 (sc.extBut _ _ z2 (sb.extBut _ _ z3 za));have ne:e≠z:=λy=>by subst y;rw[zd] at ho;cases ho;simp at yP
  exact yw zd J0 λhf _ sf=>stop hf e (λc o c1 c2 c3 c4 y=>sf.extBut _ _ c1 (sd _ _ c4 (sc.extBut _ _ c2 (sb.extBut _ _ c3 (sa.extBut _ _ c1 y))))) ⟨oe,sf.extBut _ _ ne ho,yP⟩
end
noncomputable def Ck:Bool->Heap->Addr->Array Value->Prop
 |true,h,l,xs=>h.IsList l xs
 |false,h,l,xs=>h.IsTuple l xs
noncomputable def Rk:Bool->Addr->Addr->Nat->Heap->Prop
 |true,it,l,i,h=>h.IsListIter it l i
 |false,it,l,i,h=>h.IsTupleIter it l i
noncomputable def Sk:Bool->W.Frag->Hp->Addr->List V->Prop
 |true,K,H,l,xs=>cW K H l xs
 |false,K,H,l,xs=>gF K H l xs
noncomputable def dW:Bool->Addr->Obj
 |true,l=>{cls:=.type "list_iterator",data:=.fields #[.ref l,.int 0 0]}
 |false,l=>{cls:=.type "tuple_iterator",data:=.fields #[.ref l,.int 0 0]}
theorem jo.of(kd:Bool)(hne:l≠it):jo prog w it l (λi h=>Rk kd it l i h/\Ck kd h l its) its:=by
 cases kd
 ·exact jo.tuple hne
 ·exact jo.list hne
theorem Ck.keep(x:Ck kd h l xs)(k:∀o,h.get? l=some o->h'.get? l=some o):Ck kd h' l xs:=by
 cases kd
 ·exact IsTuple.at' x k
 ·exact Heap.IsList.at x k
theorem Rk.keep(x:Rk kd it l i h)(k:∀o,h.get? it=some o->h'.get? it=some o):Rk kd it l i h':=by
 cases kd
 ·exact IsTupleIter.at' x k
 ·exact Heap.IsListIter.at x k
theorem Rk.obj(x:Rk kd it l i h):∃o,h.get? it=some o/\∀v,o.data≠.cell v:=by
 cases kd
 ·obtain⟨o,e,c,d⟩:=x;exact⟨o,e,λv z=>by rw[d] at z;cases z⟩
 ·obtain⟨o,e,c,d⟩:=x;exact⟨o,e,λv z=>by rw[d] at z;cases z⟩
theorem Ck.lt(x:Ck kd h l xs):l<h.objs.size:=by
 cases kd
 ·obtain⟨o,e,_⟩:=x;exact bW e
 ·obtain⟨o,e,_⟩:=x;exact bW e
section
variable {prog:Program}{w:World}{A:Around}{E:Value->Shared->Prop}{s:Shared}
theorem G9(c:Ck kd s.heap l xs)(q:Q (.ref s.heap.objs.size) {s with heap:=s.heap.push (dW kd l)}):wpAny (model prog w) A (pyIter (.ref l)) Q E s:=by
 cases kd
 ·exact wpAny_pyIter_tuple c q
 ·exact wpAny_pyIter_list c q
end
noncomputable def zH(h:Heap)(k1 k2:Bool)(l1 l2:Addr):Heap:=((((h.push (dW k1 l1)).push (dW k2 l2)).push {cls:=.type "tuple",data:=.seq #[.ref h.objs.size,.ref (h.push (dW k1 l1)).objs.size]}).push {cls:=.type "tuple",data:=.seq #[.none,.none]}).push
 {cls:=.type "zip",data:=.fields #[.none,.bool false,.bool false,.ref ((h.push (dW k1 l1)).push (dW k2 l2)).objs.size,.ref (((h.push (dW k1 l1)).push (dW k2 l2)).push {cls:=.type "tuple",data:=.seq #[.ref h.objs.size,.ref (h.push (dW k1 l1)).objs.size]}).objs.size]}
theorem zfR(k1 k2:Bool)(l1 l2:Addr)(xs ys:Array Value):Meets (Builtin.«zip.__new__» ⟨[.type "zip",.ref l1,.ref l2],[]⟩) (λ_ R s=>Ck k1 s.heap l1 xs/\Ck k2 s.heap l2 ys /\
   R (.ok (.ret (.ref ((((s.heap.push (dW k1 l1)).push (dW k2 l2)).push {cls:=.type "tuple",data:=.seq #[.ref s.heap.objs.size,.ref (s.heap.push (dW k1 l1)).objs.size]}).push {cls:=.type "tuple",data:=.seq #[.none,.none]}).objs.size))) {s with heap:=zH s.heap k1 k2 l1 l2}):=
 .of_wp λprog w A R s h=>by
  obtain⟨hp,g,d,tk,os⟩:=s;obtain⟨c1,c2,h⟩:=h;have hsub:=sub_zip;have C1:Ck k1 (Shared.heap ⟨hp,g,d,tk,os⟩) l1 xs:=c1;have C2:Ck k2 (Shared.heap ⟨hp.push (dW k1 l1),g,d,tk,os⟩) l2 ys:=c2.keep λo e=>dz _ e
  wp_walk using G9 C1,G9 C2
  exact⟨_,rfl,h⟩
section
variable {prog:Program}{w:World}{A:Around}{E:Value->Shared->Prop}{s:Shared}
theorem zhr(c1:Ck k1 s.heap l1 xs)(c2:Ck k2 s.heap l2 ys)
  (h:∀h',IsZip h' (s.heap.objs.size+4) (s.heap.objs.size+2) (s.heap.objs.size+3) .none->IsPair h' (s.heap.objs.size+2) (.ref s.heap.objs.size) (.ref (s.heap.objs.size+1))->IsPair h' (s.heap.objs.size+3) .none .none->
   Rk k1 s.heap.objs.size l1 0 h'->Rk k2 (s.heap.objs.size+1) l2 0 h'->(∀c o,s.heap.get? c=some o->h'.get? c=some o)->Q (.ref (s.heap.objs.size+4)) {s with heap:=h'}) :
  wpAny (model prog w) A (call (.type "zip") [.ref l1,.ref l2]) Q E s:=by
 refine callType_new F.called_zip Dc (F.typeCall_zip_2 _ _) (F.newCall_zip_2 _ _) (λobj=>F.args_object_init_3 obj _ _) F.entry_zip_new (zfR k1 k2 l1 l2 xs ys) ⟨c1,c2,?_⟩;have n1:(s.heap.push (dW k1 l1)).objs.size=s.heap.objs.size+1:=vL ..;have n2:((s.heap.push (dW k1 l1)).push (dW k2 l2)).objs.size=s.heap.objs.size+2:=by rw[vL,n1]
 have fr:∀kd l,(dW kd l).isFreed=false:=λkd l=>by cases kd<;>rfl
 have rk:∀{h:Heap} {a:Addr} {kd:Bool} {l:Addr},h.get? a=some (dW kd l)->Rk kd a l 0 h:=λ{h a kd l} e=>by
  cases kd
  ·exact⟨_,e,rfl,rfl⟩
  ·exact⟨_,e,rfl,rfl⟩
 have o1:(s.heap.push (dW k1 l1)).get? s.heap.objs.size=some (dW k1 l1):=iu _ (fr _ _);have o2:((s.heap.push (dW k1 l1)).push (dW k2 l2)).get? (s.heap.objs.size+1)=some (dW k2 l2):=by
  have:=iu (s.heap.push (dW k1 l1)) (o:=dW k2 l2) (fr _ _);rw[n1] at this;exact this
 generalize hA:(s.heap.push (dW k1 l1)).push (dW k2 l2)=G_ at *;have eH:zH s.heap k1 k2 l1 l2=((G_.push {cls:=.type "tuple",data:=.seq #[.ref s.heap.objs.size,.ref (s.heap.objs.size+1)]}).push {cls:=.type "tuple",data:=.seq #[.none,.none]}).push {cls:=.type "zip",data:=.fields #[.none,.bool false,.bool false,.ref (s.heap.objs.size+2),.ref (s.heap.objs.size+3)]}:=by
  unfold zH;rw[hA,n1,n2,vL,n2]
 have n3:(G_.push {cls:=.type "tuple",data:=.seq #[.ref s.heap.objs.size,.ref (s.heap.objs.size+1)]}).objs.size=s.heap.objs.size+3:=by rw[vL,n2]
 have n4:((G_.push {cls:=.type "tuple",data:=.seq #[.ref s.heap.objs.size,.ref (s.heap.objs.size+1)]}).push {cls:=.type "tuple",data:=.seq #[.none,.none]}).objs.size=s.heap.objs.size+4:=by rw[vL,n3]
 rw[n1,n4];have g5:(zH s.heap k1 k2 l1 l2).get? (s.heap.objs.size+4)=some {cls:=.type "zip",data:=.fields #[.none,.bool false,.bool false,.ref (s.heap.objs.size+2),.ref (s.heap.objs.size+3)]}:=by
  rw[eH,<-n4];exact iu _ rfl
 have g4:(zH s.heap k1 k2 l1 l2).get? (s.heap.objs.size+3)=some {cls:=.type "tuple",data:=.seq #[.none,.none]}:=by
  rw[eH,<-n3];exact dz _ (iu _ rfl)
 have g3:(zH s.heap k1 k2 l1 l2).get? (s.heap.objs.size+2)=some {cls:=.type "tuple",data:=.seq #[.ref s.heap.objs.size,.ref (s.heap.objs.size+1)]}:=by
  rw[eH,<-n2];exact dz _ (dz _ (iu _ rfl))
 have up:∀c o,G_.get? c=some o->(zH s.heap k1 k2 l1 l2).get? c=some o:=λc o e=>by rw[eH];exact dz _ (dz _ (dz _ e))
 refine⟨⟨_,g5,rfl⟩,h _ g5 g3 g4 (rk (up _ _ ?_)) (rk (up _ _ o2)) λc o e=>up _ _ ?_⟩
 ·rw[<-hA];exact dz _ o1
 ·rw[<-hA];exact dz _ (dz _ e)
end
noncomputable def Lb(K:W.Frag)(k1 k2:Bool)(l1 l2:Addr):It:=
 ⟨λi H=>∃xs ys x y,Sk k1 K H l1 xs/\Sk k2 K H l2 ys/\xs[i]?=some x/\ys[i]?=some y,
  λi H v H'=>∃a x y,H a=none/\v=.ref a/\H'=upd H a (.tup [x,y])/\(∀xs,Sk k1 K H l1 xs->xs[i]?=some x)/\∀ys,Sk k2 K H l2 ys->ys[i]?=some y,
  λi H=>∃xs ys,Sk k1 K H l1 xs/\Sk k2 K H l2 ys/\(xs.length<=i\/ys.length<=i)⟩
section
variable {X:Cx}{ak:List (Addr×Obj)}{Z:St}{H:Hp}{s:Shared}{kd:Bool}{l:Addr}{xs ys:List V}
theorem Inv.row(I:Inv X ak Z H s)(h:Sk kd X.K H l xs):∃its:List Value,Vals xs its/\Ck kd s.heap l its.toArray:=by
 cases kd
 ·obtain⟨its,rv,p,hz⟩:=I.tuple h;exact⟨its,rv,p⟩
 ·obtain⟨its,rv,p,hz⟩:=I.list h;exact⟨its,rv,p.isList⟩
theorem Inv.jN(I:Inv X ak Z H s)(h:Sk kd X.K H l xs)(h':Sk kd X.K H l ys):xs=ys:=by
 cases kd
 ·exact I.jk h h'
 ·exact I.lC h h'
end
theorem zgj{P:Program}{w:World}{K:W.Frag}{elts:List Expr}{kk:Nat}{pos:Pos}{k1 k2:Bool}{l1 l2 z TI TO i1 i2:Addr}(D:jM z TI TO i1 i2 l1 l2) :
  Turn P w K (.Tuple elts kk pos) (Lb K k1 k2 l1 l2) [z,TI,TO,i1,i2] z (λi h=>IsZip h z TI TO .none/\IsPair h TI (.ref i1) (.ref i2)/\(∃a b,IsPair h TO a b)/\Rk k1 i1 l1 i h/\Rk k2 i2 l2 i h) where
 mem:=by simp
 obj:=λi h ⟨a1,a2,⟨p,q,a3⟩,a4,a5⟩ b hb=>by
  have:b=z\/b=TI\/b=TO\/b=i1\/b=i2:=by simpa using hb
  rcases this with rfl|rfl|rfl|rfl|rfl
  ·exact⟨_,a1,λv y=>by cases y⟩
  ·exact⟨_,a2,λv y=>by cases y⟩
  ·exact⟨_,a3,λv y=>by cases y⟩
  ·exact a4.obj
  ·exact a5.obj
 keep:=λi h h' ⟨a1,a2,⟨p,q,a3⟩,a4,a5⟩ k=>⟨k z J0 _ a1,k TI J0 _ a2,⟨p,q,k TO J0 _ a3⟩,a4.keep λo e=>k i1 J0 o e,a5.keep λo e=>k i2 J0 o e⟩
 item:=by
  intro X hP hw hK hc i ak s Z H E I hf ⟨a1,a2,⟨p,q,a3⟩,a4,a5⟩ hg;subst hP hw hK;obtain⟨xs,ys,x,y,yQ,yR,hx,hy⟩:=hg;obtain⟨RV,Hf,c1⟩:=I.row yQ;obtain⟨Cj,Hg,c2⟩:=I.row yR;obtain⟨u,hu,ru⟩:=Hf.get hx;obtain⟨v,hv,rv⟩:=Hg.get hy;have D':=D;obtain⟨⟨z1,z2,z3,z4,z5,z6⟩,⟨t1,t2,t3,t4,t5⟩,⟨j1,j2,j3,j4,j5,j6,j7⟩⟩:=D';refine zfK (jo.of k1 j4.symm) (jo.of k2 j7.symm) D a1 a2 a3 ⟨a4,c1⟩ ⟨a5,c2⟩ (x:=u) (y:=v) (by simpa using hu) (by simpa using hv) λh1 b1 b2 b3 b4 b5 b6 kp=>?_;refine⟨_,rfl,wpAny_letOwnedTupleGo_zip (s:={s with heap:=h1}) b1 λh2 e2 sb=>?_⟩;have Ld:IsPair h2 s.heap.objs.size u v:=(sb.2 _ (vO (bW a1))).trans b5;have kk:∀b o,b∉[z,TI,TO,i1,i2]->s.heap.get? b=some o->h2.get? b=some o:=λb o hb e=>(sb.2 b λy=>hb (by simp[y])).trans (kp b o (λy=>hb (by simp[y])) (λy=>hb (by simp[y])) (λy=>hb (by simp[y])) (λy=>hb (by simp[y])) e);have I2:=I.jm (t':=s.toks) (a:=s.heap.objs.size) (o:=.tup [x,y]) kk (λb hb=>hf b hb) (bT _) (show bF X.prog X.w _ h2 _ (.tup [x,y]) from ⟨by show 2<=sizeLine;decide,[u,v],.cons ru (.cons rv .nil),⟨_,Ld,rfl,_,rfl⟩⟩);have hn:H s.heap.objs.size=none:=I.hok.fresh (bT _);refine⟨.ref s.heap.objs.size,_,I2,rfl,⟨_,x,y,hn,rfl,rfl,λzs hz=>by rw[I.jN hz yQ];exact hx,λzs hz=>by rw[I.jN hz yR];exact hy⟩,⟨e2,(sb.2 _ z1.symm).trans (kp _ _ z1.symm t1.symm j1 j2 a2),⟨_,_,(sb.2 _ z2.symm).trans b2⟩,b3.1.keep λo e=>(sb.2 _ z3.symm).trans e,b4.1.keep λo e=>(sb.2 _ z4.symm).trans e⟩,λb hb=>?_⟩;have nb:b≠s.heap.objs.size:=by
   have:b=z\/b=TI\/b=TO\/b=i1\/b=i2:=by simpa using hb
   rcases this with rfl|rfl|rfl|rfl|rfl
   ·exact fL (bW a1)
   ·exact fL (bW a2)
   ·exact fL (bW a3)
   ·obtain⟨o,e,_⟩:=a4.obj;exact fL (bW e)
   ·obtain⟨o,e,_⟩:=a5.obj;exact fL (bW e)
  rw[dR nb];exact(hf b hb).1
 done:=by
  intro X hP hw hK hc i ak s Z H E I hf ⟨a1,a2,⟨p,q,a3⟩,a4,a5⟩ hg;subst hP hw hK;obtain⟨xs,ys,yQ,yR,hx⟩:=hg;obtain⟨RV,Hf,c1⟩:=I.row yQ;obtain⟨Cj,Hg,c2⟩:=I.row yR;have n1:=Hf.length;have n2:=Hg.length;refine zhi (I.ok.hd hc) (jo.of k1 D.is.2.2.2.1.symm) (jo.of k2 D.is.2.2.2.2.2.2.symm) D a1 a2 a3 ⟨a4,c1⟩ ⟨a5,c2⟩ ?_ λh' kp=>⟨rfl,I.nq (t':=s.toks) (ch:=[z,TI,TO,i1,i2]) (λb o hb e=>kp b o (λy=>hb (by simp[y])) (λy=>hb (by simp[y])) (λy=>hb (by simp[y])) (λy=>hb (by simp[y])) e) λb hb=>hf b hb⟩;rcases hx with y|y
  ·exact .inl (by simp;lia)
  ·exact .inr (by simp;lia)
 self:=λ_ _ _ _ _ ⟨a1,_⟩ h=>wpAny_pyIter_zip a1 h
section
variable {X:Cx}
noncomputable def Le(K:W.Frag)(ta:TA):TI:=λZ H R=>ta Z H λvs H1=>∃k1 k2 l1 l2 xs ys,vs=[.ref l1,.ref l2]/\Sk k1 K H1 l1 xs/\Sk k2 K H1 l2 ys/\R (Lb K k1 k2 l1 l2) H1
theorem zf9:bootBuiltins "zip"=some (.type "zip"):=by decide +kernel
theorem zjH{a b:Expr}{ta:TA}{p pos tpos:Pos}{elts:List Expr}{kk:Nat}(hg:Gl X "zip")(hm:X.mg "zip"=none)(ha:PA X [a,b] ta)(hs:starEach [a,b] X.env=[(false,eval a X.env),(false,eval b X.env)]:=by rfl)(Bf:starEach [b] X.env=[(false,eval b X.env)]:=by rfl) :
  PI X (.Tuple elts kk tpos) (.Call (.Name "zip" p) [a,b] [] pos) (Le X.K ta):=by
 intro ak s Z H R I h;refine Call_ (vZ I hg hm zf9 (zU (bf (ha pos ak s Z H _ I h) λus s1 ⟨vs,H1,I1,r1,q1⟩=>?_) (by rw[hs,Bf]) (by rw[Bf];rfl)));obtain⟨k1,k2,l1,l2,xs,ys,e,yQ,yR,q⟩:=q1;subst e;cases r1 with
 |cons r rr=>
  cases rr with
  |cons r' rr=>
   cases rr;cases r;cases r';obtain⟨RV,Hf,c1⟩:=I1.row yQ;obtain⟨Cj,Hg,c2⟩:=I1.row yR;have m1:=c1.lt;have m2:=c2.lt;refine zhr c1 c2 λh' b1 b2 b3 b4 b5 kp=>?_;refine wpAny_pyIter_zip b1 ?_;have ne:∀{u v:Nat},u<v->u≠v:=λh=>fL h;have D:jM (s1.heap.objs.size+4) (s1.heap.objs.size+2) (s1.heap.objs.size+3) s1.heap.objs.size (s1.heap.objs.size+1) l1 l2:=
    ⟨⟨(ne gV).symm,(ne gV).symm,(ne gV).symm,(ne gV).symm,(ne (gq m1 gV)).symm,(ne (gq m2 gV)).symm⟩,
     ⟨(ne gV).symm,(ne gV).symm,(ne gV).symm,(ne (gq m1 gV)).symm,(ne (gq m2 gV)).symm⟩,
     ⟨(ne gV).symm,(ne gV).symm,ne gV,(ne m1).symm,(ne m2).symm,(ne (gq m1 gV)).symm,(ne (gq m2 gV)).symm⟩⟩
   refine⟨s1.heap.objs.size+4,[s1.heap.objs.size+4,s1.heap.objs.size+2,s1.heap.objs.size+3,s1.heap.objs.size,s1.heap.objs.size+1],_,_,H1,rfl,I1.kept (t':=s1.toks) kp,zgj D,⟨b1,b2,⟨_,_,b3⟩,b4,b5⟩,λb hb=>?_,q⟩;have:s1.heap.objs.size<=b:=by
    have:b=s1.heap.objs.size+4\/b=s1.heap.objs.size+2\/b=s1.heap.objs.size+3\/b=s1.heap.objs.size\/b=s1.heap.objs.size+1:=by simpa using hb
    rcases this with rfl|rfl|rfl|rfl|rfl<;>lia
   exact I1.pB this (I1.hok.fresh this)
end
noncomputable def Ite(K:W.Frag)(kd:Bool)(l:Addr):It:=
 ⟨λi H=>∃xs x,Sk kd K H l xs/\xs[i]?=some x,λi H v H'=>∃a x,H a=none/\v=.ref a/\H'=upd H a (.tup [.int i,x])/\∀xs,Sk kd K H l xs->xs[i]?=some x,λi H=>∃xs,Sk kd K H l xs/\xs.length<=i⟩
theorem wQ{prog:Program}{w:World}{A:Around}(hh:A.handled=none)(kd:Bool){it l:Addr}(hne:l≠it)(its:Array Value):Draws prog w A it [it,l] its.size (λi v=>its[i]?=some v) (λi h=>Rk kd it l i h/\Ck kd h l its) where
 live:=λ_ _ st=>let ⟨o,e,_⟩:=st.1.obj;⟨o,e⟩
 frame:=λ_ _ _ st k=>⟨st.1.keep λo e=>k it J0 o e,st.2.keep λo e=>k l J0 o e⟩
 item:=λi s Q E hi st q=>(jo.of kd hne).item A E s i its[i] Q st (by simp[hi]) λh' a b=>q _ h' s.toks (by simp[hi]) a b
 done:=λs Q E st q=>(jo.of kd hne).fin A E s its.size Q hh st J0 q
theorem zgn(kd:Bool)(l:Addr)(xs:Array Value):Meets (Builtin.«enumerate.__new__» ⟨[.type "enumerate",.ref l],[]⟩) (λ_ R s=>Ck kd s.heap l xs /\
   R (.ok (.ret (.ref (s.heap.push (dW kd l)).objs.size))) {s with heap:=(s.heap.push (dW kd l)).push {cls:=.type "enumerate",data:=.fields #[.none,.bool false,.ref s.heap.objs.size,rawInt 0,.none,.none]}}):=
 .of_wp λprog w A R s h=>by
  obtain⟨hp,g,d,tk,os⟩:=s;obtain⟨c1,h⟩:=h;have hsub:=sub_enumerate;have C1:Ck kd (Shared.heap ⟨hp,g,d,tk,os⟩) l xs:=c1;obtain⟨ol,el⟩ : ∃o,hp.get? l=some o:=by
   cases kd
   ·obtain⟨o,e,_⟩:=c1;exact⟨o,e⟩
   ·obtain⟨o,e,_⟩:=c1;exact⟨o,e⟩
  wp_walk using IV el
  refine wpAny_stack_any λst=>bI ?_
  split
  ·rename_i c _ _ _ _ _;cases (c==Value.type "enumerate")<;>(wp_walk using IV el,G9 C1;exact⟨_,rfl,h⟩)
  ·wp_walk using IV el,G9 C1
   exact⟨_,rfl,h⟩
theorem zfY{prog:Program}{w:World}{A:Around}{E:Value->Shared->Prop}{s:Shared}{e it l:Addr}{its:Array Value}{st:Nat->Heap->Prop}{i:Nat}{old:Value}{Q:Option Value->Shared->Prop}(hh:A.handled=none)(N:jo prog w it l st its)(he:IsEnum s.heap e it i old)(J3:st i s.heap)(hx:its[i]?=none)
  (q:∀h',Heap.ExtBut it s.heap h'->Q none {s with heap:=h'}):wpAny (model prog w) A (pyNext (.ref e)) Q E s:=by
 have ty:s.TypeIs (.ref e) "enumerate":=⟨_,he,rfl⟩;have body:∀{E':Value->Shared->Prop},(∀h' x,Heap.ExtBut it s.heap h'->(∃o,h'.get? x=some o/\o.cls=.type "StopIteration")->E' (.ref x) {s with heap:=h'})->wpAny (model prog w) A.in1 (Builtin.«enumerate.__next__» ⟨[.ref e],[]⟩) (λ_ _=>False) E' s:=λk=>by
  show wpAny _ A.in1 (field (.ref e) 2 >>= _) _ _ _;exact aF (jz he rfl (x:=.ref it) rfl (aF (N.fin A.in1 _ s i _ hh J3 hx k)))
 unfold pyNext;refine aF (Ae (vH (name:=Str.ofString "__next__") ty F.slot_enumerate_next (ur F.slot_enumerate_next ty F.entry_enumerate_next (mX (body λh' x a b=>?_) (λ_ _ z=>z.elim) λ_ _ z=>z) (F.args_enumerate_next_1 _))));obtain⟨o,a1,a2⟩:=b;exact aF (wpAny_isInstance (T:="StopIteration") (b:=true) ⟨o,a1,a2⟩ isSubtype_stop (bI (q h' a)))
theorem zek{P:Program}{w:World}{K:W.Frag}{elts:List Expr}{kk:Nat}{pos:Pos}{kd:Bool}{l e it:Addr}(Lf:e≠it)(RW:l≠it)(hle:l≠e) :
  Turn P w K (.Tuple elts kk pos) (Ite K kd l) [e,it] e (λi h=>(∃old,IsEnum h e it i old)/\Rk kd it l i h) where
 mem:=by simp
 obj:=λi h ⟨⟨old,he⟩,st⟩ b hb=>by
  have:b=e\/b=it:=by simpa using hb
  rcases this with rfl|rfl
  ·exact⟨_,he,λv z=>by cases z⟩
  ·exact st.obj
 keep:=λi h h' ⟨⟨old,he⟩,st⟩ k=>⟨⟨old,k e J0 _ he⟩,st.keep λo e=>k it J0 o e⟩
 item:=by
  intro X hP hw hK hc i ak s Z H E I hf ⟨⟨old,he⟩,st⟩ hg;subst hP hw hK;obtain⟨xs,x,hq,hx⟩:=hg;obtain⟨its,rv,p⟩:=I.row hq;obtain⟨u,hu,ru⟩:=rv.get hx;have eZ:i<its.toArray.size:=by simpa using (fQ.mp hu).1
  refine wpAny_pyNext_enum_itemD (wQ (A:=X.A.in1) (I.ok.hd hc) kd RW its.toArray) he ⟨st,p⟩ eZ Lf (by simp[Lf,hle.symm]) λu' h1 tk hP ho Lg hT lR hk=>?_;have eu:u'=u:=by
   have:its[i]?=some u':=by simpa using hP
   rw[hu] at this;cases this;rfl
  subst eu;refine⟨_,rfl,wpAny_letOwnedTupleGo_enum (s:={s with heap:=h1,toks:=tk+1}) ho λh2 he2 sb=>?_⟩;have Ld:h2.get? s.heap.objs.size=some {cls:=.type "tuple",data:=.seq #[.int i tk,u']}:=(sb.2 _ (vO (bW he))).trans hT;have kk:∀b o,b∉[e,it]->s.heap.get? b=some o->h2.get? b=some o:=λb o hb q=>(sb.2 b λz=>hb (by simp[z])).trans (hk b o (λz=>hb (by simp[z])) (λz=>hb (by simp[z])) q);have I2:=I.jm (t':=tk+1) (a:=s.heap.objs.size) (o:=.tup [.int i,x]) kk (λb hb=>hf b hb) (bT _) (show bF X.prog X.w _ h2 _ (.tup [.int i,x]) from ⟨by show 2<=sizeLine;decide,[.int i tk,u'],.cons ⟨_,rfl⟩ (.cons ru .nil),⟨_,Ld,rfl,_,rfl⟩⟩);have hn:H s.heap.objs.size=none:=I.hok.fresh (bT _);refine⟨.ref s.heap.objs.size,_,I2,rfl,⟨_,x,hn,rfl,rfl,λys hy=>by rw[I.jN hy hq];exact hx⟩,⟨⟨_,by simpa using he2⟩,Lg.1.keep λo q=>(sb.2 it Lf.symm).trans q⟩,λb hb=>?_⟩;have nb:b≠s.heap.objs.size:=by
   have:b=e\/b=it:=by simpa using hb
   rcases this with rfl|rfl
   ·exact fL (bW he)
   ·obtain⟨o,q,_⟩:=st.obj;exact fL (bW q)
  rw[dR nb];exact(hf b hb).1
 done:=by
  intro X hP hw hK hc i ak s Z H E I hf ⟨⟨old,he⟩,st⟩ hg;subst hP hw hK;obtain⟨xs,hq,hx⟩:=hg;obtain⟨its,rv,p⟩:=I.row hq;have hl:=rv.length;exact zfY (I.ok.hd hc) (jo.of kd RW) he ⟨st,p⟩ (by simp;lia) λh' eb=>⟨rfl,I.nq (t':=s.toks) (ch:=[e,it]) (λb o hb q=>eb b o (λz=>hb (by simp[z])) q) λb hb=>hf b hb⟩
 self:=λ_ _ _ _ _ ⟨⟨old,he⟩,_⟩ h=>wpAny_pyIter_enum he h
section
variable {X:Cx}
noncomputable def Cm(K:W.Frag)(ta:TA):TI:=λZ H R=>ta Z H λvs H1=>∃kd l xs,vs=[.ref l]/\Sk kd K H1 l xs/\R (Ite K kd l) H1
theorem zef:bootBuiltins "enumerate"=some (.type "enumerate"):=by decide +kernel
theorem zhD{a:Expr}{ta:TA}{p pos tpos:Pos}{elts:List Expr}{kk:Nat}(hg:Gl X "enumerate")(hm:X.mg "enumerate"=none)(ha:PA X [a] ta)(hs:starEach [a] X.env=[(false,eval a X.env)]:=by rfl):PI X (.Tuple elts kk tpos) (.Call (.Name "enumerate" p) [a] [] pos) (Cm X.K ta):=by
 intro ak s Z H R I h;refine Call_ (vZ I hg hm zef (zU (bf (ha pos ak s Z H _ I h) λus s1 ⟨vs,H1,I1,r1,q1⟩=>?_) hs rfl));obtain⟨kd,l,xs,e,hq,q⟩:=q1;subst e;cases r1 with
 |cons r rr=>
  cases rr;cases r;obtain⟨its,rv,p⟩:=I1.row hq;have hl:l<s1.heap.objs.size:=p.lt;refine callType_new F.called_enumerate Dc (F.typeCall_enumerate_1 _) (F.newCall_enumerate_1 _) (λobj=>F.args_object_init_2 obj _) F.entry_enumerate_new (zgn kd l its.toArray) ⟨p,?_⟩;have n1:(s1.heap.push (dW kd l)).objs.size=s1.heap.objs.size+1:=vL ..;have he:IsEnum ((s1.heap.push (dW kd l)).push {cls:=.type "enumerate",data:=.fields #[.none,.bool false,.ref s1.heap.objs.size,rawInt 0,.none,.none]}) (s1.heap.objs.size+1) s1.heap.objs.size 0 .none:=by
   have:=iu (s1.heap.push (dW kd l)) (o:={cls:=.type "enumerate",data:=.fields #[.none,.bool false,.ref s1.heap.objs.size,rawInt 0,.none,.none]}) rfl;rw[n1] at this;exact this
  show _/\_;rw[n1];refine⟨⟨_,he,rfl⟩,wpAny_pyIter_enum (s:={s1 with heap:=(s1.heap.push (dW kd l)).push {cls:=.type "enumerate",data:=.fields #[.none,.bool false,.ref s1.heap.objs.size,rawInt 0,.none,.none]}}) he ?_⟩;have rk:Rk kd s1.heap.objs.size l 0 ((s1.heap.push (dW kd l)).push {cls:=.type "enumerate",data:=.fields #[.none,.bool false,.ref s1.heap.objs.size,rawInt 0,.none,.none]}):=by
   cases kd
   ·exact⟨_,dz _ (iu _ rfl),rfl,rfl⟩
   ·exact⟨_,dz _ (iu _ rfl),rfl,rfl⟩
  refine⟨s1.heap.objs.size+1,[s1.heap.objs.size+1,s1.heap.objs.size],_,_,H1,rfl,I1.kept (t':=s1.toks) λb o x=>dz _ (dz _ x),zek (kd:=kd) (l:=l) (Nat.succ_ne_self _) (fL hl) (fL (yC hl)),⟨⟨_,he⟩,rk⟩,λb hb=>?_,q⟩;have:s1.heap.objs.size<=b:=by
   have:b=s1.heap.objs.size+1\/b=s1.heap.objs.size:=by simpa using hb
   rcases this with rfl|rfl
   ·exact Nat.le_succ _
   ·exact bT _
  exact I1.pB this (I1.hok.fresh this)
end
end L2
set_option genSizeOf false
set_option genInjectivity false
namespace Mi
open PySem
inductive D where
 |non|bl (b:Bool)|int (i:Int)|str (s:Str)|tup (xs:List D)|fl (xs:List D)|fd (ks vs:List D)|exc (c:Nat) (fs:List D)|ob (c:Nat) (fs:List D)|any
inductive Xv where
 |d (x:D)|l (n:Nat)
inductive Kx where
 |non|int (i:Int)|row (is:List Int)
deriving DecidableEq
inductive SO where
 |lst (xs:List D)
 |dct (kvs:List (List Kx×D))
noncomputable abbrev S:=List SO
inductive Rs (α:Type) where
 |ok (a:α)|er (c:Nat) (fs:List D)
noncomputable abbrev M(α:Type):=S->Option (Rs α×S)
noncomputable def M.ret{α:Type}(a:α):M α:=λs=>some (.ok a,s)
noncomputable def M.bd{α β:Type}(m:M α)(k:α->M β):M β:=λs=>match m s with
 |some (.ok a,s')=>k a s'
 |some (.er c f,s')=>some (.er c f,s')
 |none=>none
noncomputable def M.qt{α:Type}(m:M α):M α:=λs=>match m s with
 |some (.ok a,s')=>some (.ok a,s')
 |_=>none
noncomputable def M.no{α:Type}:M α:=λ_=>none
noncomputable def M.opt{α:Type}:Option α->M α
 |some a=>M.ret a
 |none=>M.no
inductive Rz where
 |dat (d:D)|nw (xs:List D)
inductive Pr where
 |add|ao|mul|fdiv|mod|pow|neg
 |eq|ne|lt|le|gt|ge|inn|nin
 |Cp|Cq
 |len|abs|max2|min2|Cr|Cu|Cv|RX|rY|divmod|all|sum|list|tuple|sorted|nu|wR|str1
 |ix|rev|RZ|Cw|mult|uJ
 |count|index|repr
inductive Kd where
 |int|bool|str|tuple|list|dict|cls (c:Nat)|n_
mutual
inductive E where
 |c (d:D)
 |v (i:Nat)
 |pr (fz:Bool) (p:Pr) (xs:Es)
 |uK (p q:Pr) (a b c:E)
 |ch3 (p q r:Pr) (a b c d:E)
 |and (a b:E)
 |or (a b:E)
 |not (a:E)
 |ite (c a b:E)
 |tup (xs:Es)
 |lst (fz:Bool) (xs:Es)
 |Cy (k:Str) (i:Int)
 |call (f:Nat) (xs:Es)
 |kE (a:E) (k:Kd)
 |sl (fz:Bool) (a:E) (lo hi:Eo)
 |meth (fz:Bool) (p:Pr) (k:Kd) (o:E) (xs:Es)
 |push (o a:E)
 |pop (o:E)
 |comp (fz:Bool) (elt:E) (tg:List Nat) (it:Wk) (fr:List Nat) (many:Nat) (cond:Eo)
 |Cz (fz:Bool) (elt:E) (tg:List Nat) (it:Wk) (R0:List Nat) (Cj:Wk) (fr:List Nat) (many:Nat) (cond:Eo)
 |fld (o:E) (cs:List Nat) (i:Nat)
 |of (o:E) (c i:Nat)
 |mk (c f:Nat) (xs:Es)
 |cm (c f:Nat) (o:E) (xs:Es)
 |Lh
 |din (b:Bool) (k d:E)
 |Li (d k:E)
 |tru (a:E)
 |CG (fz:Bool) (a:E) (b:E)
 |orv (a b:E)
 |ins (o i a:E)
 |no
inductive Wk where
 |seq (e:E)
 |rg (a b:E)
 |zip (a b:E)
 |enum (a:E)
 |rrg (a:E)
inductive Es where
 |nil
 |cons (a:E) (r:Es)
inductive Eo where
 |no
 |yes (a:E)
end
noncomputable abbrev Ea(a:E):Es:=.cons a .nil
noncomputable abbrev Eb(a b:E):Es:=.cons a (.cons b .nil)
noncomputable abbrev Ec(a b c:E):Es:=.cons a (.cons b (.cons c .nil))
noncomputable abbrev Ei(a b:E):E:=.pr true .ix (.cons a (.cons b .nil))
noncomputable abbrev Ci(i:Int):E:=.c (.int i)
noncomputable def Es.len:Es->Nat
 |.nil=>0
 |.cons _ r=>r.len+1
inductive Tg where
 |nm (i:Nat)
 |tp (is:List Nat)
 |ao (o i:E)
mutual
inductive St where
 |pass
 |ex (e:E)
 |asg (t:Tg) (e:E)
 |par (i j:Nat) (a b:E)
 |aug (i:Nat) (e:E)
 |ret (e:E)
 |rise (c:Nat) (kp:Bool) (xs:Es)
 |iff (c:E) (t e:bU)
 |wh (c:E) (b:bU)
 |fr (t:Tg) (w:Wk) (b:bU)
 |Lj (b:bU) (d:Nat) (i:Nat) (h:bU)
 |dput (d k v:E)
 |no
inductive bU where
 |nil
 |cons (a:St) (r:bU)
end
noncomputable def dJ(eq:D->D->Option Bool):List D->List D->Option Bool
 |[],[]=>some true
 |[],_::_=>some false
 |_::_,[]=>some false
 |x::xs,y::ys=>match eq x y,dJ eq xs ys with
  |some a,some b=>some (a&&b)
  |_,_=>none
noncomputable def kq:D->Option Nat
 |.non=>some 0
 |.bl _=>some 1
 |.int _=>some 1
 |.str _=>some 2
 |.tup _=>some 3
 |.fl _=>some 4
 |_=>none
noncomputable def cJ:Nat->D->D->Option Bool
 |n+1,.tup xs,.tup ys=>dJ (cJ n) xs ys
 |n+1,.fl xs,.fl ys=>dJ (cJ n) xs ys
 |_,.non,.non=>some true
 |_,.bl a,.bl b=>some (a==b)
 |_,.int a,.int b=>some (a==b)
 |_,.str a,.str b=>some (a==b)
 |_,.bl a,.int b=>some ((if a then 1 else 0)==b)
 |_,.int a,.bl b=>some (a==(if b then 1 else 0))
 |_,a,b=>match kq a,kq b with
  |some i,some j=>if i=j then none else some false
  |_,_=>none
noncomputable def dM:List D->Option (List Int)
 |[]=>some []
 |.int i::r=>(dM r).map (i::·)
 |_=>none
noncomputable def ltI:List Int->List Int->Bool
 |_,[]=>false
 |[],_::_=>true
 |x::xs,y::ys=>if x=y then ltI xs ys else decide (x<y)
noncomputable def fZ:List D->Option (List Bool)
 |[]=>some []
 |.bl b::r=>(fZ r).map (b::·)
 |_=>none
noncomputable def cut{α:Type}(xs:List α)(lo hi:Option Int):List α:=(xs.drop (HT.bB xs.length 0 lo)).take (HT.bB xs.length xs.length hi-HT.bB xs.length 0 lo)
noncomputable def jO:D->Option (List D)
 |.tup xs=>some xs
 |.fl xs=>some xs
 |_=>none
noncomputable def cutD(x:D)(lo hi:Option Int):Option Rz:=match x with
 |.tup xs=>some (.dat (.tup (cut xs lo hi)))
 |.fl xs=>some (.nw (cut xs lo hi))
 |_=>none
noncomputable def memD(d:D):List D->Option Bool
 |[]=>some false
 |x::r=>match cJ 50 x d,memD d r with
  |some a,some b=>some (a||b)
  |_,_=>none
noncomputable def CJ(d:D):List D->Nat
 |[]=>0
 |x::r=>CJ d r+(if cJ 50 x d=some true then 1 else 0)
noncomputable def wU:Kd->D->Bool
 |.list,.fl _=>true
 |.str,.str _=>true
 |.dict,.fd _ _=>true
 |_,_=>false
noncomputable def cM(f:Int->Int->Option D):List D->Option Rz
 |[.int i,.int j]=>(f i j).map .dat
 |_=>none
noncomputable def nA(f:Int->D):List D->Option Rz
 |[.int i]=>some (.dat (f i))
 |_=>none
noncomputable def rZ(f:List D->Option Rz):List D->Option Rz
 |[a]=>(jO a).bind f
 |_=>none
noncomputable def wV:List D->Option Rz
 |[.int i,.int j]=>some (.dat (.int (i+j)))
 |[.tup xs,.tup ys]=>if xs.length+ys.length<=sizeLine then some (.dat (.tup (xs++ys))) else none
 |[.fl xs,.fl ys]=>if xs.length+ys.length<=sizeLine then some (.nw (xs++ys)) else none
 |[.str x,.str y]=>if x.length+y.length<=sizeLine then some (.dat (.str (x++y))) else none
 |_=>none
noncomputable def CK:List D->Option Rz
 |[.int i,.int j]=>some (.dat (.bl (decide (i<j))))
 |[.tup xs,.tup ys]=>match dM xs,dM ys with
  |some a,some b=>some (.dat (.bl (ltI a b)))
  |_,_=>none
 |_=>none
noncomputable def uL(f:Bool->Bool):List D->Option Rz
 |[a,b]=>(cJ 50 a b).map λk=>.dat (.bl (f k))
 |_=>none
noncomputable def su(f:Bool->Bool):List D->Option Rz
 |[a,b]=>((jO b).bind (memD a)).map λk=>.dat (.bl (f k))
 |_=>none
noncomputable def D.uM:D->Bool
 |.non=>true
 |_=>false
noncomputable def wW(f:Bool->Bool):List D->Option Rz
 |[a]=>some (.dat (.bl (f a.uM)))
 |_=>none
noncomputable def CP:List D->Option Rz
 |[.int i]=>some (.dat (.int i))
 |[.bl k]=>some (.dat (.int (if k then 1 else 0)))
 |_=>none
noncomputable def wX:List D->Option Rz
 |[.fl xs]=>(fZ xs).map λbs=>.dat (.bl (bs.all id))
 |_=>none
noncomputable def jP:List D->Option (List Int)
 |[]=>some []
 |.int i::r=>(jP r).map (i::·)
 |_=>none
noncomputable def best(bt:Int->Int->Bool)(i:Int)(is:List Int):Int:=is.foldl (λm j=>if bt j m then j else m) i
noncomputable def CQ(bt:Int->Int->Bool):Option (List Int)->Option Rz
 |some (i::is)=>some (.dat (.int (best bt i is)))
 |_=>none
noncomputable def uN(bt:Int->Int->Bool):List D->Option Rz
 |[a]=>(jO a).bind λxs=>CQ bt (jP xs)
 |_=>none
noncomputable def okR(i j:Int):Bool:=decide (-(2^62)<=i/\i<2^62/\-(2^62)<=j/\j<2^62/\(j-i).toNat<=65536)
noncomputable def Ln(i:Int)(n:Nat):List D:=(List.range n).map λk=>.int (i+(k:Nat))
noncomputable def Lp:List D->Option Rz
 |[.int j]=>if okR 0 j then some (.nw (Ln 0 (j-0).toNat)) else none
 |[.int i,.int j]=>if okR i j then some (.nw (Ln i (j-i).toNat)) else none
 |_=>none
noncomputable def Lq:List D->Option Rz
 |[.int j]=>if okR 0 j then some (.dat (.tup (Ln 0 (j-0).toNat))) else none
 |_=>none
noncomputable def mH:List D->Option Rz
 |[a]=>(jO a).map λxs=>.dat (.tup xs)
 |_=>none
noncomputable def Lr:List D->Option Rz
 |[a,.int i]=>((jO a).bind λxs=>L2.m9 xs i).map .dat
 |_=>none
noncomputable def jf:List D->List D->Option Bool
 |[],ys=>some (decide (0<ys.length))
 |_::_,[]=>some false
 |.int x::xs,.int y::ys=>if x=y then jf xs ys else some (decide (x<y))
 |_::_,_::_=>none
noncomputable def pI(xs:List D)(i j:Nat):Option Bool:=match xs[i]?,xs[j]? with
 |some (.int x),some (.int y)=>some (decide (x<y))
 |some (.tup us),some (.tup ws)=>jf us ws
 |_,_=>none
noncomputable def uO(b:List Int):List (List Int)->List Int
 |[]=>b
 |x::r=>uO (if ltI x b=true then x else b) r
noncomputable def uP:List D->Option (List (List Int))
 |[]=>some []
 |.tup xs::r=>match dM xs,uP r with
  |some a,some b=>some (a::b)
  |_,_=>none
 |_=>none
noncomputable def CT:List D->Option Rz
 |[.fl xs]=>match uP xs with
  |some (x::r)=>some (.dat (.tup ((uO x r).map .int)))
  |_=>none
 |_=>none
noncomputable def gJ:D->Bool
 |.int _=>true
 |_=>false
noncomputable def fj:D->Bool
 |.tup (.int _::_)=>true
 |_=>false
noncomputable def lG(lt:Nat->Nat->Option Bool)(xs:List D):Option (List D):=if xs.length<2 then some xs else if xs.length<64 then (match L2.aZ lt (PySem.W.kas_sort xs.length) with
  |some p=>if p.size=xs.length then some (p.toList.map λi=>xs.getD i .non) else none
  |none=>none) else none
noncomputable def pJ(xs:List D):Option (List D):=if xs.all gJ||xs.all fj then lG (pI xs) xs else none
noncomputable def jQ:List D->Option Rz
 |[.fl xs]=>(pJ xs).map .nw
 |_=>none
noncomputable def ltK(ks:List Int)(i j:Nat):Option Bool:=match ks[i]?,ks[j]? with
 |some x,some y=>some (decide (x<y))
 |_,_=>none
noncomputable def Ls:List D->Option Rz
 |[.tup xs]=>some (.dat (.tup xs.reverse))
 |_=>none
noncomputable def wY:List D->Option Rz
 |[.fl xs,d]=>(memD d xs).map λ_=>.dat (.int (CJ d xs:Nat))
 |_=>none
noncomputable def wZ:List D->Option Rz
 |[.fl xs,.bl b]=>((fZ xs).bind λbs=>bs.idxOf? b).map λ(i:Nat)=>.dat (.int i)
 |_=>none
noncomputable def Lw:List D->Option Rz
 |[.int i]=>if i.natAbs<2^62 then some (.dat (.str (Str.ofString (toString i)))) else none
 |_=>none
noncomputable def Lx(f:D->Option PyData):List D->Option (List PyData)
 |[]=>some []
 |x::r=>match f x,Lx f r with
  |some a,some b=>some (a::b)
  |_,_=>none
noncomputable def pd:Nat->D->Option PyData
 |n+1,.tup xs=>(Lx (pd n) xs).map .tuple
 |n+1,.fl xs=>(Lx (pd n) xs).map .list
 |_,.non=>some .none
 |_,.bl b=>some (.bool b)
 |_,.int i=>some (.int i)
 |_,.str x=>some (.str x)
 |_,_=>none
noncomputable def pdT:D->Option PyData
 |.fd [.str k] [.int i]=>some (.dict [(.str k,.int i)])
 |x=>pd 40 x
noncomputable def shw(d:PyData):Option Rz:=if d.showable=true/\d.shown.length<=sizeLine then some (.dat (.str d.shown)) else none
noncomputable def CV:List D->Option Rz
 |[x]=>(pdT x).bind shw
 |_=>none
noncomputable def uQ:List (Int×Int):=[(0,1),(0,2),(0,3),(0,4),(0,5),(0,6),(0,7),(1,2),(1,3),(1,4),(1,5),(1,6),(1,7),(2,3),(2,4),(2,5),(2,6),(2,7),(3,4),(3,5),(3,6),(3,7),(4,5),(4,6),(4,7),(5,6),(5,7),(6,7)]
noncomputable def ss(ts:List (Int×Int)):List (Int×Int):=uQ.filter λt=>ts.contains t
noncomputable def Ly:D->Option (Int×Int)
 |.tup [.int a,.int b]=>if 0<=a/\a<b/\b<8 then some (a,b) else none
 |_=>none
noncomputable def uR:List D->Option (List (Int×Int))
 |[]=>some []
 |x::r=>match Ly x,uR r with
  |some a,some b=>some (a::b)
  |_,_=>none
noncomputable def pSs:List D->Option Rz
 |[.tup xs]=>(uR xs).map λts=>.nw ((ss ts).map λp=>.tup [.int p.1,.int p.2])
 |_=>none
noncomputable def CW(is:List Int):Bool:=decide (is.length<=1000)&&is.all λi=>decide (-1000000<=i/\i<=1000000)
noncomputable def Lz(is:List Int):Option Rz:=match CW is with
 |true=>some (.dat (.int is.sum))
 |false=>none
noncomputable def LC:List D->Option Rz
 |[a]=>(jO a).bind λxs=>(jP xs).bind Lz
 |_=>none
noncomputable def jR:List Int->List Int
 |[]=>[]
 |x::r=>if r.contains x then jR r else x::jR r
noncomputable def CZ:List D->Option Rz
 |[.tup xs]=>(jP xs).map λis=>.dat (.int (jR is).length)
 |_=>none
noncomputable def rep{α:Type}(xs:List α)(n:Nat):List α:=(List.replicate n xs).flatten
noncomputable def C_:List D->Option Rz
 |[.fl xs,.int n]=>if 0<=n/\n<=1000/\xs.length<=1000 then some (.nw (rep xs n.toNat)) else none
 |_=>none
noncomputable def xg:List D->Option Rz
 |[.tup xs]=>if xs.all gJ=true then (pJ xs).map .nw else none
 |_=>none
noncomputable def Dg:List D->Option Rz
 |[.tup xs,.int n]=>if 1<=n/\n<=1000/\1<=xs.length/\xs.length<=1000 then some (.dat (.tup (rep xs n.toNat))) else none
 |_=>none
noncomputable def Dh:D->Option Bool
 |.non=>some false
 |.bl b=>some b
 |.int i=>some (i != 0)
 |.tup xs=>some (!xs.isEmpty)
 |.fl xs=>some (!xs.isEmpty)
 |_=>none
noncomputable def prim:Pr->List D->Option Rz
 |.add=>wV
 |.ao=>cM λi j=>some (.int (i-j))
 |.mul=>cM λi j=>if (-(2^64)<i/\i<2^64)\/(-(2^64)<j/\j<2^64) then some (.int (i*j)) else none
 |.fdiv=>cM λi j=>if 0<j/\j<1073741824 then some (.int (i/j)) else none
 |.mod=>cM λi j=>if 0<j then some (.int (i%j)) else none
 |.pow=>cM λi j=>if 0<=j/\j<=1000000/\i.natAbs<2^64 then some (.int (i^j.toNat)) else none
 |.neg=>nA λi=>.int (-i)
 |.eq=>uL id
 |.ne=>uL not
 |.lt=>CK
 |.le=>cM λi j=>some (.bl (decide (i<=j)))
 |.gt=>cM λi j=>some (.bl (decide (j<i)))
 |.ge=>cM λi j=>some (.bl (decide (j<=i)))
 |.inn=>su id
 |.nin=>su not
 |.Cp=>wW id
 |.Cq=>wW not
 |.len=>rZ λxs=>some (.dat (.int xs.length))
 |.abs=>nA λi=>.int (if i<0 then -i else i)
 |.max2=>cM λi j=>some (.int (if j>i then j else i))
 |.min2=>cM λi j=>some (.int (if j<i then j else i))
 |.rY=>CP
 |.divmod=>cM λi j=>if 0<j/\j<1073741824 then some (.tup [.int (i/j),.int (i%j)]) else none
 |.all=>wX
 |.RZ=>Lp
 |.Cr=>uN λa b=>decide (a>b)
 |.Cu=>uN λa b=>decide (a<b)
 |.Cv=>CT
 |.RX=>Lq
 |.list=>rZ λxs=>some (.nw xs)
 |.tuple=>mH
 |.ix=>Lr
 |.rev=>Ls
 |.sorted=>jQ
 |.nu=>pSs
 |.Cw=>C_
 |.mult=>Dg
 |.uJ=>xg
 |.sum=>LC
 |.wR=>CZ
 |.count=>wY
 |.index=>wZ
 |.repr=>CV
 |.str1=>Lw
noncomputable def jq(ao:Nat->Nat->Bool):D->Kd->Option Bool
 |.exc c _,.cls e=>some (ao c e)
 |.exc _ _,.n_=>some true
 |.exc _ _,_=>none
 |.ob _ _,_=>none
 |.any,_=>none
 |_,.cls _=>none
 |_,.n_=>none
 |.bl _,.bool=>some true
 |.bl _,.int=>some true
 |.bl _,_=>some false
 |.int _,.int=>some true
 |.int _,_=>some false
 |.non,_=>some false
 |.str _,.str=>some true
 |.str _,_=>some false
 |.tup _,.tuple=>some true
 |.tup _,_=>some false
 |.fl _,.list=>some true
 |.fl _,_=>some false
 |.fd _ _,.dict=>some true
 |.fd _ _,_=>some false
noncomputable def rd(x:Xv):M D:=λs=>match x with
 |.d v=>some (.ok v,s)
 |.l n=>match s[n]? with
  |some (.lst xs)=>some (.ok (.fl xs),s)
  |_=>none
noncomputable def fM:List Xv->M (List D)
 |[]=>M.ret []
 |x::r=>M.bd (rd x) λd=>M.bd (fM r) λds=>M.ret (d::ds)
noncomputable def dat(x:Xv):M D:=match x with
 |.d v=>M.ret v
 |.l _=>M.no
noncomputable def fu:List Xv->M (List D)
 |[]=>M.ret []
 |x::r=>M.bd (dat x) λd=>M.bd (fu r) λds=>M.ret (d::ds)
noncomputable def bool(x:Xv):M Bool:=match x with
 |.d (.bl b)=>M.ret b
 |_=>M.no
noncomputable def int(x:Xv):M Int:=match x with
 |.d (.int b)=>M.ret b
 |_=>M.no
noncomputable def newL(fz:Bool)(xs:List D):M Xv:=match fz with
 |true=>M.ret (.d (.fl xs))
 |false=>λs=>some (.ok (.l s.length),s++[.lst xs])
noncomputable def bV(fz:Bool)(o:Option Rz):M Xv:=match o with
 |some (.dat d)=>M.ret (.d d)
 |some (.nw xs)=>newL fz xs
 |none=>M.no
noncomputable def bY(x:Xv):M (Nat×List D):=λs=>match x with
 |.l n=>match s[n]? with
  |some (.lst xs)=>some (.ok (n,xs),s)
  |_=>none
 |_=>none
noncomputable def putL(n:Nat)(xs:List D):M Unit:=λs=>some (.ok (),s.set n (.lst xs))
noncomputable def LQ:D->Option Kx
 |.non=>some .non
 |.int i=>some (.int i)
 |.tup xs=>(dM xs).map .row
 |_=>none
noncomputable def R3:List D->Option (List Kx)
 |[]=>some []
 |x::r=>match LQ x,R3 r with
  |some a,some b=>some (a::b)
  |_,_=>none
noncomputable def kOf:D->Option (List Kx)
 |.tup xs=>R3 xs
 |_=>none
noncomputable abbrev qK:=List (List Kx×D)
noncomputable def sy(k:List Kx):qK->Option D
 |[]=>none
 |p::r=>if p.1=k then some p.2 else sy k r
noncomputable def LR(k:List Kx)(d:D)(r:qK):qK:=if (sy k r).isSome=true then r.map λp=>if p.1=k then (p.1,d) else p else r++[(k,d)]
noncomputable def pK(x:Xv):M (Nat×qK):=λs=>match x with
 |.l n=>match s[n]? with
  |some (.dct kvs)=>some (.ok (n,kvs),s)
  |_=>none
 |_=>none
noncomputable def putD(n:Nat)(kvs:qK):M Unit:=λs=>some (.ok (),s.set n (.dct kvs))
noncomputable def key(x:Xv):M (List Kx):=match x with
 |.d v=>M.opt (kOf v)
 |.l _=>M.no
noncomputable def enumFrom:Nat->List D->List D
 |_,[]=>[]
 |i,x::r=>.tup [.int i,x]::enumFrom (i+1) r
inductive Src where
 |fix (xs:List D)|live (n:Nat)|jr (n:Nat)
noncomputable def Src.at(c:Src)(i:Nat)(s:S):Option (Option D):=match c with
 |.fix xs=>some xs[i]?
 |.live n=>match s[n]? with
  |some (.lst xs)=>some xs[i]?
  |_=>none
 |.jr n=>match s[n]? with
  |some (.lst xs)=>some (xs[i]?.map λx=>.tup [.int i,x])
  |_=>none
noncomputable def nD(x:Xv):M (Src×Nat):=λs=>match x with
 |.d (.tup xs)=>some (.ok (.fix (enumFrom 0 xs),(enumFrom 0 xs).length),s)
 |.d (.fl xs)=>some (.ok (.fix (enumFrom 0 xs),(enumFrom 0 xs).length),s)
 |.l n=>match s[n]? with
  |some (.lst xs)=>some (.ok (.jr n,xs.length),s)
  |_=>none
 |_=>none
noncomputable def src(x:Xv):M (Src×Nat):=λs=>match x with
 |.d (.tup xs)=>some (.ok (.fix xs,xs.length),s)
 |.d (.fl xs)=>some (.ok (.fix xs,xs.length),s)
 |.l n=>match s[n]? with
  |some (.lst xs)=>some (.ok (.live n,xs.length),s)
  |_=>none
 |_=>none
noncomputable def mJ(x:Xv):M (List D):=match x with
 |.d (.tup xs)=>M.ret xs
 |.d (.fl xs)=>M.ret xs
 |_=>M.no
noncomputable def gK(a b:Int):List D:=(List.range (b-a).toNat).map λ(i:Nat)=>.int (a+i)
noncomputable def dN(a:Int):Bool:=decide (-(2^62)<a)&&decide (a<2^62)
noncomputable def walk(c:Src)(f:D->List D->M (List D)):Nat->Nat->List D->M (List D)
 |0,_,_=>M.no
 |k+1,i,acc=>λs=>match c.at i s with
  |none=>none
  |some none=>some (.ok acc,s)
  |some (some x)=>M.bd (f x acc) (λacc'=>walk c f k (i+1) acc') s
noncomputable def uU(f:D->M Xv):List D->Option (List Int)
 |[]=>some []
 |x::r=>match f x [] with
  |some (.ok (.d (.int k)),[])=>(uU f r).map (k::·)
  |_=>none
noncomputable abbrev Vs:=List (Option Xv)
noncomputable abbrev Fn:=Nat->List Xv->M Xv
noncomputable def locs:List Xv->List Nat
 |[]=>[]
 |.d _::r=>locs r
 |.l n::r=>n::locs r
noncomputable def cO:Nat->List Xv->List Xv
 |_,[]=>[]
 |k,.d v::r=>.d v::cO k r
 |k,.l _::r=>.l k::cO (k+1) r
noncomputable def f9(s:S):List Nat->Option S
 |[]=>some []
 |n::r=>match s[n]?,f9 s r with
  |some o,some q=>some (o::q)
  |_,_=>none
noncomputable def bZ(s:S):List Nat->S->S
 |n::r,o::q=>bZ (s.set n o) r q
 |_,_=>s
noncomputable def bJ(F:List Xv->M Xv)(xs:List Xv):M Xv:=λs=>
 if (locs xs).Nodup then match f9 s (locs xs) with
  |none=>none
  |some s0=>match F (cO 0 xs) s0 with
   |none=>none
   |some (.er c fs,s1)=>some (.er c fs,bZ s (locs xs) s1)
   |some (.ok (.d v),s1)=>some (.ok (.d v),bZ s (locs xs) s1)
   |some (.ok (.l n),s1)=>match (locs xs)[n]? with
    |some m=>some (.ok (.l m),bZ s (locs xs) s1)
    |none=>match s1[n]? with
     |some o=>some (.ok (.l s.length),bZ s (locs xs) s1++[o])
     |none=>none
 else none
noncomputable def mkW(F:List Xv->M Xv)(c:Nat)(vs:List Xv):M Xv:=λs=>
 if locs vs=[] then match F (.d .any::vs) [] with
  |some (.ok (.d (.tup ds)),_)=>some (.ok (.d (.ob c ds)),s)
  |_=>none
 else none
noncomputable def Di(c:Nat)(x:Xv):M (List D):=match x with
 |.d (.ob e fs)=>if e=c then M.ret fs else M.no
 |_=>M.no
noncomputable def fB{α:Type}:List Nat->List α->List (Option α)->Option (List (Option α))
 |[],[],J=>some J
 |i::is,d::ds,J=>fB is ds (J.set i (some d))
 |_,_,_=>none
noncomputable def jt:D->Option (List D)
 |.tup xs=>some xs
 |_=>none
noncomputable def eG(tg:List Nat)(x:D)(J:Vs):Option Vs:=match tg with
 |[i]=>some (J.set i (some (.d x)))
 |is=>(jt x).bind λds=>fB is (ds.map .d) J
noncomputable def blk(many:Nat)(fr:List Nat)(J:Vs):Vs:=List.replicate many none++fr.map λj=>J[j]?.join
section
variable (ao:Nat->Nat->Bool)(aj:Bool)(F:Fn)
mutual
noncomputable def ev:E->Vs->M Xv
 |.c d,_=>M.ret (.d d)
 |.v i,J=>M.opt (J[i]?.join)
 |.pr fz p xs,J=>M.bd (evs xs J) λvs=>M.bd (fM vs) λds=>bV fz (prim p ds)
 |.uK p q a b c,J=>M.bd (ev a J) λx=>M.bd (ev b J) λy=>M.bd (fM [x,y]) λds=>M.bd (bV true (prim p ds)) λt=>M.bd (bool t) λk=>
   if k=true then M.bd (ev c J) λz=>M.bd (fM [y,z]) λds=>bV true (prim q ds) else M.ret (.d (.bl false))
 |.ch3 p q r a b c d,J=>M.bd (ev a J) λx=>M.bd (ev b J) λy=>M.bd (fM [x,y]) λds=>M.bd (bV true (prim p ds)) λt=>M.bd (bool t) λk=>
   if k=true then M.bd (ev c J) λz=>M.bd (fM [y,z]) λds=>M.bd (bV true (prim q ds)) λt=>M.bd (bool t) λk2=>
    if k2=true then M.bd (ev d J) λw=>M.bd (fM [z,w]) λds=>bV true (prim r ds) else M.ret (.d (.bl false))
   else M.ret (.d (.bl false))
 |.and a b,J=>M.bd (ev a J) λx=>M.bd (bool x) λk=>if k=true then ev b J else M.ret (.d (.bl false))
 |.or a b,J=>M.bd (ev a J) λx=>M.bd (bool x) λk=>if k=true then M.ret (.d (.bl true)) else ev b J
 |.not a,J=>M.bd (ev a J) λx=>M.bd (bool x) λk=>M.ret (.d (.bl (!k)))
 |.ite c a b,J=>M.bd (ev c J) λx=>M.bd (bool x) λk=>if k=true then ev a J else ev b J
 |.tup xs,J=>M.bd (evs xs J) λvs=>M.bd (fu vs) λds=>M.ret (.d (.tup ds))
 |.lst fz xs,J=>M.bd (evs xs J) λvs=>M.bd (fu vs) λds=>newL fz ds
 |.Cy k i,_=>M.ret (.d (.fd [.str k] [.int i]))
 |.call f xs,J=>M.bd (evs xs J) λvs=>bJ (F f) vs
 |.kE a k,J=>M.bd (ev a J) λx=>M.bd (rd x) λd=>M.bd (M.opt (jq ao d k)) λb=>M.ret (.d (.bl b))
 |.sl fz a lo hi,J=>M.bd (ev a J) λx=>M.bd (sE lo J) λl=>M.bd (sE hi J) λh=>M.bd (rd x) λd=>bV fz (cutD d l h)
 |.meth fz p k o xs,J=>M.bd (ev o J) λx=>M.bd (rd x) λd=>if wU k d=true then M.bd (evs xs J) λys=>M.bd (fM (x::ys)) λds=>bV fz (prim p ds) else M.no
 |.push o a,J=>M.bd (ev o J) λx=>M.bd (bY x) λ_=>M.bd (ev a J) λy=>M.bd (dat y) λd=>M.bd (bY x) λnx=>if nx.2.length<sizeLine then M.bd (putL nx.1 (nx.2++[d])) λ_=>M.ret (.d .non) else M.no
 |.pop o,J=>M.bd (ev o J) λx=>M.bd (bY x) λnx=>match nx.2.getLast? with
   |some d=>M.bd (putL nx.1 nx.2.dropLast) λ_=>M.ret (.d d)
   |none=>M.no
 |.comp fz elt tg it fr many cond,J=>if aj=true then M.bd (jT it J) λcn=>
   M.bd (walk cn.1 (λd acc=>M.bd (M.opt (eG tg d (blk many fr J))) λJ'=>M.bd (M.qt (nF cond J')) λok=>
    if ok=true then M.bd (M.qt (ev elt J')) λy=>M.bd (dat y) λe=>if acc.length<sizeLine then M.ret (acc++[e]) else M.no else M.ret acc) (cn.2+1) 0 []) λxs=>newL fz xs
  else M.no
 |.Cz fz elt tg it R0 Cj fr many cond,J=>if aj=true then M.bd (jT it J) λcn=>
   M.bd (walk cn.1 (λd acc=>M.bd (M.opt (eG tg d (blk many fr J))) λJ'=>M.bd (M.qt (jT Cj J')) λR4=>
    walk R4.1 (λd2 acc=>M.bd (M.opt (eG R0 d2 J')) λR5=>M.bd (M.qt (nF cond R5)) λok=>
     if ok=true then M.bd (M.qt (ev elt R5)) λy=>M.bd (dat y) λe=>if acc.length<sizeLine then M.ret (acc++[e]) else M.no else M.ret acc) (R4.2+1) 0 acc) (cn.2+1) 0 []) λxs=>newL fz xs
  else M.no
 |.fld o cs i,J=>M.bd (ev o J) λx=>match x with
   |.d (.exc c fs)=>if cs.contains c=true then M.opt (fs[i]?.map .d) else M.no
   |_=>M.no
 |.of o c i,J=>M.bd (ev o J) λx=>M.bd (Di c x) λfs=>M.opt (fs[i]?.map .d)
 |.mk c f xs,J=>M.bd (evs xs J) λvs=>mkW (F f) c vs
 |.cm c f o xs,J=>M.bd (ev o J) λx=>M.bd (Di c x) λ_=>M.bd (evs xs J) λvs=>M.qt (bJ (F f) (x::vs))
 |.Lh,_=>λs=>some (.ok (.l s.length),s++[.dct []])
 |.din b k d,J=>M.bd (ev k J) λx=>M.bd (ev d J) λy=>M.bd (key x) λkx=>M.bd (pK y) λnk=>M.ret (.d (.bl ((sy kx nk.2).isSome==b)))
 |.Li d k,J=>M.bd (ev d J) λy=>M.bd (ev k J) λx=>M.bd (key x) λkx=>M.bd (pK y) λnk=>M.opt ((sy kx nk.2).map .d)
 |.tru a,J=>M.bd (ev a J) λx=>M.bd (rd x) λd=>M.bd (M.opt (Dh d)) λk=>M.ret (.d (.bl k))
 |.CG fz a b,J=>if aj=true then M.bd (ev a J) λx=>match x with
   |.d (.fl xs)=>M.bd (M.opt (uU (λd=>ev b [some (.d d)]) xs)) λks=>M.bd (M.opt (lG (ltK ks) xs)) λys=>newL fz ys
   |_=>M.no else M.no
 |.orv a b,J=>M.bd (ev a J) λx=>M.bd (rd x) λd=>M.bd (M.opt (Dh d)) λk=>if k=true then M.ret x else ev b J
 |.ins o i a,J=>M.bd (ev o J) λx=>M.bd (bY x) λ_=>M.bd (ev i J) λz=>M.bd (int z) λj=>M.bd (ev a J) λy=>M.bd (dat y) λd=>M.bd (bY x) λnx=>if 0<=j/\j<=nx.2.length/\nx.2.length<sizeLine then M.bd (putL nx.1 (nx.2.take j.toNat++d::nx.2.drop j.toNat)) λ_=>M.ret (.d .non) else M.no
 |.no,_=>M.no
noncomputable def jT:Wk->Vs->M (Src×Nat)
 |.seq e,J=>M.bd (ev e J) src
 |.rg a b,J=>M.bd (ev a J) λx=>M.bd (ev b J) λy=>M.bd (int x) λi=>M.bd (int y) λj=>if dN i&&dN j then M.ret (.fix (gK i j),(gK i j).length) else M.no
 |.zip a b,J=>M.bd (ev a J) λx=>M.bd (ev b J) λy=>M.bd (mJ x) λxs=>M.bd (mJ y) λys=>M.ret (.fix (List.zipWith (λp q=>.tup [p,q]) xs ys),(List.zipWith (λ(p q:D)=>D.tup [p,q]) xs ys).length)
 |.enum a,J=>M.bd (ev a J) nD
 |.rrg a,J=>M.bd (ev a J) λx=>M.bd (int x) λi=>if dN i then M.ret (.fix (gK 0 i).reverse,(gK 0 i).length) else M.no
noncomputable def sE:Eo->Vs->M (Option Int)
 |.no,_=>M.ret none
 |.yes a,J=>M.bd (ev a J) λx=>M.bd (int x) λi=>M.ret (some i)
noncomputable def nF:Eo->Vs->M Bool
 |.no,_=>M.ret true
 |.yes a,J=>M.bd (ev a J) bool
noncomputable def evs:Es->Vs->M (List Xv)
 |.nil,_=>M.ret []
 |.cons a r,J=>M.bd (ev a J) λx=>M.bd (evs r J) λxs=>M.ret (x::xs)
end
end
inductive Out where
 |nx (J:Vs)|rt (x:Xv)|bk (J:Vs)|ct (J:Vs)|er (c:Nat) (fs:List D) (J:Vs)
noncomputable abbrev MS:=S->Option (Out×S)
noncomputable def ofM{α:Type}(m:M α)(J:Vs)(k:α->MS):MS:=λs=>match m s with
 |some (.ok a,s')=>k a s'
 |some (.er c fs,s')=>some (.er c fs J,s')
 |none=>none
noncomputable def cC(m:MS)(k:Vs->MS):MS:=λs=>match m s with
 |some (.nx J,s')=>k J s'
 |r=>r
section
variable (ao:Nat->Nat->Bool)
noncomputable def store(aj:Bool)(F:Fn)(t:Tg)(x:Xv)(J:Vs):MS:=match t with
 |.nm i=>λs=>some (.nx (J.set i (some x)),s)
 |.tp is=>if aj=true then ofM (M.bd (dat x) λd=>M.opt ((jt d).bind λds=>fB is (ds.map .d) J)) J (λJ' s=>some (.nx J',s)) else λ_=>none
 |.ao o i=>ofM (M.bd (dat x) λd=>M.bd (ev ao aj F o J) λy=>M.bd (ev ao aj F i J) λz=>M.bd (int z) λj=>M.bd (bY y) λnx=>
   match L2.oK nx.2.length j with
   |some q=>putL nx.1 (nx.2.set q d)
   |none=>M.no) J (λ_ s=>some (.nx J,s))
noncomputable def fC(c:Vs->M Bool)(b:Vs->MS):Nat->Vs->MS
 |0,_=>λ_=>none
 |k+1,J=>ofM (c J) J λok=>if ok=true then λs=>match b J s with
   |some (.nx J',s')=>fC c b k J' s'
   |some (.ct J',s')=>fC c b k J' s'
   |some (.bk J',s')=>some (.nx J',s')
   |r=>r
  else λs=>some (.nx J,s)
noncomputable def cg(c:Src)(b:D->Vs->MS):Nat->Nat->Vs->MS
 |0,_,_=>λ_=>none
 |k+1,i,J=>λs=>match c.at i s with
  |none=>none
  |some none=>some (.nx J,s)
  |some (some d)=>match b d J s with
   |some (.nx J',s')=>cg c b k (i+1) J' s'
   |some (.ct J',s')=>cg c b k (i+1) J' s'
   |some (.bk J',s')=>some (.nx J',s')
   |r=>r
noncomputable def goes(i:Nat):Out->Out
 |.nx J=>.nx (J.set i none)
 |.bk J=>.bk (J.set i none)
 |.ct J=>.ct (J.set i none)
 |r=>r
noncomputable def iM:Nat:=1000000000000
mutual
noncomputable def ex(aj:Bool)(F:Bool->Fn):St->Vs->MS
 |.pass,J=>λs=>some (.nx J,s)
 |.ex e,J=>ofM (ev ao aj (F aj) e J) J λ_ s=>some (.nx J,s)
 |.asg t e,J=>ofM (ev ao aj (F aj) e J) J λx=>store ao aj (F aj) t x J
 |.par i j a b,J=>if aj=true then ofM (M.bd (ev ao aj (F aj) a J) λx=>M.bd (ev ao aj (F aj) b J) λy=>M.ret (x,y)) J λxy s=>some (.nx ((J.set i (some xy.1)).set j (some xy.2)),s) else λ_=>none
 |.aug i e,J=>ofM (M.bd (M.opt (J[i]?.join)) λx=>M.bd (ev ao aj (F aj) e J) λy=>M.bd (int x) λp=>M.bd (int y) λq=>M.ret (p+q)) J λr s=>some (.nx (J.set i (some (.d (.int r)))),s)
 |.ret e,J=>ofM (ev ao aj (F aj) e J) J λx s=>some (.rt x,s)
 |.rise c kp xs,J=>if aj=true then ofM (M.bd (evs ao aj (F aj) xs J) fu) J λds s=>some (.er c (if kp=true then ds else []) J,s) else λ_=>none
 |.iff c t e,J=>ofM (M.bd (ev ao aj (F aj) c J) bool) J λb=>if b=true then exs aj F t J else exs aj F e J
 |.wh c b,J=>fC (λJ=>M.bd (ev ao aj (F aj) c J) bool) (λJ=>exs aj F b J) iM J
 |.fr t w b,J=>if aj=true then ofM (jT ao aj (F aj) w J) J λcn=>cg cn.1 (λd J=>cC (store ao aj (F aj) t (.d d) J) λJ'=>exs aj F b J') (cn.2+1) 0 J else λ_=>none
 |.Lj b d i h,J=>if aj=true then λs=>match exs aj F b J s with
   |some (.er c fs J',s')=>if ao c d=true then (match exs false F h (J'.set i (some (.d (.exc c fs)))) s' with
    |some (r,s'')=>(match r with
     |.er _ _ _=>none
     |r=>some (goes i r,s''))
    |none=>none) else none
   |r=>r
  else λ_=>none
 |.dput d k v,J=>ofM (M.bd (ev ao aj (F aj) v J) λz=>M.bd (dat z) λw=>M.bd (ev ao aj (F aj) d J) λy=>M.bd (ev ao aj (F aj) k J) λx=>M.bd (key x) λkx=>M.bd (pK y) λnk=>if nk.2.length<sizeLine then putD nk.1 (LR kx w nk.2) else M.no) J (λ_ s=>some (.nx J,s))
 |.no,_=>λ_=>none
noncomputable def exs(aj:Bool)(F:Bool->Fn):bU->Vs->MS
 |.nil,J=>λs=>some (.nx J,s)
 |.cons a r,J=>cC (ex aj F a J) λJ'=>exs aj F r J'
end
structure Df where
 many:Nat
 g_:Nat
 body:bU
noncomputable def call(T:Nat->Option Df):Nat->Bool->Fn
 |0,_,_,_=>M.no
 |k+1,aj,f,xs=>match T f with
  |none=>M.no
  |some d=>if xs.length=d.g_ then λs=>match exs ao aj (λc=>call T k c) d.body (xs.map some++List.replicate (d.many-d.g_) none) s with
    |some (.nx _,s')=>some (.ok (.d .non),s')
    |some (.rt v,s')=>some (.ok v,s')
    |some (.er c fs _,s')=>some (.er c fs,s')
    |_=>none
   else M.no
end
end Mi
namespace Mi
open PySem L2
structure Ph where
 z:Addr->Prop
 l:List Addr
structure Cl where
 a:Nat->Addr
 f:Nat->List Str
 b:Nat->Addr
 g:Nat->List Str
section
variable (K:W.Frag)(cA:Cl)
def KT(a:Addr)(vs:List V):Prop:=gF K (λ_=>none) a vs
def KL(a:Addr)(vs:List V):Prop:=cW K (λ_=>none) a vs
def TupAt(U:Ph)(H:Hp)(a:Addr)(vs:List V):Prop:=(Rd H a (.tup vs)/\¬U.z a)\/KT K a vs
def LstAt(U:Ph)(H:Hp)(a:Addr)(vs:List V):Prop:=(Rd H a (.lst vs)/\¬U.z a)\/KL K a vs
def ExcAt(U:Ph)(H:Hp)(a:Addr)(c:Nat)(vs:List V):Prop:=¬U.z a/\((cA.f c=[]/\vs=[]/\H a=some (rT a (cA.a c) none))\/∃dx,H a=some (rT a (cA.a c) (some dx))/\¬U.z dx/\H dx=some (.xd ((cA.f c).zip vs))/\(cA.f c).length=vs.length)
def mK(U:Ph)(H:Hp)(a:Addr)(c:Nat)(vs:List V):Prop:=¬U.z a/\∃dx,H a=some (.ins (cA.b c) dx ((cA.g c).zip vs))/\(cA.g c).length=vs.length
mutual
inductive Rep (U:Ph) (H:Hp):D->V->Prop where
 |non:Rep U H .non .non
 |bl (b:Bool):Rep U H (.bl b) (.bl b)
 |int (i:Int):Rep U H (.int i) (.int i)
 |str (x:Str):Rep U H (.str x) (.str x)
 |tup {a:Addr} {xs:List D} {vs:List V} (h:TupAt K U H a vs) (r:aB U H xs vs):Rep U H (.tup xs) (.ref a)
 |fl {a:Addr} {xs:List D} {vs:List V} (h:LstAt K U H a vs) (r:aB U H xs vs):Rep U H (.fl xs) (.ref a)
 |fd {a:Addr} {k:Str} {i:Int} (h:H a=some (.dK [(.inr k,.int i)])) (n:¬U.z a):Rep U H (.fd [.str k] [.int i]) (.ref a)
 |exc {a:Addr} {c:Nat} {xs:List D} {vs:List V} (h:ExcAt cA U H a c vs) (r:aB U H xs vs):Rep U H (.exc c xs) (.ref a)
 |ob {a:Addr} {c:Nat} {xs:List D} {vs:List V} (h:mK cA U H a c vs) (r:aB U H xs vs):Rep U H (.ob c xs) (.ref a)
 |any (a:Addr):Rep U H .any (.ref a)
inductive aB (U:Ph) (H:Hp):List D->List V->Prop where
 |nil:aB U H [] []
 |cons {d:D} {v:V} {ds:List D} {vs:List V} (h:Rep U H d v) (r:aB U H ds vs):aB U H (d::ds) (v::vs)
end
inductive aW (U:Ph) (H:Hp):Xv->V->Prop where
 |d {x:D} {v:V} (h:Rep K cA U H x v):aW U H (.d x) v
 |l {n:Nat} {a:Addr} (h:U.l[n]?=some a):aW U H (.l n) (.ref a)
inductive bG (U:Ph) (H:Hp):List Xv->List V->Prop where
 |nil:bG U H [] []
 |cons {d:Xv} {v:V} {ds:List Xv} {vs:List V} (h:aW K cA U H d v) (r:bG U H ds vs):bG U H (d::ds) (v::vs)
noncomputable def kxH:Kx->Int
 |.non=>reduceHash 0xFCA86420
 |.int i=>hashInt i
 |.row is=>reduceHash (Builtin.Tuple.tupleHashOf (is.map hashInt))
noncomputable def Dj(k:List Kx):Int:=reduceHash (Builtin.Tuple.tupleHashOf (k.map kxH))
noncomputable def kxD:Kx->D
 |.non=>.non
 |.int i=>.int i
 |.row is=>.tup (is.map .int)
noncomputable def L_(k:List Kx):D:=.tup (k.map kxD)
noncomputable abbrev oh:=List (List Kx×Addr×Value)
noncomputable def DcO(a:Addr)(xs:oh):HO:=.ext λh=>(a==sysModules)=false/\xs.length<=sizeLine/\∃o es ep,h.get? a=some o/\o.ExactDict/\o.data=.dict es ep/\es.toList=xs.map (λx=>⟨Dj x.1,.ref x.2.1,x.2.2⟩)/\(xs.map (·.1)).Nodup
inductive xq (U:Ph) (H:Hp):qK->oh->Prop where
 |nil:xq U H [] []
 |cons {k:List Kx} {d:D} {ka:Addr} {u:Value} {v:V} {r:qK} {xs:oh} (hk:Rep K cA U H (L_ k) (.ref ka)) (hu:RelV v u) (hv:Rep K cA U H d v) (q:xq U H r xs):xq U H ((k,d)::r) ((k,ka,u)::xs)
noncomputable def iV(U:Ph)(H:Hp)(a:Addr):SO->Prop
 |.lst xs=>∃vs,H a=some (.lst vs)/\aB K cA U H xs vs
 |.dct kvs=>∃xs,H a=some (DcO a xs)/\xq K cA U H kvs xs
structure aD(U:Ph)(H:Hp)(s:S):Prop where
 len:U.l.length=s.length
 obj:∀(n:Nat) o a,s[n]?=some o->U.l[n]?=some a->iV K cA U H a o
 uniq:U.l.Nodup
 lz:∀a∈U.l,U.z a
 zt:∀a,U.z a->∃o,H a=some o
structure Ext(U:Ph)(H:Hp)(U':Ph)(H':Hp):Prop where
 more:∃r,U'.l=U.l++r/\∀b∈r,H b=none
 qL:∀a,U.z a->U'.z a
 lH:∀a,U'.z a->U.z a\/H a=none
 frame:∀a o,H a=some o->a∉U.l->H' a=some o
 stay:∀a o,H a=some o->∃o',H' a=some o'
def aR(U:Ph)(H:Hp)(Z:L2.St)(J:Vs):Prop:=Z.length=J.length/\∀(i:Nat) (x:Xv),J[i]?=some (some x)->∃v,Z[i]?=some (some v)/\aW K cA U H x v
end
section
variable {K:W.Frag}{cA:Cl}{U U' Ma:Ph}{H H' Mf:Hp}{s:S}{Z:L2.St}{J:Vs}
theorem Ext.refl:Ext U H U H:=⟨⟨[],by simp,by simp⟩,λ_ h=>h,λ_ h=>.inl h,λ_ _ h _=>h,λ_ o h=>⟨o,h⟩⟩
theorem Ext.ju(x:Ext U H U' H'){a:Addr}(h:H' a=none):H a=none:=by
 cases e:H a with
 |none=>rfl
 |some o=>obtain⟨o',q⟩:=x.stay a o e;rw[h] at q;cases q
theorem Ext.trans(x:Ext U H U' H')(y:Ext U' H' Ma Mf):Ext U H Ma Mf:=by
 obtain⟨r,e,hr⟩:=x.more;obtain⟨r',e',uV⟩:=y.more;refine⟨⟨r++r',by rw[e',e,vJ],λb hb=>?_⟩,λa h=>y.qL a (x.qL a h),λa h=>?_,λa o h n=>y.frame a o (x.frame a o h n) ?_,λa o h=>?_⟩
 ·rcases iG.mp hb with z|z
  ·exact hr b z
  ·exact x.ju (uV b z)
 ·rcases y.lH a h with z|z
  ·exact x.lH a z
  ·exact .inr (x.ju z)
 ·rw[e];intro z;rcases iG.mp z with z|z
  ·exact n z
  ·rw[hr a z] at h;cases h
 ·obtain⟨o',q⟩:=x.stay a o h;exact y.stay a o' q
theorem Ext.get(x:Ext U H U' H'){n:Nat}{a:Addr}(h:U.l[n]?=some a):U'.l[n]?=some a:=by
 obtain⟨r,e,_⟩:=x.more;rw[e,kY (fQ.mp h).1];exact h
theorem Ext.out(x:Ext U H U' H')(hz:∀a∈U.l,U.z a){a:Addr}{o:HO}(h:H a=some o)(n:¬U.z a):H' a=some o/\¬U'.z a:=
 ⟨x.frame a o h λz=>n (hz a z),λz=>by
  rcases x.lH a z with y|y
  ·exact n y
  ·rw[h] at y;cases y⟩
theorem TupAt.mono(x:Ext U H U' H')(hz:∀a∈U.l,U.z a){a:Addr}{vs:List V}(h:TupAt K U H a vs):TupAt K U' H' a vs:=by
 rcases h with ⟨h|⟨o,h⟩,n⟩|h
 ·obtain⟨p,q⟩:=x.out hz h n;exact .inl ⟨.inl p,q⟩
 ·obtain⟨p,q⟩:=x.out hz h n;exact .inl ⟨.inr ⟨o,p⟩,q⟩
 ·exact .inr h
theorem LstAt.mono(x:Ext U H U' H')(hz:∀a∈U.l,U.z a){a:Addr}{vs:List V}(h:LstAt K U H a vs):LstAt K U' H' a vs:=by
 rcases h with ⟨h|⟨o,h⟩,n⟩|h
 ·obtain⟨p,q⟩:=x.out hz h n;exact .inl ⟨.inl p,q⟩
 ·obtain⟨p,q⟩:=x.out hz h n;exact .inl ⟨.inr ⟨o,p⟩,q⟩
 ·exact .inr h
theorem ExcAt.mono(x:Ext U H U' H')(hz:∀a∈U.l,U.z a){a:Addr}{c:Nat}{vs:List V}(h:ExcAt cA U H a c vs):ExcAt cA U' H' a c vs:=by
 obtain⟨n,⟨e1,e2,h⟩|⟨dx,h,n2,h2,h3⟩⟩:=h
 ·obtain⟨p,q⟩:=x.out hz h n;exact⟨q,.inl ⟨e1,e2,p⟩⟩
 ·obtain⟨p,q⟩:=x.out hz h n;obtain⟨p2,q2⟩:=x.out hz h2 n2;exact⟨q,.inr ⟨dx,p,q2,p2,h3⟩⟩
theorem mK.mono(x:Ext U H U' H')(hz:∀a∈U.l,U.z a){a:Addr}{c:Nat}{vs:List V}(h:mK cA U H a c vs):mK cA U' H' a c vs:=by
 obtain⟨n,dx,h,h3⟩:=h;obtain⟨p,q⟩:=x.out hz h n;exact⟨q,dx,p,h3⟩
theorem Rep.mono(x:Ext U H U' H')(hz:∀a∈U.l,U.z a){d:D}{v:V}(h:Rep K cA U H d v):Rep K cA U' H' d v:=
 Rep.rec (motive_1:=λd v _=>Rep K cA U' H' d v) (motive_2:=λd v _=>aB K cA U' H' d v) .non .bl .int .str (λh _ i=>.tup (h.mono x hz) i) (λh _ i=>.fl (h.mono x hz) i) (λh n=>.fd (x.out hz h n).1 (x.out hz h n).2) (λh _ i=>.exc (h.mono x hz) i) (λh _ i=>.ob (h.mono x hz) i) .any .nil (λ_ _ i j=>.cons i j) h
theorem aB.mono(x:Ext U H U' H')(hz:∀a∈U.l,U.z a){d:List D}{v:List V}(h:aB K cA U H d v):aB K cA U' H' d v:=
 aB.rec (motive_1:=λd v _=>Rep K cA U' H' d v) (motive_2:=λd v _=>aB K cA U' H' d v) .non .bl .int .str (λh _ i=>.tup (h.mono x hz) i) (λh _ i=>.fl (h.mono x hz) i) (λh n=>.fd (x.out hz h n).1 (x.out hz h n).2) (λh _ i=>.exc (h.mono x hz) i) (λh _ i=>.ob (h.mono x hz) i) .any .nil (λ_ _ i j=>.cons i j) h
theorem aB.map(m:∀d v,Rep K cA U H d v->Rep K cA U' H' d v):∀{d:List D} {v:List V},aB K cA U H d v->aB K cA U' H' d v
 |_,_,.nil=>.nil
 |_,_,.cons h r=>.cons (m _ _ h) (aB.map m r)
theorem xq.map(m:∀d v,Rep K cA U H d v->Rep K cA U' H' d v){d:qK}{v:oh}(h:xq K cA U H d v):xq K cA U' H' d v:=by
 induction h with
 |nil=>exact .nil
 |cons a b c _ ih=>exact .cons (m _ _ a) b (m _ _ c) ih
theorem iV.map{a:Addr}{o:SO}(h:iV K cA U H a o)(e:∀u,H a=some u->H' a=some u)(m:∀d v,Rep K cA U H d v->Rep K cA U' H' d v):iV K cA U' H' a o:=by
 cases o with
 |lst xs=>obtain⟨vs,q,r⟩:=h;exact⟨vs,e _ q,r.map m⟩
 |dct xs=>obtain⟨vs,q,r⟩:=h;exact⟨vs,e _ q,r.map m⟩
theorem aW.mono(x:Ext U H U' H')(hz:∀a∈U.l,U.z a){d:Xv}{v:V}(h:aW K cA U H d v):aW K cA U' H' d v:=by
 cases h with
 |d h=>exact .d (h.mono x hz)
 |l h=>exact .l (x.get h)
theorem aR.mono(x:Ext U H U' H')(hz:∀a∈U.l,U.z a)(h:aR K cA U H Z J):aR K cA U' H' Z J:=⟨h.1,λi d e=>let ⟨v,a,b⟩:=h.2 i d e;⟨v,a,b.mono x hz⟩⟩
theorem aB.len:∀{ds:List D} {vs:List V},aB K cA U H ds vs->ds.length=vs.length
 |_,_,.nil=>rfl
 |_,_,.cons _ r=>by rw[gB,gB,aB.len r]
theorem bG.len:∀{ds:List Xv} {vs:List V},bG K cA U H ds vs->ds.length=vs.length
 |_,_,.nil=>rfl
 |_,_,.cons _ r=>by rw[gB,gB,bG.len r]
theorem aB.get:∀{ds:List D} {vs:List V} {i:Nat} {d:D},aB K cA U H ds vs->ds[i]?=some d->∃v,vs[i]?=some v/\Rep K cA U H d v
 |_,_,_,_,.nil,e=>by simp at e
 |_,_,0,_,.cons h _,e=>by simp at e;subst e;exact⟨_,rfl,h⟩
 |_,_,i+1,d,.cons _ r,e=>by
  obtain⟨v,a,b⟩:=aB.get (i:=i) (d:=d) r (by simpa using e);exact⟨v,by simpa using a,b⟩
theorem bG.get:∀{ds:List Xv} {vs:List V} {i:Nat} {d:Xv},bG K cA U H ds vs->ds[i]?=some d->∃v,vs[i]?=some v/\aW K cA U H d v
 |_,_,_,_,.nil,e=>by simp at e
 |_,_,0,_,.cons h _,e=>by simp at e;subst e;exact⟨_,rfl,h⟩
 |_,_,i+1,d,.cons _ r,e=>by
  obtain⟨v,a,b⟩:=bG.get (i:=i) (d:=d) r (by simpa using e);exact⟨v,by simpa using a,b⟩
theorem aB.none:∀{ds:List D} {vs:List V} {i:Nat},aB K cA U H ds vs->ds[i]?=none->vs[i]?=none:=λ{ds vs i} r e=>by
 have:=r.len;have h2:ds.length<=i:=lO.mp e;exact lO.mpr gV
theorem aB.app:∀{ds es:List D} {vs us:List V},aB K cA U H ds vs->aB K cA U H es us->aB K cA U H (ds++es) (vs++us)
 |_,_,_,_,.nil,s=>s
 |_,_,_,_,.cons h r,s=>.cons h (aB.app r s)
theorem aB.take:∀{ds:List D} {vs:List V} (n:Nat),aB K cA U H ds vs->aB K cA U H (ds.take n) (vs.take n)
 |_,_,0,_=>by simp;exact .nil
 |_,_,n+1,.nil=>by simp;exact .nil
 |_,_,n+1,.cons h r=>by simp only[List.take_succ_cons];exact .cons h (aB.take n r)
theorem aB.drop:∀{ds:List D} {vs:List V} (n:Nat),aB K cA U H ds vs->aB K cA U H (ds.drop n) (vs.drop n)
 |_,_,0,r=>r
 |_,_,n+1,.nil=>by simp;exact .nil
 |_,_,n+1,.cons _ r=>by simp only[List.drop_succ_cons];exact aB.drop n r
theorem aB.set{d:D}{v:V}(h:Rep K cA U H d v):∀{ds:List D} {vs:List V} (i:Nat),aB K cA U H ds vs->aB K cA U H (ds.set i d) (vs.set i v)
 |_,_,_,.nil=>.nil
 |_,_,0,.cons _ r=>.cons h r
 |_,_,i+1,.cons q r=>.cons q (aB.set h i r)
theorem aB.cut{ds:List D}{vs:List V}{l h:Option Int}(r:aB K cA U H ds vs):aB K cA U H (Mi.cut ds l h) (jJ vs l h):=by
 unfold Mi.cut jJ;rw[<-r.len];exact(r.drop _).take _
def bA(H H':Hp):Prop:=∀a o,H a=some o->H' a=some o
theorem bA.refl:bA H H:=λ_ _ h=>h
theorem bA.new{p:Addr}{o:HO}(hp:H p=none):bA H (upd H p o):=λa u h=>by rw[dR (yK h hp)];exact h
theorem bA.ext(g:bA H H'):Ext U H U H':=⟨⟨[],by simp,by simp⟩,λ_ h=>h,λ_ h=>.inl h,λa o h _=>g a o h,λa o h=>⟨o,g a o h⟩⟩
theorem iV.grow{a:Addr}{o:SO}(g:bA H H')(hz:∀a∈U.l,U.z a)(h:iV K cA U H a o):iV K cA U H' a o:=h.map (g _) λ_ _ r=>r.mono g.ext hz
theorem aD.grow(g:bA H H')(h:aD K cA U H s):aD K cA U H' s:=
 ⟨h.len,λn o a e1 e2=>(h.obj n o a e1 e2).grow g h.lz,h.uniq,h.lz,λa z=>let ⟨o,e⟩:=h.zt a z;⟨o,g _ _ e⟩⟩
theorem aD.nz(h:aD K cA U H s){p:Addr}(hp:H p=none):¬U.z p:=λz=>by obtain⟨o,e⟩:=h.zt p z;rw[hp] at e;cases e
noncomputable def Ph.add(U:Ph)(p:Addr):Ph:=⟨λa=>U.z a\/a=p,U.l++[p]⟩
theorem Ext.add{p:Addr}{o:HO}(hp:H p=none):Ext U H (U.add p) (upd H p o):=
 ⟨⟨[p],rfl,by simpa using hp⟩,λ_ h=>.inl h,λa h=>h.imp id λe=>by rw[e];exact hp,λa u h _=>bA.new hp a u h,λa u h=>⟨u,bA.new hp a u h⟩⟩
theorem aD.Mg{p:Addr}{so:SO}{ho:HO}(h:aD K cA U H s)(hp:H p=none)(hr:iV K cA (U.add p) (upd H p ho) p so):aD K cA (U.add p) (upd H p ho) (s++[so]):=by
 have pn:p∉U.l:=λz=>h.nz hp (h.lz p z);refine⟨by show (U.l++[p]).length=_;rw[bO,bO,h.len];rfl,λn o a e1 e2=>?_,?_,λa ha=>?_,λa ha=>?_⟩
 ·have e2:(U.l++[p])[n]?=some a:=e2;by_cases hn:n<s.length
  ·rw[kY hn] at e1;rw[kY (by rw[h.len];exact hn)] at e2;exact(h.obj n o a e1 e2).map (bA.new hp _) λ_ _ r=>r.mono (Ext.add hp) h.lz
  ·have hl:n=s.length:=by
    have z:=(fQ.mp e1).1;rw[bO] at z;simp at z
    lia
   subst hl;rw[mU (bT _)] at e1;rw[mU (by rw[h.len];exact bT _)] at e2;simp at e1;simp[h.len] at e2;subst e1 e2;exact hr
 ·show (U.l++[p]).Nodup;rw[yD];refine⟨h.uniq,by simp,λa ha b hb e=>?_⟩;simp at hb;subst hb e;exact pn ha
 ·have ha:a∈U.l++[p]:=ha;rcases iG.mp ha with z|z
  ·exact .inl (h.lz a z)
  ·simp at z;exact .inr z
 ·rcases ha with z|z
  ·obtain⟨o,e⟩:=h.zt a z;exact⟨o,bA.new hp _ _ e⟩
  ·subst z;exact⟨_,lq⟩
theorem aD.add{p:Addr}{xs:List D}{vs:List V}(h:aD K cA U H s)(hp:H p=none)(r:aB K cA U H xs vs):aD K cA (U.add p) (upd H p (.lst vs)) (s++[.lst xs]):=h.Mg hp ⟨vs,lq,r.mono (Ext.add hp) h.lz⟩
theorem Ext.write{n:Nat}{p:Addr}{o:HO}(hp:U.l[n]?=some p)(hv:∃u,H p=some u):Ext U H U (upd H p o):=by
 have hm:p∈U.l:=fU hp;refine⟨⟨[],by simp,by simp⟩,λ_ h=>h,λ_ h=>.inl h,λa u h n=>by
  have ne:a≠p:=λe=>n (by rw[e];exact hm);rw[dR ne];exact h,λa u h=>?_⟩
 by_cases e:a=p
 ·subst e;exact⟨o,lq⟩
 ·exact⟨u,by rw[dR e];exact h⟩
theorem aD.xr{n:Nat}{p:Addr}{so:SO}{ho:HO}(h:aD K cA U H s)(hl:n<s.length)(hp:U.l[n]?=some p)(hr:iV K cA U (upd H p ho) p so):aD K cA U (upd H p ho) (s.set n so):=by
 have hv:=h.zt p (h.lz p (fU hp));have x:Ext U H U (upd H p ho):=Ext.write hp hv;refine⟨by rw[qz];exact h.len,λm o a e1 e2=>?_,h.uniq,h.lz,λa ha=>?_⟩
 ·by_cases hm:n=m
  ·subst hm;rw[yq hl] at e1;cases e1;rw[hp] at e2;cases e2;exact hr
  ·rw[q_ hm] at e1;have ne:a≠p:=λy=>by
    subst y;exact hm ((Jk (fQ.mp hp).1 h.uniq).mp (hp.trans e2.symm))
   exact(h.obj m o a e1 e2).map (λ_ q=>by rw[dR ne];exact q) λ_ _ r=>r.mono x h.lz
 ·obtain⟨o,e⟩:=h.zt a ha;obtain⟨o',e'⟩:=x.stay a o e;exact⟨o',e'⟩
theorem aD.write{n:Nat}{p:Addr}{xs ys:List D}{us:List V}(h:aD K cA U H s)(hn:s[n]?=some (.lst xs))(hp:U.l[n]?=some p)(r:aB K cA U H ys us):aD K cA U (upd H p (.lst us)) (s.set n (.lst ys)):=
 h.xr (fQ.mp hn).1 hp ⟨us,lq,r.mono (Ext.write hp (h.zt p (h.lz p (fU hp)))) h.lz⟩
theorem aR.set{i:Nat}{d:Xv}{v:V}(hL:aR K cA U H Z J)(r:aW K cA U H d v):aR K cA U H (Z.set i (some v)) (J.set i (some d)):=by
 refine⟨by rw[qz,qz];exact hL.1,λj e h=>?_⟩;by_cases yS:i=j
 ·subst yS;by_cases hl:i<J.length
  ·rw[yq hl] at h;cases h;exact⟨v,by rw[yq (by rw[hL.1];exact hl)],r⟩
  ·rw[Ja (by rw[qz];lia)] at h;cases h
 ·rw[q_ yS] at h;obtain⟨u,a,b⟩:=hL.2 j e h;exact⟨u,by rw[q_ yS];exact a,b⟩
theorem TupAt.iQ{a:Addr}{vs:List V}(h:TupAt K U H a vs):gF K H a vs:=by
 rcases h with ⟨h,_⟩|(h|h)
 ·exact .inl h
 ·rcases h with h|⟨o,h⟩<;>cases h
 ·exact .inr h
theorem LstAt.oM{a:Addr}{vs:List V}(h:LstAt K U H a vs):cW K H a vs:=by
 rcases h with ⟨h,_⟩|(h|h)
 ·exact .inl h
 ·rcases h with h|⟨o,h⟩<;>cases h
 ·exact .inr h
theorem TupAt.new{p:Addr}{vs:List V}(hz:¬U.z p):TupAt K U (upd H p (.tup vs)) p vs:=.inl ⟨.inl lq,hz⟩
theorem LstAt.new{p:Addr}{vs:List V}(hz:¬U.z p):LstAt K U (upd H p (.lst vs)) p vs:=.inl ⟨.inl lq,hz⟩
end
end Mi
namespace Mi
open PySem PySem.Spec PyProof.Rows L2
theorem un{α β γ:Type}{A B C:α->β->γ->Prop}{R:Prop}(h:∃a b c,A a b c/\B a b c/\C a b c)(f:∀a b c,A a b c->B a b c->C a b c->R):R:=by
 obtain⟨a,b,c,x,y,z⟩:=h;exact f a b c x y z
section
variable (K:W.Frag)(cA:Cl)
def Run{α:Type}(m:M α)(U:Ph)(H:Hp)(s:S)(P:α->S->Ph->Hp->Prop)(Ee:Nat->List D->S->Ph->Hp->Prop):Prop:=
 match m s with
 |some (.ok a,s')=>∀U' H',Ext U H U' H'->aD K cA U' H' s'->P a s' U' H'
 |some (.er c f,s')=>∀U' H',Ext U H U' H'->aD K cA U' H' s'->Ee c f s' U' H'
 |none=>False
def iR(U:Ph)(H:Hp)(c:Nat)(fs:List D)(dx:Option Addr):Prop:=
 (cA.f c=[]/\fs=[]/\dx=none)\/∃d vs,dx=some d/\¬U.z d/\H d=some (.xd ((cA.f c).zip vs))/\(cA.f c).length=vs.length/\aB K cA U H fs vs
noncomputable def eX(EX:XS)(Z:L2.St):Nat->List D->S->Ph->Hp->Prop:=λc fs _ U' H'=>∀dx,iR K cA U' H' c fs dx->EX Z (.ref (cA.a c)) dx H'
noncomputable def tE(EX:XS)(m:Vs->M Xv):TE:=λZ H Q=>∃U J s,aR K cA U H Z J/\aD K cA U H s/\Run K cA (m J) U H s (λd _ U' H'=>∀v,aW K cA U' H' d v->Q v H') (eX K cA EX Z)
noncomputable def Mh(EX:XS)(m:Vs->M (List Xv)):TA:=λZ H Q=>∃U J s,aR K cA U H Z J/\aD K cA U H s/\Run K cA (m J) U H s (λd _ U' H'=>∀v,bG K cA U' H' d v->Q v H') (eX K cA EX Z)
noncomputable def sG(EX:XS)(m:Vs->M Bool):TT:=λZ H Q=>∃U J s,aR K cA U H Z J/\aD K cA U H s/\Run K cA (m J) U H s (λd _ U' H'=>Q d H') (eX K cA EX Z)
def Rv(U:Ph)(H:Hp)(d:D)(v:V):Prop:=match d with
 |.fl xs=>∃a vs,v=.ref a/\cW K H a vs/\aB K cA U H xs vs
 |d=>Rep K cA U H d v
inductive sH (U:Ph) (H:Hp):List D->List V->Prop where
 |nil:sH U H [] []
 |cons {d:D} {v:V} {ds:List D} {vs:List V} (h:Rv K cA U H d v) (r:sH U H ds vs):sH U H (d::ds) (v::vs)
def bw(U:Ph)(H:Hp)(o:Option Rz)(Q:VK):Prop:=match o with
 |none=>False
 |some (.dat d)=>∀H' v,bA H H'->Rep K cA U H' d v->Q v H'
 |some (.nw xs)=>∀p vs,H p=none->aB K cA U H xs vs->Q (.ref p) (upd H p (.lst vs))
structure Zt(U:Ph)(H:Hp):Prop where
 lz:∀a∈U.l,U.z a
 zt:∀a,U.z a->∃o,H a=some o
def aX(p:Pr)(r:List V->Hp->VK->Prop):Prop:=∀(U:Ph) (H:Hp) (ds:List D) (vs:List V) (Q:VK),Zt U H->sH K cA U H ds vs->bw K cA U H (prim p ds) Q->r vs H Q
end
section
variable {K:W.Frag}{cA:Cl}{U U':Ph}{H H':Hp}{s:S}{Z:L2.St}{J:Vs}{EX:XS}
theorem aD.zs(h:aD K cA U H s):Zt U H:=⟨h.lz,h.zt⟩
theorem Zt.nz(h:Zt U H)(hp:H p=none):¬U.z p:=λz=>by obtain⟨o,e⟩:=h.zt p z;rw[hp] at e;cases e
theorem Rep.rv{d:D}{v:V}(h:Rep K cA U H d v):Rv K cA U H d v:=by
 cases h with
 |fl h r=>exact⟨_,_,rfl,h.oM,r⟩
 |non=>exact .non
 |bl b=>exact .bl b
 |int b=>exact .int b
 |str b=>exact .str b
 |tup h r=>exact .tup h r
 |fd h n=>exact .fd h n
 |exc h r=>exact .exc h r
 |ob h r=>exact .ob h r
 |any v=>exact .any v
theorem Run.bd{α β:Type}{m:M α}{k:α->M β}{P:β->S->Ph->Hp->Prop}{Ee:Nat->List D->S->Ph->Hp->Prop}(h:Run K cA (M.bd m k) U H s P Ee):Run K cA m U H s (λa s1 U1 H1=>Ext U H U1 H1/\aD K cA U1 H1 s1/\Run K cA (k a) U1 H1 s1 P Ee) Ee:=by
 unfold Run M.bd at *;cases e:m s with
 |none=>rw[e] at h;exact h
 |some r=>
  obtain⟨r,s1⟩:=r;rw[e] at h;cases r with
  |er c f=>exact h
  |ok a=>
   intro U1 H1 x1 r1;refine⟨x1,r1,?_⟩;dsimp only at h ⊢;cases e2:k a s1 with
   |none=>rw[e2] at h;exact h
   |some q=>
    obtain⟨q,s2⟩:=q;rw[e2] at h;cases q with
    |ok b=>exact λU2 H2 x2 r2=>h U2 H2 (x1.trans x2) r2
    |er c f=>exact λU2 H2 x2 r2=>h U2 H2 (x1.trans x2) r2
theorem Run.imp{α:Type}{m:M α}{P P':α->S->Ph->Hp->Prop}{Ee:Nat->List D->S->Ph->Hp->Prop}(h:Run K cA m U H s P Ee)(f:∀a s' U' H',P a s' U' H'->P' a s' U' H'):Run K cA m U H s P' Ee:=by
 unfold Run at *;split at h
 ·exact λU' H' x r=>f _ _ _ _ (h U' H' x r)
 ·exact h
 ·exact h
theorem Run.bN{α:Type}{a:α}{P:α->S->Ph->Hp->Prop}{Ee:Nat->List D->S->Ph->Hp->Prop}(r:aD K cA U H s)(h:Run K cA (M.ret a) U H s P Ee):P a s U H:=h U H Ext.refl r
theorem Run.opt{α:Type}{o:Option α}{P:α->S->Ph->Hp->Prop}{Ee:Nat->List D->S->Ph->Hp->Prop}(r:aD K cA U H s)(h:Run K cA (M.opt o) U H s P Ee):∃a,o=some a/\P a s U H:=by
 cases o with
 |none=>exact h.elim
 |some a=>exact⟨a,rfl,h U H Ext.refl r⟩
theorem R6(h:Run K cA (M.bd (M.opt o) k) U H s P Ee):∃a,o=some a/\Run K cA (k a) U H s P Ee:=by
 cases o with
 |none=>exact h.elim
 |some a=>exact⟨a,rfl,h⟩
theorem Hj{β:Type}{x:Xv}{v:V}{k:Bool->M β}{P:β->S->Ph->Hp->Prop}{Ee:Nat->List D->S->Ph->Hp->Prop}(r:aW K cA U H x v)(h:Run K cA (M.bd (bool x) k) U H s P Ee):∃b,x=.d (.bl b)/\v=.bl b/\Run K cA (k b) U H s P Ee:=by
 cases r with
 |l _=>exact h.elim
 |d r=>cases r with
  |bl b=>exact⟨b,rfl,rfl,h⟩
  |_=>exact h.elim
theorem Dk(r:aW K cA U H x v)(h:Run K cA (M.bd (int x) k) U H s P Ee):∃b,x=.d (.int b)/\v=.int b/\Run K cA (k b) U H s P Ee:=by
 cases r with
 |l _=>exact h.elim
 |d r=>cases r with
  |int b=>exact⟨b,rfl,rfl,h⟩
  |_=>exact h.elim
theorem Mj(r:aW K cA U H x v)(h:Run K cA (M.bd (dat x) k) U H s P Ee):∃d,x=.d d/\Rep K cA U H d v/\Run K cA (k d) U H s P Ee:=by
 cases r with
 |l _=>exact h.elim
 |d r=>exact⟨_,rfl,r,h⟩
theorem R7:∀{xs:List Xv} {vs:List V} {k:List D->M β} {P:β->S->Ph->Hp->Prop} {Ee:Nat->List D->S->Ph->Hp->Prop},bG K cA U H xs vs->Run K cA (M.bd (fu xs) k) U H s P Ee->∃ds,xs=ds.map .d/\aB K cA U H ds vs/\Run K cA (k ds) U H s P Ee:=by
 intro xs
 induction xs with
 |nil=>intro vs k P Ee r h;cases r;exact⟨[],rfl,.nil,h⟩
 |cons x xs ih=>
  intro vs k P Ee r h;cases r with
  |cons a r=>
   cases a with
   |l _=>exact h.elim
   |@d y v a=>
    have h2:Run K cA (M.bd (fu xs) λds=>k (y::ds)) U H s P Ee:=by
     unfold Run M.bd fu dat at h;unfold Run M.bd;simp only[M.bd,M.ret] at h;cases e:fu xs s with
     |none=>simp only[e] at h
     |some q=>
      obtain⟨q,s1⟩:=q;simp only[e] at h;cases q with
      |ok ds=>exact h
      |er c f=>exact h
    obtain⟨ds,e,rs,h3⟩:=ih r h2;exact⟨y::ds,by rw[e];rfl,.cons a rs,h3⟩
theorem Ml(hS:aD K cA U H s)(r:aW K cA U H x v)(h:Run K cA (M.bd (rd x) k) U H s P Ee):∃d,Rv K cA U H d v/\Run K cA (k d) U H s P Ee:=by
 cases r with
 |d r=>exact⟨_,r.rv,h⟩
 |@l n a hl=>
  unfold Run M.bd rd at h;dsimp only at h;cases e:s[n]? with
  |none=>rw[e] at h;exact h.elim
  |some o=>
   rw[e] at h;cases o with
   |lst xs=>
    obtain⟨vs,q1,q2⟩:=hS.obj n _ _ e hl;exact⟨.fl xs,⟨a,vs,rfl,cW.of q1,q2⟩,h⟩
   |_=>exact h.elim
theorem jg{α β γ:Type}(m:M α)(f:α->M β)(g:β->M γ):M.bd (M.bd m f) g=M.bd m λx=>M.bd (f x) g:=by
 funext s
 unfold M.bd;cases m s with
 |none=>rfl
 |some r=>
  obtain⟨r,s1⟩:=r;cases r<;>rfl
theorem uW{β:Type}:∀{xs:List Xv} {vs:List V} {k:List D->M β} {P:β->S->Ph->Hp->Prop} {Ee:Nat->List D->S->Ph->Hp->Prop},aD K cA U H s->bG K cA U H xs vs->Run K cA (M.bd (fM xs) k) U H s P Ee->∃ds,sH K cA U H ds vs/\Run K cA (k ds) U H s P Ee:=by
 intro xs
 induction xs with
 |nil=>intro vs k P Ee hS r h;cases r;exact⟨[],.nil,h⟩
 |cons x xs ih=>
  intro vs k P Ee hS r h;cases r with
  |cons a r=>
   have h2:Run K cA (M.bd (rd x) λd=>M.bd (fM xs) λds=>k (d::ds)) U H s P Ee:=by
    have e:M.bd (fM (x::xs)) k=M.bd (rd x) λd=>M.bd (fM xs) λds=>k (d::ds):=by
     show M.bd (M.bd (rd x) λd=>M.bd (fM xs) λds=>M.ret (d::ds)) k=_;rw[jg]
     congr 1
     funext d
     rw[jg];rfl
    rw[e] at h;exact h
   obtain⟨d,rd,h3⟩:=Ml hS a h2;obtain⟨ds,rs,h4⟩:=ih hS r h3;exact⟨d::ds,.cons rd rs,h4⟩
theorem sI{fz:Bool}{o:Option Rz}{Q:VK}{Ee:Nat->List D->S->Ph->Hp->Prop}(hS:aD K cA U H s)(h:Run K cA (bV fz o) U H s (λx _ U' H'=>∀v,aW K cA U' H' x v->Q v H') Ee):bw K cA U H o Q:=by
 cases o with
 |none=>exact h.elim
 |some z=>
  cases z with
  |dat d=>exact λH' v g r=>h U H' g.ext (hS.grow g) v (.d r)
  |nw xs=>
   intro p vs hp r;cases fz with
   |true=>exact h U _ (bA.new hp).ext (hS.grow (bA.new hp)) _ (.d (.fl (LstAt.new (hS.nz hp)) (r.mono (bA.new hp).ext hS.lz)))
   |false=>exact h (U.add p) _ (Ext.add hp) (hS.add hp r) _ (.l (by show (U.l++[p])[s.length]?=_;rw[<-hS.len];simp))
theorem zfW{fz:Bool}{xs:List D}{Q:VK}{Ee:Nat->List D->S->Ph->Hp->Prop}(hS:aD K cA U H s)(h:Run K cA (newL fz xs) U H s (λx _ U' H'=>∀v,aW K cA U' H' x v->Q v H') Ee):∀p vs,H p=none->aB K cA U H xs vs->Q (.ref p) (upd H p (.lst vs)):=
 sI (o:=some (.nw xs)) hS h
theorem bD{β:Type}{ma:Vs->M Xv}{k:Xv->M β}{P:β->S->Ph->Hp->Prop}(hL:aR K cA U H Z J)(hS:aD K cA U H s)(h:Run K cA (M.bd (ma J) k) U H s P (eX K cA EX Z)){Q:VK}
  (f:∀x H1 U1 d s1,Ext U H U1 H1->aR K cA U1 H1 Z J->aD K cA U1 H1 s1->aW K cA U1 H1 d x->Run K cA (k d) U1 H1 s1 P (eX K cA EX Z)->Q x H1):tE K cA EX ma Z H Q:=
 ⟨U,J,s,hL,hS,h.bd.imp λd s1 U1 H1 ⟨x1,r1,h1⟩ v rv=>f v H1 U1 d s1 x1 (hL.mono x1 hS.lz) r1 rv h1⟩
theorem sJ{β:Type}{ma:Vs->M (List Xv)}{k:List Xv->M β}{P:β->S->Ph->Hp->Prop}(hL:aR K cA U H Z J)(hS:aD K cA U H s)(h:Run K cA (M.bd (ma J) k) U H s P (eX K cA EX Z)){Q:List V->Hp->Prop}
  (f:∀x H1 U1 d s1,Ext U H U1 H1->aR K cA U1 H1 Z J->aD K cA U1 H1 s1->bG K cA U1 H1 d x->Run K cA (k d) U1 H1 s1 P (eX K cA EX Z)->Q x H1):Mh K cA EX ma Z H Q:=
 ⟨U,J,s,hL,hS,h.bd.imp λd s1 U1 H1 ⟨x1,r1,h1⟩ v rv=>f v H1 U1 d s1 x1 (hL.mono x1 hS.lz) r1 rv h1⟩
theorem sO(hL:aR K cA U H Z J)(hS:aD K cA U H s)(h:Run K cA (M.bd (ma J) k) U H s P (eX K cA EX Z))
  (f:∀b H1 U1 s1,Ext U H U1 H1->aR K cA U1 H1 Z J->aD K cA U1 H1 s1->Run K cA (k b) U1 H1 s1 P (eX K cA EX Z)->Q b H1):sG K cA EX ma Z H Q:=
 ⟨U,J,s,hL,hS,h.bd.imp λd s1 U1 H1 ⟨x1,r1,h1⟩=>f d H1 U1 s1 x1 (hL.mono x1 hS.lz) r1 h1⟩
end
section
variable (X:Cx)(cA:Cl)(ao:Nat->Nat->Bool)(aj:Bool)(F:Fn)(EX:XS)
def SE(e:Expr)(m:E):Prop:=PE X e (tE X.K cA EX (ev ao aj F m))
def SA(es:List Expr)(m:Es):Prop:=PA X es (Mh X.K cA EX (evs ao aj F m))
def ST(e:Expr)(m:E):Prop:=PT X e (sG X.K cA EX (λJ=>M.bd (ev ao aj F m J) bool))
def SW(e:Expr)(m:E):Prop:=PW X e (sG X.K cA EX (λJ=>M.bd (ev ao aj F m J) bool))
end
section
variable {X:Cx}{cA:Cl}{ao:Nat->Nat->Bool}{aj:Bool}{F:Fn}{EX:XS}{a b c d e:Expr}{A B C Dd E':E}{pos:Pos}{es:List Expr}{Xs:Es}{fz:Bool}{p:Pr}
theorem PE.weak{t t':TE}(h:PE X e t)(f:∀Z H Q,t' Z H Q->t Z H Q):PE X e t':=λak s Z H Q I q=>h ak s Z H Q I (f Z H Q q)
theorem PT.weak{t t':TT}(h:PT X e t)(f:∀Z H Q,t' Z H Q->t Z H Q):PT X e t':=λak s Z H Q I q=>h ak s Z H Q I (f Z H Q q)
theorem PW.weak{t t':TT}(h:PW X e t)(f:∀Z H Q,t' Z H Q->t Z H Q):PW X e t':=λwh ak s Z H Q I q=>h wh ak s Z H Q I (f Z H Q q)
theorem PA.weak{t t':TA}(h:PA X es t)(f:∀Z H Q,t' Z H Q->t Z H Q):PA X es t':=λp ak s Z H Q I q=>h p ak s Z H Q I (f Z H Q q)
theorem zjY{i j p}:SE X cA ao aj F EX (.Constant (.int i) j p) (.c (.int i)):=PE.weak Ye λZ H Q hh=>un hh λU J s hL hS h=>h.bN hS _ (.d (.int i))
theorem zkm{i j p}:SE X cA ao aj F EX (.Constant (.bool i) j p) (.c (.bl i)):=PE.weak Yg λZ H Q hh=>un hh λU J s hL hS h=>h.bN hS _ (.d (.bl i))
theorem zjk{j p}:SE X cA ao aj F EX (.Constant .none j p) (.c .non):=PE.weak Yh λZ H Q hh=>un hh λU J s hL hS h=>h.bN hS _ (.d .non)
theorem Mp{α:Type}{o:Option (Option α)}{x:α}(h:o.join=some x):o=some (some x):=by
 cases o with
 |none=>cases h
 |some y=>cases y with
  |none=>cases h
  |some z=>cases h;rfl
theorem R8(i:Nat){x:Str}(hN:X.N[i]?=some x:=by rfl)(hv:Jt X.env.scope x:=by first|exact Or.inl rfl|exact Or.inr (Or.inl rfl)|exact Or.inr (Or.inr rfl))(hd:(x==("__debug__" : Str))=false:=by decide)
  (lu:(x==("__classdict__" : Str))=false:=by decide):SE X cA ao aj F EX (.Name x pos) (.v i):=PE.weak (Yd hN hv hd lu) λZ H Q hh=>un hh λU J s hL hS h=>by
 obtain⟨dd,e1,q⟩:=Run.opt hS h;obtain⟨v,q1,q2⟩:=hL.2 i dd (Mp e1);exact⟨v,q1,q v q2⟩
theorem zh2{x:Str}{i:Int}{t:Tok}(hg:Gl X x)(hm:X.mg x=some (.int i t))(hd:(x==("__debug__" : Str))=false:=by decide):SE X cA ao aj F EX (.Name x pos) (.c (.int i)):=PE.weak (Yi (v:=.int i) hg hm ⟨t,rfl⟩ hd) λZ H Q hh=>un hh λU J s hL hS h=>h.bN hS _ (.d (.int i))
theorem zj1:SA X cA ao aj F EX [] .nil:=PA.weak wA λZ H Q hh=>un hh λU J s hL hS h=>h.bN hS _ .nil
theorem zhx(ha:SE X cA ao aj F EX a A)(hr:SA X cA ao aj F EX es Xs)(hs:starEach (a::es) X.env=(false,eval a X.env)::starEach es X.env:=by rfl):SA X cA ao aj F EX (a::es) (.cons A Xs):=PA.weak (qI ha hr hs) λZ H Q hh=>un hh λU J s hL hS h=>by
 refine bD hL hS h λx H1 U1 d1 s1 x1 hL1 aM r1 h1=>sJ hL1 aM h1 λys H2 U2 d2 s2 x2 hL2 aU r2 h2=>h2.bN aU _ (.cons (r1.mono x2 aM.lz) r2)
theorem Hl{U U1 U2:Ph}{H1 H2:Hp}{s1 s2:S}{d1 d2:Xv}{x y:V}{Q:VK}{Ee:Nat->List D->S->Ph->Hp->Prop}(x2:Ext U1 H1 U2 H2)(aM:aD X.K cA U1 H1 s1)(aU:aD X.K cA U2 H2 s2)(r1:aW X.K cA U1 H1 d1 x)(r2:aW X.K cA U2 H2 d2 y)
  (h:Run X.K cA (M.bd (fM [d1,d2]) λds=>bV fz (prim p ds)) U2 H2 s2 (λx _ U' H'=>∀v,aW X.K cA U' H' x v->Q v H') Ee) {r:List V->Hp->VK->Prop} (hp:aX X.K cA p r):r [x,y] H2 Q:=by
 obtain⟨ds,rs,h2⟩:=uW aU (.cons (r1.mono x2 aM.lz) (.cons r2 .nil)) h;exact hp U2 H2 ds _ Q aU.zs rs (sI aU h2)
noncomputable def r2(r:R2):List V->Hp->VK->Prop:=λvs H Q=>∃x y,vs=[x,y]/\r x y H Q
theorem yU{r:R2}{x y:V}{H:Hp}{Q:VK}(h:r2 r [x,y] H Q):r x y H Q:=by
 obtain⟨_,_,e,q⟩:=h;cases e;exact q
theorem ziL{op:Operator}{r:R2}(ho:dw X (binaryOp op) r)(hp:aX X.K cA p (r2 r))(ha:SE X cA ao aj F EX a A)(hb:SE X cA ao aj F EX b B):SE X cA ao aj F EX (.BinOp a op b pos) (.pr fz p (.cons A (.cons B .nil))):=PE.weak (Y5 ho ha hb) λZ H Q hh=>un hh λU J s hL hS h=>by
 have h:Run X.K cA (M.bd (M.bd (ev ao aj F A J) λx=>M.bd (M.bd (ev ao aj F B J) λy=>M.bd (M.ret []) λz=>M.ret (y::z)) λys=>M.ret (x::ys)) λvs=>M.bd (fM vs) λds=>bV fz (prim p ds)) U H s _ _:=h;simp only[jg] at h;refine bD hL hS h λx H1 U1 d1 s1 x1 hL1 aM r1 h1=>bD hL1 aM h1 λy H2 U2 d2 s2 x2 hL2 aU r2' h2=>?_;exact yU (Hl (fz:=fz) (U:=U) x2 aM aU r1 r2' h2 hp)
theorem zi7{op:CmpOp}{r:R2}(ho:dw X (compareOp op) r)(hp:aX X.K cA p (r2 r))(ha:SE X cA ao aj F EX a A)(hb:SE X cA ao aj F EX b B)(hm:behindInMarks op b=false):SE X cA ao aj F EX (.Compare a [op] [b] pos) (.pr true p (.cons A (.cons B .nil))):=PE.weak (Zg ho ha hb hm) λZ H Q hh=>un hh λU J s hL hS h=>by
 have h:Run X.K cA (M.bd (M.bd (ev ao aj F A J) λx=>M.bd (M.bd (ev ao aj F B J) λy=>M.bd (M.ret []) λz=>M.ret (y::z)) λys=>M.ret (x::ys)) λvs=>M.bd (fM vs) λds=>bV true (prim p ds)) U H s _ _:=h;simp only[jg] at h;refine bD hL hS h λx H1 U1 d1 s1 x1 hL1 aM r1 h1=>bD hL1 aM h1 λy H2 U2 d2 s2 x2 hL2 aU r2' h2=>?_;exact yU (Hl (fz:=true) (U:=U) x2 aM aU r1 r2' h2 hp)
theorem iT{A B:Prop}(h:A):if true=true then A else B:=by rw[if_pos rfl];exact h
theorem iF{A B:Prop}(h:B):if false=true then A else B:=by rw[if_neg Fy];exact h
theorem zjT{op:CmpOp}{r:R2}(ho:dw X (compareOp op) r)(hp:aX X.K cA p (r2 r))(ha:SE X cA ao aj F EX a A)(hb:SE X cA ao aj F EX b B)(hm:behindInMarks op b=false):ST X cA ao aj F EX (.Compare a [op] [b] pos) (.pr true p (.cons A (.cons B .nil))):=PT.weak (Zh ho ha hb hm) λZ H Q hh=>un hh λU J s hL hS h=>by
 have h:Run X.K cA (M.bd (M.bd (M.bd (ev ao aj F A J) λx=>M.bd (M.bd (ev ao aj F B J) λy=>M.bd (M.ret []) λz=>M.ret (y::z)) λys=>M.ret (x::ys)) λvs=>M.bd (fM vs) λds=>bV true (prim p ds)) bool) U H s _ _:=h;simp only[jg] at h;refine bD hL hS h λx H1 U1 d1 s1 x1 hL1 aM r1 h1=>bD hL1 aM h1 λy H2 U2 d2 s2 x2 hL2 aU r2' h2=>?_;obtain⟨ds,rs,h3⟩:=uW aU (.cons (r1.mono x2 aM.lz) (.cons r2' .nil)) h2;refine yU (hp U2 H2 ds _ _ aU.zs rs (sI (Ee:=eX X.K cA EX Z) aU (h3.bd.imp λt s3 U3 H3 ⟨x3,mL,h4⟩ v rv=>?_)));cases rv with
 |l _=>exact h4.elim
 |d rv=>cases rv with
  |bl k=>exact⟨k,rfl,h4 U3 H3 Ext.refl mL⟩
  |_=>exact h4.elim
theorem zio{op op':CmpOp}{r r':R2}{q:Pr}(ho:dw X (compareOp op) r)(hp:aX X.K cA p (r2 r))(o_:dw X (compareOp op') r')(hp':aX X.K cA q (r2 r'))(ha:SE X cA ao aj F EX a A)(hb:SE X cA ao aj F EX b B)(hc:SE X cA ao aj F EX c C)(hm:lastMarks [op,op'] [b,c]=false:=by with_unfolding_all rfl) :
  SE X cA ao aj F EX (.Compare a [op,op'] [b,c] pos) (.uK p q A B C):=PE.weak (Zi ho o_ ha hb hc hm) λZ H Q hh=>un hh λU J s hL hS h=>by
 refine bD hL hS h λx H1 U1 d1 s1 x1 hL1 aM r1 h1=>bD hL1 aM h1 λy H2 U2 d2 s2 x2 hL2 aU r2' h2=>?_;obtain⟨ds,rs,h3⟩:=uW aU (.cons (r1.mono x2 aM.lz) (.cons r2' .nil)) h2;refine yU (hp U2 H2 ds _ _ aU.zs rs (sI (Ee:=eX X.K cA EX Z) aU (h3.bd.imp λt s3 U3 H3 ⟨x3,mL,h4⟩ v rv=>?_)));obtain⟨k,_,e,h5⟩:=Hj rv h4;refine⟨k,e,?_⟩;cases k with
 |false=>exact iF (h5.bN mL _ (.d (.bl _)))
 |true=>
  have xu:=hL2.mono x3 aU.lz;refine iT (bD xu mL h5 λz H4 U4 d4 s4 x4 hL4 uX r4 h6=>?_);exact yU (Hl (fz:=true) (U:=U) x4 mL uX (r2'.mono x3 aU.lz) r4 h6 hp')
theorem zju(ha:SE X cA ao aj F EX a A):SE X cA ao aj F EX (.UnaryOp .Not a pos) (.not A):=PE.weak (Yw ha) λZ H Q hh=>un hh λU J s hL hS h=>by
 refine bD hL hS h λx H1 U1 d1 s1 x1 hL1 aM r1 h1=>?_;obtain⟨i,_,e,h3⟩:=Hj r1 h1;exact⟨i,e,h3.bN aM _ (.d (.bl _))⟩
theorem zjG{op}(ha:SE X cA ao aj F EX a A):SE X cA ao aj F EX (.BoolOp op [a] pos) A:=Yu ha
theorem zjc{rest:List Expr}(ha:SE X cA ao aj F EX a A)(hb:SE X cA ao aj F EX (.BoolOp .And (b::rest) pos) B):SE X cA ao aj F EX (.BoolOp .And (a::b::rest) pos) (.and A B):=PE.weak (Yv ha hb) λZ H Q hh=>un hh λU J s hL hS h=>by
 refine bD hL hS h λx H1 U1 d1 s1 x1 hL1 aM r1 h1=>?_;obtain⟨i,_,e,h3⟩:=Hj r1 h1;refine⟨i,e,?_⟩;cases i with
 |true=>exact iT ⟨U1,J,s1,hL1,aM,h3⟩
 |false=>exact iF (h3.bN aM _ (.d (.bl _)))
end
section
variable {X:Cx}{cA:Cl}{ao:Nat->Nat->Bool}{aj:Bool}{F:Fn}{EX:XS}{a b c d e o:Expr}{A B C Dd E' O:E}{pos pp p2 apos:Pos}{es:List Expr}{Xs:Es}{fz:Bool}{p:Pr}{x:Str}
theorem zkf(ha:SE X cA ao aj F EX a A)(he:∀whole,isTrue a X.env whole=(do let v <-whole;standAt a.pos;holding [v] (truthy v)):=by intro _;rfl):ST X cA ao aj F EX a A:=PT.weak (Yn ha he) λZ H Q hh=>un hh λU J s hL hS h=>by
 refine bD hL hS h λx H1 U1 d1 s1 x1 hL1 aM r1 h1=>?_;have h1:Run X.K cA (M.bd (bool d1) M.ret) U1 H1 s1 (λd _ U' H'=>Q d H') (eX X.K cA EX Z):=by
  cases d1 with
  |l n=>exact h1
  |d v=>cases v<;>exact h1
 obtain⟨k,_,e,q⟩:=Hj r1 h1;exact⟨k,e,q.bN aM⟩
theorem zf3{m:M Xv}{g:Bool->Bool}:M.bd (M.bd m λx=>M.bd (bool x) λk=>M.ret (Xv.d (.bl (g k)))) bool=M.bd (M.bd m bool) λk=>M.ret (g k):=by
 rw[jg,jg]
 congr 1
 funext x
 rw[jg];rfl
theorem ziv(ha:ST X cA ao aj F EX a A):ST X cA ao aj F EX (.UnaryOp .Not a pos) (.not A):=PT.weak (Yt ha) λZ H Q hh=>un hh λU J s hL hS h=>by
 have h:Run X.K cA (M.bd (M.bd (ev ao aj F A J) λx=>M.bd (bool x) λk=>M.ret (Xv.d (.bl (!k)))) bool) U H s _ _:=h;rw[zf3 (g:=λk=>!k)] at h;exact sO hL hS h λk H1 U1 s1 x1 hL1 aM h1=>h1.bN aM
theorem zhm(ha:ST X cA ao aj F EX a A):SW X cA ao aj F EX (.BoolOp .And [a] pos) A:=Yp ha
theorem zj0(ha:ST X cA ao aj F EX a A):SW X cA ao aj F EX (.BoolOp .Or [a] pos) A:=Yq ha
theorem R9{m:M Xv}{k:Bool->M Xv}:M.bd (M.bd m λx=>M.bd (bool x) k) bool=M.bd (M.bd m bool) λb=>M.bd (k b) bool:=by
 rw[jg,jg]
 congr 1
 funext x
 rw[jg]
theorem ziw{rest:List Expr}(ha:ST X cA ao aj F EX a A)(hb:SW X cA ao aj F EX (.BoolOp .And (b::rest) pos) B):SW X cA ao aj F EX (.BoolOp .And (a::b::rest) pos) (.and A B):=PW.weak (Yr ha hb) λZ H Q hh=>un hh λU J s hL hS h=>by
 have h:Run X.K cA (M.bd (M.bd (ev ao aj F A J) λx=>M.bd (bool x) λk=>if k=true then ev ao aj F B J else M.ret (Xv.d (.bl false))) bool) U H s _ _:=h;rw[R9] at h;refine sO hL hS h λk H1 U1 s1 x1 hL1 aM h3=>?_;cases k with
 |true=>exact iT ⟨U1,J,s1,hL1,aM,h3⟩
 |false=>exact iF (Run.bN aM (a:=false) h3)
theorem zkx{rest:List Expr}(ha:ST X cA ao aj F EX a A)(hb:SW X cA ao aj F EX (.BoolOp .Or (b::rest) pos) B):SW X cA ao aj F EX (.BoolOp .Or (a::b::rest) pos) (.or A B):=PW.weak (Ys ha hb) λZ H Q hh=>un hh λU J s hL hS h=>by
 have h:Run X.K cA (M.bd (M.bd (ev ao aj F A J) λx=>M.bd (bool x) λk=>if k=true then M.ret (Xv.d (.bl true)) else ev ao aj F B J) bool) U H s _ _:=h;rw[R9] at h;refine sO hL hS h λk H1 U1 s1 x1 hL1 aM h3=>?_;cases k with
 |true=>exact iT (Run.bN aM (a:=true) h3)
 |false=>exact iF ⟨U1,J,s1,hL1,aM,h3⟩
theorem zlF(h:SW X cA ao aj F EX a A):ST X cA ao aj F EX a A:=Yc h
theorem zhw:(M.bd m λx=>M.bd (bool x) k)=M.bd (M.bd m bool) k:=by rw[jg]
theorem zjJ(hc:ST X cA ao aj F EX c C)(ha:SE X cA ao aj F EX a A)(hb:SE X cA ao aj F EX b B):SE X cA ao aj F EX (.IfExp c a b pos) (.ite C A B):=PE.weak (Yy hc ha hb) λZ H Q hh=>un hh λU J s hL hS h=>by
 have h:Run X.K cA (M.bd (ev ao aj F C J) λx=>M.bd (bool x) λk=>if k=true then ev ao aj F A J else ev ao aj F B J) U H s _ _:=h;rw[zhw] at h;refine sO hL hS h λk H1 U1 s1 x1 hL1 aM h3=>?_;cases k with
 |true=>exact iT ⟨U1,J,s1,hL1,aM,h3⟩
 |false=>exact iF ⟨U1,J,s1,hL1,aM,h3⟩
theorem R_:∀(Xs:Es) (J:Vs) (s:S) (ds:List Xv) (s':S),evs ao aj F Xs J s=some (.ok ds,s')->ds.length=Es.len Xs
 |.nil,J,s,ds,s',h=>by cases h;rfl
 |.cons a r,J,s,ds,s',h=>by
  have h:M.bd (ev ao aj F a J) (λx=>M.bd (evs ao aj F r J) λxs=>M.ret (x::xs)) s=some (.ok ds,s'):=h;unfold M.bd at h;cases e1:ev ao aj F a J s with
  |none=>rw[e1] at h;cases h
  |some q=>
   obtain⟨q,s1⟩:=q;rw[e1] at h;cases q with
   |er c f=>cases h
   |ok d=>
    dsimp only at h;cases e2:evs ao aj F r J s1 with
    |none=>rw[e2] at h;cases h
    |some q=>
     obtain⟨q,s2⟩:=q;rw[e2] at h;cases q with
     |er c f=>cases h
     |ok ds'=>
      cases h;rw[gB,R_ r J s1 ds' _ e2];rfl
theorem Dl{β:Type}{K:W.Frag}{U:Ph}{H:Hp}{s:S}{Z:L2.St}{J:Vs}{k:List Xv->M β}{P:β->S->Ph->Hp->Prop}(hL:aR K cA U H Z J)(hS:aD K cA U H s)(h:Run K cA (M.bd (evs ao aj F Xs J) k) U H s P (eX K cA EX Z)){Q:List V->Hp->Prop}
  (f:∀x H1 U1 d s1,d.length=Es.len Xs->Ext U H U1 H1->aR K cA U1 H1 Z J->aD K cA U1 H1 s1->bG K cA U1 H1 d x->Run K cA (k d) U1 H1 s1 P (eX K cA EX Z)->Q x H1):Mh K cA EX (evs ao aj F Xs) Z H Q:=by
 refine⟨U,J,s,hL,hS,?_⟩;have h2:=h.bd;unfold Run at h2 ⊢;cases e:evs ao aj F Xs J s with
 |none=>rw[e] at h2;exact h2
 |some r=>
  obtain⟨r,s1⟩:=r;rw[e] at h2;cases r with
  |er c f=>exact h2
  |ok ds=>
   intro U1 H1 x1 r1 v rv;obtain⟨_,_,h3⟩:=h2 U1 H1 x1 r1;exact f v H1 U1 ds s1 (R_ Xs J s ds s1 e) x1 (hL.mono x1 hS.lz) r1 rv h3
theorem zjd{k}(ha:SA X cA ao aj F EX es Xs)(hz:Es.len Xs<=sizeLine):SE X cA ao aj F EX (.Tuple es k pos) (.tup Xs):=PE.weak (Zr ha) λZ H Q hh=>un hh λU J s hL hS h=>by
 refine Dl hL hS h λvs H1 U1 xs s1 hl x1 hL1 aM rv h1=>?_;obtain⟨ds,e,rs,h2⟩:=R7 rv h1;refine⟨by rw[<-rv.len,hl];exact hz,λp hp=>?_⟩;exact h2 U1 (upd H1 p (.tup vs)) (bA.new hp).ext (aM.grow (bA.new hp)) _ (.d (.tup (TupAt.new (aM.nz hp)) (rs.mono (bA.new hp).ext aM.lz)))
theorem zi2(ha:SA X cA ao aj F EX es Xs)(hz:Es.len Xs<=sizeLine):SE X cA ao aj F EX (.List es pos) (.lst fz Xs):=PE.weak (Zu ha) λZ H Q hh=>un hh λU J s hL hS h=>by
 refine Dl hL hS h λvs H1 U1 xs s1 hl x1 hL1 aM rv h1=>?_;obtain⟨ds,e,rs,h2⟩:=R7 rv h1;exact⟨by rw[<-rv.len,hl];exact hz,λp hp=>zfW aM h2 p vs hp rs⟩
theorem xG{id:String}{r:List V->Hp->VK->Prop}(hc:cT X (.builtin id) r)(hp:aX X.K cA p r)
  (hg:Gl X x) (hm:X.mg x=none) (hv:bootBuiltins x=some (.builtin id)) (ha:SA X cA ao aj F EX (e::es) Xs) (hn:x≠"__name__":=by decide) (pC:(x==("__debug__" : Str))=false:=by decide)
  (he:starEach (e::es) X.env=(false,eval e X.env)::starEach es X.env:=by rfl) (c7:(backTo pos (starEach es X.env)).any (·.1)=false:=by rfl):SE X cA ao aj F EX (.Call (.Name x pp) (e::es) [] pos) (.pr fz p Xs):=PE.weak (Q_ hc hg hm hv ha hn pC he c7) λZ H Q hh=>un hh λU J s hL hS h=>
 sJ hL hS h λvs H1 U1 ds s1 x1 hL1 aM r1 h1=>by
  obtain⟨ds,rs,h3⟩:=uW aM r1 h1;exact hp U1 H1 ds _ _ aM.zs rs (sI aM h3)
theorem Sd{id:String}{r:List V->Hp->VK->Prop}(hc:cT X (.type id) r)(hp:aX X.K cA p r)
  (hg:Gl X x) (hm:X.mg x=none) (hv:bootBuiltins x=some (.type id)) (ha:SA X cA ao aj F EX (e::es) Xs) (hn:x≠"__name__":=by decide) (pC:(x==("__debug__" : Str))=false:=by decide)
  (he:starEach (e::es) X.env=(false,eval e X.env)::starEach es X.env:=by rfl) (c7:(backTo pos (starEach es X.env)).any (·.1)=false:=by rfl):SE X cA ao aj F EX (.Call (.Name x pp) (e::es) [] pos) (.pr fz p Xs):=PE.weak (Zx hc hg hm hv ha hn pC he c7) λZ H Q hh=>un hh λU J s hL hS h=>
 sJ hL hS h λvs H1 U1 ds s1 x1 hL1 aM r1 h1=>by
  obtain⟨ds,rs,h3⟩:=uW aM r1 h1;exact hp U1 H1 ds _ _ aM.zs rs (sI aM h3)
theorem zk4(hp:aX X.K cA p (r2 (Ko X.K)))(ha:SE X cA ao aj F EX a A)(hb:SE X cA ao aj F EX b B)(hs:m_ b:=by intro _ _;rfl):SE X cA ao aj F EX (.Subscript a b pos) (.pr true p (.cons A (.cons B .nil))):=PE.weak (Z9 zi6 ha hb hs) λZ H Q hh=>un hh λU J s hL hS h=>by
 have h:Run X.K cA (M.bd (M.bd (ev ao aj F A J) λx=>M.bd (M.bd (ev ao aj F B J) λy=>M.bd (M.ret []) λz=>M.ret (y::z)) λys=>M.ret (x::ys)) λvs=>M.bd (fM vs) λds=>bV true (prim p ds)) U H s _ _:=h;simp only[jg] at h;refine bD hL hS h λx H1 U1 d1 s1 x1 hL1 aM r1 h1=>bD hL1 aM h1 λy H2 U2 d2 s2 x2 hL2 aU r2' h2=>?_;exact yU (Hl (fz:=true) (U:=U) x2 aM aU r1 r2' h2 hp)
theorem zkk(ho:GD X (unaryOp op) r)(hp:aX X.K cA p (λvs H Q=>∃x,vs=[x]/\r x H Q))(ha:SE X cA ao aj F EX a A):SE X cA ao aj F EX (.UnaryOp op a pos) (.pr true p (.cons A .nil)):=PE.weak (Y6 ho ha) λZ H Q hh=>un hh λU J s hL hS h=>by
 have h:Run X.K cA (M.bd (M.bd (ev ao aj F A J) λx=>M.bd (M.ret []) λz=>M.ret (x::z)) λvs=>M.bd (fM vs) λds=>bV true (prim p ds)) U H s _ _:=h;simp only[jg] at h;refine bD hL hS h λx H1 U1 d1 s1 x1 hL1 aM r1 h1=>?_;obtain⟨ds,rs,h3⟩:=uW aM (.cons r1 .nil) h1;obtain⟨_,e,q⟩:=hp U1 H1 ds _ _ aM.zs rs (sI aM h3);cases e;exact q
theorem ziB{j p'}(ha:SE X cA ao aj F EX a A):SE X cA ao aj F EX (.Compare a [.Is] [.Constant .none j p'] pos) (.pr true .Cp (.cons A .nil)):=PE.weak (Yl (Yj ha)) λZ H Q hh=>un hh λU J s hL hS h=>by
 have h:Run X.K cA (M.bd (M.bd (ev ao aj F A J) λx=>M.bd (M.ret []) λz=>M.ret (x::z)) λvs=>M.bd (fM vs) λds=>bV true (prim .Cp ds)) U H s _ _:=h;simp only[jg] at h;refine bD hL hS h λx H1 U1 d1 s1 x1 hL1 aM r1 h1=>?_;obtain⟨ds,rs,h3⟩:=uW aM (.cons r1 .nil) h1;cases rs with
 |cons r rs=>cases rs with
  |nil=>
   rename_i d;have h4:=sI aM h3;have q:=h4 H1 _ bA.refl (.bl _);cases d<;>first
    |(obtain⟨_,_,rfl,_,_⟩:=r;exact q)
    |(cases (show Rep _ _ _ _ _ x from r)<;>exact q)
theorem zfO(q:Pr)(hq:prim q=wW f)(hh:sG X.K cA EX (λJ=>M.bd (ev ao aj F (.pr true q (.cons A .nil)) J) bool) Z H Q):tE X.K cA EX (ev ao aj F A) Z H λx H1=>Q (f (decide (x=.non))) H1:=un hh λU J s hL hS h=>by
 have h:Run X.K cA (M.bd (M.bd (M.bd (ev ao aj F A J) λx=>M.bd (M.ret []) λz=>M.ret (x::z)) λvs=>M.bd (fM vs) λds=>bV true (prim q ds)) bool) U H s _ _:=h;simp only[jg] at h;refine bD hL hS h λx H1 U1 d1 s1 x1 hL1 aM r1 h1=>?_;obtain⟨ds,rs,h3⟩:=uW aM (.cons r1 .nil) h1;cases rs with
 |cons r rs=>cases rs with
  |nil=>
   rename_i d;rw[hq] at h3;have h4:Run X.K cA (M.bd (M.ret (Xv.d (.bl (f d.uM)))) bool) U1 H1 s1 (λd _ U' H'=>Q d H') (eX X.K cA EX Z):=h3;have q:=h4 U1 H1 Ext.refl aM;cases d<;>first
    |(obtain⟨_,_,rfl,_,_⟩:=r;exact q)
    |(cases (show Rep _ _ _ _ _ x from r)<;>exact q)
theorem zg4{j p'}(ha:SE X cA ao aj F EX a A):ST X cA ao aj F EX (.Compare a [.IsNot] [.Constant .none j p'] pos) (.pr true .Cq (.cons A .nil)):=PT.weak (Ym (Yk ha)) λZ H Q hh=>by
 have:=zfO .Cq (f:=not) rfl hh;obtain⟨U,J,s,a,b,c⟩:=this;exact⟨U,J,s,a,b,c.imp λd s' U' H' k v rv=>⟨_,rfl,k v rv⟩⟩
end
mutual
inductive Is (h:Heap):D->Value->Prop where
 |non:Is h .non .none
 |bl (b:Bool):Is h (.bl b) (.bool b)
 |int (i:Int) (t:Tok):Is h (.int i) (.int i t)
 |str (x:Str) (t:Tok):Is h (.str x) (.str x t)
 |tup {a:Addr} {xs:List D} {its:List Value} (p:h.IsTuple a its.toArray) (r:jh h xs its):Is h (.tup xs) (.ref a)
 |fl {a:Addr} {xs:List D} {its:List Value} (p:h.IsList a its.toArray) (r:jh h xs its):Is h (.fl xs) (.ref a)
 |oth {d:D} {u:Value} (k:kq d=none):Is h d u
inductive jh (h:Heap):List D->List Value->Prop where
 |nil:jh h [] []
 |cons {d:D} {u:Value} {ds:List D} {us:List Value} (a:Is h d u) (r:jh h ds us):jh h (d::ds) (u::us)
end
section
variable {X:Cx}{cA:Cl}{ak:List (Addr×Obj)}{Z:L2.St}{H:Hp}{s:Shared}{U:Ph}{h:Heap}
theorem Mq(I:Inv X ak Z H s){ds:List D}{vs:List V}{us:List Value}(h:aB X.K cA U H ds vs)(r:Vals vs us):jh s.heap ds us:=
 aB.rec (motive_1:=λd v _=>∀{u:Value},RelV v u->Is s.heap d u) (motive_2:=λd v _=>∀{u:List Value},Vals v u->jh s.heap d u) (λr=>by cases r;exact .non) (λb _ r=>by cases r;exact .bl b) (λi _ r=>by obtain⟨t,rfl⟩:=r;exact .int i t) (λi _ r=>by obtain⟨t,rfl⟩:=r;exact .str i t)
 (λh _ ih _ r=>by
  cases r;obtain⟨its,rv,ht,_⟩:=I.tuple h.iQ;exact .tup ht (ih rv))
 (λh _ ih _ r=>by
  cases r;obtain⟨its,rv,ht,_⟩:=I.list h.oM;exact .fl ht.isList (ih rv))
 (λ_ _ _ _=>.oth rfl) (λ_ _ _ _ _=>.oth rfl) (λ_ _ _ _ _=>.oth rfl) (λ_ _ _=>.oth rfl)
 (λr=>by cases r;exact .nil)
 (λ_ _ i j _ r=>by
  cases r with
  |cons a b=>exact .cons (i a) (j b)) h r
theorem sS(I:Inv X ak Z H s){d:D}{v:V}{u:Value}(h:Rep X.K cA U H d v)(r:RelV v u):Is s.heap d u:=by
 cases h with
 |non=>cases r;exact .non
 |bl b=>cases r;exact .bl b
 |int i=>obtain⟨t,rfl⟩:=r;exact .int i t
 |str i=>obtain⟨t,rfl⟩:=r;exact .str i t
 |tup h q=>
  cases r;obtain⟨its,rv,ht,_⟩:=I.tuple h.iQ;exact .tup ht (Mq I q rv)
 |fl h q=>
  cases r;obtain⟨its,rv,ht,_⟩:=I.list h.oM;exact .fl ht.isList (Mq I q rv)
 |fd _ _=>exact .oth rfl
 |exc _ _=>exact .oth rfl
 |ob _ _=>exact .oth rfl
 |any _=>exact .oth rfl
theorem uY(I:Inv X ak Z H s){d:D}{v:V}{u:Value}(q:Rv X.K cA U H d v)(r:RelV v u):Is s.heap d u:=by
 cases d with
 |fl xs=>
  obtain⟨a,vs,rfl,sq,rs⟩:=q;cases r;obtain⟨its,rv,ht,_⟩:=I.list sq;exact .fl ht.isList (Mq I rs rv)
 |non=>exact sS I q r
 |bl b=>exact sS I q r
 |int b=>exact sS I q r
 |str b=>exact sS I q r
 |tup b=>exact sS I q r
 |fd b c=>exact sS I q r
 |exc b c=>exact sS I q r
 |ob b c=>exact sS I q r
 |any=>exact sS I q r
theorem jh.len:∀{ds:List D} {us:List Value},jh h ds us->ds.length=us.length
 |_,_,.nil=>rfl
 |_,_,.cons _ r=>by rw[gB,gB,jh.len r]
theorem jh.get:∀{ds:List D} {us:List Value} {i:Nat} {d:D},jh h ds us->ds[i]?=some d->∃u,us[i]?=some u/\Is h d u
 |_,_,_,_,.nil,e=>by simp at e
 |_,_,0,_,.cons h _,e=>by simp at e;subst e;exact⟨_,rfl,h⟩
 |_,_,i+1,d,.cons _ r,e=>by
  obtain⟨v,a,b⟩:=jh.get (i:=i) (d:=d) r (by simpa using e);exact⟨v,by simpa using a,b⟩
theorem Sg{a:Addr}{is js:Array Value}(p:h.IsTuple a is)(q:h.IsTuple a js):is=js:=by
 obtain⟨o,e,c,n,d⟩:=p;obtain⟨o',e',c',n',d'⟩:=q;rw[e] at e';cases e';rw[d] at d';cases d';rfl
theorem Sh{a:Addr}{is js:Array Value}(p:h.IsList a is)(q:h.IsList a js):is=js:=by
 obtain⟨o,e,c,n,d⟩:=p;obtain⟨o',e',c',n',d'⟩:=q;rw[e] at e';cases e';rw[d] at d';cases d';rfl
theorem qM{a:Addr}{is js:Array Value}(p:h.IsList a is)(q:h.IsTuple a js):False:=by
 obtain⟨o,e,c,n,d⟩:=p;obtain⟨o',e',c',n',d'⟩:=q;rw[e] at e';cases e';rw[c] at c';exact absurd c' J0
theorem Dm{eq:D->D->Option Bool}:∀{xs ys:List D} {b:Bool},dJ eq xs ys=some b->∃e:Nat->Bool,(∀(j:Nat) x y,xs[j]?=some x->ys[j]?=some y->eq x y=some (e j))/\b=((List.range (min xs.length ys.length)).all e&&xs.length==ys.length)
 |[],[],b,h=>by cases h;exact⟨λ_=>true,λj x y q=>by simp at q,by simp⟩
 |[],y::ys,b,h=>by cases h;exact⟨λ_=>true,λj x y q=>by simp at q,by simp⟩
 |x::xs,[],b,h=>by cases h;exact⟨λ_=>true,λj x y q r=>by simp at r,by simp⟩
 |x::xs,y::ys,b,h=>by
  simp only[dJ] at h;cases e1:eq x y with
  |none=>rw[e1] at h;cases h
  |some a=>
   cases e2:dJ eq xs ys with
   |none=>rw[e1,e2] at h;cases h
   |some c=>
    rw[e1,e2] at h;cases h;obtain⟨e,h1,h2⟩:=Dm e2;refine⟨λj=>match j with|0=>a|j+1=>e j,λj p q r1 r2=>?_,?_⟩
    ·cases j with
     |zero=>
      simp at r1 r2;subst r1 r2;exact e1
     |succ j=>exact h1 j p q (by simpa using r1) (by simpa using r2)
    ·rw[h2];simp only[gB,Nat.succ_min_succ,List.range_succ_eq_map,vM,List.all_map,Function.comp_def];rw[Bool.and_assoc]
     congr 2
     simp
theorem gQ{n:Nat}{d e:D}(k:kq d=none):cJ n d e=none:=by
 cases n<;>cases d<;>first|cases k;done|(cases e<;>rfl)
theorem fO{n:Nat}{d e:D}(k:kq e=none):cJ n d e=none:=by
 cases n<;>cases e<;>first|cases k;done|(cases d<;>rfl)
theorem Sq:∀(n:Nat) {d1 d2:D} {u:Value} {b:Bool},Is h d1 u->Is h d2 u->cJ n d1 d2=some b->b=true:=by
 intro n;have rows:∀(n:Nat),(∀{d1 d2:D} {u:Value} {b:Bool},Is h d1 u->Is h d2 u->cJ n d1 d2=some b->b=true)->∀{xs ys:List D} {is js:List Value} {b:Bool},jh h xs is->jh h ys js->is.toArray=js.toArray->dJ (cJ n) xs ys=some b->b=true:=by
  intro n ih xs ys is js b q1 q2 e hd;have e:is=js:=by simpa using e
  subst e;obtain⟨e,a1,a2⟩:=Dm (eq:=cJ n) hd;rw[a2];have hl:_=_:=q1.len.trans q2.len.symm;rw[fK];refine⟨k_.mpr λj hj=>?_,by rw[hl];simp⟩;have hj:=kh.mp hj;obtain⟨x,hx⟩ : ∃x,_=some x:=⟨_,gj (gq hj (Nat.min_le_left _ _))⟩;obtain⟨y,hy⟩ : ∃y,_=some y:=⟨_,gj (gq hj (Nat.min_le_right _ _))⟩;obtain⟨v1,e1,p1⟩:=q1.get hx;obtain⟨v2,e2,p2⟩:=q2.get hy;rw[e1] at e2;cases e2;exact ih p1 p2 (a1 j x y hx hy)
 induction n with
 |zero=>
  intro d1 d2 u b r1 r2 hd;cases r1 with
  |oth k=>rw[gQ k] at hd;cases hd
  |non=>cases r2 with
   |oth k=>rw[fO k] at hd;cases hd
   |non=>cases hd;rfl
  |bl x=>cases r2 with
   |oth k=>rw[fO k] at hd;cases hd
   |bl y=>cases hd;simp
  |int x t=>cases r2 with
   |oth k=>rw[fO k] at hd;cases hd
   |int y=>cases hd;simp
  |str x t=>cases r2 with
   |oth k=>rw[fO k] at hd;cases hd
   |str y=>cases hd;simp
  |tup p q=>cases r2 with
   |oth k=>rw[fO k] at hd;cases hd
   |tup p2 q2=>cases hd
   |fl p2 q2=>exact(qM p2 p).elim
  |fl p q=>cases r2 with
   |oth k=>rw[fO k] at hd;cases hd
   |fl p2 q2=>cases hd
   |tup p2 q2=>exact(qM p p2).elim
 |succ n ih=>
  intro d1 d2 u b r1 r2 hd;cases r1 with
  |oth k=>rw[gQ k] at hd;cases hd
  |non=>cases r2 with
   |oth k=>rw[fO k] at hd;cases hd
   |non=>cases hd;rfl
  |bl x=>cases r2 with
   |oth k=>rw[fO k] at hd;cases hd
   |bl y=>cases hd;simp
  |int x t=>cases r2 with
   |oth k=>rw[fO k] at hd;cases hd
   |int y=>cases hd;simp
  |str x t=>cases r2 with
   |oth k=>rw[fO k] at hd;cases hd
   |str y=>cases hd;simp
  |tup p q=>cases r2 with
   |oth k=>rw[fO k] at hd;cases hd
   |tup p2 q2=>exact rows n ih q q2 (Sg p p2) hd
   |fl p2 q2=>exact(qM p2 p).elim
  |fl p q=>cases r2 with
   |oth k=>rw[fO k] at hd;cases hd
   |fl p2 q2=>exact rows n ih q q2 (Sh p p2) hd
   |tup p2 q2=>exact(qM p p2).elim
theorem parts{n:Nat}{A:Around}{xs ys:List D}{is js:List Value}{b:Bool}(r1:jh s.heap xs is)(r2:jh s.heap ys js)(hd:dJ (cJ n) xs ys=some b)
  (ih:∀{d1 d2:D} {u1 u2:Value} {b:Bool},Is s.heap d1 u1->Is s.heap d2 u2->cJ n d1 d2=some b->SeqAt.EqAt A s u1 u2 b) :
  ∃e:Nat->Bool,(∀j (h1:j<is.toArray.size) (h2:j<js.toArray.size),SeqAt.EqAt A s is.toArray[j] js.toArray[j] (e j))/\b=((List.range (min is.toArray.size js.toArray.size)).all e&&is.toArray.size==js.toArray.size):=by
 obtain⟨e,a1,a2⟩:=Dm hd;have z1:=r1.len;have z2:=r2.len;refine⟨e,λj h1 h2=>?_,by simp only[fG,<-z1,<-z2];exact a2⟩;simp only[fG] at h1 h2;obtain⟨x,hx⟩ : ∃x,xs[j]?=some x:=⟨_,gj (by rw[z1];exact h1)⟩;obtain⟨y,hy⟩ : ∃y,ys[j]?=some y:=⟨_,gj (by rw[z2];exact h2)⟩;obtain⟨u,f1,g1⟩:=r1.get hx;obtain⟨u',f2,g2⟩:=r2.get hy;have k1:is.toArray[j]=u:=by
  have:=fQ.mp f1;simpa using this.2
 have k2:js.toArray[j]=u':=by
  have:=fQ.mp f2;simpa using this.2
 rw[k1,k2];exact ih g1 g2 (a1 j x y hx hy)
theorem Ss{A:Around}{l m:Addr}{is js:Array Value}{e:Nat->Bool}{b:Bool}(p1:s.heap.IsList l is)(p2:s.heap.IsList m js)(hu:A.units<cLine)(he:∀j (h1:j<is.size) (h2:j<js.size),SeqAt.EqAt A.in1 s is[j] js[j] (e j))(hb:b=((List.range (min is.size js.size)).all e&&is.size==js.size)):SeqAt.RcAt A s (.ref l) (.ref m) b:=by
 by_cases hz:is.size=js.size
 ·have:b=(List.range is.size).all e:=by rw[hb,hz];simp
  rw[this];exact SeqAt.RcAt.lists p1 p2 hz hu he
 ·have Mr:(is.size != js.size)=true:=by simpa using hz
  have:b=false:=by rw[hb];simp[hz]
  rw[this];exact SeqAt.RcAt.lists_lengths p1 p2 Mr hu
theorem zd8{A:Around}{l m:Addr}{is js:Array Value}{e:Nat->Bool}{b:Bool}(p1:s.heap.IsList l is)(p2:s.heap.IsList m js)(hu:A.units<cLine)(he:∀j (h1:j<is.size) (h2:j<js.size),SeqAt.EqAt A.in1 s is[j] js[j] (e j))(hb:b=((List.range (min is.size js.size)).all e&&is.size==js.size)):SeqAt.RcNeAt A s (.ref l) (.ref m) (!b):=by
 by_cases hz:is.size=js.size
 ·have:b=(List.range is.size).all e:=by rw[hb,hz];simp
  rw[this];exact SeqAt.RcNeAt.lists p1 p2 hz hu he
 ·have Mr:(is.size != js.size)=true:=by simpa using hz
  have:b=false:=by rw[hb];simp[hz]
  rw[this];exact SeqAt.RcNeAt.lists_lengths p1 p2 Mr hu
open SeqAt in
theorem yV:∀(n:Nat) {A:Around} {d1 d2:D} {u1 u2:Value} {b:Bool},A.units+n<cLine->Is s.heap d1 u1->Is s.heap d2 u2->cJ n d1 d2=some b->SeqAt.EqAt A s u1 u2 b:=by
 intro n
 induction n with
 |zero=>
  intro A d1 d2 u1 u2 b hu r1 r2 hd;have hu:A.units<cLine:=by lia
  cases r1 with
  |oth k=>rw[gQ k] at hd;cases hd
  |non=>cases r2 with
   |oth k=>rw[fO k] at hd;cases hd
   |non=>cases hd;exact EqAt.same _
   |bl y=>cases hd;exact EqAt.none_bool _
   |int y t=>cases hd;exact EqAt.none_int _ _
   |str y t=>cases hd;exact EqAt.none_str _ _
   |tup p q=>cases hd;exact EqAt.none_tuple p hu
   |fl p q=>cases hd;exact EqAt.none_list p hu
  |bl x=>cases r2 with
   |oth k=>rw[fO k] at hd;cases hd
   |non=>cases hd;exact EqAt.bool_none _
   |bl y=>cases hd;exact EqAt.bool_bool _ _
   |int y t=>cases hd;exact EqAt.bool_int _ _ _
   |str y t=>cases hd;exact EqAt.bool_str _ _ _
   |tup p q=>cases hd;exact EqAt.bool_tuple _ p hu
   |fl p q=>cases hd;exact EqAt.bool_list _ p hu
  |int x t=>cases r2 with
   |oth k=>rw[fO k] at hd;cases hd
   |non=>cases hd;exact EqAt.int_none _ _
   |bl y=>cases hd;exact EqAt.int_bool _ _ _
   |int y t=>cases hd;exact EqAt.int_int _ _ _ _
   |str y t=>cases hd;exact EqAt.int_str _ _ _ _
   |tup p q=>cases hd;exact EqAt.int_tuple _ _ p hu
   |fl p q=>cases hd;exact EqAt.int_list _ _ p hu
  |str x t=>cases r2 with
   |oth k=>rw[fO k] at hd;cases hd
   |non=>cases hd;exact EqAt.str_none _ _
   |bl y=>cases hd;exact EqAt.str_bool _ _ _
   |int y t=>cases hd;exact EqAt.str_int _ _ _ _
   |str y t=>cases hd;exact EqAt.str_str _ _ _ _
   |tup p q=>cases hd;exact EqAt.str_tuple _ _ p hu
   |fl p q=>cases hd;exact EqAt.str_list _ _ p hu
  |tup p q=>cases r2 with
   |oth k=>rw[fO k] at hd;cases hd
   |non=>cases hd;exact EqAt.tuple_none p hu
   |bl y=>cases hd;exact EqAt.tuple_bool _ p hu
   |int y t=>cases hd;exact EqAt.tuple_int _ _ p hu
   |str y t=>cases hd;exact EqAt.tuple_str _ _ p hu
   |tup p2 q2=>cases hd
   |fl p2 q2=>cases hd;exact EqAt.tuple_list p p2 hu
  |fl p q=>cases r2 with
   |oth k=>rw[fO k] at hd;cases hd
   |non=>cases hd;exact EqAt.list_none p hu
   |bl y=>cases hd;exact EqAt.list_bool _ p hu
   |int y t=>cases hd;exact EqAt.list_int _ _ p hu
   |str y t=>cases hd;exact EqAt.list_str _ _ p hu
   |tup p2 q2=>cases hd;exact EqAt.list_tuple p p2 hu
   |fl p2 q2=>cases hd
 |succ n ih=>
  intro A d1 d2 u1 u2 b hu0 r1 r2 hd;have hu:A.units<cLine:=by lia
  have dY:A.in1.units+n<cLine:=by show A.units+1+n<cLine;lia
  cases r1 with
  |oth k=>rw[gQ k] at hd;cases hd
  |non=>cases r2 with
   |oth k=>rw[fO k] at hd;cases hd
   |non=>cases hd;exact EqAt.same _
   |bl y=>cases hd;exact EqAt.none_bool _
   |int y t=>cases hd;exact EqAt.none_int _ _
   |str y t=>cases hd;exact EqAt.none_str _ _
   |tup p q=>cases hd;exact EqAt.none_tuple p hu
   |fl p q=>cases hd;exact EqAt.none_list p hu
  |bl x=>cases r2 with
   |oth k=>rw[fO k] at hd;cases hd
   |non=>cases hd;exact EqAt.bool_none _
   |bl y=>cases hd;exact EqAt.bool_bool _ _
   |int y t=>cases hd;exact EqAt.bool_int _ _ _
   |str y t=>cases hd;exact EqAt.bool_str _ _ _
   |tup p q=>cases hd;exact EqAt.bool_tuple _ p hu
   |fl p q=>cases hd;exact EqAt.bool_list _ p hu
  |int x t=>cases r2 with
   |oth k=>rw[fO k] at hd;cases hd
   |non=>cases hd;exact EqAt.int_none _ _
   |bl y=>cases hd;exact EqAt.int_bool _ _ _
   |int y t=>cases hd;exact EqAt.int_int _ _ _ _
   |str y t=>cases hd;exact EqAt.int_str _ _ _ _
   |tup p q=>cases hd;exact EqAt.int_tuple _ _ p hu
   |fl p q=>cases hd;exact EqAt.int_list _ _ p hu
  |str x t=>cases r2 with
   |oth k=>rw[fO k] at hd;cases hd
   |non=>cases hd;exact EqAt.str_none _ _
   |bl y=>cases hd;exact EqAt.str_bool _ _ _
   |int y t=>cases hd;exact EqAt.str_int _ _ _ _
   |str y t=>cases hd;exact EqAt.str_str _ _ _ _
   |tup p q=>cases hd;exact EqAt.str_tuple _ _ p hu
   |fl p q=>cases hd;exact EqAt.str_list _ _ p hu
  |@tup a1 xs is p q=>cases r2 with
   |oth k=>rw[fO k] at hd;cases hd
   |non=>cases hd;exact EqAt.tuple_none p hu
   |bl y=>cases hd;exact EqAt.tuple_bool _ p hu
   |int y t=>cases hd;exact EqAt.tuple_int _ _ p hu
   |str y t=>cases hd;exact EqAt.tuple_str _ _ p hu
   |@tup a2 ys js p2 q2=>
    by_cases ea:a1=a2
    ·subst ea;have:=Sq (n+1) (.tup p q) (.tup p2 q2) hd;subst this;exact EqAt.same _
    ·obtain⟨e,he,hb⟩:=parts (A:=A.in1) q q2 hd λa b c=>ih dY a b c;rw[hb];exact EqAt.of_refs ea (RcAt.tuples p p2 hu he)
   |fl p2 q2=>cases hd;exact EqAt.tuple_list p p2 hu
  |@fl a1 xs is p q=>cases r2 with
   |oth k=>rw[fO k] at hd;cases hd
   |non=>cases hd;exact EqAt.list_none p hu
   |bl y=>cases hd;exact EqAt.list_bool _ p hu
   |int y t=>cases hd;exact EqAt.list_int _ _ p hu
   |str y t=>cases hd;exact EqAt.list_str _ _ p hu
   |tup p2 q2=>cases hd;exact EqAt.list_tuple p p2 hu
   |@fl a2 ys js p2 q2=>
    by_cases ea:a1=a2
    ·subst ea;have:=Sq (n+1) (.fl p q) (.fl p2 q2) hd;subst this;exact EqAt.same _
    ·obtain⟨e,he,hb⟩:=parts (A:=A.in1) q q2 hd λa b c=>ih dY a b c;exact EqAt.of_refs ea (Ss p p2 hu he hb)
end
section
variable {X:Cx}{cA:Cl}{ak:List (Addr×Obj)}{Z:L2.St}{H:Hp}{s:Shared}{U:Ph}{h:Heap}
open SeqAt in
theorem Sv(hu0:A.units+(n+1)<cLine)(r1:Is s.heap d1 u1)(r2:Is s.heap d2 u2)(hd:cJ (n+1) d1 d2=some b):RcAt A s u1 u2 b/\RcNeAt A s u1 u2 (!b):=by
 have hu:A.units<cLine:=by lia
 have dY:A.in1.units+n<cLine:=by show A.units+1+n<cLine;lia
 cases r1 with
 |oth k=>rw[gQ k] at hd;cases hd
 |non=>cases r2 with
  |oth k=>rw[fO k] at hd;cases hd
  |non=>cases hd;exact⟨RcAt.none_none,RcNeAt.none_none⟩
  |bl y=>cases hd;exact⟨RcAt.none_bool _,RcNeAt.none_bool _⟩
  |int y t=>cases hd;exact⟨RcAt.none_int _ _,RcNeAt.none_int _ _⟩
  |str y t=>cases hd;exact⟨RcAt.none_str _ _,RcNeAt.none_str _ _⟩
  |tup p q=>cases hd;exact⟨RcAt.none_tuple p hu,RcNeAt.none_tuple p hu⟩
  |fl p q=>cases hd;exact⟨RcAt.none_list p hu,RcNeAt.none_list p hu⟩
 |bl x=>cases r2 with
  |oth k=>rw[fO k] at hd;cases hd
  |non=>cases hd;exact⟨RcAt.bool_none _,RcNeAt.bool_none _⟩
  |bl y=>cases hd;exact⟨RcAt.bool_bool _ _,RcNeAt.bool_bool _ _⟩
  |int y t=>cases hd;exact⟨RcAt.bool_int _ _ _,RcNeAt.bool_int _ _ _⟩
  |str y t=>cases hd;exact⟨RcAt.bool_str _ _ _,RcNeAt.bool_str _ _ _⟩
  |tup p q=>cases hd;exact⟨RcAt.bool_tuple _ p hu,RcNeAt.bool_tuple _ p hu⟩
  |fl p q=>cases hd;exact⟨RcAt.bool_list _ p hu,RcNeAt.bool_list _ p hu⟩
 |int x t=>cases r2 with
  |oth k=>rw[fO k] at hd;cases hd
  |non=>cases hd;exact⟨RcAt.int_none _ _,RcNeAt.int_none _ _⟩
  |bl y=>cases hd;exact⟨RcAt.int_bool _ _ _,RcNeAt.int_bool _ _ _⟩
  |int y t=>cases hd;exact⟨RcAt.int_int _ _ _ _,RcNeAt.int_int _ _ _ _⟩
  |str y t=>cases hd;exact⟨RcAt.int_str _ _ _ _,RcNeAt.int_str _ _ _ _⟩
  |tup p q=>cases hd;exact⟨RcAt.int_tuple _ _ p hu,RcNeAt.int_tuple _ _ p hu⟩
  |fl p q=>cases hd;exact⟨RcAt.int_list _ _ p hu,RcNeAt.int_list _ _ p hu⟩
 |str x t=>cases r2 with
  |oth k=>rw[fO k] at hd;cases hd
  |non=>cases hd;exact⟨RcAt.str_none _ _,RcNeAt.str_none _ _⟩
  |bl y=>cases hd;exact⟨RcAt.str_bool _ _ _,RcNeAt.str_bool _ _ _⟩
  |int y t=>cases hd;exact⟨RcAt.str_int _ _ _ _,RcNeAt.str_int _ _ _ _⟩
  |str y t=>cases hd;exact⟨RcAt.str_str _ _ _ _,RcNeAt.str_str _ _ _ _⟩
  |tup p q=>cases hd;exact⟨RcAt.str_tuple _ _ p hu,RcNeAt.str_tuple _ _ p hu⟩
  |fl p q=>cases hd;exact⟨RcAt.str_list _ _ p hu,RcNeAt.str_list _ _ p hu⟩
 |@tup a1 xs is p q=>cases r2 with
  |oth k=>rw[fO k] at hd;cases hd
  |non=>cases hd;exact⟨RcAt.tuple_none p hu,RcNeAt.tuple_none p hu⟩
  |bl y=>cases hd;exact⟨RcAt.tuple_bool _ p hu,RcNeAt.tuple_bool _ p hu⟩
  |int y t=>cases hd;exact⟨RcAt.tuple_int _ _ p hu,RcNeAt.tuple_int _ _ p hu⟩
  |str y t=>cases hd;exact⟨RcAt.tuple_str _ _ p hu,RcNeAt.tuple_str _ _ p hu⟩
  |@tup a2 ys js p2 q2=>
   obtain⟨e,he,hb⟩:=parts (A:=A.in1) q q2 hd λa b c=>yV n dY a b c;rw[hb];exact⟨RcAt.tuples p p2 hu he,RcNeAt.tuples p p2 hu he⟩
  |fl p2 q2=>cases hd;exact⟨RcAt.tuple_list p p2 hu,RcNeAt.tuple_list p p2 hu⟩
 |@fl a1 xs is p q=>cases r2 with
  |oth k=>rw[fO k] at hd;cases hd
  |non=>cases hd;exact⟨RcAt.list_none p hu,RcNeAt.list_none p hu⟩
  |bl y=>cases hd;exact⟨RcAt.list_bool _ p hu,RcNeAt.list_bool _ p hu⟩
  |int y t=>cases hd;exact⟨RcAt.list_int _ _ p hu,RcNeAt.list_int _ _ p hu⟩
  |str y t=>cases hd;exact⟨RcAt.list_str _ _ p hu,RcNeAt.list_str _ _ p hu⟩
  |tup p2 q2=>cases hd;exact⟨RcAt.list_tuple p p2 hu,RcNeAt.list_tuple p p2 hu⟩
  |@fl a2 ys js p2 q2=>
   obtain⟨e,he,hb⟩:=parts (A:=A.in1) q q2 hd λa b c=>yV n dY a b c;exact⟨Ss p p2 hu he hb,zd8 p p2 hu he hb⟩
noncomputable def sU(K:W.Frag)(cA:Cl)(f:Bool->Bool):R2:=λx y H Q=>∃U d1 d2 b,Rv K cA U H d1 x/\Rv K cA U H d2 y/\cJ 50 d1 d2=some b/\Q (.bl (f b)) H
theorem zj5(hu:X.A.units+60<cLine):dw X (compareOp .Eq) (sU X.K cA id):=by
 intro ak s Z H x y v u Q I rx ry ⟨U,d1,d2,b,r1,r2,hd,q⟩;exact(Sv (n:=49) gV (uY I r1 rx) (uY I r2 ry) hd).1 X.prog X.w X.xe _ ⟨.bl b,H,I,rfl,q⟩
theorem zjh(hu:X.A.units+60<cLine):dw X (compareOp .NotEq) (sU X.K cA not):=by
 intro ak s Z H x y v u Q I rx ry ⟨U,d1,d2,b,r1,r2,hd,q⟩;exact(Sv (n:=49) gV (uY I r1 rx) (uY I r2 ry) hd).2 X.prog X.w X.xe _ ⟨.bl (!b),H,I,rfl,q⟩
theorem zhH:∀(n:Nat) {d d' x:D} {u:Value} {b b':Bool},Is h d u->Is h d' u->cJ n d x=some b->cJ n d' x=some b'->b=b':=by
 intro n;have flat:∀{d d' x:D} {u:Value} {b b':Bool},Is h d u->Is h d' u->(∀xs xs',d=.tup xs->d'=.tup xs'->False)->(∀xs xs',d=.fl xs->d'=.fl xs'->False)->cJ n d x=some b->cJ n d' x=some b'->b=b':=by
  intro d d' x u b b' r1 r2 n1 n2 h1 h2;cases r1 with
  |oth k=>rw[gQ k] at h1;cases h1
  |non=>cases r2 with
   |oth k=>rw[gQ k] at h2;cases h2
   |non=>rw[h1] at h2;exact bR h2
  |bl y=>cases r2 with
   |oth k=>rw[gQ k] at h2;cases h2
   |bl=>rw[h1] at h2;exact bR h2
  |int y=>cases r2 with
   |oth k=>rw[gQ k] at h2;cases h2
   |int=>rw[h1] at h2;exact bR h2
  |str y=>cases r2 with
   |oth k=>rw[gQ k] at h2;cases h2
   |str=>rw[h1] at h2;exact bR h2
  |tup p q=>cases r2 with
   |oth k=>rw[gQ k] at h2;cases h2
   |tup=>exact(n1 _ _ rfl rfl).elim
   |fl p2 q2=>exact(qM p2 p).elim
  |fl p q=>cases r2 with
   |oth k=>rw[gQ k] at h2;cases h2
   |fl=>exact(n2 _ _ rfl rfl).elim
   |tup p2 q2=>exact(qM p p2).elim
 have tn:∀{n:Nat} {xs xs':List D} {x:D},(∀ys,x=.tup ys->False)->cJ n (.tup xs) x=cJ n (.tup xs') x:=λ{n xs xs' x} hx=>by
  cases n<;>cases x<;>first|rfl|exact(hx _ rfl).elim
 have ln:∀{n:Nat} {xs xs':List D} {x:D},(∀ys,x=.fl ys->False)->cJ n (.fl xs) x=cJ n (.fl xs') x:=λ{n xs xs' x} hx=>by
  cases n<;>cases x<;>first|rfl|exact(hx _ rfl).elim
 clear flat
 induction n with
 |zero=>
  intro d d' x u b b' r1 r2 h1 h2;cases r1 with
  |oth k=>rw[gQ k] at h1;cases h1
  |non=>cases r2 with
   |oth k=>rw[gQ k] at h2;cases h2
   |non=>rw[h1] at h2;exact bR h2
  |bl y=>cases r2 with
   |oth k=>rw[gQ k] at h2;cases h2
   |bl=>rw[h1] at h2;exact bR h2
  |int y=>cases r2 with
   |oth k=>rw[gQ k] at h2;cases h2
   |int=>rw[h1] at h2;exact bR h2
  |str y=>cases r2 with
   |oth k=>rw[gQ k] at h2;cases h2
   |str=>rw[h1] at h2;exact bR h2
  |tup p q=>cases r2 with
   |oth k=>rw[gQ k] at h2;cases h2
   |tup p2 q2=>
    cases x with
    |tup ys=>cases h1
    |_=>rw[tn (by intro ys z;cases z),h2] at h1;exact(bR h1).symm
   |fl p2 q2=>exact(qM p2 p).elim
  |fl p q=>cases r2 with
   |oth k=>rw[gQ k] at h2;cases h2
   |fl p2 q2=>
    cases x with
    |fl ys=>cases h1
    |_=>rw[ln (by intro ys z;cases z),h2] at h1;exact(bR h1).symm
   |tup p2 q2=>exact(qM p p2).elim
 |succ n ih=>
  intro d d' x u b b' r1 r2 h1 h2;have rows:∀{xs xs' ys:List D} {is js:List Value} {b b':Bool},jh h xs is->jh h xs' js->is.toArray=js.toArray->dJ (cJ n) xs ys=some b->dJ (cJ n) xs' ys=some b'->b=b':=by
   intro xs xs' ys is js b b' q1 q2 e h1 h2;have e:is=js:=by simpa using e
   subst e;obtain⟨e1,a1,b1⟩:=Dm h1;obtain⟨e2,a2,b2⟩:=Dm h2;have hl:xs.length=xs'.length:=q1.len.trans q2.len.symm;rw[b1,b2,hl]
   congr 1
   rw[Bool.eq_iff_iff,k_,k_];have key:∀j∈List.range (min xs'.length ys.length),e1 j=e2 j:=λj hj=>by
    have hj:=kh.mp hj;obtain⟨x1,Sw⟩ : ∃x,xs[j]?=some x:=⟨_,gj (by rw[hl];exact gq hj (Nat.min_le_left _ _))⟩;obtain⟨x2,GZ⟩ : ∃x,xs'[j]?=some x:=⟨_,gj (gq hj (Nat.min_le_left _ _))⟩;obtain⟨y,hy⟩ : ∃y,ys[j]?=some y:=⟨_,gj (gq hj (Nat.min_le_right _ _))⟩;obtain⟨v1,f1,p1⟩:=q1.get Sw;obtain⟨v2,f2,p2⟩:=q2.get GZ;rw[f1] at f2;cases f2;exact ih p1 p2 (a1 j x1 y Sw hy) (a2 j x2 y GZ hy)
   exact⟨λz j hj=>by rw[<-key j hj];exact z j hj,λz j hj=>by rw[key j hj];exact z j hj⟩
  cases r1 with
  |oth k=>rw[gQ k] at h1;cases h1
  |non=>cases r2 with
   |oth k=>rw[gQ k] at h2;cases h2
   |non=>rw[h1] at h2;exact bR h2
  |bl y=>cases r2 with
   |oth k=>rw[gQ k] at h2;cases h2
   |bl=>rw[h1] at h2;exact bR h2
  |int y=>cases r2 with
   |oth k=>rw[gQ k] at h2;cases h2
   |int=>rw[h1] at h2;exact bR h2
  |str y=>cases r2 with
   |oth k=>rw[gQ k] at h2;cases h2
   |str=>rw[h1] at h2;exact bR h2
  |tup p q=>cases r2 with
   |oth k=>rw[gQ k] at h2;cases h2
   |tup p2 q2=>
    cases x with
    |tup ys=>exact rows q q2 (Sg p p2) h1 h2
    |_=>rw[tn (by intro ys z;cases z),h2] at h1;exact(bR h1).symm
   |fl p2 q2=>exact(qM p2 p).elim
  |fl p q=>cases r2 with
   |oth k=>rw[gQ k] at h2;cases h2
   |fl p2 q2=>
    cases x with
    |fl ys=>exact rows q q2 (Sh p p2) h1 h2
    |_=>rw[ln (by intro ys z;cases z),h2] at h1;exact(bR h1).symm
   |tup p2 q2=>exact(qM p p2).elim
theorem Sx:∀{xs:List D} {b:Bool},memD x xs=some b->∀d∈xs,∃k,cJ 50 d x=some k
 |[],_,_,d,hd=>by cases hd
 |y::xs,b,h,d,hd=>by
  unfold memD at h;cases e1:cJ 50 y x with
  |none=>simp only[e1] at h;cases h
  |some a=>
   cases e2:memD x xs with
   |none=>simp only[e1,e2] at h;cases h
   |some c=>
    rcases iy.mp hd with rfl|hd
    ·exact⟨a,e1⟩
    ·exact Sx e2 d hd
theorem Ho:∀{xs:List D} {us:List Value} {b:Bool},memD x xs=some b->jh h xs us->∃e:Value->Bool,(∀u∈us,∃d,Is h d u/\cJ 50 d x=some (e u))/\us.any e=b:=by
 intro xs us b hm r;have ex:∀u∈us,∃d k,Is h d u/\cJ 50 d x=some k:=by
  intro u hu;obtain⟨i,hi,e⟩:=Jh hu;have hl:=r.len;obtain⟨d,hd⟩ : ∃d,xs[i]?=some d:=⟨_,gj gV⟩;obtain⟨u',e1,q⟩:=r.get hd;rw[gj hi,e] at e1;cases e1;obtain⟨k,hk⟩:=Sx hm d (fU hd);exact⟨d,k,q,hk⟩
 refine⟨λu=>by classical exact if z:∃k,∃d,Is h d u/\cJ 50 d x=some k then z.choose else false,λu hu=>?_,?_⟩
 ·obtain⟨d,k,q,hk⟩:=ex u hu;have z:∃k,∃d,Is h d u/\cJ 50 d x=some k:=⟨k,d,q,hk⟩;dsimp only;rw[dif_pos z];exact z.choose_spec
 ·clear ex;have key:∀(xs:List D) (us:List Value) (b:Bool),memD x xs=some b->jh h xs us->us.any (λu=>by classical exact if z:∃k,∃d,Is h d u/\cJ 50 d x=some k then z.choose else false)=b:=by
   intro xs
   induction xs with
   |nil=>intro us b hm r;cases r;cases hm;rfl
   |cons d ds ih=>
    intro us b hm r;cases r with
    |@cons _ u _ us a r=>
     unfold memD at hm;cases e1:cJ 50 d x with
     |none=>simp only[e1] at hm;cases hm
     |some k=>
      cases e2:memD x ds with
      |none=>simp only[e1,e2] at hm;cases hm
      |some c=>
       simp only[e1,e2] at hm;cases hm;rw[List.any_cons];have z:∃k,∃d,Is h d u/\cJ 50 d x=some k:=⟨k,d,a,e1⟩;have hk:z.choose=k:=by
        obtain⟨d',q,Jw⟩:=z.choose_spec;exact zhH 50 q a Jw e1
       rw[dif_pos z,hk,ih us c e2 r]
  exact key xs us b hm r
noncomputable def sV(K:W.Frag)(cA:Cl)(f:Bool->Bool):R2:=λx y H Q=>∃U d1 d2 xs b,Rv K cA U H d1 x/\Rv K cA U H d2 y/\jO d2=some xs/\memD d1 xs=some b/\Q (.bl (f b)) H
theorem zjX(hu:X.A.units+60<cLine):dw X (compareOp .In) (sV X.K cA id):=by
 intro ak s Z H x y v u Q I rx ry ⟨U,d1,d2,xs,b,r1,r2,hq,hm,q⟩;have dY:X.A.in1.units+50<cLine:=by show X.A.units+1+50<cLine;lia
 have i1:=uY I r1 rx;cases uY I r2 ry with
 |tup p r=>
  cases hq;obtain⟨e,he,hb⟩:=Ho hm r;refine SeqAt.in_tupleAt e p (λw hw=>?_) ⟨.bl b,H,I,by rw[<-hb];simp[L2.RelV],q⟩;obtain⟨d,q1,q2⟩:=he w (by simpa using hw);exact yV 50 dY q1 i1 q2
 |fl p r=>
  cases hq;obtain⟨e,he,hb⟩:=Ho hm r;refine SeqAt.in_listAt e p (λw hw=>?_) ⟨.bl b,H,I,by rw[<-hb];simp[L2.RelV],q⟩;obtain⟨d,q1,q2⟩:=he w (by simpa using hw);exact yV 50 dY q1 i1 q2
 |oth k=>cases d2<;>cases hq<;>cases k
 |_=>cases hq
theorem zgU(hu:X.A.units+60<cLine):dw X (compareOp .NotIn) (sV X.K cA not):=by
 intro ak s Z H x y v u Q I rx ry ⟨U,d1,d2,xs,b,r1,r2,hq,hm,q⟩;have dY:X.A.in1.units+50<cLine:=by show X.A.units+1+50<cLine;lia
 have i1:=uY I r1 rx;cases uY I r2 ry with
 |tup p r=>
  cases hq;obtain⟨e,he,hb⟩:=Ho hm r;refine SeqAt.notIn_tupleAt e p (λw hw=>?_) ⟨.bl (!b),H,I,by rw[<-hb];simp[L2.RelV],q⟩;obtain⟨d,q1,q2⟩:=he w (by simpa using hw);exact yV 50 dY q1 i1 q2
 |fl p r=>
  cases hq;obtain⟨e,he,hb⟩:=Ho hm r;refine SeqAt.notIn_listAt e p (λw hw=>?_) ⟨.bl (!b),H,I,by rw[<-hb];simp[L2.RelV],q⟩;obtain⟨d,q1,q2⟩:=he w (by simpa using hw);exact yV 50 dY q1 i1 q2
 |oth k=>cases d2<;>cases hq<;>cases k
 |_=>cases hq
end
end Mi
namespace HT
open PySem PyProof.Rows
section
variable {prog:Program}{w:World}{A:Around}{E:Value->Shared->Prop}{s:Shared}
theorem pL{t b:Addr}{vs ws:List Value}{Q:Value->Shared->Prop}(ht:IsTup s.heap t vs.toArray)(hb:IsTup s.heap b ws.toArray)(hv:vs=[])
  (h1:Q (.ref b) s):wpAny (model prog w) A (binaryOp .Add (.ref t) (.ref b)) Q E s:=by
 obtain⟨⟨cls,dd,data,sl⟩,ho,hc,n,hd⟩:=id ht;obtain⟨⟨cls2,dd2,data2,sl2⟩,mC,oJ,n2,hd2⟩:=id hb;simp only at hc hd oJ hd2;subst hc hd oJ hd2;exact concat_meets ⟨_,ho,rfl⟩ ⟨_,mC,rfl⟩ noFill_tuple_add seq_tuple_add I_ IW (IK _ _)
   (tuple_addW0 t b vs.toArray ws.toArray n n2 dd dd2 sl sl2 (by simp[hv])) ⟨ho,mC,h1⟩
theorem dZ{t sl:Addr}{items:Array Value}{vl vu:Value}{lo hi:Option Int}{Q:Value->Shared->Prop}(ht:IsTup s.heap t items)(hs:s.heap.IsSliceOf sl vl vu .none)(pl:IsPart vl lo)(pu:IsPart vu hi)
  (hw:bB items.size 0 lo=0/\bB items.size items.size hi=items.size) (h:Q (.ref t) s):wpAny (model prog w) A (getItem (.ref t) (.ref sl)) Q E s:=by
 obtain⟨os,wC,GQ,Br⟩:=id hs;have Kg:s.TypeIs (.ref sl) "slice":=⟨os,wC,GQ⟩;unfold getItem
 try with_reducible refine qC ?_
 first|refine aF (bI ?_)|skip
 refine aF (wpAny_sequenceKey ht.typeIs Dc ?_);refine aF (vH (name:=Str.ofString "__getitem__") ht.typeIs yj
  (ur yj ht.typeIs entry_tuple_getitem ?_ (args_tuple_getitem _ _)))
 show wpAny _ _ (Builtin.Tuple.tupleItemsOf (.ref t) >>= _) _ _ s;refine aF (tupleItemsOf_ ht ?_);refine aF (wpAny_typeOf Kg ?_);rw[if_pos Dc];refine aF (Rf hs pl pu ?_);have Ms:(((bB items.size 0 lo:Nat):Int)==0&&(1:Int)==1&&(bB items.size items.size hi-bB items.size 0 lo)==items.size)=true:=by
  rw[hw.1,hw.2];simp
 show wpAny _ _ (if (((bB items.size 0 lo:Nat):Int)==0&&(1:Int)==1&&(bB items.size items.size hi-bB items.size 0 lo)==items.size)=true then _ else _) _ _ s;rw[if_pos Ms];refine aF ?_;unfold Builtin.Tuple.tupleIsExact;refine aF (wpAny_typeOf ht.typeIs ?_);refine bI ?_;rw[if_pos Dc];refine aF (wpAny_rule ?_);exact bI ⟨_,rfl,bI h⟩
end
end HT
namespace L2
open PySem PySem.Spec PyProof.Rows
section
variable {X:Cx}{e:Expr}{te:TE}{pos p2:Pos}
noncomputable def pN(K:W.Frag):R2:=λx y H Q=>∃a b xs ys,x=.ref a/\y=.ref b/\gF K H a xs/\gF K H b ys/\xs.length+ys.length<=sizeLine /\
 (xs=[]->Q (.ref b) H)/\(ys=[]->Q (.ref a) H)/\∀p,H p=none->Q (.ref p) (upd H p (.tup (xs++ys)))
theorem pO:dw X (binaryOp .Add) (pN X.K):=by
 intro ak s Z H x y v u Q I rx ry h;obtain⟨a,b,xs,ys,rfl,rfl,ha,hb,hz,q0,q1,q2⟩:=h;cases rx;cases ry;obtain⟨its,r1,p1,_⟩:=I.tuple ha;obtain⟨its2,r2,p2,_⟩:=I.tuple hb;by_cases hx:xs=[]
 ·exact HT.pL p1 p2 (r1.jK.mpr hx) ⟨.ref b,H,I,rfl,q0 hx⟩
 ·refine HT.rK p1 p2 (λz=>hx (r1.jK.mp z)) (λz=>⟨.ref a,H,I,rfl,q1 (r2.jK.mp z)⟩) (λz=>?_) (by rw[<-r1.length,<-r2.length];exact hz);refine⟨.ref s.heap.objs.size,_,I.laid (t':=s.toks) (o:=.tup (xs++ys)) (λb ob q=>dz _ q) (bT _) ?_,rfl,q2 _ (I.hok.fresh (bT _))⟩;exact⟨by rw[bO];exact hz,_,r1.append r2,IsTup.new _ _⟩
noncomputable def uZ(K:W.Frag):V->Option Int->Option Int->Hp->VK->Prop:=λx lo hi H Q=>∃a xs,x=.ref a/\gF K H a xs /\
 ((HT.bB xs.length 0 lo=0/\HT.bB xs.length xs.length hi=xs.length)->Q (.ref a) H)/\∀p,H p=none->Q (.ref p) (upd H p (.tup (jJ xs lo hi)))
theorem zgZ:rN X (uZ X.K):=by
 intro ak s Z H x v vl vu lo hi sl Q I rx hs pl pu h;obtain⟨a,xs,rfl,hx,hw,q⟩:=h;by_cases hz:HT.bB xs.length 0 lo=0/\HT.bB xs.length xs.length hi=xs.length
 ·cases rx;obtain⟨its,r,ht,_⟩:=I.tuple hx;have hlen:its.toArray.size=xs.length:=by rw[fG];exact r.length.symm
  refine⟨"tuple",_,yj.lookup,ht.typeIs,?_⟩;exact HT.dZ ht hs pl pu (by rw[hlen];exact hz) ⟨.ref a,H,I,rfl,hw hz⟩
 ·exact ZX ak s Z H (.ref a) v vl vu lo hi sl Q I rx hs pl pu ⟨a,xs,rfl,hx,hz,q⟩
end
section
variable {X:Cx}
noncomputable def u0(K:W.Frag):R2:=λx y H Q=>∃l b xs zs,x=.ref l/\y=.ref b/\cW K H l xs/\cW K H b zs/\xs.length+zs.length<=sizeLine/\∀p,H p=none->Q (.ref p) (upd H p (.lst (xs++zs)))
theorem sW:dw X (binaryOp .Add) (u0 X.K):=by
 intro ak s Z H x y v u Q I rx ry h;obtain⟨l,b,xs,zs,rfl,rfl,hH,hB,hz,q⟩:=h;cases rx;cases ry;obtain⟨its,r,pl,_⟩:=I.list hH;obtain⟨its2,r2,pl2,_⟩:=I.list hB;obtain⟨⟨cls,dd,data,sl⟩,ho,hc,n,hd⟩:=pl.isList;obtain⟨⟨cls2,dd2,data2,sl2⟩,mC,oJ,n2,hd2⟩:=pl2.isList;simp only at hc hd oJ hd2;subst hc hd oJ hd2;refine concat_meets ⟨_,ho,rfl⟩ ⟨_,mC,rfl⟩ noFill_list_add seq_list_add PySem.F.slot_list_add PySem.F.entry_list_add (PySem.F.args_list_add_2 _ _) (list_addW l b its.toArray its2.toArray n n2 dd dd2 sl sl2 (by rw[fG,fG,<-r.length,<-r2.length];exact hz)) ⟨ho,mC,?_⟩;have ea:its.toArray++its2.toArray=(its++its2).toArray:=by simp
 rw[ea];exact⟨.ref _,_,I.Ks (t':=s.toks) (r.append r2) (by rw[bO];omega),rfl,q _ I.fresh⟩
noncomputable def nG(K:W.Frag):R2:=λx y H Q=>mq (λi j=>.int (i+j)) x y H Q\/u0 K x y H Q\/pN K x y H Q\/∃i j,x=.str i/\y=.str j/\i.length+j.length<=sizeLine/\Q (.str (i++j)) H
theorem zeL:dw X (binaryOp .Add) (nG X.K):=wu.or (sW.or (pO.or Zj))
end
end L2
namespace Mi
open PySem PySem.Spec PyProof.Rows L2
section
variable {K:W.Frag}{cA:Cl}{U:Ph}{H:Hp}{Q:VK}{p:Pr}
theorem bw.some'{o:Option Rz}(h:bw K cA U H o Q):∃z,o=some z:=by
 cases o with
 |none=>exact h.elim
 |some z=>exact⟨z,rfl⟩
theorem bw.of{o:Option Rz}{z:Rz}(h:bw K cA U H o Q)(e:o=some z):bw K cA U H (some z) Q:=e▸h
theorem bw.here{d:D}{v:V}(h:bw K cA U H (some (.dat d)) Q)(r:Rep K cA U H d v):Q v H:=h H v bA.refl r
theorem bw.tup{xs:List D}{vs:List V}{a:Addr}(h:bw K cA U H (some (.dat (.tup xs))) Q)(z:Zt U H)(r:aB K cA U H xs vs)(hp:H a=none):Q (.ref a) (upd H a (.tup vs)):=
 h _ _ (bA.new hp) (.tup (TupAt.new (z.nz hp)) (r.mono (bA.new hp).ext z.lz))
theorem sH.two{ds:List D}{vs:List V}{d d':D}(h:sH K cA U H [d,d'] vs):∃v v',vs=[v,v']/\Rv K cA U H d v/\Rv K cA U H d' v':=by
 cases h with
 |cons a r=>cases r with
  |cons b r=>cases r;exact⟨_,_,rfl,a,b⟩
theorem sH.one(h:sH K cA U H [d] vs):∃v,vs=[v]/\Rv K cA U H d v:=by
 cases h with
 |cons a r=>cases r;exact⟨_,rfl,a⟩
theorem Rv.int{i:Int}{v:V}(h:Rv K cA U H (.int i) v):v=.int i:=by cases (show Rep K cA U H (.int i) v from h);rfl
theorem Rv.bl{i:Bool}{v:V}(h:Rv K cA U H (.bl i) v):v=.bl i:=by cases (show Rep K cA U H (.bl i) v from h);rfl
theorem Rv.str{i:Str}{v:V}(h:Rv K cA U H (.str i) v):v=.str i:=by cases (show Rep K cA U H (.str i) v from h);rfl
theorem Rv.tup{xs:List D}{v:V}(h:Rv K cA U H (.tup xs) v):∃a vs,v=.ref a/\TupAt K U H a vs/\aB K cA U H xs vs:=by
 cases (show Rep K cA U H (.tup xs) v from h) with
 |tup a r=>exact⟨_,_,rfl,a,r⟩
theorem Rv.sq{d:D}{xs:List D}{v:V}(h:Rv K cA U H d v)(e:jO d=some xs):∃a vs,v=.ref a/\(cW K H a vs\/gF K H a vs)/\aB K cA U H xs vs:=by
 cases d with
 |tup ys=>
  cases e;obtain⟨a,vs,e,t,r⟩:=Rv.tup h;exact⟨a,vs,e,.inr t.iQ,r⟩
 |fl ys=>
  cases e;obtain⟨a,vs,e,l,r⟩:=h;exact⟨a,vs,e,.inl l,r⟩
 |_=>cases e
theorem Sy{f:Int->Int->Option D}{ds:List D}{z:Rz}(h:cM f ds=some z):∃i j d,ds=[.int i,.int j]/\f i j=some d/\z=.dat d:=by
 cases ds with
 |nil=>cases h
 |cons a t=>
 cases a with
 |int i=>
  cases t with
  |nil=>cases h
  |cons b t=>
  cases b with
  |int j=>
   cases t with
   |cons _ _=>cases h
   |nil=>
    obtain⟨d,e1,e2⟩:=kZ.mp h;exact⟨_,_,d,rfl,e1,e2.symm⟩
  |_=>cases h
 |_=>cases h
theorem Dn{f:Int->Int->Option D}(hp:prim p=cM f){C:Int->Int->Prop}{g:Int->Int->V}(hf:∀i j d,f i j=some d->C i j/\∀U H,Rep K cA U H d (g i j)):aX K cA p (r2 (rI C g)):=by
 intro U H ds vs Q zt rs o;rw[hp] at o;obtain⟨z,e⟩:=o.some';obtain⟨i,j,d,rfl,e1,rfl⟩:=Sy e;obtain⟨c,r⟩:=hf i j d e1;obtain⟨v,v',rfl,r1,r2⟩:=rs.two (ds:=[]);rw[r1.int,r2.int];exact⟨_,_,rfl,i,j,rfl,rfl,c,(o.of e).here (r U H)⟩
theorem yW{f:Int->Int->D}(hp:prim p=cM λi j=>some (f i j)){g:Int->Int->V}(hf:∀i j U H,Rep K cA U H (f i j) (g i j)):aX K cA p (r2 (mq g)):=by
 intro U H ds vs Q zt rs o;obtain⟨x,y,e,i,j,a,b,_,q⟩:=Dn (K:=K) (cA:=cA) (C:=λ_ _=>True) hp (λi j d e=>⟨trivial,λU H=>by cases e;exact hf i j U H⟩) U H ds vs Q zt rs o;exact⟨x,y,e,i,j,a,b,q⟩
theorem Dp{α:Type}{c:Prop}[Decidable c]{x y:α}(h:(if c then some x else none)=some y):c/\y=x:=by
 split at h
 ·rename_i z;cases h;exact⟨z,rfl⟩
 ·cases h
theorem zif:aX K cA .ao (r2 (mq λi j=>.int (i-j))):=yW (f:=λi j=>.int (i-j)) rfl λi j _ _=>.int _
theorem zjZ:aX K cA .mul (r2 (rI rH λi j=>.int (i*j))):=Dn rfl λi j d e=>by obtain⟨c,rfl⟩:=Dp e;exact⟨c,λ_ _=>.int _⟩
theorem zgS:aX K cA .fdiv (r2 (rI rG λi j=>.int (i/j))):=Dn rfl λi j d e=>by obtain⟨c,rfl⟩:=Dp e;exact⟨c,λ_ _=>.int _⟩
theorem ziO:aX K cA .mod (r2 (rI (λ_ j=>0<j) λi j=>.int (i%j))):=Dn rfl λi j d e=>by obtain⟨c,rfl⟩:=Dp e;exact⟨c,λ_ _=>.int _⟩
theorem zis:aX K cA .pow (r2 (rI Bh λi j=>.int (i^j.toNat))):=Dn rfl λi j d e=>by obtain⟨c,rfl⟩:=Dp e;exact⟨c,λ_ _=>.int _⟩
theorem zkG:aX K cA .le (r2 (mq λi j=>.bl (decide (i<=j)))):=yW (f:=λi j=>.bl (decide (i<=j))) rfl λi j _ _=>.bl _
theorem zkl:aX K cA .gt (r2 (mq λi j=>.bl (decide (j<i)))):=yW (f:=λi j=>.bl (decide (j<i))) rfl λi j _ _=>.bl _
theorem zkt:aX K cA .ge (r2 (mq λi j=>.bl (decide (j<=i)))):=yW (f:=λi j=>.bl (decide (j<=i))) rfl λi j _ _=>.bl _
theorem zjB:aX K cA .neg (λvs H Q=>∃x,vs=[x]/\rU (λi=>.int (-i)) x H Q):=by
 intro U H ds vs Q zt rs o;obtain⟨z,e⟩:=o.some';have e:nA (λi=>.int (-i)) ds=some z:=e;cases ds with
 |nil=>cases e
 |cons a t=>
 cases a with
 |int i=>
  cases t with
  |cons _ _=>cases e
  |nil=>
   cases e;obtain⟨v,rfl,r1⟩:=rs.one;exact⟨_,rfl,_,r1.int,bw.here (o.of rfl) (.int _)⟩
 |_=>cases e
theorem zkN:aX K cA .eq (r2 (sU K cA id)):=by
 intro U H ds vs Q zt rs o;obtain⟨z,e⟩:=o.some';have e:uL id ds=some z:=e;unfold uL at e;split at e
 ·obtain⟨b,e1,e2⟩:=kZ.mp e;obtain⟨v,v',rfl,r1,r2⟩:=rs.two (ds:=[]);subst e2;exact⟨_,_,rfl,U,_,_,b,r1,r2,e1,(o.of e).here (.bl _)⟩
 ·cases e
theorem zk8:aX K cA .ne (r2 (sU K cA not)):=by
 intro U H ds vs Q zt rs o;obtain⟨z,e⟩:=o.some';have e:uL not ds=some z:=e;unfold uL at e;split at e
 ·obtain⟨b,e1,e2⟩:=kZ.mp e;obtain⟨v,v',rfl,r1,r2⟩:=rs.two (ds:=[]);subst e2;exact⟨_,_,rfl,U,_,_,b,r1,r2,e1,(o.of e).here (.bl _)⟩
 ·cases e
theorem SJ{f:Bool->Bool}{ds:List D}{z:Rz}(h:su f ds=some z):∃a b xs k,ds=[a,b]/\jO b=some xs/\memD a xs=some k/\z=.dat (.bl (f k)):=by
 unfold su at h;split at h
 ·obtain⟨k,e1,e2⟩:=kZ.mp h;obtain⟨xs,e3,e4⟩:=uf.mp e1;exact⟨_,_,xs,k,rfl,e3,e4,e2.symm⟩
 ·cases h
theorem zkT:aX K cA .inn (r2 (sV K cA id)):=by
 intro U H ds vs Q zt rs o;obtain⟨z,e⟩:=o.some';obtain⟨a,b,xs,k,rfl,e1,e2,rfl⟩:=SJ (show su id ds=some z from e);obtain⟨v,v',rfl,r1,r2⟩:=rs.two (ds:=[]);exact⟨_,_,rfl,U,_,_,xs,k,r1,r2,e1,e2,(o.of e).here (.bl _)⟩
theorem zka:aX K cA .nin (r2 (sV K cA not)):=by
 intro U H ds vs Q zt rs o;obtain⟨z,e⟩:=o.some';obtain⟨a,b,xs,k,rfl,e1,e2,rfl⟩:=SJ (show su not ds=some z from e);obtain⟨v,v',rfl,r1,r2⟩:=rs.two (ds:=[]);exact⟨_,_,rfl,U,_,_,xs,k,r1,r2,e1,e2,(o.of e).here (.bl _)⟩
theorem Mt:∀{xs:List D} {ns:List Int} {vs:List V},dM xs=some ns->aB K cA U H xs vs->vs=ns.map V.int
 |[],ns,vs,h,r=>by cases h;cases r;rfl
 |d::xs,ns,vs,h,r=>by
  cases d with
  |int i=>
   simp only[dM,kZ] at h;obtain⟨ns',h1,rfl⟩:=h;cases r with
   |cons a r=>cases a;rw[Mt h1 r];rfl
  |_=>simp[dM] at h
theorem SM:∀(a b:List Int),ltI a b=HT.lexLt a b
 |_,[]=>by cases ‹List Int›<;>rfl
 |[],_::_=>rfl
 |x::xs,y::ys=>by
  unfold ltI;rw[SM xs ys,HT.iJ]
theorem zkJ:aX K cA .lt (r2 λx y H Q=>mq (λi j=>.bl (decide (i<j))) x y H Q\/Bt K x y H Q):=by
 intro U H ds vs Q zt rs o;obtain⟨z,e⟩:=o.some';have e:CK ds=some z:=e;unfold CK at e;split at e
 ·cases e;obtain⟨v,v',rfl,r1,r2⟩:=rs.two (ds:=[]);exact⟨_,_,rfl,.inl ⟨_,_,r1.int,r2.int,bw.here (o.of rfl) (.bl _)⟩⟩
 ·split at e
  ·rename_i a b h1 h2;cases e;obtain⟨v,v',rfl,r1,r2⟩:=rs.two (ds:=[]);obtain⟨p,us,rfl,t1,q1⟩:=r1.tup;obtain⟨p',us',rfl,t2,q2⟩:=r2.tup;have o2:bw K cA U H (some (.dat (.bl (ltI a b)))) Q:=by
    have o3:bw K cA U H (CK [.tup _,.tup _]) Q:=o;unfold CK at o3;simp only[h1,h2] at o3;exact o3
   refine⟨_,_,rfl,.inr ⟨p,p',a,b,rfl,rfl,by rw[<-Mt h1 q1];exact t1.iQ,by rw[<-Mt h2 q2];exact t2.iQ,?_⟩⟩;rw[<-SM];exact o2.here (.bl _)
  ·cases e
 ·cases e
theorem zjV:aX K cA .add (r2 (nG K)):=by
 intro U H ds vs Q zt rs o;have o:bw K cA U H (wV ds) Q:=o;cases ds with
 |nil=>exact False.elim o
 |cons a t=>
 cases a with
 |int i=>
  cases t with
  |nil=>exact False.elim o
  |cons b t=>
  cases b with
  |int j=>
   cases t with
   |cons _ _=>exact False.elim o
   |nil=>
    obtain⟨v,v',rfl,r1,r2⟩:=rs.two (ds:=[]);exact⟨_,_,rfl,.inl ⟨_,_,r1.int,r2.int,bw.here o (.int _)⟩⟩
  |_=>exact False.elim o
 |tup xs=>
  cases t with
  |nil=>exact False.elim o
  |cons b t=>
  cases b with
  |tup ys=>
   cases t with
   |cons _ _=>exact False.elim o
   |nil=>
    obtain⟨v,v',rfl,r1,r2⟩:=rs.two (ds:=[]);obtain⟨p,us,rfl,t1,q1⟩:=r1.tup;obtain⟨p',us',rfl,t2,q2⟩:=r2.tup;have o:bw K cA U H (if xs.length+ys.length<=sizeLine then some (.dat (.tup (xs++ys))) else none) Q:=o;by_cases hz:xs.length+ys.length<=sizeLine
    ·rw[if_pos hz] at o;refine⟨_,_,rfl,.inr (.inr (.inl ⟨p,p',us,us',rfl,rfl,t1.iQ,t2.iQ,by rw[<-q1.len,<-q2.len];exact hz,λe=>?_,λe=>?_,λa ha=>o.tup zt (q1.app q2) ha⟩))⟩
     ·subst e;cases q1;exact o.here (.tup t2 q2)
     ·subst e;cases q2;rw[lZ] at o;exact o.here (.tup t1 q1)
    ·rw[if_neg hz] at o;exact o.elim
  |_=>exact False.elim o
 |fl xs=>
  cases t with
  |nil=>exact False.elim o
  |cons b t=>
  cases b with
  |fl ys=>
   cases t with
   |cons _ _=>exact False.elim o
   |nil=>
    obtain⟨v,v',rfl,⟨p,us,rfl,t1,q1⟩,⟨p',us',rfl,t2,q2⟩⟩:=rs.two (ds:=[]);have o:bw K cA U H (if xs.length+ys.length<=sizeLine then some (.nw (xs++ys)) else none) Q:=o;by_cases hz:xs.length+ys.length<=sizeLine
    ·rw[if_pos hz] at o;exact⟨_,_,rfl,.inr (.inl ⟨p,p',us,us',rfl,rfl,t1,t2,by rw[<-q1.len,<-q2.len];exact hz,λa ha=>o a _ ha (q1.app q2)⟩)⟩
    ·rw[if_neg hz] at o;exact o.elim
  |_=>exact False.elim o
 |str x=>
  cases t with
  |nil=>exact False.elim o
  |cons b t=>
  cases b with
  |str y=>
   cases t with
   |cons _ _=>exact False.elim o
   |nil=>
    obtain⟨v,v',rfl,r1,r2⟩:=rs.two (ds:=[]);have o:bw K cA U H (if x.length+y.length<=sizeLine then some (.dat (.str (x++y))) else none) Q:=o;by_cases hz:x.length+y.length<=sizeLine
    ·rw[if_pos hz] at o;exact⟨_,_,rfl,.inr (.inr (.inr ⟨_,_,r1.str,r2.str,hz,o.here (.str _)⟩))⟩
    ·rw[if_neg hz] at o;exact o.elim
  |_=>exact False.elim o
 |_=>exact False.elim o
theorem ziX:aX K cA .len (λxs H Q=>∃p ys,xs=[.ref p]/\(cW K H p ys\/gF K H p ys)/\Q (.int ys.length) H):=by
 intro U H ds vs Q zt rs o;have o:bw K cA U H (rZ (λxs=>some (.dat (.int xs.length))) ds) Q:=o;unfold rZ at o;split at o
 ·obtain⟨v,rfl,r1⟩:=rs.one;obtain⟨z,e⟩:=o.some';obtain⟨xs,e1,e2⟩:=uf.mp e;obtain⟨a,us,rfl,sq,q⟩:=r1.sq e1;cases e2;refine⟨a,us,rfl,sq,?_⟩;rw[<-q.len];exact(o.of e).here (.int _)
 ·exact o.elim
theorem zgf:aX K cA .tuple (λxs H Q=>∃p ys,xs=[.ref p]/\((cW K H p ys/\∀l,H l=none->Q (.ref l) (upd H l (.tup ys)))\/(gF K H p ys/\Q (.ref p) H))):=by
 intro U H ds vs Q zt rs o;have o:bw K cA U H (mH ds) Q:=o;unfold mH at o;split at o
 ·rename_i d _;obtain⟨v,rfl,r1⟩:=rs.one;cases d with
  |tup xs=>
   obtain⟨a,us,rfl,t,q⟩:=r1.tup;exact⟨a,us,rfl,.inr ⟨t.iQ,bw.here o (.tup t q)⟩⟩
  |fl xs=>
   obtain⟨a,us,rfl,t,q⟩:=r1;exact⟨a,us,rfl,.inl ⟨t,λl hl=>bw.tup o zt q hl⟩⟩
  |_=>exact o.elim
 ·exact o.elim
theorem zja:aX K cA .abs (λxs H Q=>∃i,xs=[.int i]/\Q (.int (if i<0 then -i else i)) H):=by
 intro U H ds vs Q zt rs o;have o:bw K cA U H (nA (λi=>.int (if i<0 then -i else i)) ds) Q:=o;cases ds with
 |nil=>exact False.elim o
 |cons a t=>
 cases a with
 |int i=>
  cases t with
  |cons _ _=>exact False.elim o
  |nil=>
   obtain⟨v,rfl,r1⟩:=rs.one;rw[r1.int];exact⟨_,rfl,bw.here o (.int _)⟩
 |_=>exact False.elim o
theorem zg9:aX K cA .rY (λxs H Q=>(∃i,xs=[.int i]/\Q (.int i) H)\/∃k,xs=[.bl k]/\Q (.int (if k then 1 else 0)) H):=by
 intro U H ds vs Q zt rs o;have o:bw K cA U H (CP ds) Q:=o;cases ds with
 |nil=>exact False.elim o
 |cons a t=>
 cases a with
 |int i=>
  cases t with
  |cons _ _=>exact False.elim o
  |nil=>
   obtain⟨v,rfl,r1⟩:=rs.one;rw[r1.int];exact .inl ⟨_,rfl,bw.here o (.int _)⟩
 |bl k=>
  cases t with
  |cons _ _=>exact False.elim o
  |nil=>
   obtain⟨v,rfl,r1⟩:=rs.one;rw[r1.bl];exact .inr ⟨_,rfl,bw.here o (.int _)⟩
 |_=>exact False.elim o
theorem zhq:aX K cA .max2 (λxs H Q=>∃i j,xs=[.int i,.int j]/\Q (.int (if j>i then j else i)) H):=by
 intro U H ds vs Q zt rs o;obtain⟨x,y,e,i,j,rfl,rfl,q⟩:=yW (K:=K) (cA:=cA) (p:=.max2) (f:=λi j=>.int (if j>i then j else i)) rfl (λi j _ _=>.int _) U H ds vs Q zt rs o;exact⟨i,j,e,q⟩
theorem zgX:aX K cA .min2 (λxs H Q=>∃i j,xs=[.int i,.int j]/\Q (.int (if j<i then j else i)) H):=by
 intro U H ds vs Q zt rs o;obtain⟨x,y,e,i,j,rfl,rfl,q⟩:=yW (K:=K) (cA:=cA) (p:=.min2) (f:=λi j=>.int (if j<i then j else i)) rfl (λi j _ _=>.int _) U H ds vs Q zt rs o;exact⟨i,j,e,q⟩
theorem zd4:aX K cA .divmod (λxs H Q=>∃i j,xs=[.int i,.int j]/\rG i j/\∀p,H p=none->Q (.ref p) (upd H p (.tup [.int (i/j),.int (i%j)]))):=by
 intro U H ds vs Q zt rs o;have o:bw K cA U H (cM (λi j=>if 0<j/\j<1073741824 then some (.tup [.int (i/j),.int (i%j)]) else none) ds) Q:=o;obtain⟨z,e⟩:=o.some';obtain⟨i,j,d,rfl,e1,rfl⟩:=Sy e;obtain⟨c,rfl⟩:=Dp e1;obtain⟨v,v',rfl,r1,r2⟩:=rs.two (ds:=[]);rw[r1.int,r2.int];exact⟨i,j,rfl,c,λp hp=>(o.of e).tup zt (.cons (.int _) (.cons (.int _) .nil)) hp⟩
theorem SN:∀{xs:List D} {bs:List Bool} {vs:List V},fZ xs=some bs->aB K cA U H xs vs->vs=bs.map V.bl
 |[],bs,vs,h,r=>by cases h;cases r;rfl
 |d::xs,bs,vs,h,r=>by
  cases d with
  |bl b=>
   simp only[fZ,kZ] at h;obtain⟨bs',h1,rfl⟩:=h;cases r with
   |cons q r=>cases q;rw[SN h1 r];rfl
  |_=>simp[fZ] at h
theorem zkS:aX K cA .ix (r2 (Ko K)):=by
 intro U H ds vs Q zt rs o;have o:bw K cA U H (Lr ds) Q:=o;unfold Lr at o;split at o
 ·rename_i d i _;obtain⟨v,v',rfl,r1,r2⟩:=rs.two (ds:=[]);obtain⟨z,e⟩:=o.some';obtain⟨y,e1,e2⟩:=kZ.mp e;obtain⟨xs,e3,e4⟩:=uf.mp e1;obtain⟨a,us,rfl,sq,q⟩:=r1.sq e3;have key:∃w,L2.m9 us i=some w/\Rep K cA U H y w:=by
   unfold L2.m9 at *;rw[<-q.len];obtain⟨j,h1,h2⟩:=uf.mp e4;obtain⟨w,h3,h4⟩:=q.get h2;exact⟨w,by rw[h1];exact h3,h4⟩
  obtain⟨w,hw,jL⟩:=key;subst e2;have q':=(o.of e).here jL;rcases sq with sq|sq
  ·exact⟨_,_,rfl,.inl ⟨a,us,i,w,rfl,r2.int,sq,hw,q'⟩⟩
  ·exact⟨_,_,rfl,.inr (.inl ⟨a,us,i,w,rfl,r2.int,sq,hw,q'⟩)⟩
 ·exact o.elim
noncomputable def SQ(K:W.Frag):V->Option Int->Option Int->Hp->VK->Prop:=λx lo hi H Q=>BK K x lo hi H Q\/uZ K x lo hi H Q
theorem ziq:rN X (SQ X.K):=rQ.or zgZ
theorem zgT{d:D}{lo hi:Option Int}{v:V}(zt:Zt U H)(r:Rv K cA U H d v)(o:bw K cA U H (cutD d lo hi) Q):SQ K v lo hi H Q:=by
 cases d with
 |tup xs=>
  obtain⟨a,us,rfl,t,q⟩:=r.tup;refine .inr ⟨a,us,rfl,t.iQ,λe=>?_,λp hp=>bw.tup o zt q.cut hp⟩;have hc:cut xs lo hi=xs:=by
   unfold cut;rw[q.len,e.1,e.2,List.drop_zero,Nat.sub_zero,<-q.len,yF]
  have o:bw K cA U H (some (.dat (.tup (cut xs lo hi)))) Q:=o;rw[hc] at o;exact o.here (.tup t q)
 |fl xs=>
  obtain⟨a,us,rfl,t,q⟩:=r;exact .inl ⟨a,us,rfl,t,λp hp=>o p _ hp q.cut⟩
 |_=>exact o.elim
end
section
variable {X:Cx}{cA:Cl}{ao:Nat->Nat->Bool}{aj:Bool}{F:Fn}{EX:XS}{a b c d e o:Expr}{A B C Dd E' O:E}{pos pp p2 apos cpos:Pos}{es:List Expr}{Xs:Es}{fz:Bool}{p:Pr}{x:Str}{U:Ph}{H:Hp}{s:S}{lo hi:Option Expr}{Lo Hi:Eo}
def Dq(X:Cx)(cA:Cl)(ao:Nat->Nat->Bool)(aj:Bool)(F:Fn)(EX:XS)(oe:Option Expr)(m:Eo):Prop:=
 PO X oe (λZ H Q=>∃U J s,aR X.K cA U H Z J/\aD X.K cA U H s/\Run X.K cA (sE ao aj F m J) U H s (λi _ U' H'=>Q i H') (eX X.K cA EX Z))
theorem PO.weak{oe:Option Expr}{t t':TO}(h:PO X oe t)(f:∀Z H Q,t' Z H Q->t Z H Q):PO X oe t':=by
 intro ak s Z H Q I q;exact h ak s Z H Q I (f Z H Q q)
theorem zkr:Dq X cA ao aj F EX none .no:=PO.weak ZR λZ H Q hh=>un hh λU J s hL hS h=>h.bN hS
theorem zjQ(ha:SE X cA ao aj F EX a A):Dq X cA ao aj F EX (some a) (.yes A):=PO.weak (ZS ha) λZ H Q hh=>un hh λU J s hL hS h=>by
 refine bD hL hS h λx H1 U1 d1 s1 x1 hL1 aM r1 h1=>?_;obtain⟨i,_,e,h3⟩:=Dk r1 h1;exact⟨i,e,h3.bN aM⟩
theorem Dr{β:Type}{Z:L2.St}{J:Vs}{m:Eo}{k:Option Int->M β}{P:β->S->Ph->Hp->Prop}(hL:aR X.K cA U H Z J)(hS:aD X.K cA U H s)(h:Run X.K cA (M.bd (sE ao aj F m J) k) U H s P (eX X.K cA EX Z)){Q:Option Int->Hp->Prop}
  (f:∀i H1 U1 s1,Ext U H U1 H1->aR X.K cA U1 H1 Z J->aD X.K cA U1 H1 s1->Run X.K cA (k i) U1 H1 s1 P (eX X.K cA EX Z)->Q i H1) :
  ∃U J s,aR X.K cA U H Z J/\aD X.K cA U H s/\Run X.K cA (sE ao aj F m J) U H s (λi _ U' H'=>Q i H') (eX X.K cA EX Z):=
 ⟨U,J,s,hL,hS,h.bd.imp λi s1 U1 H1 ⟨x1,r1,h1⟩=>f i H1 U1 s1 x1 (hL.mono x1 hS.lz) r1 h1⟩
theorem zkP(ha:SE X cA ao aj F EX a A)(hl:Dq X cA ao aj F EX lo Lo)(hh:Dq X cA ao aj F EX hi Hi):SE X cA ao aj F EX (.Subscript a (.Slice lo hi none p2) pos) (.sl fz A Lo Hi):=PE.weak (ZW ziq ha hl hh) λZ H Q hh=>un hh λU J s hL hS h=>by
 refine bD hL hS h λx H1 U1 d1 s1 x1 hL1 aM r1 h1=>Dr hL1 aM h1 λl H2 U2 s2 x2 hL2 aU h2=>Dr hL2 aU h2 λu H3 U3 s3 x3 xu mL h3=>?_;obtain⟨dd,rv,h4⟩:=Ml mL ((r1.mono x2 aM.lz).mono x3 aU.lz) h3;exact zgT mL.zs rv (sI mL h4)
theorem SX:∀bs:List Bool,(List.range bs.length).all (λi=>(bs[i]?).getD false)=bs.all id
 |[]=>rfl
 |b::r=>by
  rw[gB,List.range_succ_eq_map,vM,List.all_map,vM];have:=SX r;simp only[Function.comp_def,yp,I8,Option.getD_some,id];rw[this]
theorem zeg(hc:X.aj=true):cT X (.builtin "all") (λxs H Q=>∃(p:Addr) (bs:List Bool),xs=[.ref p]/\cW X.K H p (bs.map V.bl)/\Q (.bl (bs.all id)) H):=by
 intro ak s Z H xs us Q I r ⟨p,bs,e,hp,q⟩;subst e;obtain⟨u,rfl,ru⟩:=Vals.one r;cases (show u=Value.ref p from ru);obtain⟨its,rv,pl,hz⟩:=I.list hp;have hl:s.heap.IsList p its.toArray:=pl.isList;have hpn:p≠s.heap.objs.size:=by
  obtain⟨o,hg,_⟩:=hl;exact fL (bW hg)
 refine call_all_walk (wpAny_pyIter_list hl ?_);refine⟨_,_,_,_,_,_,λi=>(bs[i]?).getD false,rfl,Walks.list (A:=X.A.in1) (I.ok.hd hc) _ p hpn its.toArray,⟨⟨_,iu _ rfl,rfl,rfl⟩,hl.push _⟩,?_,λh' tk hk=>?_⟩
 ·intro i v s' Q' E' hP hQ;have hi:its[i]?=some v:=by simpa using hP
  have hb:∃b,bs[i]?=some b:=by
   have eZ:i<its.length:=(fQ.mp hi).1;have z:=rv.length;rw[cH] at z;exact⟨_,gj gV⟩
  obtain⟨b,hb⟩:=hb;obtain⟨u,e1,e2⟩:=rv.get (i:=i) (x:=V.bl b) (by rw[gZ,hb];rfl);rw[hi] at e1;cases e1;cases (show v=Value.bool b from e2);have hQ:Q' ((bs[i]?).getD false) s':=hQ;rw[hb] at hQ;exact vI hQ
 ·have ez:(List.range its.toArray.size).all (λi=>(bs[i]?).getD false)=bs.all id:=by
   have z:=rv.length;rw[cH] at z;rw[fG,<-z];exact SX bs
  rw[ez];refine⟨.bl (bs.all id),H,I.kept (h':=h') (t':=tk) (old_kept hk),rfl,q⟩
theorem zi9{K:W.Frag}:aX K cA .all (λxs H Q=>∃(p:Addr) (bs:List Bool),xs=[.ref p]/\cW K H p (bs.map V.bl)/\Q (.bl (bs.all id)) H):=by
 intro U H ds vs Q zt rs o;have o:bw K cA U H (wX ds) Q:=o;unfold wX at o;split at o
 ·obtain⟨v,rfl,⟨ad,us,rfl,l,q⟩⟩:=rs.one;obtain⟨z,e⟩:=o.some';obtain⟨bs,e1,e2⟩:=kZ.mp e;subst e2;exact⟨ad,bs,rfl,by rw[<-SN e1 q];exact l,(o.of e).here (.bl _)⟩
 ·exact o.elim
noncomputable def Hq:Kd->String->Bool
 |.int,"int"=>true
 |.int,"bool"=>true
 |.bool,"bool"=>true
 |.str,"str"=>true
 |.tuple,"tuple"=>true
 |.list,"list"=>true
 |.dict,"dict"=>true
 |_,_=>false
noncomputable def pP:Kd->Option Value
 |.int=>some (.type "int")
 |.bool=>some (.type "bool")
 |.str=>some (.type "str")
 |.tuple=>some (.type "tuple")
 |.list=>some (.type "list")
 |.dict=>some (.type "dict")
 |_=>none
theorem zjI{K:W.Frag}{k:Kd}{cu:Value}(h:pP k=some cu){T:String}(hT:T∈["NoneType","bool","int","str","tuple","list","dict"]):PySem.W.kitOne K (.type T) cu=some (Hq k T):=by
 simp only[iy,List.mem_nil_iff,or_false] at hT;cases k<;>simp only[pP] at h<;>cases h<;>rcases hT with rfl|rfl|rfl|rfl|rfl|rfl|rfl<;>rfl
structure Ds(K:W.Frag)(cA:Cl)(ao:Nat->Nat->Bool):Prop where
 xc:∀c,XC K (cA.a c)
 ao:∀c e,PySem.W.kitOne K (.ref (cA.a c)) (.ref (cA.a e))=some (ao c e)
 n_:∀c,PySem.W.kitOne K (.ref (cA.a c)) (.type "ValueError")=some true
noncomputable def yX(cA:Cl):Kd->V
 |.cls e=>.ref (cA.a e)
 |.n_=>.ty "ValueError"
 |.int=>.ty "int"
 |.bool=>.ty "bool"
 |.str=>.ty "str"
 |.tuple=>.ty "tuple"
 |.list=>.ty "list"
 |.dict=>.ty "dict"
theorem zfJ(Cs:pP k=none->Ds X.K cA ao) :
  cT X (.builtin "isinstance") (λxs H Q=>∃U d v bb,xs=[v,yX cA k]/\Rv X.K cA U H d v/\jq ao d k=some bb/\Q (.bl bb) H):=by
 intro ak sh Z H xs us Q I r ⟨U,d,v,bb,e,rd,hi,q⟩;subst e;obtain⟨u,w,rfl,ru,Mu⟩:=Vals.two r;have pQ:∀tk,EP X ak Z Q (.bool bb) {sh with toks:=tk}:=λtk=>⟨.bl bb,H,I.tok tk,rfl,q⟩;have bt:∀{T:String} {Hh:Heap->Prop},PySem.W.KitX X.K u (.type T) Hh->Hh sh.heap->T∈["NoneType","bool","int","str","tuple","list","dict"]->u≠Value.builtin "__main__.__loader__#opaque"->(∃cu,pP k=some cu/\w=cu/\Hq k T=bb)->wpAny (model X.prog X.w) X.A (PySem.call (.builtin "isinstance") [u,w]) (EP X ak Z Q) X.xe sh:=λ{T Hh} zzZ hh hT hx ⟨cu,h1,h2,h3⟩=>by
  subst h2 h3;exact PySem.W.kia_one zzZ I.rE hh (zjI h1 hT) hx pQ
 have wv:∀cu,pP k=some cu->w=cu:=λcu h=>by
  cases k<;>simp only[pP] at h<;>cases h<;>exact Mu
 have fin:∀T,jq ao d k=(match pP k with|some _=>some (Hq k T)|none=>none)->∃cu,pP k=some cu/\w=cu/\Hq k T=bb:=λT h=>by
  rw[hi] at h;cases z:pP k with
  |none=>rw[z] at h;cases h
  |some cu=>rw[z] at h;cases h;exact⟨cu,rfl,wv cu z,rfl⟩
 cases d with
 |non=>
  cases (show Rep X.K cA U H .non v from rd);cases (show u=Value.none from ru);exact bt PySem.W.kitx_none trivial J0 (λz=>nomatch z) (fin "NoneType" (by cases k<;>rfl))
 |bl b=>
  cases rd.bl;cases (show u=Value.bool b from ru);exact bt PySem.W.kitx_bool trivial J0 (λz=>nomatch z) (fin "bool" (by cases k<;>rfl))
 |int i=>
  cases rd.int;obtain⟨t,z⟩:=(show ∃t,u=Value.int i t from ru);cases z;exact bt PySem.W.kitx_int trivial J0 (λz=>nomatch z) (fin "int" (by cases k<;>rfl))
 |str y=>
  cases rd.str;obtain⟨t,z⟩:=(show ∃t,u=Value.str y t from ru);cases z;exact bt PySem.W.kitx_str trivial J0 (λz=>nomatch z) (fin "str" (by cases k<;>rfl))
 |tup xs=>
  obtain⟨ad,vs,rfl,h1,h2⟩:=rd.tup;cases (show u=Value.ref ad from ru);obtain⟨its,_,ht,_⟩:=I.tuple h1.iQ;obtain⟨o,q1,q2,_⟩:=ht;exact bt PySem.W.kitx_tuple ⟨o,q1,q2⟩ J0 (λz=>nomatch z) (fin "tuple" (by cases k<;>rfl))
 |fl xs=>
  obtain⟨ad,vs,rfl,h1,h2⟩:=rd;cases (show u=Value.ref ad from ru);obtain⟨its,_,ht,_⟩:=I.list h1;obtain⟨o,q1,q2,_⟩:=ht.isList;exact bt PySem.W.kitx_list ⟨o,q1,q2⟩ J0 (λz=>nomatch z) (fin "list" (by cases k<;>rfl))
 |fd ks vs=>
  cases (show Rep X.K cA U H (.fd ks vs) v from rd) with
  |@fd ad kk ii q1 n=>
   cases (show u=Value.ref ad from ru);obtain⟨_,_,vs,_,o,es',ep,g1,g2,_⟩:=(show bF X.prog X.w H sh.heap ad (.dK [(.inr kk,.int ii)]) from I.hok ad _ q1);exact bt PySem.W.kitx_dict ⟨o,g1,g2.1⟩ J0 (λz=>nomatch z) (fin "dict" (by cases k<;>rfl))
 |ob c fs=>cases k<;>cases hi
 |any=>cases k<;>cases hi
 |exc c fs=>
  cases (show Rep X.K cA U H (.exc c fs) v from rd) with
  |@exc ad _ _ vs hx rs=>
   cases (show u=Value.ref ad from ru);have hI:∃ox od,PySem.W.InstAt sh.heap ad ox (cA.a c) od:=by
    obtain⟨_,⟨_,_,hx⟩|⟨dx,hx,_,hd,_⟩⟩:=hx
    ·obtain⟨⟨oe,vs,g1,g2,g3,g4⟩,_⟩:=(show bF X.prog X.w H sh.heap ad (rT ad (cA.a c) none) from I.hok ad _ hx);exact⟨oe,none,g1,g2,by unfold PySem.W.notCls;rw[g4],by rw[g3];trivial⟩
    ·obtain⟨⟨oe,vs,g1,g2,g3,g4⟩,_⟩:=(show bF X.prog X.w H sh.heap ad (rT ad (cA.a c) (some dx)) from I.hok ad _ hx);obtain⟨mA,⟨od,es,ep,e1,c1⟩,_⟩:=(show bF X.prog X.w H sh.heap dx (.xd _) from I.hok dx _ hd);exact⟨oe,some od,g1,g2,by unfold PySem.W.notCls;rw[g4],by rw[g3];exact e1⟩
   cases k with
   |cls e=>
    cases (show w=Value.ref (cA.a e) from Mu);have z:some (ao c e)=some bb:=hi;cases z;exact PySem.W.kia_one (Ry ((Cs rfl).xc c)) I.rE hI ((Cs rfl).ao c e) (λz=>nomatch z) pQ
   |n_=>
    cases (show w=Value.type "ValueError" from Mu);have z:some true=some bb:=hi;cases z;exact PySem.W.kia_one (Ry ((Cs rfl).xc c)) I.rE hI ((Cs rfl).n_ c) (λz=>nomatch z) pQ
   |_=>cases hi
theorem ziA(Cs:pP k=none->Ds X.K cA ao)(hg:Gl X "isinstance")(hm:X.mg "isinstance"=none)(ha:SE X cA ao aj F EX a A)(hk:PE X kx (tC (yX cA k)))(h1:starEach [a,kx] X.env=(false,eval a X.env)::starEach [kx] X.env:=by rfl)(h2:starEach [kx] X.env=(false,eval kx X.env)::starEach [] X.env:=by rfl)
  (c7:(backTo pos (starEach [kx] X.env)).any (·.1)=false:=by rfl):SE X cA ao aj F EX (.Call (.Name "isinstance" pp) [a,kx] [] pos) (.kE A k):=PE.weak (Q_ (zfJ (cA:=cA) (k:=k) Cs) hg hm PyProof.Rows.boot_isinstance (qI ha (qI hk wA h2) h1) Dc Dc h1 c7) λZ H Q hh=>un hh λU J s hL hS h=>
 bD hL hS h λv H1 U1 d s1 x1 hL1 aM r1 h1=>by
  show ∃U d' v' bb,[v,yX cA k]=[v',yX cA k]/\_;obtain⟨dd,rv,h2⟩:=Ml aM r1 h1;obtain⟨bb,e,h3⟩:=R6 h2;exact⟨U1,dd,v,bb,rfl,rv,e,h3.bN aM _ (.d (.bl bb))⟩
end
section
variable {K:W.Frag}{cA:Cl}{U U':Ph}{H H':Hp}{s:S}
theorem TupAt.iW(e:∀a,U'.z a->U.z a){a:Addr}{vs:List V}(h:TupAt K U H a vs):TupAt K U' H a vs:=h.imp (λ⟨p,n⟩=>⟨p,λz=>n (e a z)⟩) id
theorem LstAt.iW(e:∀a,U'.z a->U.z a){a:Addr}{vs:List V}(h:LstAt K U H a vs):LstAt K U' H a vs:=h.imp (λ⟨p,n⟩=>⟨p,λz=>n (e a z)⟩) id
theorem ExcAt.iW(e:∀a,U'.z a->U.z a){a:Addr}{c:Nat}{vs:List V}(h:ExcAt cA U H a c vs):ExcAt cA U' H a c vs:=
 ⟨λz=>h.1 (e a z),h.2.imp id λ⟨dx,p,n,q,l⟩=>⟨dx,p,λz=>n (e dx z),q,l⟩⟩
theorem mK.iW(e:∀a,U'.z a->U.z a){a:Addr}{c:Nat}{vs:List V}(h:mK cA U H a c vs):mK cA U' H a c vs:=⟨λz=>h.1 (e a z),h.2⟩
theorem Rep.iW(e:∀a,U'.z a->U.z a){d:D}{v:V}(h:Rep K cA U H d v):Rep K cA U' H d v:=
 Rep.rec (motive_1:=λd v _=>Rep K cA U' H d v) (motive_2:=λd v _=>aB K cA U' H d v) .non .bl .int .str (λh _ i=>.tup (h.iW e) i) (λh _ i=>.fl (h.iW e) i) (λh n=>.fd h (λz=>n (e _ z))) (λh _ i=>.exc (h.iW e) i) (λh _ i=>.ob (h.iW e) i) .any .nil (λ_ _ i j=>.cons i j) h
theorem aB.iW(e:∀a,U'.z a->U.z a){d:List D}{v:List V}(h:aB K cA U H d v):aB K cA U' H d v:=
 aB.rec (motive_1:=λd v _=>Rep K cA U' H d v) (motive_2:=λd v _=>aB K cA U' H d v) .non .bl .int .str (λh _ i=>.tup (h.iW e) i) (λh _ i=>.fl (h.iW e) i) (λh n=>.fd h (λz=>n (e _ z))) (λh _ i=>.exc (h.iW e) i) (λh _ i=>.ob (h.iW e) i) .any .nil (λ_ _ i j=>.cons i j) h
theorem iV.iW(e:∀a,U'.z a->U.z a){a:Addr}{o:SO}(h:iV K cA U H a o):iV K cA U' H a o:=h.map (λ_ q=>q) λ_ _ r=>r.iW e
theorem Rep.zl{d:D}{v:V}(h:Rep K cA U H d v)(l:List Addr):Rep K cA ⟨U.z,l⟩ H d v:=Rep.iW (U:=U) (U':=⟨U.z,l⟩) (λ_ z=>z) h
theorem aB.zl{d:List D}{v:List V}(h:aB K cA U H d v)(l:List Addr):aB K cA ⟨U.z,l⟩ H d v:=aB.iW (U:=U) (U':=⟨U.z,l⟩) (λ_ z=>z) h
theorem iV.zl{a:Addr}{o:SO}(h:iV K cA U H a o)(l:List Addr):iV K cA ⟨U.z,l⟩ H a o:=iV.iW (U:=U) (U':=⟨U.z,l⟩) (λ_ z=>z) h
noncomputable def adr(l:List Addr):List Nat->List Addr
 |[]=>[]
 |n::r=>match l[n]? with
  |some a=>a::adr l r
  |none=>adr l r
theorem yZ{l:List Addr}:∀{ns:List Nat} {a:Addr},a∈adr l ns->∃n∈ns,l[n]?=some a
 |[],a,h=>by cases h
 |n::r,a,h=>by
  unfold adr at h;cases e:l[n]? with
  |none=>
   simp only[e] at h;obtain⟨m,h1,h2⟩:=yZ h;exact⟨m,iD _ h1,h2⟩
  |some b=>
   simp only[e] at h;rcases iy.mp h with rfl|h
   ·exact⟨n,mV,e⟩
   ·obtain⟨m,h1,h2⟩:=yZ h;exact⟨m,iD _ h1,h2⟩
theorem S5{s:S}:∀{ns:List Nat} {s0:S} {i n:Nat},f9 s ns=some s0->ns[i]?=some n->s0[i]?=s[n]?/\∃o,s[n]?=some o
 |[],s0,i,n,h,e=>by simp at e
 |m::r,s0,i,n,h,e=>by
  unfold f9 at h;cases e1:s[m]? with
  |none=>simp only[e1] at h;cases h
  |some o=>
   cases e2:f9 s r with
   |none=>simp only[e1,e2] at h;cases h
   |some q=>
    simp only[e1,e2] at h;cases h;cases i with
    |zero=>simp at e;subst e;exact⟨by simp[e1],o,e1⟩
    |succ i=>simpa using S5 e2 (by simpa using e)
theorem S6{s:S}:∀{ns:List Nat} {s0:S},f9 s ns=some s0->s0.length=ns.length
 |[],s0,h=>by cases h;rfl
 |m::r,s0,h=>by
  unfold f9 at h;cases e1:s[m]? with
  |none=>simp only[e1] at h;cases h
  |some o=>
   cases e2:f9 s r with
   |none=>simp only[e1,e2] at h;cases h
   |some q=>
    simp only[e1,e2] at h;cases h;rw[gB,gB,S6 e2]
theorem Dt{l:List Addr}:∀{ns:List Nat} {i n:Nat},(∀n∈ns,∃a,l[n]?=some a)->ns[i]?=some n->(adr l ns)[i]?=l[n]?
 |[],i,n,_,e=>by simp at e
 |m::r,i,n,h,e=>by
  obtain⟨a,ha⟩:=h m mV;unfold adr;simp only[ha];cases i with
  |zero=>simp at e;subst e;simp[ha]
  |succ i=>simpa using Dt (λn hn=>h n (iD _ hn)) (by simpa using e)
theorem Du{l:List Addr}:∀{ns:List Nat},(∀n∈ns,∃a,l[n]?=some a)->(adr l ns).length=ns.length
 |[],_=>rfl
 |m::r,h=>by
  obtain⟨a,ha⟩:=h m mV;unfold adr;simp only[ha];rw[gB,gB,Du (λn hn=>h n (iD _ hn))]
theorem S7{l:List Addr}(hl:l.Nodup):∀{ns:List Nat},ns.Nodup->(∀n∈ns,∃a,l[n]?=some a)->(adr l ns).Nodup
 |[],_,_=>Gg
 |m::r,hn,h=>by
  obtain⟨a,ha⟩:=h m mV;unfold adr;simp only[ha];obtain⟨h1,h2⟩:=uw.mp hn;refine uw.mpr ⟨λz=>?_,S7 hl h2 (λn hn=>h n (iD _ hn))⟩;obtain⟨n,q1,q2⟩:=yZ z;have:m=n:=(Jk (fQ.mp ha).1 hl).mp (ha.trans q2.symm);exact h1 (this▸q1)
theorem zc{s:S}:∀{ns:List Nat} {s1:S},(bZ s ns s1).length=s.length
 |[],s1=>by cases s1<;>rfl
 |n::r,[]=>rfl
 |n::r,o::q=>by
  show (bZ (s.set n o) r q).length=_;rw[zc,qz]
theorem Mv{s:S}:∀{ns:List Nat} {s1:S} {m:Nat},m∉ns->(bZ s ns s1)[m]?=s[m]?
 |[],s1,m,_=>by cases s1<;>rfl
 |n::r,[],m,_=>rfl
 |n::r,o::q,m,h=>by
  show (bZ (s.set n o) r q)[m]?=_;rw[Mv (λz=>h (iD _ z)),q_ (λz=>h (by rw[z];exact mV))]
theorem S8{s:S}:∀{ns:List Nat} {s1:S} {i m:Nat} {o:SO},ns.Nodup->ns[i]?=some m->s1[i]?=some o->m<s.length->(bZ s ns s1)[m]?=some o
 |[],s1,i,m,o,_,e,_,_=>by simp at e
 |n::r,[],i,m,o,_,_,e,_=>by simp at e
 |n::r,q::qs,i,m,o,hn,e1,e2,hm=>by
  show (bZ (s.set n q) r qs)[m]?=_;obtain⟨h1,h2⟩:=uw.mp hn;cases i with
  |zero=>
   simp at e1 e2;subst e1 e2;rw[Mv h1,yq hm]
  |succ i=>exact S8 h2 (by simpa using e1) (by simpa using e2) (by rw[qz];exact hm)
theorem zeN:∀{xs:List Xv} {vs:List V} (l0:List Addr) (z:Addr->Prop) (k:Nat),bG K cA U H xs vs->U.z=z->(∀i n,(locs xs)[i]?=some n->l0[k+i]?=U.l[n]?)->bG K cA ⟨z,l0⟩ H (cO k xs) vs
 :=by
 intro xs vs l0 z k r0
 induction r0 generalizing k with
 |nil=>exact λ_ _=>.nil
 |@cons x v xs vs a q ih=>
  intro ez h;cases a with
  |d a=>exact .cons (.d (a.iW λb hb=>by rw[ez];exact hb)) (ih k ez h)
  |@l n a' a=>
   refine .cons (.l ?_) (ih (k+1) ez λi m e=>?_)
   ·have:=h 0 n rfl;rw[Nat.add_zero] at this;show l0[k]?=_;rw[this];exact a
   ·have:=h (i+1) m (by simpa [locs] using e);rw[<-this]
    congr 1
    lia
theorem zdL:∀{xs:List Xv} {vs:List V},bG K cA U H xs vs->∀n∈locs xs,∃a,U.l[n]?=some a
 :=by
 intro xs vs r0
 induction r0 with
 |nil=>exact λn h=>by cases h
 |cons a q ih=>
  intro n h;cases a with
  |d a=>exact ih n h
  |l a=>
   rcases iy.mp h with rfl|h
   ·exact⟨_,a⟩
   ·exact ih n h
theorem S9{xs:List Xv}{U1:Ph}{s0 s1:S}(hS:aD K cA U H s)(hn:(locs xs).Nodup)(ht:∀n∈locs xs,∃a,U.l[n]?=some a)(x:Ext ⟨U.z,adr U.l (locs xs)⟩ H U1 H')(r1:aD K cA U1 H' s1) :
  Ext U H ⟨U1.z,U.l⟩ H'/\aD K cA ⟨U1.z,U.l⟩ H' (bZ s (locs xs) s1):=by
 have ao:∀a∈adr U.l (locs xs),a∈U.l:=λa ha=>by obtain⟨n,_,q⟩:=yZ ha;exact fU q
 obtain⟨r,er,hr⟩:=x.more;have er:U1.l=adr U.l (locs xs)++r:=er;refine⟨⟨⟨[],by simp,by simp⟩,λa h=>x.qL a h,λa h=>x.lH a h,λa o h n=>x.frame a o h λz=>n (ao a z),x.stay⟩,?_⟩;refine⟨by rw[zc];exact hS.len,λn o a e1 e2=>?_,hS.uniq,λa ha=>x.qL a (hS.lz a ha),r1.zt⟩;have e2:U.l[n]?=some a:=e2;by_cases dY:n∈locs xs
 ·obtain⟨i,hi,ei⟩:=Jh dY;have ei:(locs xs)[i]?=some n:=by rw[gj hi,ei]
  have ha:(adr U.l (locs xs))[i]?=some a:=by rw[Dt ht ei];exact e2
  have S_:U1.l[i]?=some a:=by rw[er,kY (fQ.mp ha).1];exact ha
  have eZ:i<s1.length:=by rw[<-r1.len];exact(fQ.mp S_).1
  have hb:=S8 (s:=s) (s1:=s1) hn ei (gj eZ) (by rw[<-hS.len];exact(fQ.mp e2).1);rw[hb] at e1;cases e1;exact iV.zl (r1.obj i _ a (gj eZ) S_) _
 ·rw[Mv dY] at e1;have Mw:a∉adr U.l (locs xs):=λz=>by
   obtain⟨m,q1,q2⟩:=yZ z;have:n=m:=(Jk (fQ.mp e2).1 hS.uniq).mp (e2.trans q2.symm);exact dY (this▸q1)
  exact(hS.obj n o a e1 e2).map (λ_ q=>x.frame a _ q Mw) λ_ _ r=>Rep.zl ((Rep.zl r _).mono x λa ha=>hS.lz a (ao a ha)) _
theorem zfq{F:List Xv->M Xv}{xs:List Xv}{vs:List V}{Q:VK}{EE:Nat->List D->Ph->Hp->Prop}(hS:aD K cA U H s)(r:bG K cA U H xs vs)
  (hE:∀c fs U1 U2 H',U1.z=U2.z->EE c fs U1 H'->EE c fs U2 H')
  (h:Run K cA (bJ F xs) U H s (λx _ U' H'=>∀v,aW K cA U' H' x v->Q v H') (λc fs _ U' H'=>EE c fs U' H')) :
  ∃U0 s0,bG K cA U0 H (cO 0 xs) vs/\aD K cA U0 H s0/\Run K cA (F (cO 0 xs)) U0 H s0 (λx _ U' H'=>∀v,aW K cA U' H' x v->Q v H') (λc fs _ U' H'=>EE c fs U' H'):=by
 unfold Run bJ at h;by_cases hn:(locs xs).Nodup
 ·simp only[if_pos hn] at h;have ht:=zdL r;have ao:∀a∈adr U.l (locs xs),a∈U.l:=λa ha=>by obtain⟨n,_,q⟩:=yZ ha;exact fU q
  cases e0:f9 s (locs xs) with
  |none=>simp only[e0] at h
  |some s0=>
   simp only[e0] at h;refine⟨⟨U.z,adr U.l (locs xs)⟩,s0,zeN _ _ 0 r rfl (λi n e=>by rw[Nat.zero_add];exact Dt ht e),?_,?_⟩
   ·refine⟨by rw[S6 e0];exact Du ht,λi o a e1 e2=>?_,S7 hS.uniq hn ht,λa ha=>hS.lz a (ao a ha),hS.zt⟩;have e2:(adr U.l (locs xs))[i]?=some a:=e2;have hi:i<(locs xs).length:=by rw[<-Du ht];exact(fQ.mp e2).1
    have ei:(locs xs)[i]?=some ((locs xs)[i]):=gj hi;rw[Dt ht ei] at e2;rw[(S5 e0 ei).1] at e1;exact iV.zl (hS.obj _ o a e1 e2) _
   ·unfold Run;cases e1:F (cO 0 xs) s0 with
    |none=>simp only[e1] at h
    |some q=>
     obtain⟨q,s1⟩:=q;simp only[e1] at h;cases q with
     |er c fs=>
      intro U1 H' x r1;obtain⟨x2,r2⟩:=S9 (s0:=s0) hS hn ht x r1;exact hE c fs ⟨U1.z,U.l⟩ U1 H' rfl (h ⟨U1.z,U.l⟩ H' x2 r2)
     |ok y=>
      intro U1 H' x r1 v rv;obtain⟨x2,r2⟩:=S9 (s0:=s0) hS hn ht x r1;cases y with
      |d w=>
       cases rv with
       |d rv=>exact h ⟨U1.z,U.l⟩ H' x2 r2 v (.d (Rep.zl rv _))
      |l n=>
       cases rv with
       |@l _ a hl=>
        obtain⟨rr,er,hr⟩:=x.more;have er:U1.l=adr U.l (locs xs)++rr:=er;cases em:(locs xs)[n]? with
        |some m=>
         simp only[em] at h;refine h _ H' x2 r2 _ (.l ?_);show U.l[m]?=some a;have ha:(adr U.l (locs xs))[n]?=U.l[m]?:=Dt ht em;have eZ:n<(adr U.l (locs xs)).length:=by rw[Du ht];exact(fQ.mp em).1
         rw[er,kY eZ] at hl;rw[<-ha];exact hl
        |none=>
         simp only[em] at h;have hge:(adr U.l (locs xs)).length<=n:=by rw[Du ht];exact lO.mp em
         have G7:a∈rr:=by
          rw[er,mU hge] at hl;exact fU hl
         have Mw:a∉U.l:=λz=>by
          obtain⟨o,eo⟩:=hS.zt a (hS.lz a z);rw[hr a G7] at eo;cases eo
         cases eo:s1[n]? with
         |none=>simp only[eo] at h
         |some o=>
          simp only[eo] at h;have ho:=r1.obj n o a eo hl;refine h ⟨U1.z,U.l++[a]⟩ H' ⟨⟨[a],rfl,by simpa using hr a G7⟩,x2.qL,x2.lH,x2.frame,x2.stay⟩ ?_ _ (.l (by show (U.l++[a])[s.length]?=_;rw[<-hS.len];simp));refine⟨by show (U.l++[a]).length=_;rw[bO,bO,zc,hS.len];rfl,λm o' a' e1 e2=>?_,?_,λb hb=>?_,r1.zt⟩
          ·have e2:(U.l++[a])[m]?=some a':=e2;by_cases hm:m<s.length
           ·rw[kY (by rw[zc];exact hm)] at e1;rw[kY (by rw[hS.len];exact hm)] at e2;exact iV.zl (r2.obj m o' a' e1 e2) _
           ·have ou:m=s.length:=by
             have z:=(fQ.mp e2).1;rw[bO,hS.len] at z;simp at z
             lia
            subst ou;rw[mU (by rw[zc];exact bT _)] at e1;rw[mU (by rw[hS.len];exact bT _)] at e2;simp[zc] at e1;simp[hS.len] at e2;subst e1 e2;exact iV.zl ho _
          ·show (U.l++[a]).Nodup;rw[yD];refine⟨hS.uniq,by simp,λb hb c hc e=>?_⟩;simp at hc;subst hc e;exact Mw hb
          ·have hb:b∈U.l++[a]:=hb;rcases iG.mp hb with z|z
           ·exact x2.qL b (hS.lz b z)
           ·simp at z;subst z;exact r1.lz _ (fU hl)
 ·simp only[if_neg hn] at h
end
section
variable {X:Cx}{cA:Cl}{ao:Nat->Nat->Bool}{aj:Bool}{F:Fn}{EX:XS}{a b c d e o:Expr}{A B C Dd E' O:E}{pos pp p2 apos cpos:Pos}{es:List Expr}{Xs:Es}{fz:Bool}{p:Pr}{x:Str}{U:Ph}{H:Hp}{s:S}
theorem Hr{K:W.Frag}{β:Type}{x:Xv}{v:V}{k:Nat×List D->M β}{P:β->S->Ph->Hp->Prop}{Ee:Nat->List D->S->Ph->Hp->Prop}(hS:aD K cA U H s)(r:aW K cA U H x v)(h:Run K cA (M.bd (bY x) k) U H s P Ee) :
  ∃n ad xs vs,x=.l n/\v=.ref ad/\s[n]?=some (.lst xs)/\U.l[n]?=some ad/\H ad=some (.lst vs)/\aB K cA U H xs vs/\Run K cA (k (n,xs)) U H s P Ee:=by
 cases r with
 |d _=>exact h.elim
 |@l n ad hl=>
  unfold Run M.bd bY at h;dsimp only at h;cases e:s[n]? with
  |none=>rw[e] at h;exact h.elim
  |some o=>
   rw[e] at h;cases o with
   |lst xs=>
    obtain⟨vs,q1,q2⟩:=hS.obj n _ _ e hl;exact⟨n,ad,xs,vs,rfl,rfl,e,hl,q1,q2,h⟩
   |_=>exact h.elim
theorem zh1(ho:SE X cA ao aj F EX o O)(ha:SE X cA ao aj F EX a A)
  (dH:attributeBase o "append" X.env (eval o X.env)=eval o X.env:=by rfl)
  (wG:((backTo cpos (starEach [a] X.env)).all (λx=>!x.1)&&(backToKw cpos (keywordEach [] X.env)).all (λx=>x.1.isSome)
  &&decide ([a].length+([]:List Keyword).length+(if ([]:List Keyword).isEmpty then 0 else 1)<30))=true:=by rfl)
  (dI:(apos.endLine==cpos.line)=true:=by rfl) (hs:starEach [a] X.env=(false,eval a X.env)::starEach [] X.env:=by rfl) (mD:(backTo cpos (starEach [] X.env)).any (·.1)=false:=by rfl) :
  SE X cA ao aj F EX (.Call (.Attribute o "append" apos) [a] [] cpos) (.push O A):=PE.weak (zkA PySem.F.plainAttrs_list PySem.F.slot_list_append PySem.F.type_list_append Ro ho (qI ha wA hs) dH wG dI hs mD) λZ H Q hh=>un hh λU J s hL hS h=>by
 refine bD hL hS h λx H1 U1 d1 s1 x1 hL1 aM r1 h1=>?_;obtain⟨n,ad,xs,vs,rfl,rfl,e1,f1,g1,q1,h2⟩:=Hr aM r1 h1;refine⟨.inl ⟨rfl,vs,cW.of g1⟩,bD hL1 aM h2 λy H2 U2 d2 s2 x2 hL2 aU r2 h3=>?_⟩;obtain⟨dd,_,rd,h4⟩:=Mj r2 h3;obtain⟨n',ad',ys,us,en,ea,e2,f2,g2,q2,h5⟩:=Hr aU (r1.mono x2 aM.lz) h4;cases en;cases ea;by_cases hz:ys.length<sizeLine
 ·have h5:Run X.K cA (M.bd (putL n (ys++[dd])) λ_=>M.ret (Xv.d .non)) U2 H2 s2 (λd _ U' H'=>∀v,aW X.K cA U' H' d v->Q v H') (eX X.K cA EX Z):=by
   have h6:Run X.K cA (if ys.length<sizeLine then M.bd (putL n (ys++[dd])) λ_=>M.ret (Xv.d .non) else M.no) U2 H2 s2 (λd _ U' H'=>∀v,aW X.K cA U' H' d v->Q v H') (eX X.K cA EX Z):=h5;rw[if_pos hz] at h6;exact h6
  refine⟨ad,us,y,rfl,rfl,g2,by rw[<-q2.len];exact hz,?_⟩;exact h5 U2 _ (Ext.write f2 ⟨_,g2⟩) (aU.write e2 f2 (q2.app (.cons rd .nil))) _ (.d .non)
 ·have h6:Run X.K cA (if ys.length<sizeLine then M.bd (putL n (ys++[dd])) λ_=>M.ret (Xv.d .non) else M.no) U2 H2 s2 (λd _ U' H'=>∀v,aW X.K cA U' H' d v->Q v H') (eX X.K cA EX Z):=h5;rw[if_neg hz] at h6;exact h6.elim
theorem zcQ{α:Type}{xs:List α}{d:α}(h:xs.getLast?=some d):xs[xs.length-1]?=some d:=by
 rw[List.getLast?_eq_getElem?] at h;exact h
theorem aB.dropLast{K:W.Frag}{ds:List D}{vs:List V}(r:aB K cA U H ds vs):aB K cA U H ds.dropLast vs.dropLast:=by
 rw[List.dropLast_eq_take,List.dropLast_eq_take,r.len];exact r.take _
theorem zjb(ho:SE X cA ao aj F EX o O)(dH:attributeBase o "pop" X.env (eval o X.env)=eval o X.env:=by rfl)(dI:(apos.endLine==cpos.line)=true:=by rfl) :
  SE X cA ao aj F EX (.Call (.Attribute o "pop" apos) [] [] cpos) (.pop O):=PE.weak (zie PySem.F.plainAttrs_list PySem.F.slot_list_pop PySem.F.type_list_pop zjw ho dH dI) λZ H Q hh=>un hh λU J s hL hS h=>by
 refine bD hL hS h λx H1 U1 d1 s1 x1 hL1 aM r1 h1=>?_;obtain⟨n,ad,xs,vs,rfl,rfl,e1,f1,g1,q1,h2⟩:=Hr aM r1 h1;refine⟨.inl ⟨rfl,vs,cW.of g1⟩,?_⟩;cases eg:xs.getLast? with
 |none=>simp only[eg] at h2;exact h2.elim
 |some dd=>
  simp only[eg] at h2;obtain⟨w,hw,jL⟩:=q1.get (zcQ eg);rw[q1.len] at hw;refine⟨ad,vs,w,rfl,rfl,g1,hw,?_⟩;have x2:Ext U1 H1 U1 (upd H1 ad (.lst vs.dropLast)):=Ext.write f1 ⟨_,g1⟩;exact h2 U1 _ x2 (aM.write e1 f1 q1.dropLast) _ (.d (jL.mono x2 aM.lz))
noncomputable def pR(K:W.Frag)(cA:Cl)(m:List Xv->M Xv):Sp:=λvs H Q E=>∃U xs s,bG K cA U H xs vs/\aD K cA U H s/\Run K cA (m xs) U H s (λd _ U' H'=>∀v,aW K cA U' H' d v->Q v H') (λc fs _ U' H'=>∀dx,iR K cA U' H' c fs dx->E (.ref (cA.a c)) dx H')
theorem zhl{K:W.Frag}{U1 U2:Ph}{c:Nat}{fs:List D}{dx:Option Addr}(e:U1.z=U2.z)(h:iR K cA U2 H c fs dx):iR K cA U1 H c fs dx:=h.imp id λ⟨d,vs,a,b,c,l,r⟩=>⟨d,vs,a,by rw[e];exact b,c,l,r.iW λ_ z=>by rw[<-e];exact z⟩
theorem zg3{cm:Bool}{k f:Nat}{fa:Addr}{fd:FuncData}{ps:List Str}(Fo:dB X.prog X.w X.K X.mg X.base (i_ X.prog X.w) cm k fa fd ps (pR X.K cA (F f)))(n8:cm=true->X.aj=true)(hr:cD k X.A)(hg:Gl X x)(hm:X.mg x=some (.ref fa))(hk:PySem.W.keepIn X.K (.ref fa)=true)(hb:Binds X.K fd ps [])(R:Raises X EX)
  (ha:SA X cA ao aj F EX (e::es) Xs) (pC:(x==("__debug__" : Str))=false:=by decide) (he:starEach (e::es) X.env=(false,eval e X.env)::starEach es X.env:=by rfl) (c7:(backTo pos (starEach es X.env)).any (·.1)=false:=by rfl) :
  SE X cA ao aj F EX (.Call (.Name x pp) (e::es) [] pos) (.call f Xs):=PE.weak (zfs Fo n8 hr hg hm hk hb R ha pC he c7) λZ H Q hh=>un hh λU J s hL hS h=>
 sJ hL hS h λvs H1 U1 ds s1 x1 hL1 aM r1 h1=>by
  obtain⟨U0,s0,a1,a2,a3⟩:=zfq (EE:=λc fs U' H'=>∀dx,iR X.K cA U' H' c fs dx->EX Z (.ref (cA.a c)) dx H') aM r1 (λc fs U1 U2 H' ez z dx q=>z dx (zhl ez q)) h1;exact⟨U0,_,s0,a1,a2,a3⟩
end
section
variable {K:W.Frag}{cA:Cl}{U U':Ph}{H H':Hp}{s:S}
def dh(U:Ph)(H H':Hp):Prop:=∀a o,H a=some o->¬U.z a->H' a=some o
mutual
theorem Rep.out(x:dh U H H'):∀{d:D} {v:V},Rep K cA U H d v->Rep K cA U H' d v
 |_,_,.non=>.non
 |_,_,.bl b=>.bl b
 |_,_,.int i=>.int i
 |_,_,.str z=>.str z
 |_,_,.tup h r=>.tup (h.imp (λ⟨p,n⟩=>⟨p.imp (λq=>x _ _ q n) λ⟨o,q⟩=>⟨o,x _ _ q n⟩,n⟩) id) (aB.out x r)
 |_,_,.fl h r=>.fl (h.imp (λ⟨p,n⟩=>⟨p.imp (λq=>x _ _ q n) λ⟨o,q⟩=>⟨o,x _ _ q n⟩,n⟩) id) (aB.out x r)
 |_,_,.fd h n=>.fd (x _ _ h n) n
 |_,_,.exc h r=>.exc ⟨h.1,h.2.imp (λ⟨a,b,q⟩=>⟨a,b,x _ _ q h.1⟩) λ⟨dx,p,n,q,l⟩=>⟨dx,x _ _ p h.1,n,x _ _ q n,l⟩⟩ (aB.out x r)
 |_,_,.any v=>.any v
 |_,_,.ob h r=>.ob ⟨h.1,let ⟨dx,p,l⟩:=h.2;⟨dx,x _ _ p h.1,l⟩⟩ (aB.out x r)
theorem aB.out(x:dh U H H'):∀{ds:List D} {vs:List V},aB K cA U H ds vs->aB K cA U H' ds vs
 |_,_,.nil=>.nil
 |_,_,.cons h r=>.cons (Rep.out x h) (aB.out x r)
end
theorem dh.refl:dh U H H:=λa o e _=>e
structure iB(K:W.Frag)(cA:Cl)(c:Src)(U:Ph)(H:Hp)(cI:L2.It):Prop where
 stop:∀U' H₁ H' s' i,Ext U H U' H₁->dh U' H₁ H'->aD K cA U' H' s'->c.at i s'=some none->cI.stop i H'
 go:∀U' H₁ H' s' i x,Ext U H U' H₁->dh U' H₁ H'->aD K cA U' H' s'->c.at i s'=some (some x)->cI.go i H'
 wj:∀U' H₁ H' s' i x v H2,Ext U H U' H₁->dh U' H₁ H'->aD K cA U' H' s'->c.at i s'=some (some x)->cI.wj i H' v H2->bA H' H2/\Rep K cA U' H2 x v
theorem LstAt.later(hz:∀a∈U.l,U.z a)(h:LstAt K U H a vs)(x:Ext U H U' H₁)(o:dh U' H₁ H'):LstAt K U' H' a vs:=
 (h.mono x hz).imp (λ⟨p,n⟩=>⟨p.imp (λq=>o _ _ q n) λ⟨w,q⟩=>⟨w,o _ _ q n⟩,n⟩) id
theorem TupAt.later(hz:∀a∈U.l,U.z a)(h:TupAt K U H a vs)(x:Ext U H U' H₁)(o:dh U' H₁ H'):TupAt K U' H' a vs:=
 (h.mono x hz).imp (λ⟨p,n⟩=>⟨p.imp (λq=>o _ _ q n) λ⟨w,q⟩=>⟨w,o _ _ q n⟩,n⟩) id
theorem iB.list(hz:∀a∈U.l,U.z a)(h:LstAt K U H a vs)(r:aB K cA U H xs vs):iB K cA (.fix xs) U H (Gy K a):=by
 refine⟨λU' H₁ H' s' i x o hS e=>⟨vs,(h.later hz x o).oM,?_⟩,λU' H₁ H' s' i d x o hS e=>?_,λU' H₁ H' s' i d v H2 x o hS e y=>?_⟩
 ·have e:xs[i]?=none:=bR e;exact lO.mp ((r.mono x hz).none e)
 ·have e:xs[i]?=some d:=bR e;obtain⟨v,q,_⟩:=r.get e;exact⟨vs,v,(h.later hz x o).oM,q⟩
 ·have e:xs[i]?=some d:=bR e;obtain⟨rfl,y⟩:=y;obtain⟨w,q,jL⟩:=((r.mono x hz).out o).get e;have:=y vs (h.later hz x o).oM;rw[q] at this;cases this;exact⟨bA.refl,jL⟩
theorem iB.tuple(hz:∀a∈U.l,U.z a)(h:TupAt K U H a vs)(r:aB K cA U H xs vs):iB K cA (.fix xs) U H (J7 K a):=by
 refine⟨λU' H₁ H' s' i x o hS e=>⟨vs,(h.later hz x o).iQ,?_⟩,λU' H₁ H' s' i d x o hS e=>?_,λU' H₁ H' s' i d v H2 x o hS e y=>?_⟩
 ·have e:xs[i]?=none:=bR e;exact lO.mp ((r.mono x hz).none e)
 ·have e:xs[i]?=some d:=bR e;obtain⟨v,q,_⟩:=r.get e;exact⟨vs,v,(h.later hz x o).iQ,q⟩
 ·have e:xs[i]?=some d:=bR e;obtain⟨rfl,y⟩:=y;obtain⟨w,q,jL⟩:=((r.mono x hz).out o).get e;have:=y vs (h.later hz x o).iQ;rw[q] at this;cases this;exact⟨bA.refl,jL⟩
theorem Mx(h:(Src.live n).at i s=some o):∃xs,s[n]?=some (.lst xs)/\xs[i]?=o:=by
 unfold Src.at at h;dsimp only at h;cases e:s[n]? with
 |none=>rw[e] at h;cases h
 |some ob=>
  rw[e] at h;cases ob with
  |lst xs=>exact⟨xs,rfl,bR h⟩
  |_=>cases h
theorem iB.live(h:U.l[n]?=some a):iB K cA (.live n) U H (Gy K a):=by
 refine⟨λU' H₁ H' s' i x o hS e=>?_,λU' H₁ H' s' i d x o hS e=>?_,λU' H₁ H' s' i d v H2 x o hS e y=>?_⟩
 ·obtain⟨xs,e1,e2⟩:=Mx e;obtain⟨vs,q1,q2⟩:=hS.obj n _ a e1 (x.get h);exact⟨vs,cW.of q1,lO.mp (q2.none e2)⟩
 ·obtain⟨xs,e1,e2⟩:=Mx e;obtain⟨vs,q1,q2⟩:=hS.obj n _ a e1 (x.get h);obtain⟨v,q3,_⟩:=q2.get e2;exact⟨vs,v,cW.of q1,q3⟩
 ·obtain⟨xs,e1,e2⟩:=Mx e;obtain⟨vs,q1,q2⟩:=hS.obj n _ a e1 (x.get h);obtain⟨w,q3,jL⟩:=q2.get e2;obtain⟨rfl,y⟩:=y;have:=y vs (cW.of q1);rw[q3] at this;cases this;exact⟨bA.refl,jL⟩
theorem Mz:(gK a b)[i]?=if i<(b-a).toNat then some (.int (a+i)) else none:=by
 unfold gK;rw[gZ,List.getElem?_range']
where
 List.getElem?_range' {n i:Nat}:Option.map (λ(i:Nat)=>D.int (a+i)) (List.range n)[i]?=if i<n then some (.int (a+i)) else none:=by
  by_cases h:i<n
  ·rw[if_pos h,Ji h];rfl
  ·rw[if_neg h,Ja (by simp;lia)];rfl
theorem iB.range{a b:Int}:iB K cA (.fix (gK a b)) U H (Ba a (b-a).toNat):=by
 refine⟨λU' H₁ H' s' i x o hS e=>?_,λU' H₁ H' s' i d x o hS e=>?_,λU' H₁ H' s' i d v H2 x o hS e y=>?_⟩
 ·have e:(gK a b)[i]?=none:=bR e;rw[Mz] at e;split at e
  ·cases e
  ·exact FW (by assumption)
 ·have e:(gK a b)[i]?=some d:=bR e;rw[Mz] at e;split at e
  ·assumption
  ·cases e
 ·have e:(gK a b)[i]?=some d:=bR e;rw[Mz] at e;split at e
  ·cases e;obtain⟨rfl,rfl⟩:=y;exact⟨bA.refl,.int _⟩
  ·cases e
end
noncomputable def MF(K:W.Frag)(te:TE):TI:=λZ H R=>te Z H λv H1=>∃a,v=.ref a/\(((∃xs,cW K H1 a xs)/\R (Gy K a) H1)\/((∃xs,gF K H1 a xs)/\R (J7 K a) H1))
theorem ziW(he:PE X l te):PI X tg l (MF X.K te):=by
 intro ak s Z H R I h;refine bf (he ak s Z H _ I h) λv s1 hx=>Jq hx λx H1 I1 r1 a e q=>?_;subst e;cases r1;rcases q with ⟨⟨xs,hq⟩,q⟩|⟨⟨xs,hq⟩,q⟩
 ·obtain⟨its,rv,p,hz⟩:=I1.list hq;refine wpAny_pyIter_list p.isList ?_;refine⟨s1.heap.objs.size,[s1.heap.objs.size],_,_,H1,rfl,I1.kept (t':=s1.toks) λb o e=>dz _ e,YM a _,⟨_,iu _ rfl,rfl,rfl⟩,λb hb=>?_,q⟩;have e:b=s1.heap.objs.size:=by simpa using hb
  subst e;exact I1.pB (bT _) (I1.hok.fresh (bT _))
 ·obtain⟨its,rv,p,hz⟩:=I1.tuple hq;refine wpAny_pyIter_tuple (show s1.heap.IsTuple a its.toArray from p) ?_;refine⟨s1.heap.objs.size,[s1.heap.objs.size],_,_,H1,rfl,I1.kept (t':=s1.toks) λb o e=>dz _ e,YQ a _,⟨_,iu _ rfl,rfl,rfl⟩,λb hb=>?_,q⟩;have e:b=s1.heap.objs.size:=by simpa using hb
  subst e;exact I1.pB (bT _) (I1.hok.fresh (bT _))
section
variable {X:Cx}{cA:Cl}{ao:Nat->Nat->Bool}{aj:Bool}{F:Fn}{EX:XS}{a b tg:Expr}{A B:E}{pos pp:Pos}
noncomputable def tI(K:W.Frag)(cA:Cl)(EX:XS)(m:Vs->M (Src×Nat)):TI:=λZ H R=>∃U J s,aR K cA U H Z J/\aD K cA U H s/\Run K cA (m J) U H s (λcn _ U1 H1=>∀cI,iB K cA cn.1 U1 H1 cI->R cI H1) (eX K cA EX Z)
def SI(X:Cx)(cA:Cl)(ao:Nat->Nat->Bool)(aj:Bool)(F:Fn)(EX:XS)(tg iter:Expr)(w:Wk):Prop:=PI X tg iter (tI X.K cA EX (jT ao aj F w))
theorem PI.weak{iter:Expr}{t t':TI}(h:PI X tg iter t)(f:∀Z H Q,t' Z H Q->t Z H Q):PI X tg iter t':=λak s Z H Q I q=>h ak s Z H Q I (f Z H Q q)
theorem ziV(ha:SE X cA ao aj F EX a A):SI X cA ao aj F EX tg a (.seq A):=PI.weak (ziW ha) λZ H R hh=>un hh λU J s hL hS h=>by
 refine bD hL hS h λv H1 U1 d s1 x1 hL1 aM r1 h1=>?_;cases r1 with
 |@l n ad hl=>
  unfold Run src at h1;dsimp only at h1;cases e:s1[n]? with
  |none=>rw[e] at h1;exact h1.elim
  |some o=>
   rw[e] at h1;cases o with
   |lst xs=>
    obtain⟨vs,q1,q2⟩:=aM.obj n _ _ e hl;exact⟨ad,rfl,.inl ⟨⟨vs,cW.of q1⟩,h1 U1 H1 Ext.refl aM _ (iB.live hl)⟩⟩
   |_=>exact h1.elim
 |d r1=>
  cases r1 with
  |tup q r=>exact⟨_,rfl,.inr ⟨⟨_,q.iQ⟩,h1 U1 H1 Ext.refl aM _ (iB.tuple aM.lz q r)⟩⟩
  |fl q r=>exact⟨_,rfl,.inl ⟨⟨_,q.oM⟩,h1 U1 H1 Ext.refl aM _ (iB.list aM.lz q r)⟩⟩
  |_=>exact h1.elim
theorem Tc{i:Int}(h:dN i=true) : -(2^62)<=i/\i<2^62:=by
 unfold dN at h;rw[fK,j_,j_] at h;exact⟨by lia,h.2⟩
theorem Td{K:W.Frag}{U:Ph}{H:Hp}{s:S}{i j:Int}{P:Src×Nat->S->Ph->Hp->Prop}{Ee:Nat->List D->S->Ph->Hp->Prop}(hS:aD K cA U H s)(h:Run K cA (if (dN i&&dN j)=true then M.ret (Src.fix (gK i j),(gK i j).length) else M.no) U H s P Ee):(-(2^62)<=i/\i<2^62/\-(2^62)<=j/\j<2^62)/\P (.fix (gK i j),(gK i j).length) s U H:=by
 by_cases hk:(dN i&&dN j)=true
 ·rw[if_pos hk] at h;rw[fK] at hk;obtain⟨a,b⟩:=Tc hk.1;obtain⟨c,d⟩:=Tc hk.2;exact⟨⟨a,b,c,d⟩,h.bN hS⟩
 ·rw[if_neg hk] at h;exact h.elim
theorem zkL(mO:Gl X "range")(hmg:X.mg "range"=none)(ha:SE X cA ao aj F EX a A)(hb:SE X cA ao aj F EX b B)(h1:starEach [a,b] X.env=(false,eval a X.env)::starEach [b] X.env)(h2:starEach [b] X.env=(false,eval b X.env)::starEach [] X.env) :
  SI X cA ao aj F EX tg (.Call (.Name "range" pp) [a,b] [] pos) (.rg A B):=PI.weak (YW mO hmg (qI ha (qI hb wA h2) h1) (by rw[h1,h2];rfl) (by rw[h2];rfl)) λZ H R hh=>un hh λU J s hL hS h=>by
 refine bD hL hS h λx H1 U1 d1 s1 x1 hL1 aM r1 h1=>bD hL1 aM h1 λy H2 U2 d2 s2 x2 hL2 aU r2 h2=>?_;obtain⟨i,_,e1,h3⟩:=Dk (r1.mono x2 aM.lz) h2;obtain⟨j,_,e2,h4⟩:=Dk r2 h3;obtain⟨hz,q⟩:=Td aU h4;subst e1 e2;exact⟨i,j,rfl,hz,q _ iB.range⟩
theorem zit(mO:Gl X "range")(hmg:X.mg "range"=none)(hb:SE X cA ao aj F EX b B)(h2:starEach [b] X.env=(false,eval b X.env)::starEach [] X.env) :
  SI X cA ao aj F EX tg (.Call (.Name "range" pp) [b] [] pos) (.rg (.c (.int 0)) B):=PI.weak (YT mO hmg (qI hb wA h2) (by rw[h2];rfl)) λZ H R hh=>un hh λU J s hL hS h=>by
 have h:Run X.K cA (M.bd (ev ao aj F B J) λy=>M.bd (int (.d (.int 0))) λi=>M.bd (int y) λj=>if (dN i&&dN j)=true then M.ret (Src.fix (gK i j),(gK i j).length) else M.no) U H s _ _:=h;refine bD hL hS h λy H2 U2 d2 s2 x2 hL2 aU r2 h2=>?_;obtain⟨j,_,e2,h4⟩:=Dk r2 (show Run X.K cA (M.bd (int d2) λj=>if (dN 0&&dN j)=true then M.ret (Src.fix (gK 0 j),(gK 0 j).length) else M.no) U2 H2 s2 _ _ from h2);obtain⟨hz,q⟩:=Td aU h4;subst e2;refine⟨j,rfl,hz.2.2.1,hz.2.2.2,q _ ?_⟩;have:=iB.range (K:=X.K) (cA:=cA) (U:=U2) (H:=H2) (a:=0) (b:=j);rw[Int.sub_zero] at this;exact this
end
section
variable {K:W.Frag}{cA:Cl}{U U' U0:Ph}{H H' H0:Hp}{s:S}
theorem Run.bd0(x:Ext U0 H0 U H)(h:Run K cA (M.bd m k) U0 H0 s P Ee) :
  Run K cA m U H s (λa s1 U1 H1=>Ext U H U1 H1/\aD K cA U1 H1 s1/\Run K cA (k a) U0 H0 s1 P Ee) Ee:=by
 unfold Run M.bd at *;cases e:m s with
 |none=>rw[e] at h;exact h
 |some r=>
  obtain⟨r,s1⟩:=r;rw[e] at h;cases r with
  |er c f=>exact λU1 H1 x1 r1=>h U1 H1 (x.trans x1) r1
  |ok a=>exact λU1 H1 x1 r1=>⟨x1,r1,h⟩
theorem Te{α β:Type}{m:M α}{k:α->M β}{P:β->S->Ph->Hp->Prop}{Ee Ee':Nat->List D->S->Ph->Hp->Prop}(x:Ext U0 H0 U H)(h:Run K cA (M.bd (M.qt m) k) U0 H0 s P Ee) :
  Run K cA m U H s (λa s1 U1 H1=>Ext U H U1 H1/\aD K cA U1 H1 s1/\Run K cA (k a) U0 H0 s1 P Ee) Ee':=by
 have h2:=h.bd0 x;unfold Run at h2 ⊢;unfold M.qt at h2;cases e:m s with
 |none=>rw[e] at h2;exact h2
 |some r=>
  obtain⟨r,s1⟩:=r;rw[e] at h2;cases r with
  |ok a=>exact h2
  |er c f=>exact h2.elim
theorem zi3{α β:Type}{m m':M α}{k:α->M β}{P:β->S->Ph->Hp->Prop}{Ee:Nat->List D->S->Ph->Hp->Prop}(e:m s=m' s)(h:Run K cA (M.bd m k) U H s P Ee):Run K cA (M.bd m' k) U H s P Ee:=by
 unfold Run M.bd at *;rw[<-e];exact h
end
section
variable {X:Cx}{cA:Cl}{ao:Nat->Nat->Bool}{aj:Bool}{F:Fn}{EX:XS}{elt iter tg:Expr}{A B:E}{pos p:Pos}{ifs:List Expr}{scope:Scope}{N:List Str}{cond:Eo}{fr cP:List Nat}{many:Nat}{fz:Bool}{w:Wk}
def Dv(X:Cx)(cA:Cl)(ao:Nat->Nat->Bool)(aj:Bool)(F:Fn)(EX:XS)(ifs:List Expr)(m:Eo):Prop:=G4 X ifs (sG X.K cA EX (nF ao aj F m))
theorem zil:Dv X cA ao aj F EX [] .no:=λak s Z H Q I ⟨U,J,st,hL,hS,h⟩=>zhk ak s Z H Q I (h.bN hS)
theorem zha(h:ST X cA ao aj F EX c C):Dv X cA ao aj F EX [c] (.yes C):=zhs h
structure jU(K:W.Frag)(cA:Cl)(g:TG)(cP:List Nat):Prop where
 run:∀(U:Ph) (H:Hp) (s:S) (Z:L2.St) (J J':Vs) (d:D) (v:V) (Q:L2.St->Hp->Prop),aR K cA U H Z J->aD K cA U H s->Rep K cA U H d v->eG cP d J=some J'->
  (∀Z',aR K cA U H Z' J'->Z'.length=Z.length->(∀i,i∉cP->Z'[i]?=Z[i]?)->Q Z' H)->g v Z H Q
theorem lU{K:W.Frag}(i:Nat):jU K cA (cY i) [i] where
 run:=λU H s Z J J' d v Q hL hS r e k=>by
  cases e;exact k _ (hL.set (.d r)) (qz ..) λj hj=>q_ (by simpa using λz=>hj (by simp[z]))
theorem MJ{K:W.Frag}(i j:Nat):jU K cA (pA K 2 (fV (cY i) (fV (cY j) pq))) [i,j] where
 run:=λU H s Z J J' d v Q hL hS r e k=>by
  have e:(jt d).bind (λds=>fB [i,j] (ds.map Xv.d) J)=some J':=e;obtain⟨ds,e1,e2⟩:=uf.mp e;cases r with
  |@tup ad xs vs h1 h2=>
   have e1:xs=ds:=bR e1;subst e1;cases h2 with
   |nil=>cases e2
   |cons r1 t1=>
    cases t1 with
    |nil=>cases e2
    |cons r2 t2=>
     cases t2 with
     |nil=>
      have e2:=bR e2;subst e2;refine⟨ad,_,rfl,h1.iQ,rfl,_,_,rfl,_,_,rfl,rfl,k _ ((hL.set (.d r1)).set (.d r2)) (by rw[qz,qz]) λm hm=>?_⟩;rw[q_ (λz=>hm (by simp[z])),q_ (λz=>hm (by simp[z]))]
     |cons r3 t3=>cases e2
  |_=>cases e1
noncomputable def cj(many:Nat)(fr:List Nat)(Z:L2.St):L2.St:=List.replicate many none++fr.map λj=>(Z[j]?).join
theorem zhX{U:Ph}{H:Hp}{Z:L2.St}{J:Vs}(hL:aR X.K cA U H Z J){Z':L2.St}(hl:Z'.length=many+fr.length)(hf:∀(i:Nat) j v,fr[i]?=some j->Z[j]?=some (some v)->Z'[many+i]?=some (some v)):aR X.K cA U H Z' (blk many fr J):=by
 refine⟨by unfold blk;simp[hl],λi d e=>?_⟩;unfold blk at e;by_cases hi:i<many
 ·rw[kY (by simpa using hi),Fj,if_pos hi] at e;cases e
 ·rw[mU (by simpa using FW hi),Ft,gZ] at e;cases z:fr[i-many]? with
  |none=>rw[z] at e;cases e
  |some j=>
   rw[z] at e;have e3:J[j]?.join=some d:=by simpa using e
   obtain⟨v,q1,q2⟩:=hL.2 j d (Mp e3);refine⟨v,?_,q2⟩;have:=hf (i-many) j v z q1;rw[show many+(i-many)=i by omega] at this;exact this
structure gR(U:Ph)(H:Hp)(Dd:Addr)(o:HO):Prop where
 at_:H Dd=some o
 nl:Dd∉U.l
 z:U.z Dd
abbrev Keep(U:Ph)(H:Hp)(Dd:Addr)(vs:List V):Prop:=gR U H Dd (.lst vs)
theorem gR.mono{U U':Ph}{H H':Hp}{Dd:Addr}{o:HO}(x:Ext U H U' H')(k:gR U H Dd o):gR U' H' Dd o:=by
 refine⟨x.frame _ _ k.at_ k.nl,λz=>?_,x.qL _ k.z⟩;obtain⟨r,er,hr⟩:=x.more;rw[er] at z;rcases iG.mp z with z|z
 ·exact k.nl z
 ·have:=hr _ z;rw[k.at_] at this;cases this
theorem gR.ext{U:Ph}{H:Hp}{Dd:Addr}{o u:HO}(k:gR U H Dd o):(∀a o,H a=some o->¬U.z a->(upd H Dd u) a=some o)/\gR U (upd H Dd u) Dd u:=
 ⟨λa o e n=>by rw[dR (λz=>n (by rw[z];exact k.z))];exact e,lq,k.nl,k.z⟩
end
section
variable {K:W.Frag}{cA:Cl}{U U':Ph}{H H':Hp}
theorem aD.keep{s:S}{Dd:Addr}{o u:HO}(h:aD K cA U H s)(k:gR U H Dd o):aD K cA U (upd H Dd u) s:=by
 have x:dh U H (upd H Dd u):=k.ext.1;refine⟨h.len,λn o a e1 e2=>?_,h.uniq,h.lz,λa z=>?_⟩
 ·have na:a≠Dd:=λy=>k.nl (by rw[<-y];exact fU e2);exact(h.obj n o a e1 e2).map (λ_ q=>by rw[dR na];exact q) λ_ _ r=>r.out x
 ·by_cases e:a=Dd
  ·subst e;exact⟨_,lq⟩
  ·obtain⟨o,q⟩:=h.zt a z;exact⟨o,by rw[dR e];exact q⟩
theorem Ext.keep{U1:Ph}{H1:Hp}{Dd:Addr}{vs:List V}{u:HO}(x:Ext U1 H1 U H)(hD:H1 Dd=none):Ext U1 H1 U (upd H Dd u):=by
 refine⟨x.more,x.qL,x.lH,λa o h n=>?_,λa o h=>?_⟩
 ·rw[dR (λz=>by rw[z,hD] at h;cases h)];exact x.frame a o h n
 ·rw[dR (λz=>by rw[z,hD] at h;cases h)];exact x.stay a o h
theorem ze5{U1:Ph}{H1:Hp}{s':S}{fz:Bool}{acc:List D}{vs:List V}{Dd:Addr}{Q:VK}{Ee:Nat->List D->S->Ph->Hp->Prop}(h:Run K cA (newL fz acc) U1 H1 s' (λd _ U' H'=>∀v,aW K cA U' H' d v->Q v H') Ee)
  (x2:Ext U1 H1 U' H') (hD:H1 Dd=none) (nz:¬U1.z Dd) (aU:aD K cA U' H' s') (k:Keep U' H' Dd vs) (u5:aB K cA U' H' acc vs):Q (.ref Dd) H':=by
 cases fz with
 |true=>
  have zq:∀a,(λa=>U'.z a/\a≠Dd) a->U'.z a:=λa z=>z.1;refine h ⟨λa=>U'.z a/\a≠Dd,U'.l⟩ H' ⟨x2.more,λa z=>⟨x2.qL a z,λe=>nz (by rw[<-e];exact z)⟩,λa z=>x2.lH a z.1,x2.frame,x2.stay⟩ ?_ _ (.d (.fl (.inl ⟨.inl k.at_,λz=>z.2 rfl⟩) (aB.iW (U:=U') zq u5)));refine⟨aU.len,λn o a e1 e2=>iV.iW (U:=U') zq (aU.obj n o a e1 e2),aU.uniq,λa ha=>⟨aU.lz a ha,λe=>k.nl (by rw[<-e];exact ha)⟩,λa z=>aU.zt a z.1⟩
 |false=>
  obtain⟨r,er,hr⟩:=x2.more;refine h ⟨U'.z,U'.l++[Dd]⟩ H' ⟨⟨r++[Dd],by show U'.l++[Dd]=_;rw[er,vJ],λb hb=>?_⟩,x2.qL,x2.lH,x2.frame,x2.stay⟩ ?_ _ (.l (by show (U'.l++[Dd])[s'.length]?=_;rw[<-aU.len];simp))
  ·rcases iG.mp hb with z|z
   ·exact hr b z
   ·simp at z;subst z;exact hD
  ·refine⟨by show (U'.l++[Dd]).length=_;rw[bO,bO,aU.len];rfl,λm o' a' e1 e2=>?_,?_,λb hb=>?_,aU.zt⟩
   ·have e2:(U'.l++[Dd])[m]?=some a':=e2;by_cases hm:m<s'.length
    ·rw[kY hm] at e1;rw[kY (by rw[aU.len];exact hm)] at e2;exact iV.zl (aU.obj m o' a' e1 e2) _
    ·have ou:m=s'.length:=by
      have z:=(fQ.mp e2).1;rw[bO,aU.len] at z;simp at z;omega
     subst ou;rw[mU (bT _)] at e1;rw[mU (by rw[aU.len];exact bT _)] at e2;simp at e1;simp[aU.len] at e2;subst e1 e2;exact⟨vs,k.at_,aB.zl u5 _⟩
   ·show (U'.l++[Dd]).Nodup;rw[yD];refine⟨aU.uniq,by simp,λb hb c hc e=>?_⟩;simp at hc;subst hc e;exact k.nl hb
   ·have hb:b∈U'.l++[Dd]:=hb;rcases iG.mp hb with z|z
    ·exact aU.lz b z
    ·simp at z;subst z;exact k.z
noncomputable def Ph.mark(U:Ph)(p:Addr):Ph:=⟨λa=>U.z a\/a=p,U.l⟩
theorem zdJ{s:S}{p:Addr}(hS:aD K cA U H s)(hp:H p=none):Ext U H (U.mark p) (upd H p (.lst []))/\aD K cA (U.mark p) (upd H p (.lst [])) s/\Keep (U.mark p) (upd H p (.lst [])) p []:=by
 have g:=bA.new (o:=.lst []) hp;have nz:=hS.nz hp;refine⟨⟨⟨[],by simp[Ph.mark],by simp⟩,λa z=>.inl z,λa z=>z.imp id λe=>by rw[e];exact hp,λa o h _=>g a o h,λa o h=>⟨o,g a o h⟩⟩,⟨hS.len,λn o a e1 e2=>?_,hS.uniq,λa ha=>.inl (hS.lz a ha),λa z=>?_⟩,lq,λz=>nz (hS.lz p z),.inr rfl⟩
 ·have x:Ext U H (U.mark p) (upd H p (.lst [])):=⟨⟨[],by simp[Ph.mark],by simp⟩,λa z=>.inl z,λa z=>z.imp id λe=>by rw[e];exact hp,λa o h _=>g a o h,λa o h=>⟨o,g a o h⟩⟩;exact(hS.obj n o a e1 e2).map (g _) λ_ _ r=>r.mono x hS.lz
 ·rcases z with z|z
  ·obtain⟨o,e⟩:=hS.zt a z;exact⟨o,g _ _ e⟩
  ·subst z;exact⟨_,lq⟩
end
section
variable {X:Cx}{cA:Cl}{ao:Nat->Nat->Bool}{aj:Bool}{F:Fn}{EX:XS}{elt iter tg:Expr}{A B:E}{pos p:Pos}{ifs:List Expr}{scope:Scope}{N:List Str}{cond:Eo}{fr cP:List Nat}{many:Nat}{fz:Bool}{w:Wk}
noncomputable abbrev eN(ao:Nat->Nat->Bool)(aj:Bool)(F:Fn)(B:E)(cond:Eo)(cP:List Nat)(Jb:Vs):D->List D->M (List D):=λd acc=>M.bd (M.opt (eG cP d Jb)) λJ'=>M.bd (M.qt (nF ao aj F cond J')) λok=>
    if ok=true then M.bd (M.qt (ev ao aj F B J')) λy=>M.bd (dat y) λe=>if acc.length<sizeLine then M.ret (acc++[e]) else M.no else M.ret acc
theorem Tf{H:Hp}{a:Addr}{o:HO}(h:H a=some o):upd H a o=H:=funext λb=>by
 by_cases z:b=a
 ·subst z;rw[lq,h]
 ·rw[dR z]
theorem zfH{K:W.Frag}{g:TG}{U1 U':Ph}{H1 H2:Hp}{s':S}{Z':L2.St}{Jb:Vs}{Dd:Addr}{acc:List D}{vs:List V}{xi:D}{v:V}{β:Type}{kk:List D->M β}{P:β->S->Ph->Hp->Prop}{Ee:Nat->List D->S->Ph->Hp->Prop}(hT:jU K cA g cP)(dY:∀i∈cP,i<many)
  (hD:H1 Dd=none) (x2:Ext U1 H1 U' H2) (hL2:aR K cA U' H2 Z' Jb) (aU:aD K cA U' H2 s') (kp:Keep U' H2 Dd vs) (u5:aB K cA U' H2 acc vs) (rx:Rep K cA U' H2 xi v)
  (h:Run K cA (M.bd (eN ao aj F B cond cP Jb xi acc) kk) U1 H1 s' P Ee) {Nn:L2.St->Hp->Prop}
  (hN:∀Z3 H3 U3 s3 sX Hs,Z3.length=Z'.length->(∀i,many<=i->Z3[i]?=Z'[i]?)->Ext U1 H1 U3 H3->Ext U' H2 U3 (upd H3 Dd (.lst vs))->aD K cA U3 H3 s3->Keep U3 H3 Dd Hs->aB K cA U3 H3 sX Hs->Run K cA (kk sX) U1 H1 s3 P Ee->Nn Z3 H3) :
  g v Z' H2 λZ3 H3=>sG K cA (λ_ _ _ _=>False) (nF ao aj F cond) Z3 H3 λok H4=>
   if ok=true then tE K cA (λ_ _ _ _=>False) (ev ao aj F B) Z3 H4 λy H5=>∃ys,H5 Dd=some (.lst ys)/\ys.length<sizeLine/\Nn Z3 (upd H5 Dd (.lst (ys++[y]))) else Nn Z3 H4:=by
 unfold eN at h;rw[jg] at h;obtain⟨J',e1,h1⟩:=R6 h;refine hT.run U' H2 s' Z' Jb J' xi v _ hL2 aU rx e1 λZ3 xu Ti hf3=>?_;rw[jg] at h1;have kf:∀i,many<=i->Z3[i]?=Z'[i]?:=λi hi=>hf3 i λz=>absurd (dY i z) (Nat.not_lt.mpr hi);refine⟨U',J',s',xu,aU,(Te x2 h1).imp λok s4 U4 H4 ⟨x4,uX,h6⟩=>?_⟩;cases ok with
 |false=>
  refine iF (hN Z3 H4 U4 s4 acc vs Ti kf (x2.trans x4) (by rw[Tf (kp.mono x4).at_];exact x4) uX (kp.mono x4) (u5.mono x4 aU.lz) ?_);rw[if_neg Dc] at h6;exact h6
 |true=>
  rw[if_pos rfl,jg] at h6;refine iT ⟨U4,J',s4,xu.mono x4 aU.lz,uX,(Te (x2.trans x4) h6).imp λy s5 U5 H5 ⟨x5,hS5,h7⟩ u ru=>?_⟩;rw[jg] at h7;have k5:=(kp.mono x4).mono x5;have r5:=(u5.mono x4 aU.lz).mono x5 uX.lz;have x15:=(x2.trans x4).trans x5;obtain⟨dd,ey,rd,h8⟩ : ∃d,y=.d d/\Rep K cA U5 H5 d u/\Run K cA (M.bd (if acc.length<sizeLine then M.ret (acc++[d]) else M.no) kk) U1 H1 s5 P Ee:=by
   cases ru with
   |l _=>exact h7.elim
   |d r=>exact⟨_,rfl,r,h7⟩
  by_cases hz:acc.length<sizeLine
  ·rw[if_pos hz] at h8;refine⟨vs,k5.at_,by rw[<-r5.len];exact hz,?_⟩;have ox:dh U5 H5 (upd H5 Dd (.lst (vs++[u]))):=k5.ext.1;exact hN Z3 _ U5 s5 (acc++[dd]) (vs++[u]) Ti kf (Ext.keep (vs:=vs) x15 hD) (by rw[X6,Tf k5.at_];exact x4.trans x5) (hS5.keep k5) k5.ext.2 ((r5.app (.cons rd .nil)).out ox) h8
  ·rw[if_neg hz] at h8;exact h8.elim
theorem Tj{g:TG}{iter':Expr}(hT:jU X.K cA g cP)(dY:∀i∈cP,i<many){Z:L2.St}{H:Hp}{Q:VK}(hh:tE X.K cA EX (ev ao aj F (.comp fz B cP w fr many cond)) Z H Q) :
  pG (tI X.K cA EX (jT ao aj F w)) (cj many fr) g (sG X.K cA (λ_ _ _ _=>False) (nF ao aj F cond)) (tE X.K cA (λ_ _ _ _=>False) (ev ao aj F B)) Z H Q:=un hh λU J s hL hS h=>by
 by_cases eE:aj=true
 ·have h:Run X.K cA (if aj=true then M.bd (jT ao aj F w J) λcn=>M.bd (walk cn.1 (eN ao aj F B cond cP (blk many fr J)) (cn.2+1) 0 []) λxs=>newL fz xs else M.no) U H s (λd _ U' H'=>∀v,aW X.K cA U' H' d v->Q v H') (eX X.K cA EX Z):=h;rw[if_pos eE] at h;refine⟨U,J,s,hL,hS,h.bd.imp λcn s1 U1 H1 ⟨x1,aM,h1⟩ cI hJ=>?_⟩;have hL1:=hL.mono x1 hS.lz;obtain⟨c,n⟩:=cn;dsimp only at h1 hJ;intro Dd hD;obtain⟨x0,hS0,k0⟩:=zdJ aM hD;have MK:∀{Z':L2.St},(Z'.length=many+fr.length/\∀i,many<=i->Z'[i]?=(cj many fr Z)[i]?)->∀{U' H'},Ext U1 H1 U' H'->aR X.K cA U' H' Z' (blk many fr J):=λ{Z'} hZ {U' H'} x=>zhX (hL1.mono x aM.lz) hZ.1 λi j v e1 e2=>by
   rw[hZ.2 _ (by omega)];unfold cj;rw[mU J0,Ft,gZ,show many+i-many=i by omega,e1];simp[e2]
  refine⟨λi m Z' H'=>m=n+1-i/\(Z'.length=many+fr.length/\∀i,many<=i->Z'[i]?=(cj many fr Z)[i]?)/\∃U' s' acc vs,Ext U1 H1 U' H'/\aD X.K cA U' H' s'/\Keep U' H' Dd vs/\aB X.K cA U' H' acc vs /\
   Run X.K cA (M.bd (walk c (eN ao aj F B cond cP (blk many fr J)) (n+1-i) i acc) λxs=>newL fz xs) U1 H1 s' (λd _ U' H'=>∀v,aW X.K cA U' H' d v->Q v H') (eX X.K cA EX Z),⟨n+1,rfl,⟨by simp[cj],λi _=>rfl⟩,U1.mark Dd,s1,[],[],x0,hS0,k0,.nil,h1⟩,?_⟩
  rintro i m Z' H' ⟨rfl,hZ,U',s',acc,vs,x2,aU,kp,u5,h3⟩;have hL2:=MK hZ x2;cases ek:n+1-i with
  |zero=>rw[ek] at h3;exact h3.elim
  |succ k=>
   rw[ek] at h3;cases ei:c.at i s' with
   |none=>
    exfalso
    unfold Run M.bd walk at h3;simp only[ei] at h3
   |some oi=>
    cases oi with
    |none=>
     refine .inl ⟨hJ.stop U' H' H' s' i x2 dh.refl aU ei,?_⟩;have h4:Run X.K cA (newL fz acc) U1 H1 s' (λd _ U' H'=>∀v,aW X.K cA U' H' d v->Q v H') (eX X.K cA EX Z):=by
      unfold Run M.bd walk at h3;simp only[ei] at h3;exact h3
     exact ze5 h4 x2 hD (aM.nz hD) aU kp u5
    |some xi=>
     refine .inr ⟨hJ.go U' H' H' s' i xi x2 dh.refl aU ei,λZ2 H2=>(Z2.length=many+fr.length/\∀i,many<=i->Z2[i]?=(cj many fr Z)[i]?)/\∃U' s' acc vs,Ext U1 H1 U' H2/\aD X.K cA U' H2 s'/\Keep U' H2 Dd vs/\aB X.K cA U' H2 acc vs /\
      Run X.K cA (M.bd (walk c (eN ao aj F B cond cP (blk many fr J)) k (i+1) acc) λxs=>newL fz xs) U1 H1 s' (λd _ U' H'=>∀v,aW X.K cA U' H' d v->Q v H') (eX X.K cA EX Z),λZ2 H2 hn=>⟨k,by omega,by omega,hn.1,?_⟩,λv H2 hy=>?_⟩
     ·have:n+1-(i+1)=k:=by omega
      rw[this];exact hn.2
     ·obtain⟨gr,rx⟩:=hJ.wj U' H' H' s' i xi v H2 x2 dh.refl aU ei hy;have h4:Run X.K cA (M.bd (eN ao aj F B cond cP (blk many fr J) xi acc) λacc'=>M.bd (walk c (eN ao aj F B cond cP (blk many fr J)) k (i+1) acc') λxs=>newL fz xs) U1 H1 s' (λd _ U' H'=>∀v,aW X.K cA U' H' d v->Q v H') (eX X.K cA EX Z):=by
       have h5:=zi3 (m':=M.bd (eN ao aj F B cond cP (blk many fr J) xi acc) λacc'=>walk c (eN ao aj F B cond cP (blk many fr J)) k (i+1) acc') (by rw[walk];simp only[ei]) h3;rw[jg] at h5;exact h5
      exact zfH hT dY hD (x2.trans gr.ext) (hL2.mono gr.ext aU.lz) (aU.grow gr) (kp.mono gr.ext) (u5.mono gr.ext aU.lz) rx h4 λZ3 H3 U3 s3 sX Hs l3 f3 x3 _ mL k3 r3 h6=>⟨⟨l3.trans hZ.1,λi hi=>(f3 i hi).trans (hZ.2 i hi)⟩,U3,s3,sX,Hs,x3,mL,k3,r3,h6⟩
 ·have h:Run X.K cA (if aj=true then M.bd (jT ao aj F w J) λcn=>M.bd (walk cn.1 (eN ao aj F B cond cP (blk many fr J)) (cn.2+1) 0 []) λxs=>newL fz xs else M.no) U H s (λd _ U' H'=>∀v,aW X.K cA U' H' d v->Q v H') (eX X.K cA EX Z):=h;rw[if_neg eE] at h;exact h.elim
theorem Tn{XN:List Str}(hfr:∀(i:Nat) (y:Str) (j:Nat),N[many+i]?=some y->fr[i]?=some j->scope.names.lookup y=some .free/\XN[j]?=some y)(Z:L2.St)(i:Nat)(x:Str)(v:V)(e1:N[i]?=some x)(e2:(cj many fr Z)[i]?=some (some v)):scope.names.lookup x=some .free/\∃j:Nat,XN[j]?=some x/\Z[j]?=some (some v):=by
 unfold cj at e2;by_cases hi:i<many
 ·rw[kY (by simpa using hi),Fj,if_pos hi] at e2;cases e2
 ·rw[mU (by simpa using FW hi),Ft,gZ] at e2;cases z:fr[i-many]? with
  |none=>rw[z] at e2;cases e2
  |some j=>
   rw[z] at e2;have e3:(Z[j]?).join=some v:=by simpa using e2
   obtain⟨a1,a2⟩:=hfr (i-many) x j (by rw[show many+(i-many)=i by omega];exact e1) z;exact⟨a1,j,a2,Mp e3⟩
theorem Tq{g:TG}(hc:X.aj=true)(B':cU X.env.scope scope)(hi:SI X cA ao aj F EX tg iter w)(hN:N.length=many+fr.length)
  (hfr:∀(i:Nat) (y:Str) (j:Nat),N[many+i]?=some y->fr[i]?=some j->scope.names.lookup y=some .free/\X.N[j]?=some y)
  (hg:∀cl C s3 H3 fp ak,PG (X.blk scope cl N C s3 H3 fp ak) tg g) (hT:jU X.K cA g cP) (dY:∀i∈cP,i<many)
  (ht:∀cl C s3 H3 fp ak,Dv (X.blk scope cl N C s3 H3 fp ak) cA ao aj F (λ_ _ _ _=>False) ifs cond) (he:∀cl C s3 H3 fp ak,SE (X.blk scope cl N C s3 H3 fp ak) cA ao aj F (λ_ _ _ _=>False) elt B)
  (hs:∀x,foldedSetIterable iter X.env x=pure x:=by intro _;rfl):SE X cA ao aj F EX (.ListComp elt [⟨tg,iter,ifs,0⟩] scope pos) (.comp fz B cP w fr many cond):=
 PE.weak (zhT hc B' hi (⟨hg,ht,he⟩ : Parts X elt tg ifs scope N g (sG X.K cA (λ_ _ _ _=>False) (nF ao aj F cond)) (tE X.K cA (λ_ _ _ _=>False) (ev ao aj F B))) (ZY:=cj many fr) (λZ=>by simp[cj,hN]) (λZ i x v e1 e2=>Tn hfr Z i x v e1 e2) hs) λZ H Q hh=>Tj (iter':=iter) hT dY hh
end
section
variable (K:W.Frag)(cA:Cl)
def aP(m:MS)(U:Ph)(H:Hp)(s:S)(D:Ends)(EX:XS):Prop:=match m s with
 |some (.nx J,s')=>∀U' H' Z',Ext U H U' H'->aD K cA U' H' s'->aR K cA U' H' Z' J->D.nx Z' H'
 |some (.bk J,s')=>∀U' H' Z',Ext U H U' H'->aD K cA U' H' s'->aR K cA U' H' Z' J->D.bk Z' H'
 |some (.ct J,s')=>∀U' H' Z',Ext U H U' H'->aD K cA U' H' s'->aR K cA U' H' Z' J->D.ct Z' H'
 |some (.rt d,s')=>∀U' H' v,Ext U H U' H'->aD K cA U' H' s'->aW K cA U' H' d v->D.rt v H'
 |some (.er c fs J,s')=>∀U' H' Z',Ext U H U' H'->aD K cA U' H' s'->aR K cA U' H' Z' J->∀dx,iR K cA U' H' c fs dx->EX Z' (.ref (cA.a c)) dx H'
 |none=>False
noncomputable def tS(EX:XS)(m:Vs->MS):TS:=λD Z H=>∃U J s,aR K cA U H Z J/\aD K cA U H s/\aP K cA (m J) U H s D EX
end
section
variable {K:W.Frag}{cA:Cl}{U U':Ph}{H H':Hp}{s:S}{Z:L2.St}{J:Vs}{EX:XS}{D:Ends}
theorem aP.ext{m:MS}(x:Ext U H U' H')(h:aP K cA m U H s D EX):aP K cA m U' H' s D EX:=by
 unfold aP at *;split at h<;>first
  |exact λU2 H2 a y r l=>h U2 H2 a (x.trans y) r l
  |exact h.elim
theorem aP.ofM{α:Type}{m:M α}{k:α->MS}(hL:aR K cA U H Z J)(hz:∀a∈U.l,U.z a)(h:aP K cA (ofM m J k) U H s D EX):Run K cA m U H s (λa s1 U1 H1=>Ext U H U1 H1/\aD K cA U1 H1 s1/\aP K cA (k a) U1 H1 s1 D EX) (eX K cA EX Z):=by
 unfold aP Mi.ofM at h;unfold Run;cases e:m s with
 |none=>rw[e] at h;exact h
 |some r=>
  obtain⟨r,s1⟩:=r;rw[e] at h;cases r with
  |er c fs=>exact λU1 H1 x r=>h U1 H1 Z x r (hL.mono x hz)
  |ok a=>
   intro U1 H1 x r;refine⟨x,r,?_⟩;have h2:aP K cA (k a) U H s1 D EX:=h;exact h2.ext x
theorem aP.then_(h:aP K cA (cC m k) U H s D EX):aP K cA m U H s {D with nx:=λZ' H'=>∃U' J' s',aR K cA U' H' Z' J'/\aD K cA U' H' s'/\aP K cA (k J') U' H' s' D EX} EX:=by
 unfold aP cC at h;unfold aP;cases e:m s with
 |none=>rw[e] at h;exact h
 |some r=>
  obtain⟨r,s1⟩:=r;rw[e] at h;cases r with
  |nx J=>
   intro U1 H1 Z1 x r l;have h2:aP K cA (k J) U H s1 D EX:=h;exact⟨U1,J,s1,l,r,h2.ext x⟩
  |bk J=>exact h
  |ct J=>exact h
  |rt d=>exact h
  |er c fs J=>exact h
end
section
variable (X:Cx)(cA:Cl)(ao:Nat->Nat->Bool)(aj:Bool)(F:Bool->Fn)(EX:XS)
def SS(st:Stmt)(m:St):Prop:=PS X st (tS X.K cA EX (ex ao aj F m))
def qN(st:List Stmt)(m:bU):Prop:=m7 X st (tS X.K cA EX (exs ao aj F m))
end
section
variable {X:Cx}{cA:Cl}{ao:Nat->Nat->Bool}{aj:Bool}{F:Bool->Fn}{EX:XS}{a b c d e:Expr}{A B C:E}{pos p p2:Pos}{st:Stmt}{sts body orelse:List Stmt}{m:St}{ms mb me mh:bU}{es:List Expr}{Xs:Es}{x y n:Str}{i j:Nat}
theorem PS.weak{t t':TS}(h:PS X st t)(f:∀D Z H,t' D Z H->t D Z H):PS X st t':=λak s Z H D I q=>h ak s Z H D I (f D Z H q)
theorem m7.weak{t t':TS}(h:m7 X sts t)(f:∀D Z H,t' D Z H->t D Z H):m7 X sts t':=λak s Z H D I q=>h ak s Z H D I (f D Z H q)
theorem zkR:SS X cA ao aj F EX st .no:=λ_ _ _ _ _ _ ⟨_,_,_,_,_,h⟩=>h.elim
theorem zhO:qN X cA ao aj F EX [] .nil:=m7.weak Yz λD Z H hh=>un hh λU J s hL hS h=>h U H Z Ext.refl hS hL
theorem zfN(h1:SS X cA ao aj F EX st m)(h2:qN X cA ao aj F EX sts ms):qN X cA ao aj F EX (st::sts) (.cons m ms):=m7.weak (YB h1 h2) λD Z H hh=>un hh λU J s hL hS h=>by
 have h:aP X.K cA (cC (ex ao aj F m J) λJ'=>exs ao aj F ms J') U H s D EX:=h;exact⟨U,J,s,hL,hS,h.then_⟩
theorem zkp(ha:SE X cA ao aj (F aj) EX a A)(hs:swapsWith a none pos.line X.env=pure false:=by rfl):SS X cA ao aj F EX (.Expr a pos) (.ex A):=PS.weak (YC ha hs) λD Z H hh=>un hh λU J s hL hS h=>
 ⟨U,J,s,hL,hS,(aP.ofM hL hS.lz h).imp λd s1 U1 H1 ⟨x1,aM,h1⟩ v rv=>h1 U1 H1 Z Ext.refl aM (hL.mono x1 hS.lz)⟩
theorem zir(ha:SE X cA ao aj (F aj) EX a A):SS X cA ao aj F EX (.Return (some a) pos) (.ret A):=PS.weak (YD ha) λD Z H hh=>un hh λU J s hL hS h=>
 ⟨U,J,s,hL,hS,(aP.ofM hL hS.lz h).imp λd s1 U1 H1 ⟨x1,aM,h1⟩ v rv=>h1 U1 H1 v Ext.refl aM rv⟩
theorem ziR(hN:X.N.Nodup)(hi:X.N[i]?=some x)(hx:Loc X.env.scope x)(ha:SE X cA ao aj (F aj) EX a A)(hs:swapsWith a (some (.Name x p)) pos.line X.env=pure false:=by rfl)(hf:X.fn x=true\/X.env.scope.names.lookup x=some .local:=by first|exact .inl rfl|exact .inr rfl) :
  SS X cA ao aj F EX (.Assign [.Name x p] a pos) (.asg (.nm i) A):=PS.weak (YK hN hi hx ha hs hf) λD Z H hh=>un hh λU J s hL hS h=>
 ⟨U,J,s,hL,hS,(aP.ofM hL hS.lz h).imp λd s1 U1 H1 ⟨x1,aM,h1⟩ v rv=>h1 U1 H1 _ Ext.refl aM ((hL.mono x1 hS.lz).set rv)⟩
theorem MN{k}(hc:X.aj=true)(hN:X.N.Nodup)(hi:X.N[i]?=some x)(hj:X.N[j]?=some y)(hx:Loc X.env.scope x)(hy:Loc X.env.scope y)(sY:X.fn x=true\/X.env.scope.names.lookup x=some .local)(sZ:X.fn y=true\/X.env.scope.names.lookup y=some .local) :
  PG X (.Tuple [.Name x px,.Name y py] k pos) (pA X.K 2 (fV (cY i) (fV (cY j) pq))):=YH hc (QT (Gx hN hi hx sY) (QT (Gx hN hj hy sZ) YG))
theorem Tt{K:W.Frag}{U:Ph}{H:Hp}{s:S}{J:Vs}{Z:L2.St}{D:Ends}{d:Xv}{v:V}(eE:aj=true)(hL:aR K cA U H Z J)(hS:aD K cA U H s)(rv:aW K cA U H d v)(h:aP K cA (store ao aj (F aj) (.tp [i,j]) d J) U H s D EX):pA K 2 (fV (cY i) (fV (cY j) pq)) v Z H D.nx:=by
 have h:aP K cA (if aj=true then ofM (M.bd (dat d) λd=>M.opt ((jt d).bind λds=>fB [i,j] (ds.map Xv.d) J)) J (λJ' s=>some (Out.nx J',s)) else λ_=>none) U H s D EX:=h;rw[if_pos eE] at h;obtain⟨dd,e0,rd,h1⟩:=Mj rv (aP.ofM hL hS.lz h);obtain⟨J',e,_,aM,h2⟩:=Run.opt hS h1;refine(MJ i j).run U H s Z J J' dd v _ hL hS rd e λZ' hL' _ _=>h2 U H Z' Ext.refl hS hL'
theorem zhU{k}(hc:X.aj=true)(eE:aj=true)(hN:X.N.Nodup)(hi:X.N[i]?=some x)(hj:X.N[j]?=some y)(hx:Loc X.env.scope x)(hy:Loc X.env.scope y)(sY:X.fn x=true\/X.env.scope.names.lookup x=some .local)(sZ:X.fn y=true\/X.env.scope.names.lookup y=some .local)(ha:SE X cA ao aj (F aj) EX a A)
  (hs:swapsWithSole [.Tuple [.Name x px,.Name y py] k pt] a pos.line X.env=pure false:=by rfl) (hw:swappedStores [.Tuple [.Name x px,.Name y py] k pt] a X.env=pure none:=by rfl)
  (h1:(assignEach [.Tuple [.Name x px,.Name y py] k pt] X.env).map (·.2)=[assign (.Tuple [.Name x px,.Name y py] k pt) X.env]:=by rfl) :
  SS X cA ao aj F EX (.Assign [.Tuple [.Name x px,.Name y py] k pt] a pos) (.asg (.tp [i,j]) A):=PS.weak (QV ha (MN hc hN hi hj hx hy sY sZ) hs hw h1) λD Z H hh=>un hh λU J s hL hS h=>
 ⟨U,J,s,hL,hS,(aP.ofM hL hS.lz h).imp λd s1 U1 H1 ⟨x1,aM,h1⟩ v rv=>Tt eE (hL.mono x1 hS.lz) aM rv h1⟩
theorem zim(hO:SE X cA ao aj (F aj) EX oo O)(hI:SE X cA ao aj (F aj) EX ii I')(ha:SE X cA ao aj (F aj) EX a A)
  (MP:∀v,assign (.Subscript oo ii p) X.env v=(do
   let ov <-holding [v] (eval oo X.env)
   let iv <-holding [v,ov] (eval ii X.env)
   standAt p
   holding [v,ov,iv] (setItem ov iv v)
   release [v,ov,iv] []):=by intro _;rfl) (hs:swapsWithSole [.Subscript oo ii p] a pos.line X.env=pure false:=by rfl) (hw:swappedStores [.Subscript oo ii p] a X.env=pure none:=by rfl)
  (h1:(assignEach [.Subscript oo ii p] X.env).map (·.2)=[assign (.Subscript oo ii p) X.env]:=by rfl) :
  SS X cA ao aj F EX (.Assign [.Subscript oo ii p] a pos) (.asg (.ao O I') A):=PS.weak (QV ha (YJ hO hI zgg MP) hs hw h1) λD Z H hh=>un hh λU J s hL hS h=>by
 refine⟨U,J,s,hL,hS,(aP.ofM hL hS.lz h).imp λd s1 U1 H1 ⟨x1,aM,h1⟩ v rv=>?_⟩;obtain⟨dd,e0,rd,h2⟩:=Mj rv (aP.ofM (hL.mono x1 hS.lz) aM.lz h1);refine bD (hL.mono x1 hS.lz) aM h2 λxo H2 U2 d2 s2 x2 hL2 aU r2 h3=>bD hL2 aU h3 λyi H3 U3 d3 s3 x3 xu mL r3 h4=>?_;obtain⟨k,_,ek,h5⟩:=Dk r3 h4;obtain⟨n,ad,xs,vs,_,ea,e1,f1,g1,q1,h6⟩:=Hr mL (r2.mono x3 aU.lz) h5;subst ek ea;cases ej:L2.oK xs.length k with
 |none=>simp only[ej] at h6;exact h6.elim
 |some jj=>
  simp only[ej] at h6;refine⟨ad,vs,k,jj,rfl,rfl,g1,by rw[<-q1.len];exact ej,?_⟩;have rv3:=(rd.mono x2 aM.lz).mono x3 aU.lz;have uX:=mL.write e1 f1 (q1.set rv3 jj);have x4:Ext U3 H3 U3 (upd H3 ad (.lst (vs.set jj v))):=Ext.write f1 ⟨_,g1⟩;obtain⟨_,_,h8⟩:=h6 U3 _ x4 uX;exact h8 U3 _ Z Ext.refl uX (xu.mono x4 mL.lz)
theorem zk6(hc:ST X cA ao aj (F aj) EX c C)(ht:qN X cA ao aj F EX body mb)(he:qN X cA ao aj F EX orelse me):SS X cA ao aj F EX (.If c body orelse pos) (.iff C mb me):=PS.weak (YF hc ht he) λD Z H hh=>un hh λU J s hL hS h=>by
 refine⟨U,J,s,hL,hS,(aP.ofM hL hS.lz h).imp λk s1 U1 H1 ⟨x1,aM,h1⟩=>?_⟩;cases k with
 |true=>exact iT ⟨U1,J,s1,hL.mono x1 hS.lz,aM,h1⟩
 |false=>exact iF ⟨U1,J,s1,hL.mono x1 hS.lz,aM,h1⟩
theorem zhb{g:TG}{elt iter tg:Expr}{ifs:List Expr}{scope:Scope}{N:List Str}{cond:Eo}{fr cP:List Nat}{many:Nat}{fz:Bool}{w:Wk}{spos py:Pos}(hc:X.aj=true)(tu:X.N.Nodup)(wN:X.N[i]?=some y)(hx:Loc X.env.scope y)(hf:X.fn y=true\/X.env.scope.names.lookup y=some .local)(B':cU X.env.scope scope)(hi:SI X cA ao aj (F aj) EX tg iter w)(hN:N.length=many+fr.length)
  (hfr:∀(i:Nat) (y:Str) (j:Nat),N[many+i]?=some y->fr[i]?=some j->scope.names.lookup y=some .free/\X.N[j]?=some y)
  (hg:∀cl C s3 H3 fp ak,PG (X.blk scope cl N C s3 H3 fp ak) tg g) (hT:jU X.K cA g cP) (dY:∀i∈cP,i<many)
  (ht:∀cl C s3 H3 fp ak,Dv (X.blk scope cl N C s3 H3 fp ak) cA ao aj (F aj) (λ_ _ _ _=>False) ifs cond) (he:∀cl C s3 H3 fp ak,SE (X.blk scope cl N C s3 H3 fp ak) cA ao aj (F aj) (λ_ _ _ _=>False) elt B)
  (Cg:swapsWith (.ListComp elt [⟨tg,iter,ifs,0⟩] scope pos) (some (.Name y py)) spos.line X.env=pure true) (hs:∀x,foldedSetIterable iter X.env x=pure x:=by intro _;rfl) :
  SS X cA ao aj F EX (.Assign [.Name y py] (.ListComp elt [⟨tg,iter,ifs,0⟩] scope pos) spos) (.asg (.nm i) (.comp fz B cP w fr many cond)):=
 PS.weak (zdW hc tu wN hx hf B' hi (⟨hg,ht,he⟩ : Parts X elt tg ifs scope N g (sG X.K cA (λ_ _ _ _=>False) (nF ao aj (F aj) cond)) (tE X.K cA (λ_ _ _ _=>False) (ev ao aj (F aj) B))) (ZY:=cj many fr) (λZ=>by simp[cj,hN]) (λZ i x v e1 e2=>Tn hfr Z i x v e1 e2) Cg hs) λD Z H hh=>un hh λU J s hL hS h=>
  Tj (iter':=iter) hT dY ⟨U,J,s,hL,hS,(aP.ofM hL hS.lz h).imp λd s1 U1 H1 ⟨x1,aM,h1⟩ v rv=>h1 U1 H1 _ Ext.refl aM ((hL.mono x1 hS.lz).set rv)⟩
noncomputable def lJ(m:MS)(kN:Vs->MS):MS:=λs=>match m s with
 |some (.nx J',s')=>kN J' s'
 |some (.ct J',s')=>kN J' s'
 |some (.bk J',s')=>some (.nx J',s')
 |r=>r
theorem Tv{K:W.Frag}{U:Ph}{H:Hp}{s:S}{D:Ends}{m:MS}{kN:Vs->MS}{N:L2.St->Hp->Prop}(hN:∀U' J' s' Z' H',Ext U H U' H'->aR K cA U' H' Z' J'->aD K cA U' H' s'->aP K cA (kN J') U' H' s' D EX->N Z' H')(h:aP K cA (lJ m kN) U H s D EX) :
  aP K cA m U H s {D with nx:=N,ct:=N,bk:=D.nx} EX:=by
 unfold aP lJ at h;unfold aP;cases e:m s with
 |none=>rw[e] at h;exact h
 |some r=>
  obtain⟨r,s1⟩:=r;rw[e] at h;cases r with
  |nx J'=>
   intro U1 H1 Z1 x r l;have h2:aP K cA (kN J') U H s1 D EX:=h;exact hN U1 J' s1 Z1 H1 x l r (h2.ext x)
  |ct J'=>
   intro U1 H1 Z1 x r l;have h2:aP K cA (kN J') U H s1 D EX:=h;exact hN U1 J' s1 Z1 H1 x l r (h2.ext x)
  |bk J'=>exact h
  |rt d=>exact h
  |er c fs J'=>exact h
theorem zgl(hp:PassesOwn (model X.prog X.w) X.A X.env X.xe)(hc:ST X cA ao aj (F aj) EX c C)(hb:qN X cA ao aj F EX body mb):SS X cA ao aj F EX (.While c body [] pos) (.wh C mb):=PS.weak (YL hp hc hb) λD Z H hh=>un hh λU J s hL hS h=>by
 refine⟨λm Z H=>∃U J s,aR X.K cA U H Z J/\aD X.K cA U H s/\aP X.K cA (fC (λJ=>M.bd (ev ao aj (F aj) C J) bool) (λJ=>exs ao aj F mb J) m J) U H s D EX,⟨iM,U,J,s,hL,hS,h⟩,?_⟩;rintro m Z H ⟨U,J,s,hL,hS,h⟩;cases m with
 |zero=>exact h.elim
 |succ m=>
  refine⟨U,J,s,hL,hS,(aP.ofM (k:=λok=>if ok=true then lJ (exs ao aj F mb J) (fC (λJ=>M.bd (ev ao aj (F aj) C J) bool) (λJ=>exs ao aj F mb J) m) else λs=>some (.nx J,s)) hL hS.lz h).imp λk s1 U1 H1 ⟨x1,aM,h1⟩=>?_⟩;cases k with
  |true=>
   rw[if_pos rfl] at h1 ⊢;refine⟨_,λZ' H' z=>⟨m,Nat.lt_succ_self m,z⟩,U1,J,s1,hL.mono x1 hS.lz,aM,Tv (λU' J' s' Z' H' _ l r q=>?_) h1⟩;exact⟨U',J',s',l,r,q⟩
  |false=>
   rw[if_neg Fy] at h1 ⊢;exact h1 U1 H1 Z Ext.refl aM (hL.mono x1 hS.lz)
def SG(X:Cx)(cA:Cl)(ao:Nat->Nat->Bool)(aj:Bool)(F:Bool->Fn)(EX:XS)(tg:Expr)(t:Tg):Prop:=∃g:TG,PG X tg g/\∀(U:Ph) (H:Hp) (s:S) (Z:L2.St) (J:Vs) (d:Xv) (v:V) (D:Ends),aR X.K cA U H Z J->aD X.K cA U H s->aW X.K cA U H d v->
 aP X.K cA (store ao aj (F aj) t d J) U H s D EX->g v Z H D.nx
theorem zgV(hN:X.N.Nodup)(hi:X.N[i]?=some x)(hx:Loc X.env.scope x)(hf:X.fn x=true\/X.env.scope.names.lookup x=some .local:=by first|exact .inl rfl|exact .inr rfl):SG X cA ao aj F EX (.Name x pos) (.nm i):=
 ⟨_,Gx hN hi hx hf,λU H s Z J d v D hL hS r h=>h U H _ Ext.refl hS (hL.set r)⟩
theorem zhV{k}(hc:X.aj=true)(eE:aj=true)(hN:X.N.Nodup)(hi:X.N[i]?=some x)(hj:X.N[j]?=some y)(hx:Loc X.env.scope x)(hy:Loc X.env.scope y)(sY:X.fn x=true\/X.env.scope.names.lookup x=some .local)(sZ:X.fn y=true\/X.env.scope.names.lookup y=some .local) :
  SG X cA ao aj F EX (.Tuple [.Name x px,.Name y py] k pos) (.tp [i,j]):=
 ⟨_,MN hc hN hi hj hx hy sY sZ,λU H s Z J d v D hL hS r h=>Tt eE hL hS r h⟩
theorem zjR(hp:PassesOwn (model X.prog X.w) X.A X.env X.xe)(hc:X.aj=true)(eE:aj=true)(ha:SI X cA ao aj (F aj) EX tg a w)(hg:SG X cA ao aj F EX tg t)(hb:qN X cA ao aj F EX body mb)
  (hs:∀x,foldedSetIterable a X.env x=pure x:=by intro _;rfl):SS X cA ao aj F EX (.For tg a body [] pos) (.fr t w mb):=by
 obtain⟨g,hG,hg⟩:=hg;refine PS.weak (YZ hp hc ha hG hb hs) λD Z H hh=>un hh λU J s hL hS h=>?_;have h:aP X.K cA (if aj=true then ofM (jT ao aj (F aj) w J) J λcn=>cg cn.1 (λd J=>cC (store ao aj (F aj) t (.d d) J) λJ'=>exs ao aj F mb J') (cn.2+1) 0 J else λ_=>none) U H s D EX:=h;rw[if_pos eE] at h;refine⟨U,J,s,hL,hS,(aP.ofM hL hS.lz h).imp λcn s1 U1 H1 ⟨x1,aM,h1⟩ cI hJ=>?_⟩;have hL1:=hL.mono x1 hS.lz;obtain⟨c,n⟩:=cn;dsimp only at h1 hJ;refine⟨λi m Z' H'=>∃U' J' s',Ext U1 H1 U' H'/\aR X.K cA U' H' Z' J'/\aD X.K cA U' H' s'/\aP X.K cA (cg c (λd J=>cC (store ao aj (F aj) t (.d d) J) λJ'=>exs ao aj F mb J') m i J') U' H' s' D EX,⟨n+1,U1,J,s1,Ext.refl,hL1,aM,h1⟩,?_⟩;rintro i m Z' H' ⟨U',J',s',x2,hL2,aU,h4⟩;cases m with
 |zero=>exact h4.elim
 |succ m=>
  cases ei:c.at i s' with
  |none=>
   exfalso
   unfold aP cg at h4;simp only[ei] at h4
  |some oi=>
   cases oi with
   |none=>
    refine .inl ⟨hJ.stop U' H' H' s' i x2 dh.refl aU ei,?_⟩;unfold aP cg at h4;simp only[ei] at h4;exact h4 U' H' Z' Ext.refl aU hL2
   |some xi=>
    refine .inr ⟨hJ.go U' H' H' s' i xi x2 dh.refl aU ei,_,λZ3 H3 z=>⟨m,Nat.lt_succ_self m,z⟩,λv H3 hy=>?_⟩;obtain⟨gr,rx⟩:=hJ.wj U' H' H' s' i xi v H3 x2 dh.refl aU ei hy;have h5:aP X.K cA (lJ (cC (store ao aj (F aj) t (.d xi) J') λJ'=>exs ao aj F mb J') (cg c (λd J=>cC (store ao aj (F aj) t (.d d) J) λJ'=>exs ao aj F mb J') m (i+1))) U' H' s' D EX:=by
     unfold aP at h4 ⊢;have e:cg c (λd J=>cC (store ao aj (F aj) t (.d d) J) λJ'=>exs ao aj F mb J') (m+1) i J' s'=lJ (cC (store ao aj (F aj) t (.d xi) J') λJ'=>exs ao aj F mb J') (cg c (λd J=>cC (store ao aj (F aj) t (.d d) J) λJ'=>exs ao aj F mb J') m (i+1)) s':=by
      rw[cg];simp only[ei];rfl
     rw[e] at h4;exact h4
    exact hg U' H3 s' Z' J' (.d xi) v _ (hL2.mono gr.ext aU.lz) (aU.grow gr) (.d rx) (aP.then_ (Tv (λU4 J4 s4 Z4 H4 x4 l4 r4 q4=>⟨U4,J4,s4,(x2.trans gr.ext).trans x4,l4,r4,q4⟩) (h5.ext gr.ext)))
end
end Mi
namespace L2
open PySem PySem.Spec PyProof.Rows
structure qO(K:W.Frag)(x qual:Str)(st:Stmt)(f:Addr)(fd:FuncData):Prop where
 ex:∃(oc:Value) (od:Option Addr) (kV doc pm:Value) (an:Option Addr) (cdv ct:Value) (osl:Array (Option Value)),
  fd=PySem.W.fnOf x qual (aV st) (aO st) (au st) .none kV doc pm an cdv ct/\K.lookup f=some ⟨oc,od,.func fd,osl⟩/\PySem.W.codeIn K cdv qual=true
 kp:PySem.W.keepIn K (.ref f)=true
end L2
namespace Mi
open PySem PySem.Spec PyProof.Rows L2
section
variable {P:Program}{w:World}{K:W.Frag}{mg:Str->Option Value}{base:Heap}{cA:Cl}{ao:Nat->Nat->Bool}{T:Nat->Option Df}
theorem zdP{U:Ph}{H:Hp}{N:List Str}{ds:List Xv}{vs:List V}{m p:Nat}(r:bG K cA U H ds vs)(hp:p=ds.length)(hm:m=N.length):aR K cA U H (L2.start N vs) (ds.map some++List.replicate (m-p) none):=by
 subst hp hm;unfold L2.start;have hl:=r.len;refine⟨by simp[hl],λi d e=>?_⟩;by_cases hi:i<ds.length
 ·rw[kY (by simpa using hi),gZ] at e;cases z:ds[i]? with
  |none=>rw[z] at e;cases e
  |some x=>
   rw[z] at e;cases e;obtain⟨v,a,b⟩:=r.get z;exact⟨v,by rw[kY (by simp;lia),gZ,a];rfl,b⟩
 ·rw[mU (by simpa using hi),Fj] at e;split at e<;>cases e
theorem Tw{U:Ph}{H:Hp}{s:S}{ds:List Xv}{k n:Nat}{cm:Bool}{df:Df}{Q:VK}{E:XK}(hT:T n=some df)
  (h:Run K cA (call ao T (k+1) cm n ds) U H s (λd _ U' H'=>∀v,aW K cA U' H' d v->Q v H') (λc fs _ U' H'=>∀dx,iR K cA U' H' c fs dx->E (.ref (cA.a c)) dx H')) :
  ds.length=df.g_/\aP K cA (exs ao cm (λc=>call ao T k c) df.body (ds.map some++List.replicate (df.many-df.g_) none)) U H s {nx:=λ_ H'=>Q .non H',rt:=Q} (λ_ C dx H'=>E C dx H'):=by
 unfold call at h;simp only[hT] at h;by_cases hl:ds.length=df.g_
 ·refine⟨hl,?_⟩;rw[if_pos hl] at h;unfold Run at h;unfold aP;cases e:exs ao cm (λc=>call ao T k c) df.body (ds.map some++List.replicate (df.many-df.g_) none) s with
  |none=>simp only[e] at h
  |some r=>
   obtain⟨r,s1⟩:=r;simp only[e] at h;cases r with
   |nx J=>exact λU' H' Z' x r l=>h U' H' x r _ (.d .non)
   |rt d=>exact λU' H' v x r rv=>h U' H' x r v rv
   |er c fs J=>exact λU' H' Z' x r l=>h U' H' x r
   |bk J=>exact h.elim
   |ct J=>exact h.elim
 ·rw[if_neg hl] at h;exact h.elim
theorem dD:dB P w K mg base (i_ P w) cm 0 f fd ps (pR K cA (call ao T 0 cm n)):=
 ⟨λvs H Q E ⟨_,_,_,_,_,h⟩=>h.elim,λA outer s H args us vs Q E _ _ _ _ _ ⟨_,_,_,_,_,h⟩=>h.elim⟩
theorem zik{x qual:Str}{st:Stmt}{f:Addr}{fd:FuncData}{N ps:List Str}{k n:Nat}{cm:Bool}{df:Df}(F:qO K x qual st f fd)(S:dU N ps (au st))(hT:T n=some df)(hp:df.g_=ps.length)(hm:df.many=N.length)
  (hb:∀(cdv:Value) (A:Around) (outer:List Env) (s:Shared) (H:Hp) (E:XK),cD (k+1) A->
   qN (gH (i_ P w) P w K mg base N qual (au st) f cdv A outer s H E cm) cA ao cm (λc=>call ao T k c) (λ_ C dx H'=>E C dx H') (aO st) df.body) :
  dB P w K mg base (i_ P w) cm (k+1) f fd ps (pR K cA (call ao T (k+1) cm n)):=by
 obtain⟨oc,od,kV,doc,pm,an,cdv,ct,osl,rfl,lk,lu⟩:=F.ex;refine Zw lk lu S (λvs H Q E ⟨U,ds,s,r,hS,h⟩=>?_) λA outer s H vs Q E hr ⟨U,ds,st',r,hS,h⟩=>?_
 ·rw[<-r.len,(Tw hT h).1,hp]
 ·obtain⟨hl,h2⟩:=Tw hT h;exact⟨_,hb cdv A outer s H E hr,U,_,st',zdP r hl.symm hm,hS,h2⟩
theorem ziI{x qual:Str}{st:Stmt}{f:Addr}{fd:FuncData}{N ps:List Str}{k n:Nat}{cm:Bool}{df:Df}(F:qO K x qual st f fd)(S:dU N ps (au st))(hT:T n=some df)(hp:df.g_=ps.length)(hm:df.many=N.length)
  (hb:∀(cdv:Value) (A:Around) (outer:List Env) (s:Shared) (H:Hp) (E:XK),cD k (A.deeper (envOfC qual (au st) s.heap.objs.size f cdv))->
   qN (gH (i_ P w) P w K mg base N qual (au st) f cdv A outer s H E cm) cA ao cm (λc=>call ao T k c) (λ_ C dx H'=>E C dx H') (aO st) df.body) :
  dB P w K mg base (i_ P w) cm (k+1) f fd ps (pR K cA (call ao T (k+1) cm n)):=zik F S hT hp hm λcdv A outer s H E hr=>hb cdv A outer s H E (hr.deeper _)
end
theorem zjm{K:W.Frag}{cA:Cl}{m:List Xv->M Xv}{H:Hp}{a:Addr}{ns:List Int}(hq:cW K H a (ns.map V.int))(hm:∃s',m [.d (.fl (ns.map D.int))] []=some (.ok (.d (.bl true)),s')) :
  pR K cA m [.ref a] H (λv _=>v=.bl true) λ_ _ _=>False:=by
 have rs:∀(l:List Int) U,aB K cA U H (l.map D.int) (l.map V.int):=λl U=>by
  induction l with
  |nil=>exact .nil
  |cons i l ih=>exact .cons (.int i) ih
 have hl:LstAt K ⟨λ_=>False,[]⟩ H a (ns.map V.int):=by
  rcases hq with h|h
  ·exact .inl ⟨h,λz=>z⟩
  ·exact .inr (.inr h)
 refine⟨⟨λ_=>False,[]⟩,[.d (.fl (ns.map D.int))],[],.cons (.d (.fl hl (rs ns _))) .nil,⟨rfl,(λn o b e1 e2=>by simp at e1),Gg,(λb hb=>by cases hb),(λb z=>False.elim z)⟩,?_⟩;obtain⟨s',e⟩:=hm;unfold Run;rw[e];intro U' H' _ _ v rv;cases rv with
 |d rv=>cases rv;rfl
theorem zec:Raises X (λ_ _ _ _=>False):=λ_ _ _ _ _ _ _ _ _ _ _ _ _ z=>z.elim
theorem pU(r:cD k A):A.units+60<cLine:=by have:=r.un;lia
noncomputable def aH:Expr->Bool
 |.Starred _ _=>false
 |_=>true
theorem bC(h:aH e=true):starEach (e::es) env=(false,eval e env)::starEach es env:=by
 cases e<;>first|rfl|cases h
theorem bH:∀{es:List Expr} {env:Env} {pos:Pos},es.all aH=true->(backTo pos (starEach es env)).any (·.1)=false
 |[],_,_,_=>rfl
 |e::es,env,pos,h=>by
  rw[vM,fK] at h;rw[bC h.1];show (false||(backTo pos (starEach es env)).any (·.1))=false;rw[bH h.2];rfl
theorem nH:∀{es:List Expr} {env:Env} {pos:Pos},es.all aH=true->(backTo pos (starEach es env)).all (λx=>!x.1)=true
 |[],_,_,_=>rfl
 |e::es,env,pos,h=>by
  rw[vM,fK] at h;rw[bC h.1];show (true&&(backTo pos (starEach es env)).all (λx=>!x.1))=true;rw[nH h.2];rfl
theorem tD(h1:aH e=true)(h2:es.all aH=true)(h3:decide (es.length<28)=true):((backTo pos (starEach (e::es) env)).all (λx=>!x.1)&&(backToKw pos (keywordEach [] env)).all (λx=>x.1.isSome)&&decide ((e::es).length+([]:List Keyword).length+(if ([]:List Keyword).isEmpty then 0 else 1)<30))=true:=by
 rw[nH (es:=e::es) (by rw[vM,h1,h2];rfl)];have:=fH h3;have z:(e::es).length+([]:List Keyword).length+(if ([]:List Keyword).isEmpty then 0 else 1)<30:=by
  show es.length+1+0+0<30
  lia
 rw[cX z];rfl
noncomputable def pW(sc scope:Scope):Bool:=(match scope.kind with|.function=>true|_=>false)&&scope.names.all λy=>match y.2 with
 |.cell=>(match scope.names.lookup y.1 with|some .cell=>true|_=>false)
 |.free=>(match sc.names.lookup y.1 with|some .cell=>true|some .free=>true|_=>false)
 |.local=>(match scope.names.lookup y.1 with|some .local=>true|_=>false)
 |_=>true
theorem cU.of(h:pW sc scope=true):cU sc scope:=by
 unfold pW at h;rw[fK,k_] at h;obtain⟨h1,h2⟩:=h;refine⟨?_,λy hy z=>?_,λy hy z=>?_,λy hy z=>?_⟩
 ·split at h1
  ·assumption
  ·cases h1
 ·have:=h2 y hy;rw[z] at this;dsimp only at this;split at this
  ·assumption
  ·cases this
 ·have:=h2 y hy;rw[z] at this;dsimp only at this;split at this
  ·exact .inl (by assumption)
  ·exact .inr (by assumption)
  ·cases this
 ·have:=h2 y hy;rw[z] at this;dsimp only at this;split at this
  ·assumption
  ·cases this
noncomputable def frB(scope:Scope)(XN:List Str):List Str->List Nat->Bool
 |y::N,j::fr=>(match scope.names.lookup y with|some .free=>true|_=>false)&&decide (XN[j]?=some y)&&frB scope XN N fr
 |[],[]=>true
 |_,_=>false
theorem Tz:∀{N:List Str} {fr:List Nat},frB scope XN N fr=true->N.length=fr.length/\∀(i:Nat) (y:Str) (j:Nat),N[i]?=some y->fr[i]?=some j->scope.names.lookup y=some .free/\XN[j]?=some y
 |[],[],_=>⟨rfl,λi y j h=>by simp at h⟩
 |[],_::_,h=>by cases h
 |_::_,[],h=>by cases h
 |y::N,j::fr,h=>by
  unfold frB at h;rw[fK,fK,j_] at h;obtain⟨⟨h1,h2⟩,h3⟩:=h;obtain⟨l,q⟩:=Tz h3;refine⟨by simp[l],λi z m e1 e2=>?_⟩;cases i with
  |zero=>
   simp at e1 e2;subst e1 e2;refine⟨?_,h2⟩;split at h1
   ·assumption
   ·cases h1
  |succ i=>exact q i z m (by simpa using e1) (by simpa using e2)
noncomputable def okN(x:Str):Bool:=!(x==("__debug__" : Str)) && !(x==("__classdict__" : Str)) && !decide (x="__name__")
theorem u6(h:okN x=true):(x==("__debug__" : Str))=false/\(x==("__classdict__" : Str))=false/\x≠"__name__":=by
 unfold okN at h;simp only[fK,Bool.not_eq_true',decide_eq_false_iff_not] at h;exact⟨h.1.1,h.1.2,h.2⟩
theorem Ht{env:Env}{k:NameKind}(hk:k≠.free):∀{names:List (Str×NameKind)} {x:Str},names.lookup x=some k->
  (names.map λ(n,k)=>if (k==NameKind.free&&env.scope.kind==.function&&env.kindOf n==some .cell) then (n,NameKind.cell) else (n,k)).lookup x=some k
 |[],x,h=>by simp at h
 |(n,q)::r,x,h=>by
  rw[nW] at h;rw[oY,nW];have hd:∀c:Bool,(if c=true then (n,NameKind.cell) else (n,q)).1=n:=λc=>by cases c<;>rfl
  rw[hd];by_cases z:x=n
  ·subst z;simp only[yE] at h ⊢;cases h
   split
   ·rename_i y;simp only[fK,yI] at y;exact absurd y.1.1 hk
   ·rfl
  ·have z':(x==n)=false:=by simpa using z
   simp only[z'] at h ⊢;exact Ht hk h
noncomputable def pX(K:W.Frag):Sp:=λvs H Q _=>∃(a:Addr) (ns:List Int),vs=[.ref a]/\cW K H a (ns.map V.int)/\ns.length<=63/\Only H/\∀H',Q (.bl true) H'
theorem zhj{K:W.Frag}{cA:Cl}{m:List Xv->M Xv}(hm:∀ns:List Int,ns.length<=63->∃s',m [.d (.fl (ns.map D.int))] []=some (.ok (.d (.bl true)),s'))(vs:List V)(H:Hp)(Q:VK)(E:XK)(h:pX K vs H Q E):pR K cA m vs H Q E:=by
 obtain⟨a,ns,rfl,hq,hl,hO,k⟩:=h;obtain⟨U,ds,s,r1,r2,h⟩:=zjm (cA:=cA) (m:=m) hq (hm ns hl);refine⟨U,ds,s,r1,r2,?_⟩;unfold Run at h ⊢;split at h
 ·intro U' H' x r v rv;rw[h U' H' x r v rv];exact k H'
 ·exact λU' H' x r dx q=>(h U' H' x r dx q).elim
 ·exact h
theorem xH{K:W.Frag}{fd:FuncData}{p:Str}(h:∀a,bindArgs fd ⟨[a],[]⟩=pure [(p,a)]):Binds K fd [p] []:=.all λus hl=>by
 cases us with
 |nil=>cases hl
 |cons a r=>cases r with
  |nil=>exact h a
  |cons b r=>cases hl
theorem xJ{K:W.Frag}{fd:FuncData}{p q:Str}(h:∀a b,bindArgs fd ⟨[a,b],[]⟩=pure [(p,a),(q,b)]):Binds K fd [p,q] []:=.all λus hl=>by
 cases us with
 |nil=>cases hl
 |cons a r=>cases r with
  |nil=>cases hl
  |cons b r=>cases r with
   |nil=>exact h a b
   |cons c r=>cases hl
theorem xK{K:W.Frag}{fd:FuncData}{p q t:Str}(h:∀a b c,bindArgs fd ⟨[a,b,c],[]⟩=pure [(p,a),(q,b),(t,c)]):Binds K fd [p,q,t] []:=.all λus hl=>by
 cases us with
 |nil=>cases hl
 |cons a r=>cases r with
  |nil=>cases hl
  |cons b r=>cases r with
   |nil=>cases hl
   |cons c r=>cases r with
    |nil=>exact h a b c
    |cons d r=>cases hl
theorem TF:bootBuiltins "int"=some (.type "int"):=by decide +kernel
theorem TJ:bootBuiltins "bool"=some (.type "bool"):=by decide +kernel
theorem Hu:bootBuiltins "tuple"=some (.type "tuple"):=by decide +kernel
theorem zh0:bootBuiltins "list"=some (.type "list"):=by decide +kernel
structure JE(X:Cx)(cA:Cl)(ao:Nat->Nat->Bool)(aj:Bool)(F:Fn)(EX:XS)(e:Expr)(m:E):Prop where
 o:SE X cA ao aj F EX e m
structure JA(X:Cx)(cA:Cl)(ao:Nat->Nat->Bool)(aj:Bool)(F:Fn)(EX:XS)(e:List Expr)(m:Es):Prop where
 o:SA X cA ao aj F EX e m
structure JT(X:Cx)(cA:Cl)(ao:Nat->Nat->Bool)(aj:Bool)(F:Fn)(EX:XS)(e:Expr)(m:E):Prop where
 o:ST X cA ao aj F EX e m
structure JW(X:Cx)(cA:Cl)(ao:Nat->Nat->Bool)(aj:Bool)(F:Fn)(EX:XS)(e:Expr)(m:E):Prop where
 o:SW X cA ao aj F EX e m
structure JC(X:Cx)(cA:Cl)(ao:Nat->Nat->Bool)(aj:Bool)(F:Fn)(EX:XS)(e:List Expr)(m:Eo):Prop where
 o:Dv X cA ao aj F EX e m
structure JO(X:Cx)(cA:Cl)(ao:Nat->Nat->Bool)(aj:Bool)(F:Fn)(EX:XS)(e:Option Expr)(m:Eo):Prop where
 o:Dq X cA ao aj F EX e m
structure JI(X:Cx)(cA:Cl)(ao:Nat->Nat->Bool)(aj:Bool)(F:Fn)(EX:XS)(tg e:Expr)(m:Wk):Prop where
 o:SI X cA ao aj F EX tg e m
structure JG(X:Cx)(cA:Cl)(ao:Nat->Nat->Bool)(aj:Bool)(F:Bool->Fn)(EX:XS)(e:Expr)(m:Tg):Prop where
 o:SG X cA ao aj F EX e m
structure JS(X:Cx)(cA:Cl)(ao:Nat->Nat->Bool)(aj:Bool)(F:Bool->Fn)(EX:XS)(e:Stmt)(m:St):Prop where
 o:SS X cA ao aj F EX e m
structure JB(X:Cx)(cA:Cl)(ao:Nat->Nat->Bool)(aj:Bool)(F:Bool->Fn)(EX:XS)(e:List Stmt)(m:bU):Prop where
 o:qN X cA ao aj F EX e m
structure JK(X:Cx)(x:Str)(k:NameKind):Prop where
 o:X.env.scope.names.lookup x=some k
structure JP(X:Cx)(cA:Cl)(op:CmpOp)(p:Pr):Prop where
 o:∃r,dw X (compareOp op) r/\aX X.K cA p (r2 r)
structure JQ(X:Cx)(cA:Cl)(op:Operator)(p:Pr):Prop where
 o:∃r,dw X (binaryOp op) r/\aX X.K cA p (r2 r)
structure JN(X:Cx)(cA:Cl)(kx:Expr)(k:Kd):Prop where
 o:PE X kx (tC (yX cA k))
structure JR(X:Cx)(EX:XS):Prop where
 o:Raises X EX
structure JH(X:Cx):Prop where
 o:PassesOwn (model X.prog X.w) X.A X.env X.xe
structure JY(X:Cx)(tg:Expr)(g:TG):Prop where
 o:PG X tg g
noncomputable def lK:NameKind->Bool
 |.local=>true
 |.cell=>true
 |_=>false
noncomputable def xM:NameKind->Bool
 |.local=>true
 |.cell=>true
 |.free=>true
 |_=>false
section
variable {X:Cx}{cA:Cl}{ao:Nat->Nat->Bool}{aj:Bool}{F:Fn}{EX:XS}{a b c d e:Expr}{A B C Dd E':E}{pos p p2 apos:Pos}{es:List Expr}{Xs:Es}{x y:Str}{k k':NameKind}{q q1 q2 q3:Pr}{fz:Bool}
theorem TQ(h:scope.names.lookup x=some k)(hk:(match k with|.free=>false|_=>true)=true):JK (X.blk scope cl N Cc s3 H3 fp ak) x k:=
 ⟨Ht (by intro z;subst z;cases hk) h⟩
theorem TV(i:Nat)(hN:X.N[i]?=some x)(h:JK X x k)(hv:xM k=true)(hd:okN x=true):JE X cA ao aj F EX (.Name x pos) (.v i):=
 ⟨R8 i hN (by cases k<;>first|exact .inl h.o|exact .inr (.inl h.o)|exact .inr (.inr h.o)|cases hv) (u6 hd).1 (u6 hd).2.1⟩
theorem zlK(i:Nat)(hN:N[i]?=some x)(h:scope.names.lookup x=some .free)(hd:okN x=true):JE (X.blk scope cl N Cc s3 H3 fp ak) cA ao aj F EX (.Name x pos) (.v i):=
 ⟨R8 i hN (.inr (G3 h)) (u6 hd).1 (u6 hd).2.1⟩
theorem aC{i j p}:JE X cA ao aj F EX (.Constant (.int i) j p) (.c (.int i)):=⟨zjY⟩
theorem oA{i j p}:JE X cA ao aj F EX (.Constant (.bool i) j p) (.c (.bl i)):=⟨zkm⟩
theorem Dw{j p}:JE X cA ao aj F EX (.Constant .none j p) (.c .non):=⟨zjk⟩
theorem TX(h:∃t,X.mg x=some (.int i t))(hg:JK X x .globalImplicit)(hd:okN x=true):JE X cA ao aj F EX (.Name x pos) (.c (.int i)):=by
 obtain⟨t,h⟩:=h;exact⟨zh2 hg.o h (u6 hd).1⟩
theorem kI:JQ X cA .Add .add:=⟨_,zeL,zjV⟩
theorem qP:JQ X cA .Sub .ao:=⟨_,Y7,zif⟩
theorem u9:JQ X cA .Mult .mul:=⟨_,Y8,zjZ⟩
theorem zjD:JQ X cA .FloorDiv .fdiv:=⟨_,Y9,zgS⟩
theorem xO:JQ X cA .Mod .mod:=⟨_,Y_,ziO⟩
theorem zko:JQ X cA .Pow .pow:=⟨_,Za,zis⟩
theorem cQ(h:JQ X cA op q)(ha:JE X cA ao aj F EX a A)(hb:JE X cA ao aj F EX b B):JE X cA ao aj F EX (.BinOp a op b pos) (.pr fz q (.cons A (.cons B .nil))):=by
 obtain⟨r,h1,h2⟩:=h.o;exact⟨ziL h1 h2 ha.o hb.o⟩
theorem pY(ha:JE X cA ao aj F EX a A):JE X cA ao aj F EX (.UnaryOp .USub a pos) (.pr true .neg (.cons A .nil)):=⟨zkk Zc zjB ha.o⟩
theorem TY(ha:JE X cA ao aj F EX a A):JE X cA ao aj F EX (.UnaryOp .Not a pos) (.not A):=⟨zju ha.o⟩
theorem u_{op}(ha:JE X cA ao aj F EX a A):JE X cA ao aj F EX (.BoolOp op [a] pos) A:=⟨zjG ha.o⟩
theorem tG{rest:List Expr}(ha:JE X cA ao aj F EX a A)(hb:JE X cA ao aj F EX (.BoolOp .And (b::rest) pos) B):JE X cA ao aj F EX (.BoolOp .And (a::b::rest) pos) (.and A B):=⟨zjc ha.o hb.o⟩
theorem oN{k:Nat}(hr:cD k X.A):JP X cA .Eq .eq:=⟨_,zj5 (pU hr),zkN⟩
theorem Dy{k:Nat}(hr:cD k X.A):JP X cA .NotEq .ne:=⟨_,zjh (pU hr),zk8⟩
theorem tH{k:Nat}(hr:cD k X.A):JP X cA .Lt .lt:=⟨_,Bj.or (Z0 (by have:=pU hr;lia)),zkJ⟩
theorem T3:JP X cA .LtE .le:=⟨_,Zd,zkG⟩
theorem M4:JP X cA .Gt .gt:=⟨_,Ze,zkl⟩
theorem zlI:JP X cA .GtE .ge:=⟨_,Zf,zkt⟩
theorem zj{k:Nat}(hr:cD k X.A):JP X cA .In .inn:=⟨_,zjX (pU hr),zkT⟩
theorem M5{k:Nat}(hr:cD k X.A):JP X cA .NotIn .nin:=⟨_,zgU (pU hr),zka⟩
noncomputable def nJ:Expr->Bool
 |.Set _ _ _=>false
 |_=>true
theorem xP(h:nJ b=true):behindInMarks op b=false:=by cases b<;>first|rfl|cases h
theorem zm(ho:JP X cA op q)(ha:JE X cA ao aj F EX a A)(hb:JE X cA ao aj F EX b B)(h1:nJ b=true:=by rfl):JE X cA ao aj F EX (.Compare a [op] [b] pos) (.pr true q (.cons A (.cons B .nil))):=by
 obtain⟨r,h2,h3⟩:=ho.o;exact⟨zi7 h2 h3 ha.o hb.o (xP h1)⟩
theorem eF(ho:JP X cA op q)(ha:JE X cA ao aj F EX a A)(hb:JE X cA ao aj F EX b B)(h1:nJ b=true:=by rfl):JT X cA ao aj F EX (.Compare a [op] [b] pos) (.pr true q (.cons A (.cons B .nil))):=by
 obtain⟨r,h2,h3⟩:=ho.o;exact⟨zjT h2 h3 ha.o hb.o (xP h1)⟩
theorem zk0(h1:JP X cA op q1)(h2:JP X cA op' q2)(ha:JE X cA ao aj F EX a A)(hb:JE X cA ao aj F EX b B)(hc:JE X cA ao aj F EX c C)(hm:nJ c=true:=by rfl):JE X cA ao aj F EX (.Compare a [op,op'] [b,c] pos) (.uK q1 q2 A B C):=by
 obtain⟨r,h3,h4⟩:=h1.o;obtain⟨r',h5,h6⟩:=h2.o;exact⟨zio h3 h4 h5 h6 ha.o hb.o hc.o (xP hm)⟩
theorem zkW{j p}(ha:JE X cA ao aj F EX a A):JE X cA ao aj F EX (.Compare a [.Is] [.Constant .none j p] pos) (.pr true .Cp (.cons A .nil)):=⟨ziB ha.o⟩
theorem zjF{j p}(ha:JE X cA ao aj F EX a A):JT X cA ao aj F EX (.Compare a [.IsNot] [.Constant .none j p] pos) (.pr true .Cq (.cons A .nil)):=⟨zg4 ha.o⟩
noncomputable def Dz:Expr->Bool
 |.Call _ _ _ _=>true
 |.Name _ _=>true
 |.Subscript _ _ _=>true
 |.Attribute _ _ _=>true
 |_=>false
theorem jV(ha:JE X cA ao aj F EX a A)(he:Dz a=true:=by rfl):JT X cA ao aj F EX a A:=⟨zkf ha.o (by cases a<;>first|(intro _;rfl)|cases he)⟩
theorem lV(ha:JT X cA ao aj F EX a A):JT X cA ao aj F EX (.UnaryOp .Not a pos) (.not A):=⟨ziv ha.o⟩
theorem zp(ha:JT X cA ao aj F EX a A):JW X cA ao aj F EX (.BoolOp .And [a] pos) A:=⟨zhm ha.o⟩
theorem Hv(ha:JT X cA ao aj F EX a A):JW X cA ao aj F EX (.BoolOp .Or [a] pos) A:=⟨zj0 ha.o⟩
theorem zu{rest:List Expr}(ha:JT X cA ao aj F EX a A)(hb:JW X cA ao aj F EX (.BoolOp .And (b::rest) pos) B):JW X cA ao aj F EX (.BoolOp .And (a::b::rest) pos) (.and A B):=⟨ziw ha.o hb.o⟩
theorem DG{rest:List Expr}(ha:JT X cA ao aj F EX a A)(hb:JW X cA ao aj F EX (.BoolOp .Or (b::rest) pos) B):JW X cA ao aj F EX (.BoolOp .Or (a::b::rest) pos) (.or A B):=⟨zkx ha.o hb.o⟩
theorem qQ(h:JW X cA ao aj F EX a A):JT X cA ao aj F EX a A:=⟨zlF h.o⟩
theorem T4(hc:JT X cA ao aj F EX c C)(ha:JE X cA ao aj F EX a A)(hb:JE X cA ao aj F EX b B):JE X cA ao aj F EX (.IfExp c a b pos) (.ite C A B):=⟨zjJ hc.o ha.o hb.o⟩
theorem aK:JA X cA ao aj F EX [] .nil:=⟨zj1⟩
theorem aA(ha:JE X cA ao aj F EX a A)(hr:JA X cA ao aj F EX es Xs)(hs:aH a=true:=by rfl):JA X cA ao aj F EX (a::es) (.cons A Xs):=⟨zhx ha.o hr.o (bC hs)⟩
theorem cZ{k}(ha:JA X cA ao aj F EX es Xs)(hz:decide (Es.len Xs<=sizeLine)=true:=by rfl):JE X cA ao aj F EX (.Tuple es k pos) (.tup Xs):=⟨zjd ha.o (fH hz)⟩
theorem kJ(ha:JA X cA ao aj F EX es Xs)(hz:decide (Es.len Xs<=sizeLine)=true:=by rfl):JE X cA ao aj F EX (.List es pos) (.lst fz Xs):=⟨zi2 ha.o (fH hz)⟩
noncomputable def pZ:Expr->Bool
 |.Constant _ _ _=>true
 |.Name _ _=>true
 |.Call _ _ _ _=>true
 |.BinOp _ _ _ _=>true
 |.UnaryOp _ _ _=>true
 |.Subscript _ _ _=>true
 |.IfExp _ _ _ _=>true
 |.Attribute _ _ _=>true
 |.Compare _ _ _ _=>true
 |.BoolOp _ _ _=>true
 |_=>false
theorem bx(ha:JE X cA ao aj F EX a A)(hb:JE X cA ao aj F EX b B)(hs:pZ b=true:=by rfl):JE X cA ao aj F EX (.Subscript a b pos) (.pr true .ix (.cons A (.cons B .nil))):=⟨zk4 zkS ha.o hb.o (by cases b<;>first|(intro _ _;rfl)|cases hs)⟩
theorem M6:JO X cA ao aj F EX none .no:=⟨zkr⟩
theorem DK(ha:JE X cA ao aj F EX a A):JO X cA ao aj F EX (some a) (.yes A):=⟨zjQ ha.o⟩
theorem Hw{lo hi:Option Expr}{Lo Hi:Eo}(ha:JE X cA ao aj F EX a A)(hl:JO X cA ao aj F EX lo Lo)(hh:JO X cA ao aj F EX hi Hi):JE X cA ao aj F EX (.Subscript a (.Slice lo hi none p2) pos) (.sl fz A Lo Hi):=⟨zkP ha.o hl.o hh.o⟩
theorem zjf(f:Nat){cm:Bool}{k:Nat}{fa:Addr}{fd:FuncData}{ps:List Str}(Fo:dB X.prog X.w X.K X.mg X.base (i_ X.prog X.w) cm k fa fd ps (pR X.K cA (F f)))(n8:cm=true->X.aj=true)(hr:cD k X.A)(hm:X.mg x=some (.ref fa))(hk:PySem.W.keepIn X.K (.ref fa)=true)(hb:Binds X.K fd ps [])(R:JR X EX)(hg:JK X x .globalImplicit)
  (ha:JA X cA ao aj F EX (e::es) Xs) (hd:okN x=true) (he:aH e=true:=by rfl) (c7:es.all aH=true:=by rfl) :
  JE X cA ao aj F EX (.Call (.Name x p) (e::es) [] pos) (.call f Xs):=⟨zg3 Fo n8 hr hg.o hm hk hb R.o ha.o (u6 hd).1 (bC he) (bH c7)⟩
theorem vd(hv:yX cA kd=.ty T)(hm:X.mg x=none)(hb:bootBuiltins x=some (.type T))(hg:JK X x .globalImplicit)(hd:okN x=true):JN X cA (.Name x pos) kd:=⟨λak s Z H Q I h=>by
 rw[hv] at h;exact vZ I hg.o hm hb ⟨.ty T,H,I,rfl,h⟩ (u6 hd).2.2 (u6 hd).1⟩
theorem vf(h0:(pP kd).isSome=true)(hm:X.mg "isinstance"=none)(hg:JK X "isinstance" .globalImplicit)(ha:JE X cA ao aj F EX a A)(hk:JN X cA kx kd)(h1:aH a=true:=by rfl)(h2:aH kx=true:=by rfl):JE X cA ao aj F EX (.Call (.Name "isinstance" p) [a,kx] [] pos) (.kE A kd):=
 ⟨ziA (λz=>by rw[z] at h0;cases h0) hg.o hm ha.o hk.o (bC h1) (bC h2) (bH (by rw[vM,h2];rfl))⟩
theorem zx(hm:X.mg "len"=none)(hg:JK X "len" .globalImplicit)(ha:JA X cA ao aj F EX (e::es) Xs)(he:aH e=true:=by rfl)(c7:es.all aH=true:=by rfl):JE X cA ao aj F EX (.Call (.Name "len" p) (e::es) [] pos) (.pr fz .len Xs):=⟨xG zcg ziX hg.o hm PySem.boot_len ha.o Dc Dc (bC he) (bH c7)⟩
theorem T5(hm:X.mg "abs"=none)(hg:JK X "abs" .globalImplicit)(ha:JA X cA ao aj F EX (e::es) Xs)(he:aH e=true:=by rfl)(c7:es.all aH=true:=by rfl):JE X cA ao aj F EX (.Call (.Name "abs" p) (e::es) [] pos) (.pr fz .abs Xs):=⟨xG Zk zja hg.o hm PyProof.Rows.boot_abs ha.o Dc Dc (bC he) (bH c7)⟩
theorem M7(hc:X.aj=true)(hm:X.mg "max"=none)(hg:JK X "max" .globalImplicit)(ha:JA X cA ao aj F EX (e::es) Xs)(he:aH e=true:=by rfl)(c7:es.all aH=true:=by rfl):JE X cA ao aj F EX (.Call (.Name "max" p) (e::es) [] pos) (.pr fz .max2 Xs):=⟨xG (Zm hc) zhq hg.o hm PyProof.Rows.boot_max ha.o Dc Dc (bC he) (bH c7)⟩
theorem M8(hc:X.aj=true)(hm:X.mg "min"=none)(hg:JK X "min" .globalImplicit)(ha:JA X cA ao aj F EX (e::es) Xs)(he:aH e=true:=by rfl)(c7:es.all aH=true:=by rfl):JE X cA ao aj F EX (.Call (.Name "min" p) (e::es) [] pos) (.pr fz .min2 Xs):=⟨xG (Zn hc) zgX hg.o hm PyProof.Rows.boot_min ha.o Dc Dc (bC he) (bH c7)⟩
theorem zjP(hm:X.mg "int"=none)(hg:JK X "int" .globalImplicit)(ha:JA X cA ao aj F EX (e::es) Xs)(he:aH e=true:=by rfl)(c7:es.all aH=true:=by rfl):JE X cA ao aj F EX (.Call (.Name "int" p) (e::es) [] pos) (.pr fz .rY Xs):=⟨Sd Zo zg9 hg.o hm PyProof.Rows.boot_int ha.o Dc Dc (bC he) (bH c7)⟩
theorem zf5(hm:X.mg "divmod"=none)(hg:JK X "divmod" .globalImplicit)(ha:JA X cA ao aj F EX (e::es) Xs)(he:aH e=true:=by rfl)(c7:es.all aH=true:=by rfl):JE X cA ao aj F EX (.Call (.Name "divmod" p) (e::es) [] pos) (.pr fz .divmod Xs):=⟨xG Zq zd4 hg.o hm PyProof.Rows.boot_divmod ha.o Dc Dc (bC he) (bH c7)⟩
theorem zy(hc:X.aj=true)(hm:X.mg "all"=none)(hg:JK X "all" .globalImplicit)(ha:JA X cA ao aj F EX (e::es) Xs)(he:aH e=true:=by rfl)(c7:es.all aH=true:=by rfl):JE X cA ao aj F EX (.Call (.Name "all" p) (e::es) [] pos) (.pr fz .all Xs):=⟨xG (zeg hc) zi9 hg.o hm PyProof.Rows.boot_all ha.o Dc Dc (bC he) (bH c7)⟩
theorem Hx(hm:X.mg "tuple"=none)(hg:JK X "tuple" .globalImplicit)(ha:JA X cA ao aj F EX (e::es) Xs)(he:aH e=true:=by rfl)(c7:es.all aH=true:=by rfl):JE X cA ao aj F EX (.Call (.Name "tuple" p) (e::es) [] pos) (.pr fz .tuple Xs):=⟨Sd zb6 zgf hg.o hm Hu ha.o Dc Dc (bC he) (bH c7)⟩
theorem DN(ho:JE X cA ao aj F EX a A)(hb:JE X cA ao aj F EX b B)(dH:attributeBase a "append" X.env (eval a X.env)=eval a X.env:=by rfl)(dI:(apos.endLine==pos.line)=true:=by rfl)(hs:aH b=true:=by rfl) :
  JE X cA ao aj F EX (.Call (.Attribute a "append" apos) [b] [] pos) (.push A B):=⟨zh1 ho.o hb.o dH (tD hs rfl rfl) dI (bC hs) rfl⟩
theorem zkY(ho:JE X cA ao aj F EX a A)(dH:attributeBase a "pop" X.env (eval a X.env)=eval a X.env:=by rfl)(dI:(apos.endLine==pos.line)=true:=by rfl) :
  JE X cA ao aj F EX (.Call (.Attribute a "pop" apos) [] [] pos) (.pop A):=⟨zjb ho.o dH dI⟩
theorem vg:JC X cA ao aj F EX [] .no:=⟨zil⟩
theorem qR(h:JT X cA ao aj F EX c C):JC X cA ao aj F EX [c] (.yes C):=⟨zha h.o⟩
theorem kO(ha:JE X cA ao aj F EX a A):JI X cA ao aj F EX tg a (.seq A):=⟨ziV ha.o⟩
theorem T6(hmg:X.mg "range"=none)(mO:JK X "range" .globalImplicit)(ha:JE X cA ao aj F EX a A)(hb:JE X cA ao aj F EX b B)(h1:aH a=true:=by rfl)(h2:aH b=true:=by rfl):JI X cA ao aj F EX tg (.Call (.Name "range" p) [a,b] [] pos) (.rg A B):=⟨zkL mO.o hmg ha.o hb.o (bC h1) (bC h2)⟩
theorem vh(hmg:X.mg "range"=none)(mO:JK X "range" .globalImplicit)(hb:JE X cA ao aj F EX b B)(h2:aH b=true:=by rfl):JI X cA ao aj F EX tg (.Call (.Name "range" p) [b] [] pos) (.rg (.c (.int 0)) B):=⟨zit mO.o hmg hb.o (bC h2)⟩
noncomputable def DP(scope:Scope)(x:Str):Bool:=match scope.names.lookup x with
 |some .local=>true
 |some .cell=>true
 |_=>false
theorem zA(h:DP scope x=true):Loc (X.blk scope cl N Cc s3 H3 fp ak).env.scope x/\((X.blk scope cl N Cc s3 H3 fp ak).fn x=true\/(X.blk scope cl N Cc s3 H3 fp ak).env.scope.names.lookup x=some .local):=by
 unfold DP at h;split at h
 ·rename_i z;exact⟨.inl (lookup_relabel_local z),.inr (lookup_relabel_local z)⟩
 ·rename_i z;exact⟨.inr (Ht (by intro y;cases y) z),.inl (by show (scope.names.lookup x==some NameKind.cell)=true;rw[z];rfl)⟩
 ·cases h
theorem lW(i:Nat)(hnd:N.Nodup)(hi:N[i]?=some x)(hl:DP scope x=true):JY (X.blk scope cl N Cc s3 H3 fp ak) (.Name x tp) (cY i):=
 ⟨Gx hnd hi (zA hl).1 (zA hl).2⟩
theorem T7(i j:Nat)(hc:X.aj=true)(hnd:N.Nodup)(hi:N[i]?=some x)(hj:N[j]?=some y)(hl:DP scope x=true)(ou:DP scope y=true):JY (X.blk scope cl N Cc s3 H3 fp ak) (.Tuple [.Name x px,.Name y py] kt tp) (pA X.K 2 (fV (cY i) (fV (cY j) pq))):=
 ⟨MN (X:=X.blk scope cl N Cc s3 H3 fp ak) hc hnd hi hj (zA hl).1 (zA ou).1 (zA hl).2 (zA ou).2⟩
theorem zB{scope:Scope}{XN:List Str}{M0 N:List Str}{fr:List Nat}(h:frB scope XN N fr=true):(M0++N).length=M0.length+fr.length/\∀(i:Nat) (y:Str) (j:Nat),(M0++N)[M0.length+i]?=some y->fr[i]?=some j->scope.names.lookup y=some .free/\XN[j]?=some y:=by
 obtain⟨l,q⟩:=Tz h;refine⟨by rw[bO,l],λi y j e1 e2=>q i y j ?_ e2⟩;rw[mU gV] at e1;rw[show M0.length+i-M0.length=i by lia] at e1;exact e1
theorem qT{elt iter tg:Expr}{ifs:List Expr}{scope:Scope}{cond:Eo}{cP:List Nat}{g:TG}{w:Wk}(sc:Scope)(XN M0 N:List Str)(fr:List Nat)(hc:X.aj=true)(M9:X.env.scope=sc)(tu:X.N=XN)(hB:pW sc scope=true)(hf:frB scope XN N fr=true)(hT:jU X.K cA g cP)(dY:cP.all (λi=>decide (i<M0.length))=true)
  (hi:JI X cA ao aj F EX tg iter w) (hg:∀cl C s3 H3 fp ak,JY (X.blk scope cl (M0++N) C s3 H3 fp ak) tg g)
  (ht:∀cl C s3 H3 fp ak,JC (X.blk scope cl (M0++N) C s3 H3 fp ak) cA ao aj F (λ_ _ _ _=>False) ifs cond) (he:∀cl C s3 H3 fp ak,JE (X.blk scope cl (M0++N) C s3 H3 fp ak) cA ao aj F (λ_ _ _ _=>False) elt B)
  (hs:∀x,foldedSetIterable iter X.env x=pure x:=by intro _;rfl):JE X cA ao aj F EX (.ListComp elt [⟨tg,iter,ifs,0⟩] scope pos) (.comp fz B cP w fr M0.length cond):=
 ⟨Tq hc (cU.of (M9▸hB)) hi.o (zB (tu▸hf)).1 (zB (tu▸hf)).2 (λa b c d e f=>(hg a b c d e f).o) hT (λi hi=>fH (k_.mp dY i hi)) (λa b c d e f=>(ht a b c d e f).o) (λa b c d e f=>(he a b c d e f).o) hs⟩
theorem Kaa{scope dj:Scope}{env:Env}(h:cU scope dj):cU (relabel scope env) dj:=⟨h.kind,h.RB,λy hy z=>by
 rcases h.free y hy z with q|q
 ·exact .inl (Ht (by intro y;cases y) q)
 ·exact G3 q,h.loc⟩
theorem T8{elt iter tg:Expr}{ifs:List Expr}{scope dj:Scope}{cond:Eo}{cP:List Nat}{g:TG}{w:Wk}{cl:List (Str×Addr)}{vm:List Str}{Cc:Addr}{s3:Shared}{H3:Hp}{fp:List Addr}{ak:List (Addr×Obj)}(XN M0 N:List Str)(fr:List Nat)(hc:X.aj=true)(tu:vm=XN)(hB:pW scope dj=true)(hf:frB dj XN N fr=true)(hT:jU X.K cA g cP)(dY:cP.all (λi=>decide (i<M0.length))=true)
  (hi:JI (X.blk scope cl vm Cc s3 H3 fp ak) cA ao aj F EX tg iter w) (hg:∀cl2 C s3' DQ fp' gP,JY ((X.blk scope cl vm Cc s3 H3 fp ak).blk dj cl2 (M0++N) C s3' DQ fp' gP) tg g)
  (ht:∀cl2 C s3' DQ fp' gP,JC ((X.blk scope cl vm Cc s3 H3 fp ak).blk dj cl2 (M0++N) C s3' DQ fp' gP) cA ao aj F (λ_ _ _ _=>False) ifs cond) (he:∀cl2 C s3' DQ fp' gP,JE ((X.blk scope cl vm Cc s3 H3 fp ak).blk dj cl2 (M0++N) C s3' DQ fp' gP) cA ao aj F (λ_ _ _ _=>False) elt B)
  (hs:∀x,foldedSetIterable iter (X.blk scope cl vm Cc s3 H3 fp ak).env x=pure x:=by intro _;rfl):JE (X.blk scope cl vm Cc s3 H3 fp ak) cA ao aj F EX (.ListComp elt [⟨tg,iter,ifs,0⟩] dj pos) (.comp fz B cP w fr M0.length cond):=by
 subst tu;exact⟨Tq (X:=X.blk scope cl vm Cc s3 H3 fp ak) hc (Kaa (cU.of hB)) hi.o (zB hf).1 (zB hf).2 (λa b c d e f=>(hg a b c d e f).o) hT (λi hi=>fH (k_.mp dY i hi)) (λa b c d e f=>(ht a b c d e f).o) (λa b c d e f=>(he a b c d e f).o) hs⟩
theorem vo:JR X (λ_ _ _ _=>False):=⟨zec⟩
theorem cL{P:Program}{w:World}{K:W.Frag}{mg:Str->Option Value}{base:Heap}{N:List Str}{qual:Str}{scope:Scope}{f:Addr}{cd:Value}{A:Around}{outer:List Env}{s:Shared}{H:Hp}{E:XK}{cm:Bool} :
  JR (gH (i_ P w) P w K mg base N qual scope f cd A outer s H E cm) (λ_ C dx H'=>E C dx H'):=⟨zdQ⟩
theorem nM{CX:oH}{P:Program}{w:World}{K:W.Frag}{mg:Str->Option Value}{base:Heap}{N:List Str}{qual:Str}{scope:Scope}{f:Addr}{cd:Value}{A:Around}{outer:List Env}{s:Shared}{H:Hp}{E:XK}{cm:Bool} :
  JH (gH CX P w K mg base N qual scope f cd A outer s H E cm):=⟨PassesOwn.leaving⟩
end
section
variable {X:Cx}{cA:Cl}{ao:Nat->Nat->Bool}{aj:Bool}{F:Bool->Fn}{EX:XS}{a b c d e:Expr}{A B C:E}{pos p p2:Pos}{st:Stmt}{sts body orelse:List Stmt}{m:St}{ms mb me mh:bU}{es:List Expr}{Xs:Es}{x y n:Str}{k k':NameKind}
theorem xQ(h:JK X x k)(hv:lK k=true):Loc X.env.scope x:=by cases k<;>first|exact .inl h.o|exact .inr h.o|cases hv
theorem xR(h:JK X x k)(hv:X.fn x=true\/k=.local):X.fn x=true\/X.env.scope.names.lookup x=some .local:=by
 rcases hv with hv|hv
 ·exact .inl hv
 ·subst hv;exact .inr h.o
theorem aN:JB X cA ao aj F EX [] .nil:=⟨zhO⟩
theorem aJ(h1:JS X cA ao aj F EX st m)(h2:JB X cA ao aj F EX sts ms):JB X cA ao aj F EX (st::sts) (.cons m ms):=⟨zfN h1.o h2.o⟩
theorem M_:JS X cA ao aj F EX st .no:=⟨zkR⟩
theorem p8(ha:JE X cA ao aj (F aj) EX a A)(hs:swapsWith a none pos.line X.env=pure false:=by rfl):JS X cA ao aj F EX (.Expr a pos) (.ex A):=⟨zkp ha.o hs⟩
theorem b_(ha:JE X cA ao aj (F aj) EX a A):JS X cA ao aj F EX (.Return (some a) pos) (.ret A):=⟨zir ha.o⟩
theorem gM(i:Nat)(hN:X.N.Nodup)(hi:X.N[i]?=some x)(hx:JK X x k)(hl:lK k=true)(ha:JE X cA ao aj (F aj) EX a A)(hs:swapsWith a (some (.Name x p)) pos.line X.env=pure false:=by rfl)(hf:X.fn x=true\/k=.local:=by first|exact .inl rfl|exact .inr rfl):JS X cA ao aj F EX (.Assign [.Name x p] a pos) (.asg (.nm i) A):=
 ⟨ziR hN hi (xQ hx hl) ha.o hs (xR hx hf)⟩
theorem zE{elt iter tg:Expr}{ifs:List Expr}{scope:Scope}{cond:Eo}{cP:List Nat}{g:TG}{w:Wk}{fz:Bool}{py spos:Pos}(i:Nat)(sc:Scope)(XN M0 N:List Str)(fr:List Nat)(hN:X.N.Nodup)(wN:X.N[i]?=some y)(hx:JK X y k)(hl:lK k=true)(hc:X.aj=true)(M9:X.env.scope=sc)(tu:X.N=XN)(hB:pW sc scope=true)(hf:frB scope XN N fr=true)(hT:jU X.K cA g cP)(dY:cP.all (λi=>decide (i<M0.length))=true)
  (hi:JI X cA ao aj (F aj) EX tg iter w) (hg:∀cl C s3 H3 fp ak,JY (X.blk scope cl (M0++N) C s3 H3 fp ak) tg g)
  (ht:∀cl C s3 H3 fp ak,JC (X.blk scope cl (M0++N) C s3 H3 fp ak) cA ao aj (F aj) (λ_ _ _ _=>False) ifs cond) (he:∀cl C s3 H3 fp ak,JE (X.blk scope cl (M0++N) C s3 H3 fp ak) cA ao aj (F aj) (λ_ _ _ _=>False) elt B)
  (Cg:swapsWith (.ListComp elt [⟨tg,iter,ifs,0⟩] scope pos) (some (.Name y py)) spos.line X.env=pure true:=by rfl) (hff:X.fn y=true\/k=.local:=by first|exact .inl rfl|exact .inr rfl) (hs:∀x,foldedSetIterable iter X.env x=pure x:=by intro _;rfl) :
  JS X cA ao aj F EX (.Assign [.Name y py] (.ListComp elt [⟨tg,iter,ifs,0⟩] scope pos) spos) (.asg (.nm i) (.comp fz B cP w fr M0.length cond)):=
 ⟨zhb hc hN wN (xQ hx hl) (xR hx hff) (cU.of (M9▸hB)) hi.o (zB (tu▸hf)).1 (zB (tu▸hf)).2 (λa b c d e f=>(hg a b c d e f).o) hT (λi hi=>fH (k_.mp dY i hi)) (λa b c d e f=>(ht a b c d e f).o) (λa b c d e f=>(he a b c d e f).o) Cg hs⟩
theorem DR(i j:Nat){k0}(hc:X.aj=true)(eE:aj=true)(hN:X.N.Nodup)(hi:X.N[i]?=some x)(hj:X.N[j]?=some y)(hx:JK X x k)(hy:JK X y k')(Nb:lK k=true)(Nf:lK k'=true)(ha:JE X cA ao aj (F aj) EX a A)
  (sY:X.fn x=true\/k=.local:=by first|exact .inl rfl|exact .inr rfl) (sZ:X.fn y=true\/k'=.local:=by first|exact .inl rfl|exact .inr rfl)
  (hs:swapsWithSole [.Tuple [.Name x px,.Name y py] k0 pt] a pos.line X.env=pure false:=by rfl) (hw:swappedStores [.Tuple [.Name x px,.Name y py] k0 pt] a X.env=pure none:=by rfl) (h1:(assignEach [.Tuple [.Name x px,.Name y py] k0 pt] X.env).map (·.2)=[assign (.Tuple [.Name x px,.Name y py] k0 pt) X.env]:=by rfl) :
  JS X cA ao aj F EX (.Assign [.Tuple [.Name x px,.Name y py] k0 pt] a pos) (.asg (.tp [i,j]) A):=⟨zhU hc eE hN hi hj (xQ hx Nb) (xQ hy Nf) (xR hx sY) (xR hy sZ) ha.o hs hw h1⟩
theorem Hy(hO:JE X cA ao aj (F aj) EX oo O)(hI:JE X cA ao aj (F aj) EX ii I')(ha:JE X cA ao aj (F aj) EX a A)
  (MP:∀v,assign (.Subscript oo ii p) X.env v=(do
   let obj <-holding [v] (eval oo X.env)
   let at_ <-holding [v,obj] (eval ii X.env)
   standAt p
   holding [v,obj,at_] (setItem obj at_ v)
   release [v,obj,at_] []):=by intro _;rfl) (hs:swapsWithSole [.Subscript oo ii p] a pos.line X.env=pure false:=by rfl) (hw:swappedStores [.Subscript oo ii p] a X.env=pure none:=by rfl)
  (h1:(assignEach [.Subscript oo ii p] X.env).map (·.2)=[assign (.Subscript oo ii p) X.env]:=by rfl):JS X cA ao aj F EX (.Assign [.Subscript oo ii p] a pos) (.asg (.ao O I') A):=⟨zim hO.o hI.o ha.o MP hs hw h1⟩
theorem gw(hc:JT X cA ao aj (F aj) EX c C)(ht:JB X cA ao aj F EX body mb)(he:JB X cA ao aj F EX orelse me):JS X cA ao aj F EX (.If c body orelse pos) (.iff C mb me):=⟨zk6 hc.o ht.o he.o⟩
theorem T9(hp:JH X)(hc:JT X cA ao aj (F aj) EX c C)(hb:JB X cA ao aj F EX body mb):JS X cA ao aj F EX (.While c body [] pos) (.wh C mb):=⟨zgl hp.o hc.o hb.o⟩
theorem tK(i:Nat)(hN:X.N.Nodup)(hi:X.N[i]?=some x)(hx:JK X x k)(hl:lK k=true)(hf:X.fn x=true\/k=.local:=by first|exact .inl rfl|exact .inr rfl):JG X cA ao aj F EX (.Name x pos) (.nm i):=⟨zgV hN hi (xQ hx hl) (xR hx hf)⟩
theorem Ng(i j:Nat){k0}(hc:X.aj=true)(eE:aj=true)(hN:X.N.Nodup)(hi:X.N[i]?=some x)(hj:X.N[j]?=some y)(hx:JK X x k)(hy:JK X y k')(Nb:lK k=true)(Nf:lK k'=true)(sY:X.fn x=true\/k=.local:=by first|exact .inl rfl|exact .inr rfl)(sZ:X.fn y=true\/k'=.local:=by first|exact .inl rfl|exact .inr rfl) :
  JG X cA ao aj F EX (.Tuple [.Name x px,.Name y py] k0 pos) (.tp [i,j]):=⟨zhV hc eE hN hi hj (xQ hx Nb) (xQ hy Nf) (xR hx sY) (xR hy sZ)⟩
theorem oO(hp:JH X)(hc:X.aj=true)(eE:aj=true)(ha:JI X cA ao aj (F aj) EX tg a w)(hg:JG X cA ao aj F EX tg t)(hb:JB X cA ao aj F EX body mb)(hs:∀x,foldedSetIterable a X.env x=pure x:=by intro _;rfl):JS X cA ao aj F EX (.For tg a body [] pos) (.fr t w mb):=
 ⟨zjR hp.o hc eE ha.o hg.o hb.o hs⟩
end
theorem zic{P:Program}{w:World}{K:W.Frag}{mg:Str->Option Value}{base:Heap}{cA:Cl}{ao:Nat->Nat->Bool}{T:Nat->Option Df}{x qual:Str}{st:Stmt}{f:Addr}{fd:FuncData}{N ps:List Str}{k n:Nat}{cm:Bool}{df:Df}(F:qO K x qual st f fd)(S:dU N ps (au st))(hT:T n=some df)(hp:df.g_=ps.length)(hm:df.many=N.length)
  (hb:∀(cdv:Value) (A:Around) (outer:List Env) (s:Shared) (H:Hp) (E:XK),cD k (A.deeper (envOfC qual (au st) s.heap.objs.size f cdv))->
   JB (gH (i_ P w) P w K mg base N qual (au st) f cdv A outer s H E cm) cA ao cm (λc=>call ao T k c) (λ_ C dx H'=>E C dx H') (aO st) df.body) :
  dB P w K mg base (i_ P w) cm (k+1) f fd ps (pR K cA (call ao T (k+1) cm n)):=ziI F S hT hp hm λcdv A outer s H E hr=>(hb cdv A outer s H E hr).o
end Mi
namespace Mi
open PySem PySem.Spec PyProof.Rows L2 PySem.W
theorem zjL{fd:FuncData}{x:Str}{st:Stmt}(h:oG fd=qD x st):fd=fnOf x x (aV st) (aO st) (au st) .none fd.kwdefaults fd.doc fd.pyModule fd.annotations fd.code fd.closureTuple:=by
 cases fd;unfold oG qD at h;cases h;rfl
noncomputable def h_(K:Frag)(x:Str):Addr:=match vQ K x with
 |some p=>p.1
 |none=>0
noncomputable def fdOf(K:Frag)(x:Str)(st:Stmt):FuncData:=match vQ K x with
 |some p=>p.2
 |none=>qD x st
structure FnAt(K:Frag)(x:Str)(st:Stmt):Prop where
 ns:nsIn K mainGlobals x=some (some (.ref (h_ K x)))
 fn:qO K x x st (h_ K x) (fdOf K x st)
theorem zkV{K:Frag}{x:Str}{st:Stmt}(h:(vQ K x).map (λp=>oG p.2)=some (qD x st)):FnAt K x st:=by
 cases e:vQ K x with
 |none=>rw[e] at h;cases h
 |some p=>
  rw[e] at h;have hp:oG p.2=qD x st:=bR h;have h1:h_ K x=p.1:=by unfold h_;rw[e]
  have h2:fdOf K x st=p.2:=by unfold fdOf;rw[e]
  unfold vQ at e;split at e
  ·rename_i f hf;split at e
   ·rename_i oc od fd sl hl;split at e
    ·rename_i hc;cases e;rw[fK] at hc;refine⟨by rw[h1];exact hf,?_⟩;rw[h1,h2];exact⟨⟨oc,od,_,_,_,_,_,_,sl,zjL hp,hl,hc.1⟩,hc.2⟩
    ·cases e
   ·cases e
  ·cases e
theorem FnAt.m{K:Frag}{x:Str}{st:Stmt}(F:FnAt K x st){h:Heap}{mg:Str->Option Value}(X:K.In h)(G:h.Ns mainGlobals mg):mg x=some (.ref (h_ K x)):=mg_of X G F.ns
theorem T_{K:Frag}{x:Str}{i:Int}(h:jA K (x,i)=true){hp:Heap}{mg:Str->Option Value}(X:K.In hp)(G:hp.Ns mainGlobals mg):∃t,mg x=some (.int i t):=by
 unfold jA at h;split at h
 ·rename_i j t e;rw[j_] at h;subst h;exact⟨t,mg_of X G e⟩
 ·cases h
theorem mQ{K:Frag}{x:Str}(h:mY K x=true){hp:Heap}{mg:Str->Option Value}(X:K.In hp)(G:hp.Ns mainGlobals mg):mg x=none:=by
 refine mg_none_of X G ?_;unfold mY at h;split at h
 ·rename_i e;exact e
 ·cases h
structure vp(l:Lk)(K:Frag):Prop where
 cl:∀x∈l.Aj,Ah K x=true
 cs:l.Aj.isEmpty=true\/uE K (l.L K)=true
 ra:∀k∈l.Qw,Ai K (gC (l.L K) k)=true
 ca:∀k∈l.Qx,subB K (l.L K) k=true
 it:∀p∈l.yJ,jA K p=true
 no:∀x∈l.Qv,mY K x=true
theorem Kab{l:Lk}{K:Frag}(h:l.good K=true):vp l K:=by
 unfold Lk.good at h;simp only[fK,Gd,k_] at h;obtain⟨⟨⟨⟨⟨h1,h2⟩,h3⟩,h4⟩,h5⟩,h6⟩:=h;exact⟨h1,h2,h3,h4,h5,h6⟩
theorem tL{K:Frag}{x:Str}{st:Stmt}{f:Addr}{fd:FuncData}{p:Str}(F:qO K x x st f fd)(h:∀(kV doc pm:Value) (an:Option Addr) (cdv ct a:Value),bindArgs (fnOf x x (aV st) (aO st) (au st) .none kV doc pm an cdv ct) ⟨[a],[]⟩=pure [(p,a)]):Binds K fd [p] []:=by
 obtain⟨oc,od,kV,doc,pm,an,cdv,ct,osl,rfl,lk,lu⟩:=F.ex;exact xH (h kV doc pm an cdv ct)
theorem tM{K:Frag}{x:Str}{st:Stmt}{f:Addr}{fd:FuncData}{p q:Str}(F:qO K x x st f fd)(h:∀(kV doc pm:Value) (an:Option Addr) (cdv ct a b:Value),bindArgs (fnOf x x (aV st) (aO st) (au st) .none kV doc pm an cdv ct) ⟨[a,b],[]⟩=pure [(p,a),(q,b)]):Binds K fd [p,q] []:=by
 obtain⟨oc,od,kV,doc,pm,an,cdv,ct,osl,rfl,lk,lu⟩:=F.ex;exact xJ (h kV doc pm an cdv ct)
theorem tO{K:Frag}{x:Str}{st:Stmt}{f:Addr}{fd:FuncData}{p q t:Str}(F:qO K x x st f fd)(h:∀(kV doc pm:Value) (an:Option Addr) (cdv ct a b c:Value),bindArgs (fnOf x x (aV st) (aO st) (au st) .none kV doc pm an cdv ct) ⟨[a,b,c],[]⟩=pure [(p,a),(q,b),(t,c)]):Binds K fd [p,q,t] []:=by
 obtain⟨oc,od,kV,doc,pm,an,cdv,ct,osl,rfl,lk,lu⟩:=F.ex;exact xK (h kV doc pm an cdv ct)
theorem xT{K:Frag}{x:Str}{st:Stmt}{f:Addr}{fd:FuncData}{p:Str}(F:qO K x x st f fd)(h:∀(kV doc pm:Value) (an:Option Addr) (cdv ct a:Value),bindArgs (fnOf x x (aV st) (aO st) (au st) .none kV doc pm an cdv ct) ⟨[a],[]⟩=pure [(p,a)]):∀(s:Shared) (u:Value),BindsTo s fd ⟨[u],[]⟩ [(p,u)]:=by
 obtain⟨oc,od,kV,doc,pm,an,cdv,ct,osl,rfl,lk,lu⟩:=F.ex;exact λs u=>.of_eq (h kV doc pm an cdv ct u)
end Mi
namespace Mi
open PySem PySem.Spec PyProof.Rows L2
section
variable {K:W.Frag}{cA:Cl}{U:Ph}{H:Hp}
theorem aB.DW(r:aB K cA U H xs ys):∀l:List Nat,aB K cA U H (l.map λi=>xs.getD i .non) (l.map λi=>ys.getD i .non)
 |[]=>.nil
 |i::l=>by
  refine .cons ?_ (aB.DW r l);show Rep K cA U H (xs.getD i .non) (ys.getD i .non);cases e:xs[i]? with
  |some x=>
   obtain⟨u,e1,e2⟩:=r.get e;rw[ji,ji,e,e1];exact e2
  |none=>
   have e1:ys[i]?=Option.none:=r.none e;rw[ji,ji,e,e1];exact .non
theorem aB.mem(r:aB K cA U H xs ys):∀v∈ys,∃d∈xs,Rep K cA U H d v:=by
 intro v hv;obtain⟨i,hi,e⟩:=Jh hv;have e':ys[i]?=some v:=by rw[gj hi,e]
 cases ex:xs[i]? with
 |none=>rw[r.none ex] at e';cases e'
 |some d=>
  obtain⟨u,e1,e2⟩:=r.get ex;rw[e1] at e';cases e';exact⟨d,fU ex,e2⟩
theorem Ua:∀{us ws:List D} {xs ys:List V},aB K cA U H us xs->aB K cA U H ws ys->∀{b:Bool},jf us ws=some b->jd xs ys=some b
 |[],ws,_,ys,r1,r2,b,h=>by
  cases r1;unfold jf at h;unfold jd;rw[<-r2.len];exact h
 |_::_,[],_,_,r1,r2,b,h=>by
  cases r2;cases r1;unfold jf at h;unfold jd;exact h
 |x::us,y::ws,_,_,r1,r2,b,h=>by
  cases r1 with
  |cons a1 b1=>
   cases r2 with
   |cons a2 b2=>
    unfold jf at h;split at h
    ·rename_i z;cases z
    ·rename_i z;cases z
    ·rename_i p ps q qs e1 e2;cases e1;cases e2;cases a1;cases a2;unfold jd;by_cases e:p=q
     ·rw[if_pos e] at h ⊢;exact Ua b1 b2 h
     ·rw[if_neg e] at h ⊢;exact h
    ·cases h
theorem zfL(r:aB K cA U H xs ys)(h:(xs.all gJ||xs.all fj)=true):pH K H ys (pI xs):=by
 rw[Gd] at h;rcases h with h|h
 ·left
  rw[k_] at h;refine⟨λv hv=>?_,λi j b e=>?_⟩
  ·obtain⟨d,hd,q⟩:=r.mem v hv;have:=h d hd;cases q<;>first|exact⟨_,rfl⟩|cases this
  ·unfold pI at e;cases e1:xs[i]? with
   |none=>rw[e1] at e;cases e
   |some d1=>
    cases e2:xs[j]? with
    |none=>rw[e1,e2] at e;cases d1<;>cases e
    |some d2=>
     have h1:=h d1 (fU e1);have h2:=h d2 (fU e2);rw[e1,e2] at e;obtain⟨v1,a1,b1⟩:=r.get e1;obtain⟨v2,a2,b2⟩:=r.get e2;cases d1<;>first|cases h1|skip
     cases d2<;>first|cases h2|skip
     cases b1;cases b2;cases e;exact⟨_,_,a1,a2,rfl⟩
 ·right
  rw[k_] at h;refine⟨λv hv=>?_,λi j b e=>?_⟩
  ·obtain⟨d,hd,q⟩:=r.mem v hv;have:=h d hd;unfold fj at this;split at this
   ·cases q with
    |tup t r'=>
     cases r' with
     |cons a1 b1=>
      cases a1;exact⟨_,_,_,rfl,t.iQ⟩
   ·cases this
  ·unfold pI at e;cases e1:xs[i]? with
   |none=>rw[e1] at e;cases e
   |some d1=>
    cases e2:xs[j]? with
    |none=>rw[e1,e2] at e;cases d1<;>cases e
    |some d2=>
     have h1:=h d1 (fU e1);have h2:=h d2 (fU e2);rw[e1,e2] at e;obtain⟨v1,a1,b1⟩:=r.get e1;obtain⟨v2,a2,b2⟩:=r.get e2;unfold fj at h1 h2;split at h1
     ·split at h2
      ·cases b1 with
       |tup t1 r1=>
        cases b2 with
        |tup t2 r2=>exact⟨_,_,_,_,a1,a2,t1.iQ,t2.iQ,Ua r1 r2 e⟩
      ·cases h2
     ·cases h1
theorem zev:aX K cA .sorted (λxs H Q=>∃l ys lt p,xs=[.ref l]/\cW K H l ys/\ys.length<64/\(2<=ys.length->pH K H ys lt/\aZ lt (PySem.W.kas_sort ys.length)=some p/\p.size=ys.length)/\∀r,H r=none->Q (.ref r) (upd H r (.lst (je ys p)))):=by
 intro U H ds vs Q zt rs o;have o:bw K cA U H (jQ ds) Q:=o;unfold jQ at o;split at o
 ·rename_i xs _;obtain⟨v,rfl,r1⟩:=rs.one;obtain⟨z,e⟩:=o.some';obtain⟨zs,e1,e2⟩:=kZ.mp e;subst e2;obtain⟨a,us,rfl,sq,q⟩ : ∃a us,v=.ref a/\cW K H a us/\aB K cA U H xs us:=r1;have hl:=q.len;unfold pJ at e1;by_cases hk:(xs.all gJ||xs.all fj)=true
  ·rw[if_pos hk] at e1;unfold lG at e1;by_cases h2:xs.length<2
   ·rw[if_pos h2] at e1;cases e1;refine⟨a,us,λ_ _=>none,#[],rfl,sq,by lia,λz=>absurd z gV,λr hr=>?_⟩;have:je us #[]=us:=by unfold je;rw[if_pos gV]
    rw[this];exact(o.of e) r us hr q
   ·rw[if_neg h2] at e1;by_cases h64:xs.length<64
    ·rw[if_pos h64] at e1;cases ek:aZ (pI xs) (PySem.W.kas_sort xs.length) with
     |none=>rw[ek] at e1;cases e1
     |some p=>
      rw[ek] at e1;dsimp only at e1;by_cases hp:p.size=xs.length
      ·rw[if_pos hp] at e1;cases e1;refine⟨a,us,pI xs,p,rfl,sq,by lia,λ_=>⟨zfL q hk,by rw[<-hl];exact ek,by lia⟩,λr hr=>?_⟩;have:je us p=p.toList.map λi=>us.getD i .non:=by unfold je;rw[if_neg gV]
       rw[this];exact(o.of e) r _ hr (q.DW p.toList)
      ·rw[if_neg hp] at e1;cases e1
    ·rw[if_neg h64] at e1;cases e1
  ·rw[if_neg hk] at e1;cases e1
 ·exact o.elim
end
section
variable {X:Cx}{cA:Cl}{ao:Nat->Nat->Bool}{aj:Bool}{F:Fn}{EX:XS}{e:Expr}{pos p:Pos}{es:List Expr}{Xs:Es}{fz:Bool}
theorem zcN:bootBuiltins "sorted"=some (.builtin "sorted"):=by decide +kernel
theorem Ub(hm:X.mg "sorted"=none)(hg:JK X "sorted" .globalImplicit)(ha:JA X cA ao aj F EX (e::es) Xs)(he:aH e=true:=by rfl)(c7:es.all aH=true:=by rfl):JE X cA ao aj F EX (.Call (.Name "sorted" p) (e::es) [] pos) (.pr fz .sorted Xs):=⟨xG zcL zev hg.o hm zcN ha.o Dc Dc (bC he) (bH c7)⟩
end
section
variable {K:W.Frag}{cA:Cl}{U:Ph}{H:Hp}
theorem Hz:∀{xs:List D} {k i:Nat},(enumFrom k xs)[i]?=(xs[i]?).map λd=>.tup [.int ((k+i:Nat):Int),d]
 |[],k,i=>by simp[enumFrom]
 |x::r,k,0=>by simp[enumFrom]
 |x::r,k,i+1=>by
  unfold enumFrom;rw[yp,yp,Hz]
  congr 1
  funext d
  rw[show k+1+i=k+(i+1) by lia]
noncomputable def oE(K:W.Frag)(U:Ph)(H:Hp):Bool->Addr->List V->Prop
 |true,a,vs=>LstAt K U H a vs
 |false,a,vs=>TupAt K U H a vs
theorem oE.sk{kd:Bool}{a:Addr}{vs:List V}(h:oE K U H kd a vs):Sk kd K H a vs:=by
 cases kd
 ·exact TupAt.iQ h
 ·exact LstAt.oM h
theorem oE.later{U':Ph}{H₁ H':Hp}{kd:Bool}{a:Addr}{vs:List V}(hz:∀a∈U.l,U.z a)(h:oE K U H kd a vs)(x:Ext U H U' H₁)(o:dh U' H₁ H'):oE K U' H' kd a vs:=by
 cases kd
 ·exact TupAt.later hz h x o
 ·exact LstAt.later hz h x o
theorem iB.enum{kd:Bool}{l:Addr}{xs:List D}{vs:List V}(hz:∀a∈U.l,U.z a)(h:oE K U H kd l vs)(r:aB K cA U H xs vs):iB K cA (.fix (enumFrom 0 xs)) U H (Ite K kd l):=by
 refine⟨λU' H₁ H' s' i x o hS e=>⟨vs,(h.later hz x o).sk,?_⟩,λU' H₁ H' s' i d x o hS e=>?_,λU' H₁ H' s' i d v H2 x o hS e y=>?_⟩
 ·have e:(enumFrom 0 xs)[i]?=none:=bR e;rw[Hz,Option.map_eq_none_iff] at e;exact lO.mp ((r.mono x hz).none e)
 ·have e:(enumFrom 0 xs)[i]?=some d:=bR e;rw[Hz] at e;obtain⟨d',e',_⟩:=kZ.mp e;obtain⟨v,q,_⟩:=r.get e';exact⟨vs,v,(h.later hz x o).sk,q⟩
 ·have e:(enumFrom 0 xs)[i]?=some d:=bR e;rw[Hz] at e;obtain⟨d',e',rfl⟩:=kZ.mp e;obtain⟨a,u,hn,rfl,rfl,hu⟩:=y;obtain⟨w,q,jL⟩:=((r.mono x hz).out o).get e';have:=hu vs (h.later hz x o).sk;rw[q] at this;cases this;have g:bA H' (upd H' a (.tup [.int i,u])):=bA.new hn;refine⟨g,?_⟩;rw[show ((0+i:Nat):Int)=(i:Int) by simp];exact .tup (.inl ⟨.inl lq,hS.nz hn⟩) (.cons (.int _) (.cons (jL.mono g.ext hS.lz) .nil))
theorem Nh(h:(Src.jr n).at i s=some o):∃xs,s[n]?=some (.lst xs)/\(xs[i]?.map λx=>D.tup [.int i,x])=o:=by
 unfold Src.at at h;dsimp only at h;cases e:s[n]? with
 |none=>rw[e] at h;cases h
 |some ob=>
  rw[e] at h;cases ob with
  |lst xs=>exact⟨xs,rfl,bR h⟩
  |_=>cases h
theorem iB.jr{a:Addr}{n:Nat}(h:U.l[n]?=some a):iB K cA (.jr n) U H (Ite K true a):=by
 refine⟨λU' H₁ H' s' i x o hS e=>?_,λU' H₁ H' s' i d x o hS e=>?_,λU' H₁ H' s' i d v H2 x o hS e y=>?_⟩
 ·obtain⟨xs,e1,e2⟩:=Nh e;rw[Option.map_eq_none_iff] at e2;obtain⟨vs,q1,q2⟩:=hS.obj n _ a e1 (x.get h);exact⟨vs,cW.of q1,lO.mp (q2.none e2)⟩
 ·obtain⟨xs,e1,e2⟩:=Nh e;obtain⟨d',e',_⟩:=kZ.mp e2;obtain⟨vs,q1,q2⟩:=hS.obj n _ a e1 (x.get h);obtain⟨v,q3,_⟩:=q2.get e';exact⟨vs,v,cW.of q1,q3⟩
 ·obtain⟨xs,e1,e2⟩:=Nh e;obtain⟨d',e',rfl⟩:=kZ.mp e2;obtain⟨vs,q1,q2⟩:=hS.obj n _ a e1 (x.get h);obtain⟨w,q3,jL⟩:=q2.get e';obtain⟨b,u,hn,rfl,rfl,hu⟩:=y;have:=hu vs (cW.of q1);rw[q3] at this;cases this;have g:bA H' (upd H' b (.tup [.int i,w])):=bA.new hn;exact⟨g,.tup (.inl ⟨.inl lq,hS.nz hn⟩) (.cons (.int _) (.cons (jL.mono g.ext hS.lz) .nil))⟩
end
section
variable {X:Cx}{cA:Cl}{ao:Nat->Nat->Bool}{aj:Bool}{F:Fn}{EX:XS}{a b:Expr}{A B:E}{pos pp tpos:Pos}{elts:List Expr}{kk:Nat}
theorem zhK(mO:Gl X "enumerate")(hmg:X.mg "enumerate"=none)(hb:SE X cA ao aj F EX b B)(h2:starEach [b] X.env=(false,eval b X.env)::starEach [] X.env) :
  SI X cA ao aj F EX (.Tuple elts kk tpos) (.Call (.Name "enumerate" pp) [b] [] pos) (.enum B):=PI.weak (zhD mO hmg (qI hb wA h2) (by rw[h2];rfl)) λZ H R hh=>un hh λU J s hL hS h=>by
 refine bD hL hS h λy H2 U2 d2 s2 x2 hL2 aU r2 h2=>?_;cases r2 with
 |@l n ad hl=>
  unfold Run nD at h2;dsimp only at h2;cases e:s2[n]? with
  |none=>rw[e] at h2;exact h2.elim
  |some o=>
   rw[e] at h2;cases o with
   |lst xs=>
    obtain⟨vs,q1,q2⟩:=aU.obj n _ _ e hl;exact⟨true,_,_,rfl,cW.of q1,h2 U2 H2 Ext.refl aU _ (iB.jr hl)⟩
   |_=>exact h2.elim
 |d r2=>
  cases r2 with
  |fl q r=>exact⟨true,_,_,rfl,q.oM,h2 U2 H2 Ext.refl aU _ (iB.enum (kd:=true) aU.lz q r)⟩
  |tup q r=>exact⟨false,_,_,rfl,q.iQ,h2 U2 H2 Ext.refl aU _ (iB.enum (kd:=false) aU.lz q r)⟩
  |_=>exact h2.elim
end
section
variable {X:Cx}{cA:Cl}{ao:Nat->Nat->Bool}{aj:Bool}{F:Fn}{EX:XS}{a b:Expr}{A B:E}{pos p tpos:Pos}{elts:List Expr}{kk:Nat}
theorem ziz(hmg:X.mg "enumerate"=none)(mO:JK X "enumerate" .globalImplicit)(hb:JE X cA ao aj F EX b B)(h2:aH b=true:=by rfl):JI X cA ao aj F EX (.Tuple elts kk tpos) (.Call (.Name "enumerate" p) [b] [] pos) (.enum B):=⟨zhK mO.o hmg hb.o (bC h2)⟩
end
end Mi
namespace Mi
open PySem PySem.Spec PyProof.Rows L2 PySem.W
theorem zg7{fd:FuncData}{q:Str}{st:Stmt}(h:oG fd=vR q st):fd=fnOf "__init__" q (aV st) (aO st) (au st) .none fd.kwdefaults fd.doc fd.pyModule fd.annotations fd.code fd.closureTuple:=by
 cases fd;unfold oG vR at h;cases h;rfl
structure DX(K:Frag)(C:Addr)(q:Str)(st:Stmt):Prop where
 ex:∃(fI:Addr) (od:Option Addr) (kV doc pm:Value) (an:Option Addr) (cdv ct:Value) (osl:Array (Option Value)) (cd:ClassData),
  K.lookup fI=some ⟨.type "function",od,.func (fnOf "__init__" q (aV st) (aO st) (au st) .none kV doc pm an cdv ct),osl⟩/\codeIn K cdv q=true/\o7 K C fI=true/\clsIn K C=some cd/\oZ cd.mro=true/\cd.hasDict=true
theorem zkw{K:Frag}{C:Addr}{q:Str}{st:Stmt}(h:(Ak K C).map oG=some (vR q st)):DX K C q st:=by
 cases e:Ak K C with
 |none=>rw[e] at h;cases h
 |some fd=>
  rw[e] at h;have hp:oG fd=vR q st:=bR h;unfold Ak at e;split at e
  ·rename_i cd lu;split at e
   ·rename_i f hf;split at e
    ·rename_i od fd' sl hl;split at e
     ·rename_i hc;cases e;simp only[fK] at hc;obtain⟨⟨⟨c1,c2⟩,c3⟩,c4⟩:=hc;have eq:=zg7 hp;have qn:fd.qualname=q:=by rw[eq]
      refine⟨⟨f,od,fd.kwdefaults,fd.doc,fd.pyModule,fd.annotations,fd.code,fd.closureTuple,sl,cd,?_,by rw[<-qn];exact c1,c2,lu,c3,c4⟩⟩;rw[<-eq];exact hl
     ·cases e
    ·cases e
   ·cases e
  ·cases e
theorem zkM{K:Frag}{C:Addr}{f:Str}(h:Gi K C f=true):XF K C f:=by
 unfold Gi at h;simp only[fK,yI] at h;obtain⟨⟨⟨⟨h1,h2⟩,h3⟩,h4⟩,h5⟩:=h;exact⟨h1,h2,h3,h4,h5⟩
structure gU(fs:List (Str×Stmt))(ms:List rC)(xs:List (Nat×Str))(l:Lk)(K:Frag):Prop where
 fn:∀p∈fs,FnAt K p.1 p.2
 gd:vp l K
 mi:∀m∈ms,DX K (gC (l.L K) m.c) m.q m.st
 se:∀m∈ms,setB K (gC (l.L K) m.c) m.fs=true
 xf:∀x∈xs,XF K (gC (l.L K) x.1) x.2
theorem Ni{a:Nat}{o:Obj}:∀{l:List Obj} {i:Nat},((a:Addr),o)∈Al i l->i<=a/\l[a-i]?=some o/\o.isFreed=false
 |[],i,h=>by cases h
 |p::r,i,h=>by
  unfold Al at h;split at h
  ·obtain⟨h1,h2,h3⟩:=Ni h;refine⟨by lia,?_,h3⟩;rw[show a-i=(a-(i+1))+1 by lia];exact h2
  ·rename_i hf;rcases iy.mp h with e|h
   ·cases e;exact⟨bT _,by simp,hf⟩
   ·obtain⟨h1,h2,h3⟩:=Ni h;refine⟨by lia,?_,h3⟩;rw[show a-i=(a-(i+1))+1 by lia];exact h2
theorem Uc:∀{K:Frag},K.lookup a=some o->(a,o)∈K
 |[],h=>by cases h
 |(b,p)::r,h=>by
  rw[nW] at h;by_cases e:a=b
  ·subst e;simp only[yE] at h;cases h;exact mV
  ·rw[show (a==b)=false by simpa using e] at h;exact iD _ (Uc h)
theorem zgh:(bM h).In h:=λa o e=>by
 have hm:=Uc e;unfold bM at hm;rcases iG.mp hm with z|z
 ·unfold mZ at z;split at z
  ·rename_i p hp;rcases iy.mp z with e|z
   ·cases e;exact hp
   ·cases z
  ·cases z
 ·obtain⟨_,h2,h3⟩:=Ni (List.mem_reverse.mp z);rw[Heap.get?_some_iff];refine⟨?_,h3⟩;have:h.objs.toList[a]?=some o:=by simpa using h2
  simpa using this
noncomputable def jw(fs:List (Str×Stmt))(ms:List rC)(xs:List (Nat×Str))(l:Lk):Hook where
 α:=List (Option FuncData)×List (Option FuncData)×Bool
 obs:=nZ fs ms xs l
 val:=o8 fs ms
 says:=λ_ h=>∃K:Frag,K.In h/\gU fs ms xs l K
 of:=λw s e=>by
  have e3:(_&&_&&_)=true:=uD (λx=>x.2.2) e;rw[fK,fK,k_,k_] at e3;refine⟨bM s.heap,zgh,⟨λp hp=>?_,Kab e3.1.1,λm hm=>?_,e3.1.2,λx hx=>zkM (e3.2 x hx)⟩⟩
  ·have e1:=uD Prod.fst e;exact zkV (List.map_inj_left.mp e1 p hp)
  ·have e1:=uD (λx=>x.2.1) e;exact zkw (List.map_inj_left.mp e1 m hm)
 keeps:=λw h h' ⟨K,X,Y⟩ k=>⟨K,X.keeps k,Y⟩
theorem DY{l:OpenLaw}{k:Nat}{q:Program}{loose:List Str}{XP:(Str->Option Value)->Heap->Prop}{fs:List (Str×Stmt)}{ms:List rC}{xs:List (Nat×Str)}{lk:Lk}{d:DefRec}{x:Str}(hn:l.most=some 63)(Ky:d.params.defaults=[])(hr:cD k callerA)
  (F:∀(w:World) (K:Frag) (mg:Str->Option Value) (fa:Addr) (h:Heap),gU fs ms xs lk K->K.In h->h.Ns mainGlobals mg->mg d.name=some (.ref fa)->
   ∃fd:FuncData,(∀(s:Shared) (u:Value),BindsTo s fd ⟨[u],[]⟩ [(x,u)])/\∀base:Heap,K.In base->base.Ns mainGlobals mg->dB l.prog w K mg base (i_ l.prog w) true k fa fd [x] (pX K)) :
  WalkO q loose XP (jw fs ms xs lk).says l.row.toRowW d [] (λf vs=>PySem.call f vs):=by
 refine Rp.lD hn Ky λw s₀ s₁ mg mb fa o pm cd doc a vs ns G Y ho hd lu hmg wI hints hlen hg=>?_;obtain⟨K,KX,SY⟩:=Y;obtain⟨fd,hb,hF⟩:=F w K mg fa _ SY KX G.T.g hmg;exact zgq KX G.T.g G.T.b G.T.builtins G.T.nolimit hg wI hints (kj hlen Dc) hr hF hb (λH hO hS=>⟨a,ns,rfl,hS,hlen,hO,λ_=>rfl⟩) λH e s' h=>by
  obtain⟨_,_,_,_,_,_,_,_,_,_,z⟩:=h;exact z
end Mi
namespace Mi
open PySem PySem.Spec PyProof.Rows L2
section
variable {K:W.Frag}{cA:Cl}{U:Ph}{H:Hp}
noncomputable def gW(K:W.Frag)(U:Ph)(H:Hp):Bool->Addr->List V->Prop
 |true,a,vs=>LstAt K U H a vs
 |false,a,vs=>TupAt K U H a vs
theorem gW.sk{kd:Bool}{a:Addr}{vs:List V}(h:gW K U H kd a vs):Sk kd K H a vs:=by
 cases kd
 ·exact TupAt.iQ h
 ·exact LstAt.oM h
theorem gW.later{kd:Bool}{a:Addr}{vs:List V}{U':Ph}{H₁ H':Hp}(hz:∀a∈U.l,U.z a)(h:gW K U H kd a vs)(x:Ext U H U' H₁)(o:dh U' H₁ H'):gW K U' H' kd a vs:=by
 cases kd
 ·exact TupAt.later hz h x o
 ·exact LstAt.later hz h x o
theorem Nj{xs ys:List D}{i:Nat}:(List.zipWith (λp q=>D.tup [p,q]) xs ys)[i]?=match xs[i]?,ys[i]? with
  |some p,some q=>some (.tup [p,q])
  |_,_=>none:=by
 rw[List.getElem?_zipWith];cases xs[i]?<;>cases ys[i]?<;>rfl
theorem iB.zip{k1 k2:Bool}{l1 l2:Addr}{xs ys:List D}{us vs:List V}(hz:∀a∈U.l,U.z a)(h1:gW K U H k1 l1 us)(h2:gW K U H k2 l2 vs)(r1:aB K cA U H xs us)(r2:aB K cA U H ys vs):iB K cA (.fix (List.zipWith (λp q=>D.tup [p,q]) xs ys)) U H (Lb K k1 k2 l1 l2):=by
 refine⟨λU' H₁ H' s' i x o hS e=>?_,λU' H₁ H' s' i d x o hS e=>?_,λU' H₁ H' s' i d v H2 x o hS e y=>?_⟩
 ·have e:(List.zipWith (λp q=>D.tup [p,q]) xs ys)[i]?=none:=bR e;rw[Nj] at e;refine⟨us,vs,(h1.later hz x o).sk,(h2.later hz x o).sk,?_⟩;cases ex:xs[i]? with
  |none=>exact .inl (lO.mp (r1.none ex))
  |some p=>
   cases ey:ys[i]? with
   |none=>exact .inr (lO.mp (r2.none ey))
   |some q=>rw[ex,ey] at e;cases e
 ·have e:(List.zipWith (λp q=>D.tup [p,q]) xs ys)[i]?=some d:=bR e;rw[Nj] at e;cases ex:xs[i]? with
  |none=>rw[ex] at e;cases e
  |some p=>
   cases ey:ys[i]? with
   |none=>rw[ex,ey] at e;cases e
   |some q=>
    obtain⟨u,q1,_⟩:=r1.get ex;obtain⟨v,q2,_⟩:=r2.get ey;exact⟨us,vs,u,v,(h1.later hz x o).sk,(h2.later hz x o).sk,q1,q2⟩
 ·have e:(List.zipWith (λp q=>D.tup [p,q]) xs ys)[i]?=some d:=bR e;rw[Nj] at e;cases ex:xs[i]? with
  |none=>rw[ex] at e;cases e
  |some p=>
   cases ey:ys[i]? with
   |none=>rw[ex,ey] at e;cases e
   |some q=>
    rw[ex,ey] at e;cases e;obtain⟨a,u,w,hn,rfl,rfl,hu,hw⟩:=y;obtain⟨u',q1,ru⟩:=((r1.mono x hz).out o).get ex;obtain⟨w',q2,jL⟩:=((r2.mono x hz).out o).get ey;have e1:=hu us (h1.later hz x o).sk;have e2:=hw vs (h2.later hz x o).sk;rw[q1] at e1;rw[q2] at e2;cases e1;cases e2;have g:bA H' (upd H' a (.tup [u,w])):=bA.new hn;exact⟨g,.tup (.inl ⟨.inl lq,hS.nz hn⟩) (.cons (ru.mono g.ext hS.lz) (.cons (jL.mono g.ext hS.lz) .nil))⟩
theorem Ud(r:aW K cA U H x v)(h:Run K cA (M.bd (mJ x) k) U H s P Ee) :
  ∃xs kd a vs,v=.ref a/\gW K U H kd a vs/\aB K cA U H xs vs/\Run K cA (k xs) U H s P Ee:=by
 cases r with
 |l _=>exact h.elim
 |d r=>
  cases r with
  |tup q r=>exact⟨_,false,_,_,rfl,q,r,h⟩
  |fl q r=>exact⟨_,true,_,_,rfl,q,r,h⟩
  |_=>exact h.elim
end
section
variable {X:Cx}{cA:Cl}{ao:Nat->Nat->Bool}{aj:Bool}{F:Fn}{EX:XS}{a b:Expr}{A B:E}{pos pp tpos:Pos}{elts:List Expr}{kk:Nat}
theorem ziT(mO:Gl X "zip")(hmg:X.mg "zip"=none)(ha:SE X cA ao aj F EX a A)(hb:SE X cA ao aj F EX b B)(h1:starEach [a,b] X.env=(false,eval a X.env)::starEach [b] X.env)(h2:starEach [b] X.env=(false,eval b X.env)::starEach [] X.env) :
  SI X cA ao aj F EX (.Tuple elts kk tpos) (.Call (.Name "zip" pp) [a,b] [] pos) (.zip A B):=PI.weak (zjH mO hmg (qI ha (qI hb wA h2) h1) (by rw[h1,h2];rfl) (by rw[h2];rfl)) λZ H R hh=>un hh λU J s hL hS h=>by
 refine bD hL hS h λx H1 U1 d1 s1 x1 hL1 aM r1 h1=>bD hL1 aM h1 λy H2 U2 d2 s2 x2 hL2 aU r2 h2=>?_;obtain⟨xs,k1,l1,us,e1,q1,p1,h3⟩:=Ud (r1.mono x2 aM.lz) h2;obtain⟨ys,k2,l2,vs,e2,q2,p2,h4⟩:=Ud r2 h3;subst e1 e2;exact⟨k1,k2,l1,l2,us,vs,rfl,q1.sk,q2.sk,(h4.bN aU) _ (iB.zip aU.lz q1 q2 p1 p2)⟩
theorem zk3(hmg:X.mg "zip"=none)(mO:JK X "zip" .globalImplicit)(ha:JE X cA ao aj F EX a A)(hb:JE X cA ao aj F EX b B)(h1:aH a=true:=by rfl)(h2:aH b=true:=by rfl):JI X cA ao aj F EX (.Tuple elts kk tpos) (.Call (.Name "zip" p) [a,b] [] pos) (.zip A B):=⟨ziT mO.o hmg ha.o hb.o (bC h1) (bC h2)⟩
end
end Mi
namespace Mi
open PySem PySem.Spec PyProof.Rows L2 PySem.W
theorem xU{K:W.Frag}{fd:FuncData}{p q t u v:Str}(h:∀a b c d e,bindArgs fd ⟨[a,b,c,d,e],[]⟩=pure [(p,a),(q,b),(t,c),(u,d),(v,e)]):Binds K fd [p,q,t,u,v] []:=.all λus hl=>by
 match us,hl with
 |[a,b,c,d,e],_=>exact h a b c d e
theorem tQ{K:Frag}{x:Str}{st:Stmt}{f:Addr}{fd:FuncData}{p q t u v:Str}(F:qO K x x st f fd)(h:∀(kV doc pm:Value) (an:Option Addr) (cdv ct a b c d e:Value),bindArgs (fnOf x x (aV st) (aO st) (au st) .none kV doc pm an cdv ct) ⟨[a,b,c,d,e],[]⟩=pure [(p,a),(q,b),(t,c),(u,d),(v,e)]):Binds K fd [p,q,t,u,v] []:=by
 obtain⟨oc,od,kV,doc,pm,an,cdv,ct,osl,rfl,lk,lu⟩:=F.ex;exact xU (h kV doc pm an cdv ct)
structure D3(K:Frag)(mg:Str->Option Value)(x:Str)(st:Stmt)(ps:List Str):Prop where
 f:qO K x x st (h_ K x) (fdOf K x st)
 m:mg x=some (.ref (h_ K x))
 b:Binds K (fdOf K x st) ps []
theorem dk{p:Prop}(h:p:=by decide +kernel):p:=h
section
variable {fs:List (Str×Stmt)}{ms:List rC}{xs:List (Nat×Str)}{lk:Lk}{K:Frag}{h:Heap}{mg:Str->Option Value}{x:Str}{st:Stmt}
theorem oR(S:gU fs ms xs lk K)(X:K.In h)(G:h.Ns mainGlobals mg)(j:Nat)(hj:fs[j]?=some (x,st):=by rfl)(hb:∀(kV doc pm:Value) (an:Option Addr) (cdv ct a:Value),bindArgs (fnOf x x (aV st) (aO st) (au st) .none kV doc pm an cdv ct) ⟨[a],[]⟩=pure [(p,a)]:=by intros;rfl):D3 K mg x st [p]:=have F:=S.fn (x,st) (fU hj);⟨F.fn,F.m X G,tL F.fn hb⟩
theorem qU(S:gU fs ms xs lk K)(X:K.In h)(G:h.Ns mainGlobals mg)(j:Nat)(hj:fs[j]?=some (x,st):=by rfl)(hb:∀(kV doc pm:Value) (an:Option Addr) (cdv ct a b:Value),bindArgs (fnOf x x (aV st) (aO st) (au st) .none kV doc pm an cdv ct) ⟨[a,b],[]⟩=pure [(p,a),(q,b)]:=by intros;rfl):D3 K mg x st [p,q]:=have F:=S.fn (x,st) (fU hj);⟨F.fn,F.m X G,tM F.fn hb⟩
theorem nO(S:gU fs ms xs lk K)(X:K.In h)(G:h.Ns mainGlobals mg)(j:Nat)(hj:fs[j]?=some (x,st):=by rfl)(hb:∀(kV doc pm:Value) (an:Option Addr) (cdv ct a b c:Value),bindArgs (fnOf x x (aV st) (aO st) (au st) .none kV doc pm an cdv ct) ⟨[a,b,c],[]⟩=pure [(p,a),(q,b),(t,c)]:=by intros;rfl):D3 K mg x st [p,q,t]:=have F:=S.fn (x,st) (fU hj);⟨F.fn,F.m X G,tO F.fn hb⟩
theorem zlJ{p q t u v:Str}(S:gU fs ms xs lk K)(X:K.In h)(G:h.Ns mainGlobals mg)(j:Nat)(hj:fs[j]?=some (x,st):=by rfl)(hb:∀(kV doc pm:Value) (an:Option Addr) (cdv ct a b c d e:Value),bindArgs (fnOf x x (aV st) (aO st) (au st) .none kV doc pm an cdv ct) ⟨[a,b,c,d,e],[]⟩=pure [(p,a),(q,b),(t,c),(u,d),(v,e)]:=by intros;rfl):D3 K mg x st [p,q,t,u,v]:=have F:=S.fn (x,st) (fU hj);⟨F.fn,F.m X G,tQ F.fn hb⟩
theorem mG{α:Type}{l:List α}{a:α}(j:Nat)(h:l[j]?=some a:=by rfl):a∈l:=fU h
end
end Mi
namespace Mi
open PySem
def W{α:Type}(m:M α)(s:S)(P:α->S->Prop):Prop:=∃a s',m s=some (.ok a,s')/\P a s'
def WS(m:MS)(s:S)(Q:Out->S->Prop):Prop:=∃o s',m s=some (o,s')/\Q o s'
section
variable {α β:Type}{m:M α}{k:α->M β}{s:S}{P:α->S->Prop}{R:β->S->Prop}
theorem W.bd(h:W m s λa s'=>W (k a) s' R):W (M.bd m k) s R:=by
 obtain⟨a,s',e,b,s2,e2,r⟩:=h;exact⟨b,s2,by unfold M.bd;rw[e];exact e2,r⟩
theorem W.ret{a:α}(h:P a s):W (M.ret a) s P:=⟨a,s,rfl,h⟩
theorem W.qt(h:W m s P):W (M.qt m) s P:=by
 obtain⟨a,s',e,p⟩:=h;exact⟨a,s',by unfold M.qt;rw[e],p⟩
theorem W.opt(e:o=some a)(h:P a s):W (M.opt o) s P:=by subst e;exact⟨a,s,rfl,h⟩
theorem W.imp{P':α->S->Prop}(h:W m s P)(f:∀a s',P a s'->P' a s'):W m s P':=let ⟨a,s',e,p⟩:=h;⟨a,s',e,f a s' p⟩
theorem W.eq(e:m s=some (.ok a,s'))(p:P a s'):W m s P:=⟨a,s',e,p⟩
theorem Ka1{d:D}{P:D->S->Prop}(h:P d s):W (rd (.d d)) s P:=⟨d,s,rfl,h⟩
theorem Nk{n:Nat}{xs:List D}{P:D->S->Prop}(e:s[n]?=some (.lst xs))(h:P (.fl xs) s):W (rd (.l n)) s P:=⟨.fl xs,s,by unfold rd;simp only[e],h⟩
theorem Ka4{P:List D->S->Prop}(h:P [] s):W (fM []) s P:=⟨[],s,rfl,h⟩
theorem Ka3{x:Xv}{r:List Xv}{P:List D->S->Prop}(h:W (rd x) s λd s1=>W (fM r) s1 λds s2=>P (d::ds) s2):W (fM (x::r)) s P:=W.bd (h.imp λd s1 h1=>W.bd (h1.imp λds s2 h2=>W.ret h2))
theorem Kay{P:List D->S->Prop}(h:P [] s):W (fu []) s P:=⟨[],s,rfl,h⟩
theorem Kax{d:D}{r:List Xv}{P:List D->S->Prop}(h:W (fu r) s λds s2=>P (d::ds) s2):W (fu (.d d::r)) s P:=W.bd (W.ret (W.bd (h.imp λds s2 h2=>W.ret h2)))
theorem W.dat{x:D}{P:D->S->Prop}(h:P x s):W (dat (.d x)) s P:=⟨x,s,rfl,h⟩
theorem W.bool{b:Bool}{P:Bool->S->Prop}(h:P b s):W (bool (.d (.bl b))) s P:=⟨b,s,rfl,h⟩
theorem W.int{b:Int}{P:Int->S->Prop}(h:P b s):W (int (.d (.int b))) s P:=⟨b,s,rfl,h⟩
theorem bL{fz:Bool}{o:Option Rz}{d:D}{P:Xv->S->Prop}(e:o=some (.dat d))(h:P (.d d) s):W (bV fz o) s P:=by subst e;exact⟨_,s,rfl,h⟩
theorem xV{o:Option Rz}{xs:List D}{P:Xv->S->Prop}(e:o=some (.nw xs))(h:P (.d (.fl xs)) s):W (bV true o) s P:=by subst e;exact⟨_,s,rfl,h⟩
theorem KaS{xs:List D}{P:Xv->S->Prop}(h:P (.d (.fl xs)) s):W (newL true xs) s P:=⟨_,s,rfl,h⟩
theorem KaR{xs:List D}{P:Xv->S->Prop}(h:P (.l s.length) (s++[.lst xs])):W (newL false xs) s P:=⟨_,_,rfl,h⟩
theorem tR{F:List Xv->M Xv}{xs:List Xv}{P:Xv->S->Prop}(hl:locs xs=[])(h:W (F (cO 0 xs)) [] λv _=>∃d,v=.d d/\P (.d d) s):W (bJ F xs) s P:=by
 obtain⟨v,s1,e,d,rfl,p⟩:=h;refine⟨.d d,s,?_,p⟩;unfold bJ;rw[hl,if_pos Gg];simp only[f9,e,bZ]
theorem Nm{F:List Xv->M Xv}{xs:List Xv}{P:Xv->S->Prop}(hl:locs xs=[])(h:W (F (cO 0 xs)) [] λv s1=>∃n o,v=.l n/\s1[n]?=some o/\P (.l s.length) (s++[o])):W (bJ F xs) s P:=by
 obtain⟨v,s1,e,n,o,rfl,eo,p⟩:=h;refine⟨.l s.length,s++[o],?_,p⟩;unfold bJ;rw[hl,if_pos Gg];simp only[f9,e,bZ,List.getElem?_nil,eo]
theorem Ue{F:List Xv->M Xv}{xs:List Xv}{n:Nat}{o:SO}{P:Xv->S->Prop}(hl:locs xs=[n])(ho:s[n]?=some o)(h:W (F (cO 0 xs)) [o] λv s1=>∃d o',v=.d d/\s1=[o']/\P (.d d) (s.set n o')):W (bJ F xs) s P:=by
 obtain⟨v,s1,e,d,o',rfl,rfl,p⟩:=h;refine⟨.d d,s.set n o',?_,p⟩;unfold bJ;rw[hl,if_pos J0];simp only[f9,ho,e,bZ]
end
section
variable {s:S}{Q:Out->S->Prop}
theorem WS.ofM(h:W m s λa s'=>WS (k a) s' Q):WS (Mi.ofM m J k) s Q:=by
 obtain⟨a,s',e,o,s2,e2,q⟩:=h;exact⟨o,s2,by unfold Mi.ofM;rw[e];exact e2,q⟩
theorem WS.nx(h:Q (.nx J) s):WS (λs=>some (.nx J,s)) s Q:=⟨_,s,rfl,h⟩
theorem WS.rt(h:Q (.rt x) s):WS (λs=>some (.rt x,s)) s Q:=⟨_,s,rfl,h⟩
theorem WS.imp(h:WS m s Q)(f:∀o s',Q o s'->Q' o s'):WS m s Q':=let ⟨a,s',e,p⟩:=h;⟨a,s',e,f a s' p⟩
end
theorem W.call(hT:T f=some d)(hl:xs.length=d.g_)
  (h:WS (exs ao aj (λc=>Mi.call ao T k c) d.body (xs.map some++List.replicate (d.many-d.g_) none)) s λo s'=>match o with|.nx _=>P (.d .non) s'|.rt v=>P v s'|_=>False):W (Mi.call ao T (k+1) aj f xs) s P:=by
 obtain⟨o,s',e,q⟩:=h;unfold Mi.call;simp only[hT,if_pos hl];unfold W;simp only[e];cases o with
 |nx J=>exact⟨_,_,rfl,q⟩
 |rt v=>exact⟨_,_,rfl,q⟩
 |bk J=>exact q.elim
 |ct J=>exact q.elim
 |er c fs J=>exact q.elim
theorem qb(I:Nat->Vs->S->Prop)(h0:I 0 J s)(hb:∀i x J s,c[i]?=some x->I i J s->WS (b x J) s λo s'=>∃J',o=.nx J'/\I (i+1) J' s')
  (he:∀J s,I c.length J s->Q (.nx J) s):WS (cg (.fix c) b (c.length+1) 0 J) s Q:=by
 have key:∀n i J s,i+n=c.length->I i J s->WS (cg (.fix c) b (n+1) i J) s Q:=by
  intro n
  induction n with
  |zero=>
   intro i J s hi hI;have e:c[i]?=none:=by rw[lO];lia
   have:i=c.length:=by lia
   subst this;refine⟨_,s,?_,he J s hI⟩;unfold cg;simp only[Src.at,e]
  |succ n ih=>
   intro i J s hi hI;have eZ:i<c.length:=by lia
   have e:c[i]?=some c[i]:=gj eZ;obtain⟨o,s',eb,J',rfl,qd⟩:=hb i c[i] J s e hI;obtain⟨o2,s2,e2,q⟩:=ih (i+1) J' s' gV qd;refine⟨o2,s2,?_,q⟩;unfold cg;simp only[Src.at,e,eb];exact e2
 exact key c.length 0 J s gV h0
theorem zks{i j:Int}(h:(-(2^64)<i/\i<2^64)\/(-(2^64)<j/\j<2^64)):prim .mul [.int i,.int j]=some (.dat (.int (i*j))):=by
 show Option.map _ (if _ then _ else _)=_;rw[if_pos h];rfl
theorem zkq{i j:Int}(h:0<j):prim .mod [.int i,.int j]=some (.dat (.int (i%j))):=by
 show Option.map _ (if _ then _ else _)=_;rw[if_pos h];rfl
theorem zj3{i j:Int}(h:0<j/\j<1073741824):prim .fdiv [.int i,.int j]=some (.dat (.int (i/j))):=by
 show Option.map _ (if _ then _ else _)=_;rw[if_pos h];rfl
theorem zfQ{i j:Int}(h:0<j/\j<1073741824):prim .divmod [.int i,.int j]=some (.dat (.tup [.int (i/j),.int (i%j)])):=by
 show Option.map _ (if _ then _ else _)=_;rw[if_pos h];rfl
theorem zkH{i j:Int}(h:0<=j/\j<=1000000/\i.natAbs<2^64):prim .pow [.int i,.int j]=some (.dat (.int (i^j.toNat))):=by
 show Option.map _ (if _ then _ else _)=_;rw[if_pos h];rfl
theorem HB{xs:List D}{i:Nat}{x:D}(h:xs[i]?=some x):prim .ix [.fl xs,.int i]=some (.dat x):=by
 show Option.map Rz.dat (L2.m9 xs i)=_;have:L2.m9 xs (i:Int)=some x:=by
  unfold L2.m9 L2.oK;have hl:i<xs.length:=(fQ.mp h).1;simp[hl];exact(fQ.mp h).2
 rw[this];rfl
theorem HD(h:xs.length+ys.length<=sizeLine):prim .add [.fl xs,.fl ys]=some (.nw (xs++ys)):=by
 show (if _ then _ else _)=_;rw[if_pos h]
theorem W.ite[Decidable c](h1:c->W m1 s P)(h2:¬c->W m2 s P):W (if c then m1 else m2) s P:=by
 by_cases h:c
 ·rw[if_pos h];exact h1 h
 ·rw[if_neg h];exact h2 h
theorem WS.ite[Decidable c](h1:c->WS m1 s P)(h2:¬c->WS m2 s P):WS (if c then m1 else m2) s P:=by
 by_cases h:c
 ·rw[if_pos h];exact h1 h
 ·rw[if_neg h];exact h2 h
theorem HF{n:Nat}{xs:List D}{s:S}{P:Unit->S->Prop}(h:P () (s.set n (.lst xs))):W (putL n xs) s P:=⟨_,_,rfl,h⟩
theorem W.bY{n:Nat}{xs:List D}{s:S}{P:Nat×List D->S->Prop}(e:s[n]?=some (.lst xs))(h:P (n,xs) s):W (bY (.l n)) s P:=⟨_,s,by unfold Mi.bY;simp only[e],h⟩
theorem Ka6{xs:List D}{s:S}{P:Src×Nat->S->Prop}(h:P (.fix xs,xs.length) s):W (src (.d (.tup xs))) s P:=⟨_,s,rfl,h⟩
theorem Ka5{xs:List D}{s:S}{P:Src×Nat->S->Prop}(h:P (.fix xs,xs.length) s):W (src (.d (.fl xs))) s P:=⟨_,s,rfl,h⟩
theorem WS.nil{ao:Nat->Nat->Bool}{aj:Bool}{F:Bool->Fn}{J:Vs}{s:S}{Q:Out->S->Prop}(h:Q (.nx J) s):WS (exs ao aj F .nil J) s Q:=⟨_,s,rfl,h⟩
theorem WS.cons{ao:Nat->Nat->Bool}{aj:Bool}{F:Bool->Fn}{a:St}{r:bU}{J:Vs}{s:S}{Q:Out->S->Prop}(h:WS (ex ao aj F a J) s λo s'=>match o with|.nx J'=>WS (exs ao aj F r J') s' Q|.rt x=>Q (.rt x) s'|_=>False):WS (exs ao aj F (.cons a r) J) s Q:=by
 obtain⟨o,s',e,q⟩:=h;unfold WS exs Mi.cC;rw[e];cases o with
 |nx J'=>exact q
 |rt x=>exact⟨_,_,rfl,q⟩
 |bk _=>exact q.elim
 |ct _=>exact q.elim
 |er _ _ _=>exact q.elim
def oF{α:Type}(o:Option α)(P:α->Prop):Prop:=∃a,o=some a/\P a
theorem oF.mk{α:Type}{o:Option α}{P:α->Prop}{a:α}(e:o=some a)(h:P a):oF o P:=⟨a,e,h⟩
section
variable {ao:Nat->Nat->Bool}{aj:Bool}{F:Fn}{J:Vs}{s:S}{P:Xv->S->Prop}
theorem W.eC{d:D}(h:P (.d d) s):W (ev ao aj F (.c d) J) s P:=W.ret h
theorem W.eV{i:Nat}{x:Xv}(e:J[i]?.join=some x)(h:P x s):W (ev ao aj F (.v i) J) s P:=W.opt e h
theorem Ug{fz:Bool}{p:Pr}{xs:Es}(h:W (evs ao aj F xs J) s λvs s1=>W (fM vs) s1 λds s2=>W (bV fz (prim p ds)) s2 P):W (ev ao aj F (.pr fz p xs) J) s P:=W.bd (h.imp λ_ _ h=>W.bd h)
theorem KaA{a b:E}(h:W (ev ao aj F a J) s λx s1=>W (Mi.bool x) s1 λk s2=>W (if k=true then ev ao aj F b J else M.ret (.d (.bl false))) s2 P):W (ev ao aj F (.and a b) J) s P:=W.bd (h.imp λ_ _ h=>W.bd h)
theorem KaI{a b:E}(h:W (ev ao aj F a J) s λx s1=>W (Mi.bool x) s1 λk s2=>W (if k=true then M.ret (.d (.bl true)) else ev ao aj F b J) s2 P):W (ev ao aj F (.or a b) J) s P:=W.bd (h.imp λ_ _ h=>W.bd h)
theorem KaH{a:E}(h:W (ev ao aj F a J) s λx s1=>W (Mi.bool x) s1 λk s2=>P (.d (.bl (!k))) s2):W (ev ao aj F (.not a) J) s P:=W.bd (h.imp λ_ _ h=>W.bd (h.imp λ_ _ h=>W.ret h))
theorem KaL{xs:Es}(h:W (evs ao aj F xs J) s λvs s1=>W (fu vs) s1 λds s2=>P (.d (.tup ds)) s2):W (ev ao aj F (.tup xs) J) s P:=W.bd (h.imp λ_ _ h=>W.bd (h.imp λ_ _ h=>W.ret h))
theorem KaG{fz:Bool}{xs:Es}(h:W (evs ao aj F xs J) s λvs s1=>W (fu vs) s1 λds s2=>W (newL fz ds) s2 P):W (ev ao aj F (.lst fz xs) J) s P:=W.bd (h.imp λ_ _ h=>W.bd h)
theorem KaD{k:Str}{i:Int}(h:P (.d (.fd [.str k] [.int i])) s):W (ev ao aj F (.Cy k i) J) s P:=W.ret h
theorem Uh{f:Nat}{xs:Es}(h:W (evs ao aj F xs J) s λvs s1=>W (bJ (F f) vs) s1 P):W (ev ao aj F (.call f xs) J) s P:=W.bd h
theorem KaK{fz:Bool}{a:E}{lo hi:Eo}(h:W (ev ao aj F a J) s λx s1=>W (sE ao aj F lo J) s1 λl s2=>W (sE ao aj F hi J) s2 λu s3=>W (rd x) s3 λd s4=>W (bV fz (cutD d l u)) s4 P):W (ev ao aj F (.sl fz a lo hi) J) s P:=W.bd (h.imp λ_ _ h=>W.bd (h.imp λ_ _ h=>W.bd (h.imp λ_ _ h=>W.bd h)))
theorem KaT{P:Option Int->S->Prop}(h:P none s):W (sE ao aj F .no J) s P:=W.ret h
theorem KaU{a:E}{P:Option Int->S->Prop}(h:W (ev ao aj F a J) s λx s1=>W (Mi.int x) s1 λi s2=>P (some i) s2):W (sE ao aj F (.yes a) J) s P:=W.bd (h.imp λ_ _ h=>W.bd (h.imp λ_ _ h=>W.ret h))
theorem Kaj{P:List Xv->S->Prop}(h:P [] s):W (evs ao aj F .nil J) s P:=W.ret h
theorem Kai{a:E}{r:Es}{P:List Xv->S->Prop}(h:W (ev ao aj F a J) s λx s1=>W (evs ao aj F r J) s1 λxs s2=>P (x::xs) s2):W (evs ao aj F (.cons a r) J) s P:=W.bd (h.imp λ_ _ h=>W.bd (h.imp λ_ _ h=>W.ret h))
theorem KaP{a:E}{P:Src×Nat->S->Prop}(h:W (ev ao aj F a J) s λx s1=>W (src x) s1 P):W (jT ao aj F (.seq a) J) s P:=W.bd h
end
section
variable {ao:Nat->Nat->Bool}{aj:Bool}{F:Bool->Fn}{J:Vs}{s:S}{Q:Out->S->Prop}
theorem WS.D_{b:Bool}{m1 m2:MS}(e:b=true)(h:WS m1 s Q):WS (if b=true then m1 else m2) s Q:=by rw[if_pos e];exact h
theorem WS.zF{b:Bool}{m1 m2:MS}(e:b=false)(h:WS m2 s Q):WS (if b=true then m1 else m2) s Q:=by rw[if_neg (by rw[e];decide)];exact h
theorem WS.tU{m1 m2:MS}(h:WS m1 s Q):WS (if true=true then m1 else m2) s Q:=by rw[if_pos rfl];exact h
theorem WS.zG{m1 m2:MS}(h:WS m2 s Q):WS (if false=true then m1 else m2) s Q:=by rw[if_neg Dc];exact h
theorem Ui{e:E}(h:W (ev ao aj (F aj) e J) s λ_ s1=>Q (.nx J) s1):WS (ex ao aj F (.ex e) J) s Q:=WS.ofM (h.imp λ_ _ h=>WS.nx h)
theorem Uj{i:Nat}{e:E}(h:W (ev ao aj (F aj) e J) s λx s1=>Q (.nx (J.set i (some x))) s1):WS (ex ao aj F (.asg (.nm i) e) J) s Q:=WS.ofM (h.imp λ_ _ h=>WS.nx h)
theorem Kbo{is:List Nat}{e:E}(h:W (ev ao true (F true) e J) s λx s1=>W (dat x) s1 λd s2=>oF ((jt d).bind λds=>fB is (ds.map .d) J) λJ'=>Q (.nx J') s2):WS (ex ao true F (.asg (.tp is) e) J) s Q:=by
 refine WS.ofM (h.imp λx s1 h=>?_);exact WS.tU (m2:=λ_=>none) (WS.ofM (W.bd (h.imp λd s2 ⟨J',e,q⟩=>W.opt e (WS.nx q))))
theorem Kbn{o i e:E}(h:W (ev ao aj (F aj) e J) s λx s1=>W (dat x) s1 λd s2=>W (ev ao aj (F aj) o J) s2 λy s3=>W (ev ao aj (F aj) i J) s3 λz s4=>W (Mi.int z) s4 λj s5=>W (bY y) s5 λnx s6=>oF (L2.oK nx.2.length j) λq=>Q (.nx J) (s6.set nx.1 (.lst (nx.2.set q d)))):WS (ex ao aj F (.asg (.ao o i) e) J) s Q:=by
 refine WS.ofM (h.imp λx s1 h=>WS.ofM (W.bd (h.imp λd s2 h=>W.bd (h.imp λy s3 h=>W.bd (h.imp λz s4 h=>W.bd (h.imp λj s5 h=>W.bd (h.imp λnx s6 h=>?_)))))));obtain⟨q,e,h⟩:=h;simp only[e];exact HF (WS.nx h)
theorem Kbk{i j:Nat}{a b:E}(h:W (ev ao true (F true) a J) s λx s1=>W (ev ao true (F true) b J) s1 λy s2=>Q (.nx ((J.set i (some x)).set j (some y))) s2):WS (ex ao true F (.par i j a b) J) s Q:=by
 exact WS.tU (m2:=λ_=>none) (WS.ofM (W.bd (h.imp λx s1 h=>W.bd (h.imp λy s2 h=>W.ret (WS.nx h)))))
theorem Uk{e:E}(h:W (ev ao aj (F aj) e J) s λx s1=>Q (.rt x) s1):WS (ex ao aj F (.ret e) J) s Q:=WS.ofM (h.imp λ_ _ h=>WS.rt h)
theorem zJ{c:E}{t e:bU}(h:W (ev ao aj (F aj) c J) s λx s1=>W (Mi.bool x) s1 λb s2=>WS (if b=true then exs ao aj F t J else exs ao aj F e J) s2 Q):WS (ex ao aj F (.iff c t e) J) s Q:=WS.ofM (W.bd h)
theorem Kbh{t:Tg}{w:Wk}{b:bU}(h:W (jT ao true (F true) w J) s λcn s1=>WS (cg cn.1 (λd J=>Mi.cC (store ao true (F true) t (.d d) J) λJ'=>exs ao true F b J') (cn.2+1) 0 J) s1 Q):WS (ex ao true F (.fr t w b) J) s Q:=by
 exact WS.tU (m2:=λ_=>none) (WS.ofM h)
end
theorem W.D_{α:Type}{b:Bool}{m1 m2:M α}{s:S}{P:α->S->Prop}(e:b=true)(h:W m1 s P):W (if b=true then m1 else m2) s P:=by rw[if_pos e];exact h
theorem W.zF{α:Type}{b:Bool}{m1 m2:M α}{s:S}{P:α->S->Prop}(e:b=false)(h:W m2 s P):W (if b=true then m1 else m2) s P:=by rw[if_neg (by rw[e];decide)];exact h
theorem W.tU{α:Type}{m1 m2:M α}{s:S}{P:α->S->Prop}(h:W m1 s P):W (if true=true then m1 else m2) s P:=by rw[if_pos rfl];exact h
theorem W.zG{α:Type}{m1 m2:M α}{s:S}{P:α->S->Prop}(h:W m2 s P):W (if false=true then m1 else m2) s P:=by rw[if_neg Dc];exact h
structure Bx(R:Prop):Prop where
 o:R
end Mi
namespace Mi
open PySem PySem.W PyProof.Rows L2
abbrev bQ(n:Nat)(p:Array Nat):Prop:=p.Perm (List.range n).toArray
theorem bQ.lt(h:bQ n p)(hn:0<n)(i:Nat):p.getD i 0<n:=by
 by_cases hi:i<p.size
 ·have e:p.getD i 0=p[i]:=by simp[Array.getD,hi]
  rw[e];have hm:p[i]∈(List.range n).toArray:=h.mem_iff.mp (Array.getElem_mem hi);simpa using hm
 ·have e:p.getD i 0=0:=by simp[Array.getD,hi]
  rw[e];exact hn
theorem bQ.rev(h:bQ n p)(i j:Nat):bQ n (kas_rev p i j):=(mirror_perm p i j _).trans h
theorem bQ.bub(h:bQ n p)(i j:Nat):bQ n (bubble p i j):=(bubble_perm p i j).trans h
def fP{α:Type}(lt:Nat->Nat->Option Bool)(t:KasT α)(P:α->Prop):Prop:=∃a,aZ lt t=some a/\P a
section
variable {α β:Type}{lt:Nat->Nat->Option Bool}{n:Nat}
theorem fP.ret(h:P a):fP lt (.ret a) P:=⟨a,rfl,h⟩
theorem fP.bind(hf:∀a,P a->fP lt (f a) R):∀{t:KasT α},fP lt t P->fP lt (t.bind f) R
 |.ret a,⟨a',e,h⟩=>by cases e;exact hf _ h
 |.ask i j k,⟨a',e,h⟩=>by
  unfold aZ at e;cases el:lt i j with
  |none=>rw[el] at e;cases e
  |some b=>
   rw[el] at e;obtain⟨c,e1,h1⟩:=fP.bind hf (t:=k b) ⟨a',e,h⟩;refine⟨c,?_,h1⟩;show aZ lt (.ask i j λb=>(k b).bind f)=some c;unfold aZ;rw[el];exact e1
def Tot(n:Nat)(lt:Nat->Nat->Option Bool):Prop:=∀i j,i<n->j<n->∃b,lt i j=some b
variable (ht:Tot n lt)(hn:0<n)
include ht hn
end
section
variable {lt:Nat->Nat->Option Bool}{n:Nat}
theorem Ul(h:∀k,1<=k->k<n->lt (p.getD k 0) (p.getD (k-1) 0)=some false):∀f k,1<=k->k+f=n->fP lt (kas_asc p f k) λr=>r=n
 |0,k,h1,e=>.ret gV
 |f+1,k,h1,e=>by
  obtain⟨a,e1,e2⟩:=Ul h f (k+1) gV gV;refine⟨a,?_,e2⟩;unfold kas_asc aZ;rw[h k h1 gV];exact e1
theorem Um(hk:k<n):(List.range n).toArray.getD k 0=k:=by
 simp[Array.getD,hk]
theorem zel(hn:0<n)(h:∀k,k+1<n->lt (k+1) k=some false):aZ lt (kas_sort n)=some (List.range n).toArray:=by
 have h1:fP lt (kas_asc (List.range n).toArray (n-1) 1) λr=>r=n:=Ul (λk a b=>by
  rw[Um b,Um gV];have:=h (k-1) gV
  rwa [show k-1+1=k by lia] at this) _ _ (bT _) gV
 have h2:fP lt (kas_count n (List.range n).toArray) λr=>r=(n,(List.range n).toArray):=by
  refine fP.bind (λr hr=>?_) h1;subst hr;rw[if_pos J0];exact .ret rfl
 have h3:fP lt (kas_sort n) λr=>r=(List.range n).toArray:=by
  refine fP.bind (λr hr=>?_) h2;subst hr;rw[if_neg (nY _)];exact .ret rfl
 obtain⟨a,e,rfl⟩:=h3;exact e
end
theorem zgo(hk:(xs.all gJ||xs.all fj)=true)(h64:xs.length<64)(h:∀k,k+1<xs.length->pI xs (k+1) k=some false):pJ xs=some xs:=by
 unfold pJ;rw[if_pos hk];unfold lG;by_cases h2:xs.length<2
 ·rw[if_pos h2]
 ·rw[if_neg h2,if_pos h64,zel gV h];dsimp only;rw[if_pos J0]
  congr 1
  apply List.ext_getElem
  ·simp
  ·intro i a b;simp[ji,b]
noncomputable def cG(p:Int×Int):D:=.tup [.int p.1,.int p.2]
end Mi
namespace Mi
open PySem
theorem W.walk{c:List D}{f:D->List D->M (List D)}{s:S}{acc:List D}{P:List D->S->Prop}(I:Nat->List D->S->Prop)(h0:I 0 acc s)(hb:∀i x acc s,c[i]?=some x->I i acc s->W (f x acc) s λa s'=>I (i+1) a s')
  (he:∀acc s,I c.length acc s->P acc s):W (Mi.walk (.fix c) f (c.length+1) 0 acc) s P:=by
 have key:∀n i acc s,i+n=c.length->I i acc s->W (Mi.walk (.fix c) f (n+1) i acc) s P:=by
  intro n
  induction n with
  |zero=>
   intro i acc s hi hI;have e:c[i]?=none:=by rw[lO];lia
   have:i=c.length:=by lia
   subst this;refine⟨acc,s,?_,he acc s hI⟩;unfold Mi.walk;simp only[Src.at,e]
  |succ n ih=>
   intro i acc s hi hI;have eZ:i<c.length:=by lia
   have e:c[i]?=some c[i]:=gj eZ;obtain⟨a,s',eb,qd⟩:=hb i c[i] acc s e hI;obtain⟨a2,s2,e2,q⟩:=ih (i+1) a s' gV qd;refine⟨a2,s2,?_,q⟩;unfold Mi.walk;simp only[Src.at,e,M.bd,eb];exact e2
 exact key c.length 0 acc s gV h0
section
variable {ao:Nat->Nat->Bool}{F:Fn}{J:Vs}{s:S}{P:Xv->S->Prop}
theorem Kas{fz:Bool}{elt:E}{tg:List Nat}{it:Wk}{fr:List Nat}{many:Nat}{cond:Eo}{c:List D}(g:D->Option D)(hc:c.length<=sizeLine)
  (hw:W (jT ao true F it J) s λcn s1=>cn=(.fix c,c.length)/\s1=s)
  (hb:∀x∈c,∃J',eG tg x (blk many fr J)=some J'/\W (nF ao true F cond J') s λb s1=>s1=s/\(if b=true then W (ev ao true F elt J') s λy s2=>s2=s/\∃d,y=.d d/\g x=some d else g x=none))
  (h:W (newL fz (c.filterMap g)) s P):W (ev ao true F (.comp fz elt tg it fr many cond) J) s P:=by
 change W (_root_.ite (true=true) _ _) s P
 rw[if_pos rfl];refine W.bd (hw.imp λcn s1=>?_);rintro⟨rfl,rfl⟩;refine W.bd ?_;refine W.walk (c:=c) (λi acc s'=>s'=s1/\acc=(c.take i).filterMap g) ⟨rfl,rfl⟩ (λi x acc s' e hI=>?_) (λacc s' hI=>?_)
 ·obtain⟨rfl,rfl⟩:=hI;have hi:i<c.length:=(fQ.mp e).1;have ht:c.take (i+1)=c.take i++[x]:=by rw[Ad,e];rfl
  have hl:((c.take i).filterMap g).length<sizeLine:=FJ (zV _ _) (by rw[rB];lia);obtain⟨J',e1,h1⟩:=hb x (fU e);refine W.bd (W.opt e1 ?_);refine W.bd (W.qt (h1.imp λb s2=>?_));rintro⟨rfl,h2⟩;rw[ht,Jc];cases b
  ·rw[if_neg Dc] at h2 ⊢;refine W.ret ⟨rfl,?_⟩;simp[h2]
  ·rw[if_pos rfl] at h2 ⊢;refine W.bd (W.qt (h2.imp λy s3=>?_));rintro⟨rfl,d,rfl,eg⟩;refine W.bd (W.dat ?_);rw[if_pos hl];refine W.ret ⟨rfl,?_⟩;simp[eg]
 ·obtain⟨rfl,rfl⟩:=hI;rw[yF];exact h
end
section
variable {ao:Nat->Nat->Bool}{aj:Bool}{F:Fn}{J:Vs}{s:S}{P:Xv->S->Prop}
theorem KaE(h:W (ev ao aj F a J) s λx s1=>W (rd x) s1 λd s2=>∃b,jq ao d k=some b/\P (.d (.bl b)) s2):W (ev ao aj F (.kE a k) J) s P:=
 W.bd (h.imp λ_ _ h=>W.bd (h.imp λ_ _ ⟨_,e,h⟩=>W.bd (W.opt e (W.ret h))))
theorem KaC(h:W (ev ao aj F a J) s λx s1=>W (ev ao aj F b J) s1 λy s2=>W (fM [x,y]) s2 λds s3=>W (bV true (prim p ds)) s3 λt s4=>W (Mi.bool t) s4 λk s5=>
  W (if k=true then M.bd (ev ao aj F c J) λz=>M.bd (fM [y,z]) λds=>bV true (prim q ds) else M.ret (.d (.bl false))) s5 P):W (ev ao aj F (.uK p q a b c) J) s P:=
 W.bd (h.imp λ_ _ h=>W.bd (h.imp λ_ _ h=>W.bd (h.imp λ_ _ h=>W.bd (h.imp λ_ _ h=>W.bd h))))
end
noncomputable def Ed(fz:Bool):Option Rz->Option Xv
 |some (.dat d)=>some (.d d)
 |some (.nw ys)=>match fz with
  |true=>some (.d (.fl ys))
  |false=>none
 |none=>none
noncomputable def addQ:D->D->Option Rz
 |.int i,.int j=>some (.dat (.int (i+j)))
 |_,_=>none
noncomputable def vq:List D->Option Rz
 |a::r=>match r with
  |b::r=>match r with
   |[]=>addQ a b
   |_::_=>none
  |[]=>none
 |[]=>none
noncomputable def quick:Pr->Bool
 |.Cv=>false|.RX=>false|.mul=>false|.fdiv=>false|.mod=>false|.pow=>false|.divmod=>false|.sorted=>false|.nu=>false|.Cw=>false|.mult=>false|.uJ=>false|.repr=>false|.str1=>false|.RZ=>false|.Cr=>false|.Cu=>false
 |_=>true
noncomputable def nP(p:Pr)(ds:List D):Option Rz:=match p with
 |.add=>vq ds
 |p=>match quick p with
  |true=>prim p ds
  |false=>none
theorem Ef{ds:List D}{r:Rz}(h:vq ds=some r):wV ds=some r:=by
 cases ds with
 |nil=>cases h
 |cons a t=>cases t with
  |nil=>cases h
  |cons b t=>cases t with
   |cons _ _=>cases h
   |nil=>cases a with
    |int i=>cases b with
     |int j=>exact h
     |_=>cases h
    |_=>cases h
theorem xW{p:Pr}{ds:List D}{r:Rz}(h:nP p ds=some r):prim p ds=some r:=by
 cases p with
 |add=>exact Ef h
 |_=>first|exact h|cases h
noncomputable def Np(fz:Bool)(ds:List D):Option Xv:=match fz with
 |true=>some (.d (.fl ds))
 |false=>none
noncomputable def Eh:Xv->Option D
 |.d x=>some x
 |.l _=>none
noncomputable def obP(c:Nat):Xv->Option (List D)
 |.d (.ob e fs)=>if e=c then some fs else none
 |_=>none
noncomputable def notP:Xv->Option Xv
 |.d (.bl b)=>some (.d (.bl (!b)))
 |_=>none
noncomputable def Nq(r:Option Xv):Xv->Option Xv
 |.d (.bl true)=>r
 |.d (.bl false)=>some (.d (.bl false))
 |_=>none
noncomputable def orP(r:Option Xv):Xv->Option Xv
 |.d (.bl true)=>some (.d (.bl true))
 |.d (.bl false)=>r
 |_=>none
section
variable (ao:Nat->Nat->Bool)
mutual
noncomputable def fD:E->Vs->Option Xv
 |.c d,_=>some (.d d)
 |.v i,J=>J[i]?.join
 |.pr fz p xs,J=>(mR xs J).bind λds=>Ed fz (nP p ds)
 |.tup xs,J=>(mR xs J).bind λds=>some (.d (.tup ds))
 |.lst fz xs,J=>(mR xs J).bind λds=>Np fz ds
 |.not a,J=>(fD a J).bind notP
 |.and a b,J=>(fD a J).bind (Nq (fD b J))
 |.or a b,J=>(fD a J).bind (orP (fD b J))
 |.kE a k,J=>(fD a J).bind λx=>(Eh x).bind λd=>(jq ao d k).bind λb=>some (.d (.bl b))
 |.of o c i,J=>(fD o J).bind λx=>(obP c x).bind λfs=>fs[i]?.map .d
 |_,_=>none
noncomputable def mR:Es->Vs->Option (List D)
 |.nil,_=>some []
 |.cons a r,J=>(fD a J).bind λx=>(Eh x).bind λd=>(mR r J).bind λds=>some (d::ds)
end
noncomputable def nQ:Es->Vs->Option (List Xv)
 |.nil,_=>some []
 |.cons a r,J=>(fD ao a J).bind λx=>(nQ r J).bind λxs=>some (x::xs)
end
theorem jW{α β:Type}{o:Option α}{f:α->Option β}{b:β}(h:o.bind f=some b):∃a,o=some a/\f a=some b:=uf.mp h
theorem gY{α β:Type}{m:M α}{k:α->M β}{s s':S}{a:α}(e:m s=some (.ok a,s')):M.bd m k s=k a s':=by
 show (match m s with|some (.ok a,s')=>k a s'|some (.er c f,s')=>some (.er c f,s')|none=>none)=_;rw[e]
theorem xX(s:S):∀ds:List D,fM (ds.map .d) s=some (.ok ds,s)
 |[]=>rfl
 |d::r=>(gY (s':=s) (a:=d) rfl).trans ((gY (xX s r)).trans rfl)
theorem qe(s:S):∀ds:List D,fu (ds.map .d) s=some (.ok ds,s)
 |[]=>rfl
 |d::r=>(gY (s':=s) (a:=d) rfl).trans ((gY (qe s r)).trans rfl)
theorem Nr{fz:Bool}{p:Pr}{ds:List D}{x:Xv}{s:S}(h:Ed fz (nP p ds)=some x):bV fz (prim p ds) s=some (.ok x,s):=by
 cases o:nP p ds with
 |none=>rw[o] at h;cases h
 |some r=>
  rw[o] at h;rw[xW o];cases r with
  |dat d=>cases h;rfl
  |nw ys=>cases fz with
   |true=>cases h;rfl
   |false=>cases h
section
variable {ao:Nat->Nat->Bool}{aj:Bool}{F:Fn}{J:Vs}{s:S}
theorem qg(e:E):∀x:Xv,fD ao e J=some x->ev ao aj F e J s=some (.ok x,s):=by
 refine E.rec (motive_1:=λe=>∀x:Xv,fD ao e J=some x->ev ao aj F e J s=some (.ok x,s)) (motive_2:=λ_=>True) (motive_3:=λxs=>∀ds:List D,mR ao xs J=some ds->evs ao aj F xs J s=some (.ok (ds.map .d),s)) (motive_4:=λ_=>True)
  ?c ?v ?pr (λ_ _ _ _ _ _ _ _ _ h=>nomatch h) (λ_ _ _ _ _ _ _ _ _ _ _ _ h=>nomatch h) ?and ?or ?not (λ_ _ _ _ _ _ _ h=>nomatch h) ?tup ?lst (λ_ _ _ h=>nomatch h) (λ_ _ _ _ h=>nomatch h) ?kE (λ_ _ _ _ _ _ _ _ h=>nomatch h) (λ_ _ _ _ _ _ _ _ h=>nomatch h) (λ_ _ _ _ _ h=>nomatch h) (λ_ _ _ h=>nomatch h)
  (λ_ _ _ _ _ _ _ _ _ _ _ h=>nomatch h) (λ_ _ _ _ _ _ _ _ _ _ _ _ _ _ h=>nomatch h) (λ_ _ _ _ _ h=>nomatch h) ?of (λ_ _ _ _ _ h=>nomatch h) (λ_ _ _ _ _ _ _ h=>nomatch h) (λ_ h=>nomatch h) (λ_ _ _ _ _ _ h=>nomatch h) (λ_ _ _ _ _ h=>nomatch h) (λ_ _ _ h=>nomatch h) (λ_ _ _ _ _ _ h=>nomatch h) (λ_ _ _ _ _ h=>nomatch h) (λ_ _ _ _ _ _ _ h=>nomatch h) (λ_ h=>nomatch h)
  (λ_ _=>trivial) (λ_ _ _ _=>trivial) (λ_ _ _ _=>trivial) (λ_ _=>trivial) (λ_ _=>trivial) ?nil ?cons trivial (λ_ _=>trivial) e
 case c=>intro d x h;cases h;rfl
 case v=>intro i x h;exact(show M.opt (J[i]?.join) s=_ from by rw[show J[i]?.join=some x from h];rfl)
 case pr=>
  intro fz p xs ih x h;obtain⟨ds,e1,e2⟩:=jW h;exact(gY (ih _ e1)).trans ((gY (xX s ds)).trans (Nr e2))
 case tup=>
  intro xs ih x h;obtain⟨ds,e1,e2⟩:=jW h;cases e2;exact(gY (ih _ e1)).trans ((gY (qe s ds)).trans rfl)
 case lst=>
  intro fz xs ih x h;obtain⟨ds,e1,e2⟩:=jW h;cases fz with
  |false=>cases e2
  |true=>cases e2;exact(gY (ih _ e1)).trans ((gY (qe s ds)).trans rfl)
 case not=>
  intro a ih x h;obtain⟨y,e1,e2⟩:=jW h;cases y with
  |l n=>cases e2
  |d y=>cases y with
   |bl b=>cases e2;exact(gY (ih _ e1)).trans rfl
   |_=>cases e2
 case and=>
  intro a b ih ih2 x h;obtain⟨y,e1,e2⟩:=jW h;cases y with
  |l n=>cases e2
  |d y=>cases y with
   |bl b=>cases b with
    |true=>exact(gY (ih _ e1)).trans (ih2 _ e2)
    |false=>cases e2;exact(gY (ih _ e1)).trans rfl
   |_=>cases e2
 case or=>
  intro a b ih ih2 x h;obtain⟨y,e1,e2⟩:=jW h;cases y with
  |l n=>cases e2
  |d y=>cases y with
   |bl b=>cases b with
    |true=>cases e2;exact(gY (ih _ e1)).trans rfl
    |false=>exact(gY (ih _ e1)).trans (ih2 _ e2)
   |_=>cases e2
 case kE=>
  intro a k ih x h;obtain⟨y,e1,e2⟩:=jW h;cases y with
  |l n=>cases e2
  |d y=>
   obtain⟨d,e3,e4⟩:=jW e2;cases e3;obtain⟨b,e5,e6⟩:=jW e4;cases e6;refine(gY (ih _ e1)).trans ((gY (s':=s) (a:=y) rfl).trans ((gY (s':=s) (a:=b) ?_).trans rfl));rw[e5];rfl
 case of=>
  intro o c i ih x h;obtain⟨y,e1,e2⟩:=jW h;obtain⟨fs,e3,e4⟩:=jW e2;refine(gY (ih _ e1)).trans ((gY (s':=s) (a:=fs) ?_).trans ?_)
  ·cases y with
   |l n=>cases e3
   |d y=>cases y with
    |ob e gs=>
     have e3:(if e=c then some gs else none)=some fs:=e3;show (if e=c then M.ret gs else M.no) s=_;split at e3
     ·rename_i h;cases e3;rw[if_pos h];rfl
     ·cases e3
    |_=>cases e3
  ·show M.opt (fs[i]?.map Xv.d) s=_;rw[e4];rfl
 case nil=>intro ds h;cases h;rfl
 case cons=>
  intro a r ih ih2 ds h;obtain⟨y,e1,e2⟩:=jW h;cases y with
  |l n=>cases e2
  |d y=>
   obtain⟨d,e3,e4⟩:=jW e2;cases e3;obtain⟨rs,e5,e6⟩:=jW e4;cases e6;exact(gY (ih _ e1)).trans ((gY (ih2 _ e5)).trans rfl)
theorem qj:∀(xs:Es) (ds:List D),mR ao xs J=some ds->evs ao aj F xs J s=some (.ok (ds.map .d),s)
 |.nil,ds,h=>by cases h;rfl
 |.cons a r,ds,h=>by
  obtain⟨y,e1,e2⟩:=jW h;cases y with
  |l n=>cases e2
  |d y=>
   obtain⟨d,e3,e4⟩:=jW e2;cases e3;obtain⟨rs,e5,e6⟩:=jW e4;cases e6;exact(gY (qg a _ e1)).trans ((gY (qj r _ e5)).trans rfl)
theorem jX:∀(xs:Es) {vs:List Xv},nQ ao xs J=some vs->evs ao aj F xs J s=some (.ok vs,s)
 |.nil,vs,h=>by cases h;rfl
 |.cons a r,vs,h=>by
  obtain⟨y,e1,e2⟩:=jW h;obtain⟨ys,e3,e4⟩:=jW e2;cases e4;exact(gY (qg a _ e1)).trans ((gY (jX r e3)).trans rfl)
variable {P:Xv->S->Prop}
theorem W.pv{e:E}{x:Xv}(h:fD ao e J=some x)(k:P x s):W (ev ao aj F e J) s P:=W.eq (qg e _ h) k
theorem KaZ{f:Nat}{xs:Es}{vs:List Xv}(h:nQ ao xs J=some vs)(k:W (bJ (F f) vs) s P):W (ev ao aj F (.call f xs) J) s P:=Uh (W.eq (jX xs h) k)
theorem Ka0{fz:Bool}{p:Pr}{xs:Es}{ds:List D}(h:mR ao xs J=some ds)(k:W (bV fz (prim p ds)) s P):W (ev ao aj F (.pr fz p xs) J) s P:=Ug (W.eq (qj xs _ h) (W.eq (xX s ds) k))
theorem KaY{xs:Es}{vs:List Xv}{P:List Xv->S->Prop}(h:nQ ao xs J=some vs)(k:P vs s):W (evs ao aj F xs J) s P:=W.eq (jX xs h) k
end
section
variable {ao:Nat->Nat->Bool}{aj:Bool}{F:Bool->Fn}{J:Vs}{s:S}{Q:Out->S->Prop}{e:E}{r:bU}
theorem Kbe{i:Nat}{x:Xv}(h:fD ao e J=some x)(k:WS (exs ao aj F r (J.set i (some x))) s Q):WS (exs ao aj F (.cons (.asg (.nm i) e) r) J) s Q:=WS.cons (Uj (W.pv h k))
theorem Kbf{x:Xv}(h:fD ao e J=some x)(k:Q (.rt x) s):WS (exs ao aj F (.cons (.ret e) r) J) s Q:=WS.cons (Uk (W.pv h k))
theorem Kbd{b:Bool}{t u:bU}(h:fD ao e J=some (.d (.bl b)))(k:WS (if b=true then exs ao aj F t J else exs ao aj F u J) s λo s'=>match o with|.nx J'=>WS (exs ao aj F r J') s' Q|.rt x=>Q (.rt x) s'|_=>False):WS (exs ao aj F (.cons (.iff e t u) r) J) s Q:=WS.cons (zJ (W.pv h (W.bool k)))
end
section
variable {ao:Nat->Nat->Bool}{aj:Bool}{F:Bool->Fn}{J:Vs}{s:S}{Q:Out->S->Prop}{c:Nat}{fs:List D}
theorem Kbm{c:Nat}{kp:Bool}{xs:Es}(h:W (evs ao true (F true) xs J) s λvs s1=>W (fu vs) s1 λds s2=>Q (.er c (if kp=true then ds else []) J) s2):WS (ex ao true F (.rise c kp xs) J) s Q:=by
 refine WS.tU (m2:=λ_=>none) (WS.ofM (W.bd (h.imp λvs s1 h=>h.imp λds s2 h=>?_)));exact⟨_,s2,rfl,h⟩
theorem Nt{m:MS}{k:Vs->MS}(h:WS m s λo s'=>match o with|.nx J'=>WS (k J') s' Q|.rt x=>Q (.rt x) s'|_=>False):WS (Mi.cC m k) s Q:=by
 obtain⟨o,s',e,q⟩:=h;unfold WS Mi.cC;rw[e];cases o with
 |nx J'=>exact q
 |rt x=>exact⟨_,_,rfl,q⟩
 |bk _=>exact q.elim
 |ct _=>exact q.elim
 |er _ _ _=>exact q.elim
theorem Nu{F:Fn}{i:Nat}{x:Xv}(h:Q (.nx (J.set i (some x))) s):WS (store ao aj F (.nm i) x J) s Q:=⟨_,s,rfl,h⟩
theorem Kbq{F:Fn}{is:List Nat}{d:D}(h:oF ((jt d).bind λds=>fB is (ds.map .d) J) λJ'=>Q (.nx J') s):WS (store ao true F (.tp is) (.d d) J) s Q:=by
 obtain⟨J',e,q⟩:=h;exact WS.tU (m2:=λ_=>none) (WS.ofM (W.bd (W.dat (W.opt e (WS.nx q)))))
end
section
variable {ao:Nat->Nat->Bool}{aj:Bool}{F:Fn}{J:Vs}{s:S}{P:Xv->S->Prop}
theorem W.kE{a:E}{k:Kd}(h:W (ev ao aj F a J) s λx s1=>W (rd x) s1 λd s2=>oF (jq ao d k) λb=>P (.d (.bl b)) s2):W (ev ao aj F (.kE a k) J) s P:=KaE h
theorem W.uK{p q:Pr}{a b c:E}(h:W (ev ao aj F a J) s λx s1=>W (ev ao aj F b J) s1 λy s2=>W (fM [x,y]) s2 λds s3=>W (bV true (prim p ds)) s3 λt s4=>W (Mi.bool t) s4 λk s5=>
  W (if k=true then M.bd (ev ao aj F c J) λz=>M.bd (fM [y,z]) λds=>bV true (prim q ds) else M.ret (.d (.bl false))) s5 P):W (ev ao aj F (.uK p q a b c) J) s P:=KaC h
theorem KaF{c a b:E}(h:W (ev ao aj F c J) s λx s1=>W (Mi.bool x) s1 λk s2=>W (if k=true then ev ao aj F a J else ev ao aj F b J) s2 P):W (ev ao aj F (.ite c a b) J) s P:=W.bd (h.imp λ_ _ h=>W.bd h)
theorem KaN{a:E}{P:Src×Nat->S->Prop}(h:W (ev ao aj F a J) s λx s1=>W (nD x) s1 P):W (jT ao aj F (.enum a) J) s P:=W.bd h
theorem KaM{xs:List D}{P:Src×Nat->S->Prop}(h:P (.fix (enumFrom 0 xs),(enumFrom 0 xs).length) s):W (nD (.d (.fl xs))) s P:=⟨_,s,rfl,h⟩
theorem KaO{a b:E}{P:Src×Nat->S->Prop}(h:W (ev ao aj F a J) s λx s1=>W (ev ao aj F b J) s1 λy s2=>W (Mi.int x) s2 λi s3=>W (Mi.int y) s3 λj s4=>(dN i&&dN j)=true/\P (.fix (gK i j),(gK i j).length) s4):W (jT ao aj F (.rg a b) J) s P:=by
 refine W.bd (h.imp λx s1 h=>W.bd (h.imp λy s2 h=>W.bd (h.imp λi s3 h=>W.bd (h.imp λj s4 h=>?_))));rw[if_pos h.1];exact W.ret h.2
theorem KaQ{a b:E}{P:Src×Nat->S->Prop}(h:W (ev ao aj F a J) s λx s1=>W (ev ao aj F b J) s1 λy s2=>W (mJ x) s2 λxs s3=>W (mJ y) s3 λys s4=>P (.fix (List.zipWith (λp q=>.tup [p,q]) xs ys),(List.zipWith (λ(p q:D)=>D.tup [p,q]) xs ys).length) s4):W (jT ao aj F (.zip a b) J) s P:=
 W.bd (h.imp λx s1 h=>W.bd (h.imp λy s2 h=>W.bd (h.imp λxs s3 h=>W.bd (h.imp λys s4 h=>W.ret h))))
theorem W.iQ{xs:List D}{P:List D->S->Prop}(h:P xs s):W (mJ (.d (.tup xs))) s P:=W.ret h
theorem W.oM{xs:List D}{P:List D->S->Prop}(h:P xs s):W (mJ (.d (.fl xs))) s P:=W.ret h
theorem Kak{P:Bool->S->Prop}(h:P true s):W (nF ao aj F .no J) s P:=W.ret h
theorem Kal{a:E}{P:Bool->S->Prop}(h:W (ev ao aj F a J) s λx s1=>W (Mi.bool x) s1 P):W (nF ao aj F (.yes a) J) s P:=W.bd h
theorem Uo(g:D->D)(hc:c.length<=sizeLine)
  (hw:W (jT ao true F it J) s λcn s1=>cn=(.fix c,c.length)/\s1=s)
  (hb:∀x∈c,oF (eG tg x (blk many fr J)) λJ'=>W (ev ao true F elt J') s λy s2=>s2=s/\y=.d (g x))
  (h:W (newL fz (c.map g)) s P):W (ev ao true F (.comp fz elt tg it fr many .no) J) s P:=by
 refine Kas (c:=c) (λx=>some (g x)) hc hw (λx hx=>?_) ?_
 ·obtain⟨J',e,h1⟩:=hb x hx;refine⟨J',e,W.ret ⟨rfl,?_⟩⟩;rw[if_pos rfl];exact h1.imp λy s2 ⟨a,b⟩=>⟨a,_,b,rfl⟩
 ·rw[show c.filterMap (λx=>some (g x))=c.map g by rw[<-List.filterMap_eq_map];rfl];exact h
theorem oU{α:Type}{f:α->D}{l:List α}{fz:Bool}{elt:E}{tg:List Nat}{it:Wk}{fr:List Nat}{many:Nat}{cond:Eo}(g:α->Option D)(hc:l.length<=sizeLine)
  (hw:W (jT ao true F it J) s λcn s1=>cn=(.fix (l.map f),(l.map f).length)/\s1=s)
  (hb:∀x∈l,oF (eG tg (f x) (blk many fr J)) λJ'=>W (nF ao true F cond J') s λb s1=>s1=s/\(b=true->W (ev ao true F elt J') s λy s2=>s2=s/\∃d,y=.d d/\g x=some d)/\(b=false->g x=none))
  (h:W (newL fz (l.filterMap g)) s P):W (ev ao true F (.comp fz elt tg it fr many cond) J) s P:=by
 change W (_root_.ite (true=true) _ _) s P
 rw[if_pos rfl];refine W.bd (hw.imp λcn s1=>?_);rintro⟨rfl,rfl⟩;refine W.bd ?_;refine W.walk (c:=l.map f) (λi acc s'=>s'=s1/\acc=(l.take i).filterMap g) ⟨rfl,rfl⟩ (λi x acc s' e hI=>?_) (λacc s' hI=>?_)
 ·obtain⟨rfl,rfl⟩:=hI;rw[gZ] at e;cases el:l[i]? with
  |none=>rw[el] at e;cases e
  |some y=>
   rw[el] at e;cases e;have hi:i<l.length:=(fQ.mp el).1;have ht:l.take (i+1)=l.take i++[y]:=by rw[Ad,el];rfl
   have hl:((l.take i).filterMap g).length<sizeLine:=FJ (zV _ _) (by rw[rB];lia);obtain⟨J',e1,h1⟩:=hb y (fU el);refine W.bd (W.opt e1 ?_);refine W.bd (W.qt (h1.imp λb s2=>?_));rintro⟨rfl,h2,h3⟩;rw[ht,Jc];cases b
   ·rw[if_neg Dc];refine W.ret ⟨rfl,?_⟩;simp[h3 rfl]
   ·rw[if_pos rfl];refine W.bd (W.qt ((h2 rfl).imp λy s3=>?_));rintro⟨rfl,d,rfl,eg⟩;refine W.bd (W.dat ?_);rw[if_pos hl];refine W.ret ⟨rfl,?_⟩;simp[eg]
 ·obtain⟨rfl,rfl⟩:=hI;rw[cH,yF];exact h
theorem Kat{c:List D}{fz:Bool}{elt:E}{tg:List Nat}{it:Wk}{fr:List Nat}{many:Nat}{cond:Eo}(I:Nat->List D->S->Prop)
  (hw:W (jT ao true F it J) s λcn s1=>cn=(.fix c,c.length)/\I 0 [] s1)
  (hb:∀i x acc s,c[i]?=some x->I i acc s->oF (eG tg x (blk many fr J)) λJ'=>W (nF ao true F cond J') s λb s1=>(b=true->W (ev ao true F elt J') s1 λy s2=>∃d,y=.d d/\acc.length<sizeLine/\I (i+1) (acc++[d]) s2)/\(b=false->I (i+1) acc s1))
  (h:∀acc s,I c.length acc s->W (newL fz acc) s P):W (ev ao true F (.comp fz elt tg it fr many cond) J) s P:=by
 change W (_root_.ite (true=true) _ _) s P
 rw[if_pos rfl];refine W.bd (hw.imp λcn s1=>?_);rintro⟨rfl,h0⟩;refine W.bd ?_;refine W.walk (c:=c) I h0 (λi x acc s' e hI=>?_) (λacc s' hI=>h acc s' hI);obtain⟨J',e1,h1⟩:=hb i x acc s' e hI;refine W.bd (W.opt e1 ?_);refine W.bd (W.qt (h1.imp λb s2=>?_));rintro⟨h2,h3⟩;cases b
 ·rw[if_neg Dc];exact W.ret (h3 rfl)
 ·rw[if_pos rfl];refine W.bd (W.qt ((h2 rfl).imp λy s3=>?_));rintro⟨d,rfl,hl,hi⟩;refine W.bd (W.dat ?_);rw[if_pos hl];exact W.ret hi
theorem W.push{o a:E}(h:W (ev ao aj F o J) s λx s1=>W (Mi.bY x) s1 λ_ s2=>W (ev ao aj F a J) s2 λy s3=>W (Mi.dat y) s3 λd s4=>W (Mi.bY x) s4 λnx s5=>nx.2.length<sizeLine/\P (.d .non) (s5.set nx.1 (.lst (nx.2++[d])))):W (ev ao aj F (.push o a) J) s P:=by
 refine W.bd (h.imp λx s1 h=>W.bd (h.imp λ_ s2 h=>W.bd (h.imp λy s3 h=>W.bd (h.imp λd s4 h=>W.bd (h.imp λnx s5 h=>?_)))));rw[if_pos h.1];exact W.bd (HF (W.ret h.2))
end
theorem tV{s:S}{o:SO}:(s++[o])[s.length]?=some o:=by simp
theorem zgc:(s++[o]).set s.length o'=s++[o']:=by simp
theorem Y{P R:Prop}(k:R)(h:Bx R->P:=by
 intro k
 repeat (first|with_reducible first
   |refine Kbe (by with_unfolding_all rfl) ?_|refine Kbf (by with_unfolding_all rfl) ?_|refine Kbd (by with_unfolding_all rfl) ?_|refine W.pv (by with_unfolding_all rfl) ?_|refine Ka0 (by with_unfolding_all rfl) ?_|refine KaZ (by with_unfolding_all rfl) ?_|refine KaY (by with_unfolding_all rfl) ?_
   |refine WS.cons ?_|refine WS.nil ?_|refine Nt ?_|refine Nu ?_|refine Kbq ?_|refine Uj ?_|refine Uk ?_|refine zJ ?_|refine Kbo ?_|refine Kbn ?_|refine Kbk ?_|refine Ui ?_|refine Kbh ?_|refine Kbm ?_|refine WS.tU ?_|refine WS.zG ?_|refine WS.D_ (by with_unfolding_all rfl) ?_|refine WS.zF (by with_unfolding_all rfl) ?_|refine oF.mk (by with_unfolding_all rfl) ?_
   |refine Kai ?_|refine Kaj ?_|refine W.eC ?_|refine W.eV (by with_unfolding_all rfl) ?_|refine Ug ?_|refine Uh ?_|refine KaL ?_|refine KaG ?_|refine KaH ?_|refine KaA ?_|refine KaI ?_|refine KaF ?_|refine W.kE ?_|refine W.uK ?_|refine W.push ?_|refine KaK ?_|refine KaD ?_|refine KaT ?_|refine KaU ?_|refine KaP ?_|refine KaO ?_|refine KaQ ?_|refine KaN ?_|refine Kak ?_|refine Kal ?_|refine W.tU ?_|refine W.zG ?_|refine W.D_ (by with_unfolding_all rfl) ?_|refine W.zF (by with_unfolding_all rfl) ?_
   |refine Ka3 ?_|refine Ka4 ?_|refine Ka1 ?_|refine Nk (by with_unfolding_all rfl) ?_|refine Nk tV ?_|refine Kax ?_|refine Kay ?_|refine W.dat ?_|refine W.bool ?_|refine W.int ?_|refine W.bY (by with_unfolding_all rfl) ?_|refine W.bY tV ?_|refine HF ?_|refine Ka6 ?_|refine KaM ?_|refine W.iQ ?_|refine W.oM ?_|refine Ka5 ?_|refine KaS ?_|refine KaR ?_
   |refine bL (by first|(with_unfolding_all rfl)|exact zks (by first|(left;constructor<;>lia)|(right;constructor<;>lia))|exact zkq gV|exact zj3 gV|exact zfQ gV|exact zkH Dc) ?_|refine xV (by with_unfolding_all rfl) ?_
   |refine W.ret ?_|refine W.bd ?_
   | (dsimp only))
 all_goals exact k.o):P:=h ⟨k⟩
def lx(p q:Int×Int):Prop:=p.1<q.1\/p.1=q.1/\p.2<q.2
noncomputable def aQ(n:Int)(ps:List (Int×Int)):D:=.tup [.int n,.tup (ps.map cG)]
structure Web(n:Int)(ps:List (Int×Int)):Prop where
 h1:1<=n
 h8:n<=8
 tie:∀p∈ps,0<=p.1/\p.1<p.2/\p.2<n
 inc:ps.Pairwise lx
 len:(ps.length:Int)<=7*n
theorem zht(h:∀x∈xs,x=.bl true):fZ xs=some (List.replicate xs.length true):=by
 induction xs with
 |nil=>rfl
 |cons x r ih=>
  rw[h x J0];show Option.map _ (fZ r)=_;rw[ih λy hy=>h y (by simp[hy])];rfl
theorem zK(h:∀x∈xs,x=.bl true):prim .all [.fl xs]=some (.dat (.bl true)):=by
 show Option.map _ (fZ xs)=_;rw[zht h];simp
theorem zje(p q:Int×Int):cJ (k+1) (cG p) (cG q)=some (decide (p=q)):=by
 show dJ (cJ k) [.int p.1,.int p.2] [.int q.1,.int q.2]=_;have hi:∀a b:Int,cJ k (.int a) (.int b)=some (a==b):=by intro a b;cases k<;>rfl
 simp only[dJ,hi];obtain⟨a,b⟩:=p;obtain⟨c,d⟩:=q;by_cases h1:a=c
 ·by_cases h2:b=d
  ·simp[h1,h2]
  ·simp[h1,h2]
 ·simp[h1]
theorem ziy(p:Int×Int)(ps:List (Int×Int)):memD (cG p) (ps.map cG)=some (decide (p∈ps)):=by
 induction ps with
 |nil=>rfl
 |cons q r ih=>
  simp only[oY,memD,ih,zje]
  congr 1
  rw[<-Bool.decide_or];apply FZ.mpr;rw[iy]
  constructor
  ·rintro(h|h)
   ·exact .inl h.symm
   ·exact .inr h
  ·rintro(h|h)
   ·exact .inl h.symm
   ·exact .inr h
theorem Nv{f:Bool->Bool}{p:Int×Int}{ps:List (Int×Int)}:su f [cG p,.tup (ps.map cG)]=some (.dat (.bl (f (decide (p∈ps))))):=by
 show Option.map _ (memD (cG p) (ps.map cG))=_;rw[ziy];rfl
theorem zkz(h:lx p q):ltI [p.1,p.2] [q.1,q.2]=true:=by
 simp only[ltI];rcases h with h|⟨h,h2⟩
 ·rw[if_neg gV];simp[h]
 ·rw[if_pos h,if_neg gV];simp[h2]
theorem Ny(xs:List D):cut xs (some 1) none=xs.drop 1:=by
 unfold cut;rw[HT.iK];rw[show (some 1:Option Int)=some ((1:Nat):Int) from rfl,HT.jH];cases xs with
 |nil=>rfl
 |cons x r=>simp
theorem Uq:∀{ps:List (Int×Int)},ps.Pairwise lx->∀x∈List.zipWith (λ(p q:D)=>D.tup [p,q]) (ps.map cG) ((ps.map cG).drop 1),∃p q,x=.tup [cG p,cG q]/\lx p q
 |[],_,x,hx=>by simp at hx
 |[p],_,x,hx=>by simp at hx
 |p::q::r,h,x,hx=>by
  rw[show (List.map cG (p::q::r)).drop 1=List.map cG (q::r) from rfl] at hx;have e:List.zipWith (λ(p q:D)=>D.tup [p,q]) (List.map cG (p::q::r)) (List.map cG (q::r))=.tup [cG p,cG q]::List.zipWith (λ(p q:D)=>D.tup [p,q]) (List.map cG (q::r)) (List.map cG r):=rfl;rw[e,iy] at hx;rcases hx with rfl|hx
  ·exact⟨p,q,rfl,(yx.mp h).1 q J0⟩
  ·exact Uq (ps:=q::r) (yx.mp h).2 x hx
theorem Ur:∀(xs:List D) (j i:Nat),(enumFrom j xs)[i]?=xs[i]?.map λx=>.tup [.int ((j+i:Nat):Int),x]
 |[],j,i=>by simp[enumFrom]
 |x::r,j,0=>by simp[enumFrom]
 |x::r,j,i+1=>by
  simp only[enumFrom,yp,Ur r (j+1) i];rw[show j+1+i=j+(i+1) by lia]
theorem Us:∀(xs:List D) (j:Nat),(enumFrom j xs).length=xs.length
 |[],j=>rfl
 |x::r,j=>by simp[enumFrom,Us r (j+1)]
theorem zfk(h:pJ xs=some ys):prim .sorted [.fl xs]=some (.nw ys):=by
 show Option.map Rz.nw (pJ xs)=_;rw[h];rfl
theorem zfG{es:List Int}(h64:es.length<64)(h:es.Pairwise (·<·)):pJ (es.map D.int)=some (es.map D.int):=by
 refine zgo ?_ (by rw[cH];exact h64) λk hk=>?_
 ·rw[Gd]
  left
  rw[List.all_map,k_];intro x _;rfl
 ·rw[cH] at hk;unfold pI;rw[gZ,gZ,gj hk,gj (show k<es.length by lia)];have:=Iw.mp h k (k+1) gV hk gV;simp only[Option.map_some]
  congr 1
  apply eU
  lia
noncomputable def endOf(i:Int)(p:Int×Int):Option Int:=if p.1=i then some p.2 else if p.2=i then some p.1 else none
noncomputable def aY(i:Int)(ps:List (Int×Int)):List Int:=ps.filterMap (endOf i)
theorem Ut(h:Web n ps)(i:Int):(aY i ps).Pairwise (·<·):=by
 have ht:=h.tie;have hi:=h.inc;clear h;unfold aY
 induction ps with
 |nil=>simp
 |cons p r ih=>
  obtain⟨hp,hr⟩:=yx.mp hi;have ih:=ih (λq hq=>ht q (by simp[hq])) hr;rw[rm]
  split
  ·exact ih
  ·rename_i b eb;refine yx.mpr ⟨λc hc=>?_,ih⟩;obtain⟨q,hq,eq⟩:=ug.mp hc;have l:=hp q hq;have tp:=ht p J0;have tq:=ht q (by simp[hq]);unfold endOf at eb eq;unfold lx at l;split at eb
   ·cases eb;split at eq
    ·cases eq;lia
    ·split at eq
     ·cases eq;lia
     ·cases eq
   ·split at eb
    ·cases eb;split at eq
     ·cases eq;lia
     ·split at eq
      ·cases eq;lia
      ·cases eq
    ·cases eb
theorem Uu(h:Web n ps)(he:e∈aY i ps):0<=e/\e<n:=by
 obtain⟨q,hq,eq⟩:=ug.mp he;have tq:=h.tie q hq;unfold endOf at eq;split at eq
 ·cases eq;lia
 ·split at eq
  ·cases eq;lia
  ·cases eq
theorem Nz:∀{es:List Int} {a n:Int},es.Pairwise (·<·)->(∀e∈es,a<=e/\e<n)->a<=n->(es.length:Int)<=n-a
 |[],a,n,_,_,h=>by simp;lia
 |e::r,a,n,h,hb,ha=>by
  obtain⟨h1,h2⟩:=yx.mp h;have he:=hb e J0;have:=Nz (es:=r) (a:=e+1) (n:=n) h2 (λx hx=>⟨by have:=h1 x hx;lia,(hb x (by simp[hx])).2⟩) gV;rw[gB]
  lia
theorem HJ{a b:Int}{i:Nat}{x:D}(h:(gK a b)[i]?=some x):x=.int (a+i)/\a+i<b:=by
 unfold gK at h;rw[gZ] at h;cases e:(List.range (b-a).toNat)[i]? with
 |none=>rw[e] at h;cases h
 |some j=>
  rw[e] at h;cases h;obtain⟨hl,rfl⟩:=fQ.mp e;rw[lQ] at hl;rw[List.getElem_range];exact⟨rfl,by lia⟩
theorem HN:(gK a b).length=(b-a).toNat:=by unfold gK;simp
theorem kW(h1 : -1000<=a)(h2:a<=1000):dN a=true:=by
 unfold dN;rw[cX gV,cX gV];rfl
theorem HS(hl:locs xs=[s.length])(h:W (F (cO 0 xs)) [o] λv s1=>∃d o',v=.d d/\s1=[o']/\P (.d d) (s++[o'])):W (bJ F xs) (s++[o]) P:=by
 refine Ue (n:=s.length) (o:=o) hl J0 (h.imp λv s1=>?_);rintro⟨d,o',rfl,rfl,hp⟩;exact⟨d,o',rfl,rfl,by rw[show (s++[o]).set s.length o'=s++[o'] by simp];exact hp⟩
theorem zhc{ns:List Int}{lo hi:Option Int}{x:D}(h:x∈cut (ns.map D.int) lo hi):∃n,x=.int n:=by
 have:=List.mem_of_mem_drop (List.mem_of_mem_take h);obtain⟨n,_,rfl⟩:=jy.mp this;exact⟨n,rfl⟩
theorem zhI{ns:List Int}{lo hi:Option Int}:(cut (ns.map D.int) lo hi).length<=ns.length:=by
 unfold cut;rw[rB,zZ,cH]
 lia
theorem Ej{α:Type}[DecidableEq α]:∀{l m:List α},l.Nodup->(∀x∈l,x∈m)->l.length<=m.length
 |[],m,_,_=>uy _
 |x::r,m,h,hm=>by
  obtain⟨h1,h2⟩:=uw.mp h;have hx:x∈m:=hm x J0;have:=Ej (l:=r) (m:=m.erase x) h2 λy hy=>(List.mem_erase_of_ne (λe=>by subst e;exact h1 hy)).mpr (hm y (by simp[hy]));rw[List.length_erase_of_mem hx] at this;have:=List.length_pos_of_mem hx;rw[gB]
  lia
theorem Ka9(R:Vs->S->Prop)(h:WS (ex ao aj F a J) s λo s'=>∃J',o=.nx J'/\R J' s')(h2:∀J' s',R J' s'->WS (exs ao aj F r J') s' Q):WS (exs ao aj F (.cons a r) J) s Q:=
 WS.cons (h.imp λo s' ⟨J',e,hr⟩=>by subst e;exact h2 J' s' hr)
noncomputable def at'(fs:List Int)(j:Int):Int:=fs.getD j.toNat 0
theorem Ek{fs:List Int}{j:Int}(h0:0<=j)(h:j<fs.length):∃(i:Nat) (hi:i<fs.length),j=i/\at' fs j=fs[i]:=by
 obtain⟨i,rfl⟩:=Fl h0;have hi:i<fs.length:=by lia
 refine⟨i,hi,rfl,?_⟩;unfold at';rw[rA,ji,gj hi];rfl
theorem HW{fs:List Int}{j:Int}(h0:0<=j)(h:j<fs.length):at' fs j∈fs:=by
 obtain⟨i,hi,_,e⟩:=Ek h0 h;rw[e];exact List.getElem_mem _
theorem Uv{fs:List Int}{j:Int}(h0:0<=j)(h:j<fs.length):(fs.map D.int)[j.toNat]?=some (.int (at' fs j)):=by
 obtain⟨i,hi,rfl,e⟩:=Ek h0 h;rw[e,rA,gZ,gj hi];rfl
theorem jY{fs gs:List Int}{j:Int}(h0:0<=j)(h:j<fs.length):at' (fs++gs) j=at' fs j:=by
 obtain⟨i,hi,rfl,e⟩:=Ek h0 h;unfold at';rw[rA,ji,ji,kY hi]
theorem vA:at' (fs++[x]) fs.length=x:=by
 unfold at';rw[rA,ji,mU (bT _)];simp
theorem NK(h0:0<=j)(h:xs[j.toNat]?=some x):prim .ix [.fl xs,.int j]=some (.dat x):=by
 obtain⟨k,rfl⟩:=Fl h0;exact HB h
theorem zkB(h0:0<=j)(h:j<fs.length):prim .ix [.fl (fs.map .int),.int j]=some (.dat (.int (at' fs j))):=NK h0 (Uv h0 h)
theorem ql(h0:0<=j)(h:j<fs.length):prim .ix [.tup (fs.map .int),.int j]=some (.dat (.int (at' fs j))):=NK h0 (Uv h0 h)
theorem NP:L2.oK (n+1) (-1)=some n:=by
 unfold L2.oK;simp
 lia
theorem vB:prim .ix [.fl (xs++[x]),.int (-1)]=some (.dat x):=by
 show Option.map Rz.dat (L2.m9 (xs++[x]) (-1))=_;have:L2.m9 (xs++[x]) (-1)=some x:=by
  unfold L2.m9;rw[bO];show (L2.oK (xs.length+1) (-1)).bind _=_;rw[NP];simp
 rw[this];rfl
noncomputable def dF(k a b:Int):Int:=if k-(if a-b<0 then -(a-b) else a-b)<(if a-b<0 then -(a-b) else a-b) then k-(if a-b<0 then -(a-b) else a-b) else (if a-b<0 then -(a-b) else a-b)
theorem qW(hd:1<=d):d<=dF k a b↔(d<=a-b/\a-b<=k-d)\/(d<=b-a/\b-a<=k-d):=by
 unfold dF
 split<;>split<;>lia
theorem Uw(j:Int)(ls:List Int):memD (.int j) (ls.map .int)=some (decide (j∈ls)):=by
 induction ls with
 |nil=>rfl
 |cons q r ih=>
  have hi:cJ 50 (.int q) (.int j)=some (q==j):=rfl;simp only[oY,memD,ih,hi]
  congr 1
  by_cases h:q=j
  ·subst h;simp
  ·have h2:¬j=q:=λe=>h e.symm;simp[h,h2]
structure cB(n k d:Int)(ps:List (Int×Int))(hs:List Int):Prop where
 len:(hs.length:Int)=n
 lo:∀x∈hs,0<=x/\x<k
 fit:∀p∈ps,d<=dF k (at' hs p.1) (at' hs p.2)
section
variable {ao:Nat->Nat->Bool}{aj:Bool}{F:Bool->Fn}{J:Vs}{s:S}{Q:Out->S->Prop}
theorem WS.wh(I:Nat->Vs->S->Prop)(hm:m<iM)(h0:I m J s)
  (step:∀m J s,I m J s->W (ev ao aj (F aj) c J) s λx s1=>W (Mi.bool x) s1 λk s2=>(k=true->WS (exs ao aj F b J) s2 λo s3=>(∃J' m',o=.nx J'/\m'<m/\I m' J' s3)\/(∃x,o=.rt x/\Q (.rt x) s3))/\(k=false->Q (.nx J) s2)):WS (ex ao aj F (.wh c b) J) s Q:=by
 have key:∀n m J s,m<n->I m J s->WS (fC (λJ=>M.bd (ev ao aj (F aj) c J) Mi.bool) (λJ=>exs ao aj F b J) n J) s Q:=by
  intro n
  induction n with
  |zero=>intro m J s h;exact absurd h (Ga _)
  |succ n ih=>
   intro m J s hmn hI;obtain⟨x,s1,e1,k,s2,e2,hk⟩:=step m J s hI;unfold fC;refine WS.ofM (W.bd ⟨x,s1,e1,k,s2,e2,?_⟩);cases k with
   |false=>exact⟨_,s2,by rw[if_neg Dc],hk.2 rfl⟩
   |true=>
    obtain⟨o,s3,e3,hr⟩:=hk.1 rfl;rcases hr with ⟨J',m',rfl,hm',qd⟩|⟨x,rfl,hq⟩
    ·obtain⟨o2,s4,e4,q⟩:=ih m' J' s3 gV qd;exact⟨o2,s4,by rw[if_pos rfl,e3];exact e4,q⟩
    ·exact⟨_,s3,by rw[if_pos rfl,e3],hq⟩
 exact key iM m J s hm h0
end
section
variable {ao:Nat->Nat->Bool}{aj:Bool}{F:Fn}{J:Vs}{s:S}{P:Xv->S->Prop}
theorem W.pop(h:W (ev ao aj F o J) s λv s1=>v=.l n/\s1[n]?=some (.lst (xs++[x]))/\P (.d x) (s1.set n (.lst xs))):W (ev ao aj F (.pop o) J) s P:=by
 refine W.bd (h.imp λv s1 h=>?_);obtain⟨rfl,e,h⟩:=h;refine W.bd (W.bY e ?_);have e1:(xs++[x]).getLast?=some x:=by simp
 have e2:(xs++[x]).dropLast=xs:=by simp
 simp only[e1,e2];exact W.bd (HF (W.ret h))
end
def Ge(h r:List Int):Prop:=∀j:Nat,j<r.length->(∀i:Nat,i<j->at' h i=at' r i)->at' r j<=at' h j
theorem Ux(g:Ge h r)(h0:∀j:Nat,0<=at' h j):Ge h (r++[0]):=by
 intro j hj ha;rw[bO] at hj;by_cases hl:j<r.length
 ·rw[jY gV gV];exact g j hl λi hi=>by rw[ha i hi,jY gV gV]
 ·have:j=r.length:=by simp at hj;lia
  subst this;rw[vA];exact h0 _
theorem Uy(g:Ge h (r++[x]))(hx:(∀i:Nat,i<r.length->at' h i=at' r i)->at' h r.length≠x):Ge h (r++[x+1]):=by
 intro j hj ha;rw[bO] at hj;by_cases hl:j<r.length
 ·rw[jY gV gV];have:=g j (by rw[bO];lia) λi hi=>by rw[ha i hi,jY gV gV,jY gV gV]
  rwa [jY gV gV] at this
 ·have:j=r.length:=by simp at hj;lia
  subst this;rw[vA];have Uz:∀i:Nat,i<r.length->at' h i=at' r i:=λi hi=>by rw[ha i hi,jY gV gV]
  have:=g r.length J0 λi hi=>by rw[Uz i hi,jY gV gV]
  rw[vA] at this;have:=hx Uz
  lia
theorem zjC(g:Ge h (r++[y]++[x]))(hx:(∀i:Nat,i<(r++[y]).length->at' h i=at' (r++[y]) i)->False):Ge h (r++[y+1]):=by
 have g1:Ge h (r++[y]):=by
  intro j hj ha;have:=g j (by rw[bO];lia) λi hi=>by rw[ha i hi,jY (fs:=r++[y]) (gs:=[x]) gV gV]
  rwa [jY gV gV] at this
 refine Uy g1 λha e=>hx λi hi=>?_;rw[bO] at hi;by_cases hl:i<r.length
 ·rw[ha i hl,jY gV gV]
 ·have:i=r.length:=by simp at hi;lia
  subst this;rw[vA,e]
noncomputable def val(B:Nat):List Int->Nat->Nat
 |[],_=>0
 |x::r,n=>x.toNat*B^(n-1)+val B r (n-1)
theorem xY(B:Nat):∀(r t:List Int) (n:Nat),val B (r++t) n=val B r n+val B t (n-r.length)
 |[],t,n=>by simp[val]
 |x::r,t,n=>by
  simp only[List.cons_append,val,xY B r t (n-1),gB];rw[show n-1-r.length=n-(r.length+1) by lia]
  lia
theorem NQ{B:Nat}(hB:0<B):∀{r:List Int} {n:Nat},(∀z∈r,z<B)->r.length<=n->val B r n+B^(n-r.length)<=B^n
 |[],n,_,_=>by simp[val]
 |x::r,n,h,hl=>by
  rw[gB] at hl;have ih:=NQ hB (r:=r) (n:=n-1) (λz hz=>h z (by simp[hz])) gV;have hx:x.toNat+1<=B:=by have:=h x J0;lia
  simp only[val,gB];rw[show n-(r.length+1)=n-1-r.length by lia];have h2:B^n=B*B^(n-1):=by
   conv=>lhs;rw[show n=n-1+1 by lia]
   rw[Nat.pow_succ,Nat.mul_comm]
  rw[h2];have h3:=Nat.mul_le_mul_right (B^(n-1)) hx;rw[yH] at h3
  lia
noncomputable def left'(B n:Nat)(r:List Int):Nat:=(n+1)*(B^n-val B r n)+(n-r.length)
theorem zeZ(h:r.length<n):left' B n (r++[0])<left' B n r:=by
 unfold left';rw[xY];simp[val]
 lia
theorem UG{B n a b la lb:Nat}(h:a<b)(hb:b<=B^n)(hl:la<=n)(ou:lb<=n):(n+1)*(B^n-b)+(n-lb)<(n+1)*(B^n-a)+(n-la):=by
 have:B^n-b+1<=B^n-a:=by lia
 have:=Nat.mul_le_mul_left (n+1) this;rw[Nat.mul_add] at this
 lia
theorem zf2{B n:Nat}{r:List Int}{x:Int}(h0:0<=x)(hx:x+1<B)(hr:∀z∈r,z<B)(h:r.length<n):left' B n (r++[x+1])<left' B n (r++[x]):=by
 have h1:=NQ (B:=B) gV (r:=r++[x+1]) (n:=n) (λz hz=>by
  rcases iG.mp hz with hz|hz
  ·exact hr z hz
  ·have:z=x+1:=by simpa using hz
   lia) (by rw[bO];simp;lia)
 unfold left';refine UG ?_ gV (by simp;lia) (by simp;lia);rw[xY,xY];simp only[val];rw[show (x+1).toNat=x.toNat+1 by lia,yH];have:0<B^(n-r.length-1):=Nat.pow_pos gV
 lia
theorem zf8{B n:Nat}{r:List Int}{y x:Int}(h0:0<=y)(hy:y+1<B)(hx0:0<=x)(hx:x<B)(hr:∀z∈r,z<B)(h:r.length+1<n):left' B n (r++[y+1])<left' B n (r++[y]++[x]):=by
 have h1:=NQ (B:=B) gV (r:=r++[y+1]) (n:=n) (λz hz=>by
  rcases iG.mp hz with hz|hz
  ·exact hr z hz
  ·have:z=y+1:=by simpa using hz
   lia) (by rw[bO];simp;lia)
 unfold left';refine UG ?_ gV (by simp;lia) (by simp;lia);rw[xY,xY,xY];simp only[val,bO];rw[show (y+1).toNat=y.toNat+1 by lia,yH];have e1:B^(n-r.length-1)=B*B^(n-(r.length+[y].length)-1):=by
  conv=>lhs;rw[show n-r.length-1=n-(r.length+[y].length)-1+1 by simp;lia]
  rw[Nat.pow_succ,Nat.mul_comm]
 have h2:x.toNat+1<=B:=by lia
 have h3:=Nat.mul_le_mul_right (B^(n-(r.length+[y].length)-1)) h2;rw[yH] at h3;have:0<B^(n-(r.length+[y].length)-1):=Nat.pow_pos gV
 lia
theorem El{m:Nat}{f:Nat->Int}{j:Int}(h0:0<=j)(h:j<m):at' ((List.range m).map f) j=f j.toNat:=by
 unfold at';rw[ji,gZ,Ji gV];rfl
theorem zhL(xs:List D):cJ 50 (.fl xs) (.fl [])=some (decide (xs=[])):=by
 cases xs with
 |nil=>rfl
 |cons x r=>rfl
theorem zfC(xs:List D):cJ 50 (.tup xs) (.tup [])=some (decide (xs=[])):=by
 cases xs with
 |nil=>rfl
 |cons x r=>rfl
theorem zL:uL f [.fl xs,.fl []]=some (.dat (.bl (f (decide (xs=[]))))):=by
 show Option.map _ (cJ 50 (.fl xs) (.fl []))=_;rw[zhL];rfl
theorem UJ:uL f [.tup xs,.tup []]=some (.dat (.bl (f (decide (xs=[]))))):=by
 show Option.map _ (cJ 50 (.tup xs) (.tup []))=_;rw[zfC];rfl
theorem UL{f:Bool->Bool}{j:Int}{ls:List Int}:su f [.int j,.fl (ls.map .int)]=some (.dat (.bl (f (decide (j∈ls))))):=by
 show Option.map _ (memD (.int j) (ls.map .int))=_;rw[Uw];rfl
theorem NT{f:Bool->Bool}{j:Int}{ls:List Int}:su f [.int j,.tup (ls.map .int)]=some (.dat (.bl (f (decide (j∈ls))))):=by
 show Option.map _ (memD (.int j) (ls.map .int))=_;rw[Uw];rfl
noncomputable def aL(k d:Int):D:=.tup [.int k,.int d]
noncomputable def tW(k d:Int)(ps:List (Int×Int))(hs:List Int):Bool:=ps.all λp=>decide (d<=dF k (at' hs p.1) (at' hs p.2))
theorem lM:tW k d ps hs=true↔∀p∈ps,d<=dF k (at' hs p.1) (at' hs p.2):=by
 unfold tW;rw[k_];exact⟨λh p hp=>fH (h p hp),λh p hp=>cX (h p hp)⟩
section
variable {n k d:Int}{ps:List (Int×Int)}{ls:List Int}
structure Good(n k d:Int)(ps:List (Int×Int))(ls:List Int)(h:List Int):Prop where
 hu:cB n k d ps h
 z:at' h 0=0
 l:∀j∈ls,at' h j=0
theorem zgY(w:Web n ps)(hd:1<=d)(hk:1<=k)(hls:∀j∈ls,(0<=j/\j<n)/\∀p∈ps,p.1≠j/\p.2≠j){hs:List Int}(h:cB n k d ps hs):∃g,Good n k d ps ls g:=by
 have h1:=w.h1;have hl:=h.len;have wH:∀j:Int,0<=j->j<n->0<=at' hs j/\at' hs j<k:=λj a b=>h.lo _ (HW a gV);have z:=wH 0 gV gV;have hr:∀x:Int,0<=x/\x<k->0<=(if x<at' hs 0 then x-at' hs 0+k else x-at' hs 0)/\(if x<at' hs 0 then x-at' hs 0+k else x-at' hs 0)<k:=by
  intro x hx
  split<;>lia
 refine⟨(List.range n.toNat).map λ(i:Nat)=>if (i:Int)∈ls then 0 else (if at' hs i<at' hs 0 then at' hs i-at' hs 0+k else at' hs i-at' hs 0),⟨?_,λx hx=>?_,λp hp=>?_⟩,?_,λj hj=>?_⟩
 ·rw[cH,lQ];lia
 ·obtain⟨i,hi,rfl⟩:=jy.mp hx;have:=kh.mp hi
  split
  ·lia
  ·exact hr _ (wH i gV gV)
 ·have ht:=w.tie p hp;rw[El gV gV,El gV gV];have e1:((p.1.toNat:Nat):Int)=p.1:=by lia
  have e2:((p.2.toNat:Nat):Int)=p.2:=by lia
  rw[e1,e2,if_neg (λq=>(hls _ q).2 p hp |>.1 rfl),if_neg (λq=>(hls _ q).2 p hp |>.2 rfl)];have f:=(qW hd).mp (h.fit p hp);rw[qW hd];have a:=wH p.1 gV gV;have b:=wH p.2 gV gV
  split<;>split<;>lia
 ·rw[El gV gV];show (if ((0:Nat):Int)∈ls then 0 else if at' hs ((0:Nat):Int)<at' hs 0 then _ else _)=(0:Int)
  split
  ·rfl
  ·show (if at' hs 0<at' hs 0 then _ else at' hs 0-at' hs 0)=(0:Int);rw[if_neg gV]
   lia
 ·have:=(hls j hj).1;rw[El gV gV];have e1:((j.toNat:Nat):Int)=j:=by lia
  rw[e1,if_pos hj]
structure tX(n k d:Int)(ps:List (Int×Int))(ls:List Int)(r:List Int)(x:Int):Prop where
 lo:∀z∈r,0<=z/\z<k
 x0:0<=x
 xk:x<=k
 len:(r.length:Int)<n
 fit:∀p∈ps,p.2<r.length->d<=dF k (at' r p.1) (at' r p.2)
 ge:∀h,Good n k d ps ls h->Ge h (r++[x])
theorem UW(g:Good n k d ps ls h)(hk:1<=k)(j:Nat):0<=at' h j:=by
 by_cases hj:j<h.length
 ·exact(g.hu.lo _ (HW gV gV)).1
 ·unfold at';rw[rA,ji,Ja gV];exact Int.le_refl _
theorem NZ(hn:1<=n)(hk:1<=k)(hp:∀p∈ps,0<=p.1/\p.1<p.2):tX n k d ps ls [] 0 where
 lo:=by simp
 x0:=by lia
 xk:=by lia
 len:=by simp;lia
 fit:=λp hp' h=>by have:=hp p hp';simp at h;lia
 ge:=λh g=>Ux (r:=[]) (λj hj=>by simp at hj) (UW g hk)
theorem zh5(w:Web n ps)(S:tX n k d ps ls (r++[y]) x)(hx:x=k\/(0<x/\((r++[y]).length:Int)∈ls)):tX n k d ps ls r (y+1) where
 lo:=λz hz=>S.lo z (yt _ hz)
 x0:=by have:=S.lo y J0;lia
 xk:=by have:=S.lo y J0;lia
 len:=by have:=S.len;rw[bO] at this;simp at this;lia
 fit:=λp hp h=>by
  have ht:=w.tie p hp;have:=S.fit p hp (by rw[bO];simp;lia)
  rwa [jY gV gV,jY gV gV] at this
 ge:=λh g=>by
  refine zjC (S.ge h g) λha=>?_;have hge:=S.ge h g (r++[y]).length (by rw[bO (as:=r++[y])];simp) λi hi=>by rw[ha i hi,jY (fs:=r++[y]) (gs:=[x]) gV gV]
  rw[vA] at hge;have hlen:=S.len;have hl:=g.hu.len;rcases hx with rfl|⟨h0,ou⟩
  ·have:=(g.hu.lo _ (HW (fs:=h) (j:=((r++[y]).length:Nat)) gV gV)).2
   lia
  ·have:=g.l _ ou
   lia
theorem zhW(w:Web n ps)(S:tX n k d ps ls r x)(hx:x≠k)(hn:∃p∈ps,p.2=r.length/\dF k (at' (r++[x]) p.1) x<d):tX n k d ps ls r (x+1) where
 lo:=S.lo
 x0:=by have:=S.x0;lia
 xk:=by have:=S.xk;lia
 len:=S.len
 fit:=S.fit
 ge:=λh g=>Uy (S.ge h g) λha e=>by
  obtain⟨p,hp,e2,hg⟩:=hn;have ht:=w.tie p hp;have:=g.hu.fit p hp;rw[e2,e] at this;obtain⟨i,hi⟩:=Fl ht.1;rw[hi,ha i gV] at this;rw[hi,jY gV gV] at hg
  lia
theorem zgd(S:tX n k d ps ls r x)(hk:1<=k)(hx:x≠k)(hl:(r.length:Int)+1<n)(wO:∀p∈ps,0<=p.1/\p.1<p.2)(hn:∀p∈ps,p.2=r.length->d<=dF k (at' (r++[x]) p.1) x):tX n k d ps ls (r++[x]) 0 where
 lo:=λz hz=>by
  rcases iG.mp hz with hz|hz
  ·exact S.lo z hz
  ·have:z=x:=by simpa using hz
   have:=S.x0;have:=S.xk
   lia
 x0:=by lia
 xk:=by lia
 len:=by rw[bO];simp;lia
 fit:=λp hp h=>by
  have ht:=wO p hp;rw[bO] at h;simp at h;by_cases hl:p.2<r.length
  ·rw[jY gV gV,jY gV gV];exact S.fit p hp hl
  ·have e:p.2=r.length:=by lia
   have:=hn p hp e;rw[e,vA];exact this
 ge:=λh g=>Ux (S.ge h g) (UW g hk)
theorem zfp(S:tX n k d ps ls r x)(hx:x≠k)(hl:(r.length:Int)+1=n)(wO:∀p∈ps,0<=p.1/\p.1<p.2/\p.2<n)(hn:∀p∈ps,p.2=r.length->d<=dF k (at' (r++[x]) p.1) x):cB n k d ps (r++[x]) where
 len:=by rw[bO];simp;lia
 lo:=λz hz=>by
  rcases iG.mp hz with hz|hz
  ·exact S.lo z hz
  ·have:z=x:=by simpa using hz
   have:=S.x0;have:=S.xk
   lia
 fit:=λp hp=>by
  have ht:=wO p hp;by_cases hl:p.2<r.length
  ·rw[jY gV gV,jY gV gV];exact S.fit p hp hl
  ·have e:p.2=r.length:=by lia
   have:=hn p hp e;rw[e,vA];exact this
theorem zji(hd:1<=d)(hne:ps≠[])(hk:k<2*d)(hs:List Int):¬cB n k d ps hs:=λh=>by
 cases ps with
 |nil=>exact hne rfl
 |cons p r=>
  have:=(qW hd).mp (h.fit p J0)
  lia
theorem zf4(hd:1<=d)(ht:∃x y z,(x,y)∈ps/\(x,z)∈ps/\(y,z)∈ps)(hk:k<3*d)(hs:List Int):¬cB n k d ps hs:=λh=>by
 obtain⟨x,y,z,h1,h2,h3⟩:=ht;have a:=(qW hd).mp (h.fit _ h1);have b:=(qW hd).mp (h.fit _ h2);have c:=(qW hd).mp (h.fit _ h3);dsimp only at a b c
 lia
end
theorem Ka8{c:Src}{xs:List D}{f:D->List D->M (List D)}{s1:S}{acc:List D}{P:List D->S->Prop}(hc:∀i,c.at i s1=some xs[i]?)(I:Nat->List D->Prop)(h0:I 0 acc)(hb:∀i x acc,xs[i]?=some x->I i acc->W (f x acc) s1 λa s'=>s'=s1/\I (i+1) a)
  (he:∀acc,I xs.length acc->P acc s1):W (Mi.walk c f (xs.length+1) 0 acc) s1 P:=by
 have key:∀n i acc,i+n=xs.length->I i acc->W (Mi.walk c f (n+1) i acc) s1 P:=by
  intro n
  induction n with
  |zero=>
   intro i acc hi hI;have e:xs[i]?=none:=by rw[lO];lia
   have:i=xs.length:=by lia
   subst this;refine⟨acc,s1,?_,he acc hI⟩;unfold Mi.walk;simp only[hc,e]
  |succ n ih=>
   intro i acc hi hI;have eZ:i<xs.length:=by lia
   have e:xs[i]?=some xs[i]:=gj eZ;obtain⟨a,s',eb,rfl,qd⟩:=hb i xs[i] acc e hI;obtain⟨a2,s2,e2,q⟩:=ih (i+1) a gV qd;refine⟨a2,s2,?_,q⟩;unfold Mi.walk;simp only[hc,e,M.bd,eb];exact e2
 exact key xs.length 0 acc gV h0
section
variable {ao:Nat->Nat->Bool}{F:Fn}{J:Vs}{s:S}{P:Xv->S->Prop}
theorem N5{α:Type}{f:α->D}{l:List α}{fz:Bool}{elt:E}{tg:List Nat}{it:Wk}{fr:List Nat}{many:Nat}{cond:Eo}(s1:S)(g:α->Option D)(hc:l.length<=sizeLine)
  (hw:W (jT ao true F it J) s λcn s'=>s'=s1/\cn.2=(l.map f).length/\∀i,cn.1.at i s1=some (l.map f)[i]?)
  (hb:∀x∈l,oF (eG tg (f x) (blk many fr J)) λJ'=>W (nF ao true F cond J') s1 λb s'=>s'=s1/\(b=true->W (ev ao true F elt J') s1 λy s2=>s2=s1/\∃d,y=.d d/\g x=some d)/\(b=false->g x=none))
  (h:W (newL fz (l.filterMap g)) s1 P):W (ev ao true F (.comp fz elt tg it fr many cond) J) s P:=by
 change W (_root_.ite (true=true) _ _) s P
 rw[if_pos rfl];refine W.bd (hw.imp λcn s'=>?_);rintro⟨rfl,h2,h3⟩;refine W.bd ?_;rw[h2];refine Ka8 h3 (λi acc=>acc=(l.take i).filterMap g) rfl (λi x acc e hI=>?_) (λacc hI=>?_)
 ·subst hI;rw[gZ] at e;cases el:l[i]? with
  |none=>rw[el] at e;cases e
  |some y=>
   rw[el] at e;cases e;have hi:i<l.length:=(fQ.mp el).1;have ht:l.take (i+1)=l.take i++[y]:=by rw[Ad,el];rfl
   have hl:((l.take i).filterMap g).length<sizeLine:=FJ (zV _ _) (by rw[rB];lia);obtain⟨J',e1,h1⟩:=hb y (fU el);refine W.bd (W.opt e1 ?_);refine W.bd (W.qt (h1.imp λb s2=>?_));rintro⟨rfl,h2,h3⟩;rw[ht,Jc];cases b
   ·rw[if_neg Dc];refine W.ret ⟨rfl,?_⟩;simp[h3 rfl]
   ·rw[if_pos rfl];refine W.bd (W.qt ((h2 rfl).imp λy s3=>?_));rintro⟨rfl,d,rfl,eg⟩;refine W.bd (W.dat ?_);rw[if_pos hl];refine W.ret ⟨rfl,?_⟩;simp[eg]
 ·subst hI;rw[cH,yF];exact h
end
theorem U6{α:Type}{l:List α}{f:α->D}:l.filterMap (λx=>some (f x))=l.map f:=by
 rw[<-List.filterMap_eq_map];rfl
theorem zh8{hs:List Int}{i:Nat}{x:Int}(hi:i<hs.length):hs.take i++[x]++hs.drop (i+1)=hs.set i x:=by
 rw[List.set_eq_take_append_cons_drop,if_pos hi];simp
noncomputable def aq(k d:Int)(ps:List (Int×Int))(hs:List Int)(i:Int):List Int:=(aY i ps).filter λe=>decide (at' hs e=(at' hs i+d)%k)
theorem Kbc(I:Nat->Vs->S->Prop)(h0:I 0 J s)(hb:∀i x J s,c[i]?=some x->I i J s->WS (b x J) s λo s'=>(∃J',o=.nx J'/\I (i+1) J' s')\/(∃x,o=.rt x/\Q (.rt x) s'))
  (he:∀J s,I c.length J s->Q (.nx J) s):WS (cg (.fix c) b (c.length+1) 0 J) s Q:=by
 have key:∀n i J s,i+n=c.length->I i J s->WS (cg (.fix c) b (n+1) i J) s Q:=by
  intro n
  induction n with
  |zero=>
   intro i J s hi hI;have e:c[i]?=none:=by rw[lO];lia
   have:i=c.length:=by lia
   subst this;refine⟨_,s,?_,he J s hI⟩;unfold cg;simp only[Src.at,e]
  |succ n ih=>
   intro i J s hi hI;have eZ:i<c.length:=by lia
   have e:c[i]?=some c[i]:=gj eZ;obtain⟨o,s',eb,hr⟩:=hb i c[i] J s e hI;rcases hr with ⟨J',rfl,qd⟩|⟨x,rfl,hq⟩
   ·obtain⟨o2,s2,e2,q⟩:=ih (i+1) J' s' gV qd;refine⟨o2,s2,?_,q⟩;unfold cg;simp only[Src.at,e,eb];exact e2
   ·refine⟨_,s',?_,hq⟩;unfold cg;simp only[Src.at,e,eb]
 exact key c.length 0 J s gV h0
noncomputable def lN(n:Nat):List Int:=(List.range n).map λ(k:Nat)=>(k:Int)
theorem U7{n:Nat}{j:Int}(h0:0<=j)(h:j<n):at' (lN n) j=j:=by
 unfold lN;rw[El h0 h]
 lia
theorem zhA{n K:Int}{ps:List (Int×Int)}(w:Web n ps)(hK:n<=K):cB n K 1 ps (lN n.toNat) where
 len:=by have:=w.h1;unfold lN;simp;lia
 lo:=λx hx=>by
  unfold lN at hx;obtain⟨i,hi,rfl⟩:=jy.mp hx;have:=kh.mp hi
  lia
 fit:=λp hp=>by
  have ht:=w.tie p hp;rw[U7 gV gV,U7 gV gV,qW gV]
  lia
theorem U8{hs:List Int}{f:Int->Int}{j:Int}(h0:0<=j)(h:j<hs.length):at' (hs.map f) j=f (at' hs j):=by
 obtain⟨i,hi,rfl,e⟩:=Ek h0 h;rw[e];unfold at';rw[rA,ji,gZ,gj hi];rfl
theorem zfT(w:Web n ps)(hd:1<=d)(h:cB n k d ps hs):cB n (2*k) (2*d) ps (hs.map λx=>2*x) where
 len:=by rw[cH];exact h.len
 lo:=λx hx=>by
  obtain⟨y,hy,rfl⟩:=jy.mp hx;have:=h.lo y hy
  lia
 fit:=λp hp=>by
  have ht:=w.tie p hp;have hl:=h.len;have hf:=(qW hd).mp (h.fit p hp);rw[U8 gV gV,U8 gV gV,qW gV]
  lia
theorem Em{n k:Int}(hn:n<=6)(hk:k<=18):(n.toNat+1)*(k.toNat+1)^n.toNat+n.toNat<1000000000:=by
 have h1:(k.toNat+1)^n.toNat<=19^n.toNat:=Nat.pow_le_pow_left gV _;have h2:19^n.toNat<=19^6:=Nat.pow_le_pow_right Dc gV;have h3:(n.toNat+1)*(k.toNat+1)^n.toNat<=7*19^6:=Nat.mul_le_mul gV gV;have h4:7*19^6=329321167:=by decide
 lia
theorem En{xs:List D}{i:Nat}(h:i<=xs.length):cut xs none (some (i:Int))=xs.take i:=by
 unfold cut;rw[HT.iK,HT.jH,Nat.min_eq_left h];simp
theorem tY{xs:List D}{i:Nat}(h:i<=xs.length):cut xs (some (i:Int)) none=xs.drop i:=by
 unfold cut;rw[HT.iK,HT.jH,Nat.min_eq_left h];rw[List.take_of_length_le];rw[zZ]
 lia
theorem HX(h:xs.length+ys.length<=sizeLine):prim .add [.tup xs,.tup ys]=some (.dat (.tup (xs++ys))):=by
 show (if _ then _ else _)=_;rw[if_pos h]
theorem zg1{hs:List Int}{i:Nat}{x:Int}(hi:i<hs.length):(hs.map D.int).take i++[D.int x]++(hs.map D.int).drop (i+1)=(hs.set i x).map .int:=by
 rw[<-zh8 hi,lY,lY,List.map_take,List.map_drop];rfl
end Mi
namespace Mi
open PySem PySem.W PyProof.Rows L2
structure Ord(n:Nat)(lt:Nat->Nat->Option Bool)(le:Nat->Nat->Prop):Prop where
 ans:∀i j,i<n->j<n->(lt i j=some true/\le i j)\/(lt i j=some false/\le j i)
 tr:∀i j k,i<n->j<n->k<n->le i j->le j k->le i k
section
variable {lt:Nat->Nat->Option Bool}{le:Nat->Nat->Prop}{n:Nat}
theorem Ord.rfl'(o:Ord n lt le)(hi:i<n):le i i:=by
 rcases o.ans i i hi hi with ⟨_,e⟩|⟨_,e⟩<;>exact e
def oV(le:Nat->Nat->Prop)(p:Array Nat)(r:Nat):Prop:=∀a b,a<b->b<r->le (p.getD a 0) (p.getD b 0)
def qX(le:Nat->Nat->Prop)(p:Array Nat)(r:Nat):Prop:=∀a b,a<b->b<r->le (p.getD b 0) (p.getD a 0)
def Ep(le:Nat->Nat->Prop)(p:Array Nat)(l r:Nat):Prop:=∀a b,l<=a->a<r->l<=b->b<r->le (p.getD a 0) (p.getD b 0)
theorem getD_get?{p q:Array Nat}{i j:Nat}(h:p[i]?=q[j]?):p.getD i 0=q.getD j 0:=by
 have e:∀(x:Array Nat) (k:Nat),x.getD k 0=(x[k]?).getD 0:=by
  intro x k;unfold Array.getD
  split
  ·rename_i h;rw[Array.getElem?_eq_getElem h];rfl
  ·rename_i h;rw[Array.getElem?_eq_none gV];rfl
 rw[e,e,h]
theorem bQ.size{p:Array Nat}(h:bQ n p):p.size=n:=by have:=h.size_eq;simpa using this
theorem qY{p:Array Nat}{i j k:Nat}(hj:j<=p.size):(kas_rev p i j).getD k 0=if i<=k/\k<j then p.getD (i+j-1-k) 0 else p.getD k 0:=by
 have:=getElem?_mirror_all (xs:=p) (i:=i) hj k;unfold kas_rev
 split
 ·rename_i h;rw[if_pos h] at this;exact getD_get? this
 ·rename_i h;rw[if_neg h] at this;exact getD_get? this
theorem U9{p:Array Nat}{src d k:Nat}(hs:src<p.size)(hd:d<=src):(bubble p src d).getD k 0=if k=src-d then p.getD src 0 else if src-d<k/\k<=src then p.getD (k-1) 0 else p.getD k 0:=by
 have:=getElem?_bubble hs d hd k;by_cases h:k=src-d
 ·rw[if_pos h] at this ⊢;exact getD_get? this
 ·rw[if_neg h] at this ⊢;by_cases h2:src-d<k/\k<=src
  ·rw[if_pos h2] at this ⊢;exact getD_get? this
  ·rw[if_neg h2] at this ⊢;exact getD_get? this
variable (o:Ord n lt le)(hn:0<n)
include o hn
theorem qm(hi:i<n)(hj:j<n)(h1:le i j->fP lt (k true) P)(h2:le j i->fP lt (k false) P):fP lt (.ask i j k) P:=by
 rcases o.ans i j hi hj with ⟨e,hl⟩|⟨e,hl⟩
 ·obtain⟨a,e1,q⟩:=h1 hl;exact⟨a,by unfold aZ;rw[e];exact e1,q⟩
 ·obtain⟨a,e1,q⟩:=h2 hl;exact⟨a,by unfold aZ;rw[e];exact e1,q⟩
theorem zfz(hp:bQ n p)(hk:1<=k)(h:oV le p k)(hl:le (p.getD (k-1) 0) (p.getD k 0)):oV le p (k+1):=λa b vC hb=>by
 by_cases e:b=k
 ·subst e;by_cases e2:a=b-1
  ·subst e2;exact hl
  ·exact o.tr _ _ _ (hp.lt hn _) (hp.lt hn _) (hp.lt hn _) (h a (b-1) gV gV) hl
 ·exact h a b vC gV
theorem Er(hp:bQ n p)(hk:1<=k)(h:qX le p k)(hl:le (p.getD k 0) (p.getD (k-1) 0)):qX le p (k+1):=λa b vC hb=>by
 by_cases e:b=k
 ·subst e;by_cases e2:a=b-1
  ·subst e2;exact hl
  ·exact o.tr _ _ _ (hp.lt hn _) (hp.lt hn _) (hp.lt hn _) hl (h a (b-1) gV gV)
 ·exact h a b vC gV
theorem N6(hp:bQ n p):∀f k,1<=k->k+f<=n->oV le p k->fP lt (kas_asc p f k) λr=>k<=r/\r<=k+f/\oV le p r/\(r<k+f->le (p.getD r 0) (p.getD (r-1) 0))
 |0,k,_,_,h=>.ret ⟨bT _,by lia,h,λz=>by lia⟩
 |f+1,k,hk,hkf,h=>qm o hn (hp.lt hn _) (hp.lt hn _) (λhl=>.ret ⟨bT _,by lia,h,λ_=>hl⟩) λhl=>by
  obtain⟨r,e,h1,h2,h3,h4⟩:=N6 hp f (k+1) gV gV (zfz o hn hp hk h hl);exact⟨r,e,by lia,by lia,h3,λz=>h4 gV⟩
theorem U_(hp:bQ n p)(hk:k<=n)(h:qX le p k)(ha:Ep le p l k):qX le (kas_rev p l k) k:=λa b vC hb=>by
 have hs:=hp.size;rw[qY gV,qY gV];by_cases ca:l<=a/\a<k
 ·rw[if_pos ca,if_pos gV];exact ha _ _ gV gV gV gV
 ·rw[if_neg ca];by_cases cb:l<=b/\b<k
  ·rw[if_pos cb];exact h a _ gV gV
  ·rw[if_neg cb];exact h a b vC hb
theorem HY:∀f {p:Array Nat} k q,bQ n p->1<=k->k+f<=n->q+1<=k->qX le p k->Ep le p (k-(q+1)) k->fP lt (kas_desc f p k q) λr=>bQ n r.1/\k<=r.2.1/\r.2.1<=k+f/\r.2.2+1<=r.2.1/\qX le r.1 r.2.1/\Ep le r.1 (r.2.1-(r.2.2+1)) r.2.1
 |0,p,k,q,hp,_,_,hq,h,ha=>.ret ⟨hp,bT _,by dsimp only;lia,hq,h,ha⟩
 |f+1,p,k,q,hp,hk,hkf,hq,h,ha=>qm o hn (hp.lt hn _) (hp.lt hn _) (λhl=>by
   show fP lt (if q>0 then _ else _) _;have hs:=hp.size;have one:∀{x:Array Nat},bQ n x->Ep le x (k+1-(0+1)) (k+1):=λ{x} hx a b h1 h2 h3 h4=>by
    have:a=k:=by lia
    have:b=k:=by lia
    subst a;subst b;exact o.rfl' (hx.lt hn _)
   split
   ·have hp':=hp.rev (k-(q+1)) k;have h':qX le (kas_rev p (k-(q+1)) k) (k+1):=Er o hn hp' hk (U_ o hn hp gV h ha) (by
     rw[qY gV,qY gV,if_neg gV,if_pos gV];refine o.tr _ _ _ (hp.lt hn _) (hp.lt hn _) (hp.lt hn _) hl (ha _ _ gV gV gV gV))
    obtain⟨r,e,w⟩:=HY f (k+1) 0 hp' gV gV gV h' (one hp');exact⟨r,e,w.1,by lia,by lia,w.2.2.2⟩
   ·obtain⟨r,e,w⟩:=HY f (k+1) 0 hp gV gV gV (Er o hn hp hk h hl) (one hp);exact⟨r,e,w.1,by lia,by lia,w.2.2.2⟩) λhl=>qm o hn (hp.lt hn _) (hp.lt hn _) (λ_=>.ret ⟨hp,bT _,by dsimp only;lia,hq,h,ha⟩) λou=>by
   have hA:Ep le p (k+1-(q+1+1)) (k+1):=λa b h1 h2 h3 h4=>by
    have key:∀c,k-(q+1)<=c->c<k->le (p.getD c 0) (p.getD k 0)/\le (p.getD k 0) (p.getD c 0):=λc c1 c2=>
     ⟨o.tr _ _ _ (hp.lt hn _) (hp.lt hn _) (hp.lt hn _) (ha c (k-1) c1 c2 gV gV) hl,o.tr _ _ _ (hp.lt hn _) (hp.lt hn _) (hp.lt hn _) ou (ha (k-1) c gV gV c1 c2)⟩
    by_cases ea:a=k
    ·by_cases eb:b=k
     ·subst a;subst b;exact o.rfl' (hp.lt hn _)
     ·subst a;exact(key b gV gV).2
    ·by_cases eb:b=k
     ·subst b;exact(key a gV gV).1
     ·exact ha a b gV gV gV gV
   obtain⟨r,e,w⟩:=HY f (k+1) (q+1) hp gV gV gV (Er o hn hp hk h ou) hA;exact⟨r,e,w.1,by lia,by lia,w.2.2.2⟩
theorem zhn(hp:bQ n p)(hk:k<=n)(h:qX le p k):oV le (kas_rev p 0 k) k:=λa b vC hb=>by
 have hs:=hp.size;rw[qY gV,qY gV,if_pos gV,if_pos gV];exact h _ _ gV gV
theorem Va(hp:bQ n p)(hk:1<=k)(Et:k<=n)(h:qX le p k):fP lt (kas_tail3 k n p) λr=>bQ n r.2/\1<=r.1/\r.1<=n/\oV le r.2 r.1:=by
 refine fP.bind (λc hc=>?_) (N6 o hn (hp.rev 0 k) (n-k) k hk gV (zhn o hn hp Et h));exact⟨_,rfl,hp.rev 0 k,by dsimp only;lia,by dsimp only;lia,hc.2.2.1⟩
theorem Vb(hp:bQ n p)(hk:1<=k)(Et:k<n)(h:qX le p (k+1)):fP lt (kas_descPart k n p) λr=>bQ n r.2/\1<=r.1/\r.1<=n/\oV le r.2 r.1:=by
 refine fP.bind (λr hr=>?_) (HY o hn (n-(k+1)) (k+1) 0 hp gV gV gV h (λa b h1 h2 h3 h4=>by
  have:a=k:=by lia
  have:b=k:=by lia
  subst a;subst b;exact o.rfl' (hp.lt hn _)))
 obtain⟨w1,w2,w3,w4,w5,w6⟩:=hr
 split
 ·exact Va o hn (w1.rev _ _) gV gV (U_ o hn w1 gV w5 w6)
 ·exact Va o hn w1 gV gV w5
theorem zhF(hp:bQ n p):fP lt (kas_count n p) λr=>bQ n r.2/\1<=r.1/\r.1<=n/\oV le r.2 r.1:=by
 refine fP.bind (λk hk=>?_) (N6 o hn hp (n-1) 1 (bT _) gV (λa b h1 h2=>by lia));obtain⟨k1,k2,k3,k4⟩:=hk;have hs:=hp.size;by_cases e:(k==n)=true
 ·rw[if_pos e];exact .ret ⟨hp,k1,by dsimp only;lia,k3⟩
 ·rw[if_neg e];have Et:k<n:=by
   have:k≠n:=by simpa using e
   lia
  have hl:=k4 gV
  split
  ·refine qm o hn (hp.lt hn _) (hp.lt hn _) (λ_=>.ret ⟨hp,k1,by dsimp only;lia,k3⟩) λhz=>?_;have Vc:∀a b,a<k->b<k->le (p.getD a 0) (p.getD b 0):=λa b ha hb=>by
    have h1:le (p.getD a 0) (p.getD (k-1) 0):=by
     by_cases q:a=k-1
     ·subst q;exact o.rfl' (hp.lt hn _)
     ·exact k3 a (k-1) gV gV
    have h2:le (p.getD 0 0) (p.getD b 0):=by
     by_cases q:b=0
     ·subst q;exact o.rfl' (hp.lt hn _)
     ·exact k3 0 b gV gV
    exact o.tr _ _ _ (hp.lt hn _) (hp.lt hn _) (hp.lt hn _) (o.tr _ _ _ (hp.lt hn _) (hp.lt hn _) (hp.lt hn _) h1 hz) h2
   refine Vb o hn (hp.rev 0 k) k1 Et (Er o hn (hp.rev 0 k) k1 (λa b h1 h2=>?_) ?_)
   ·rw[qY gV,qY gV,if_pos gV,if_pos gV];exact Vc _ _ gV gV
   ·rw[qY gV,qY gV,if_neg gV,if_pos gV];exact o.tr _ _ _ (hp.lt hn _) (hp.lt hn _) (hp.lt hn _) hl (Vc _ _ gV gV)
  ·have:k=1:=by lia
   subst this;refine Vb o hn hp (bT _) Et (Er o hn hp (bT _) (λa b h1 h2=>by lia) hl)
theorem N8(hp:bQ n p)(h:oV le p k):∀f l r,l<=r->r<=k->r-l<=f->(∀a,a<l->le (p.getD a 0) (p.getD k 0))->(∀a,r<=a->a<k->le (p.getD k 0) (p.getD a 0))->fP lt (kas_place p k f l r) λi=>i<=k/\(∀a,a<i->le (p.getD a 0) (p.getD k 0))/\(∀a,i<=a->a<k->le (p.getD k 0) (p.getD a 0))
 |0,l,r,h1,h2,h3,h4,h5=>.ret ⟨by lia,h4,λa z=>h5 a gV⟩
 |f+1,l,r,h1,h2,h3,h4,h5=>by
  unfold kas_place;by_cases e:l>=r
  ·rw[if_pos e];exact .ret ⟨by lia,h4,λa z=>h5 a gV⟩
  ·rw[if_neg e];refine qm o hn (hp.lt hn _) (hp.lt hn _) (λhl=>?_) λhl=>?_
   ·refine N8 hp h f l ((l+r)/2) gV gV gV h4 λa z1 z2=>?_;by_cases q:a=(l+r)/2
    ·subst q;exact hl
    ·exact o.tr _ _ _ (hp.lt hn _) (hp.lt hn _) (hp.lt hn _) hl (h _ a gV z2)
   ·refine N8 hp h f ((l+r)/2+1) r gV h2 gV (λa z=>?_) h5;by_cases q:a=(l+r)/2
    ·subst q;exact hl
    ·exact o.tr _ _ _ (hp.lt hn _) (hp.lt hn _) (hp.lt hn _) (h a _ gV gV) hl
theorem Vd:∀f {p:Array Nat} k,bQ n p->k+f=n->oV le p k->fP lt (kas_bin f p k) λr=>bQ n r/\oV le r n
 |0,p,k,hp,hk,h=>.ret ⟨hp,(show k=n by lia)▸h⟩
 |f+1,p,k,hp,hk,h=>fP.bind (λl hl=>by
   obtain⟨l1,l2,l3⟩:=hl;have hs:=hp.size;refine Vd f (k+1) (hp.bub _ _) gV λa b vC hb=>?_;rw[U9 gV gV,U9 gV gV,show k-(k-l)=l by lia];by_cases ea:a=l
   ·rw[if_pos ea,if_neg gV,if_pos gV];exact l3 (b-1) gV gV
   ·rw[if_neg ea];by_cases ca:l<a/\a<=k
    ·rw[if_pos ca,if_neg gV,if_pos gV];exact h _ _ gV gV
    ·rw[if_neg ca];by_cases eb:b=l
     ·rw[if_pos eb];exact l2 a gV
     ·rw[if_neg eb];by_cases cb:l<b/\b<=k
      ·rw[if_pos cb];by_cases q:a=b-1
       ·lia
       ·exact h _ _ gV gV
      ·rw[if_neg cb];exact h _ _ vC gV) (N8 o hn hp h k 0 k gV (bT _) gV (λa z=>by lia) (λa z1 z2=>by lia))
theorem ziZ:fP lt (kas_sort n) λp=>bQ n p/\oV le p n:=by
 refine fP.bind (λr hr=>?_) (zhF o hn (.refl _));obtain⟨w1,w2,w3,w4⟩:=hr
 split
 ·rw[Nat.max_eq_left w2];exact Vd o hn _ _ w1 gV w4
 ·have:r.1=n:=by lia
  exact .ret ⟨w1,this▸w4⟩
end
end Mi
namespace Mi
open PySem PySem.Spec PyProof.Rows L2 PySem.W
section
variable {X:Cx}{cA:Cl}{ao:Nat->Nat->Bool}{aj:Bool}{F:Fn}{EX:XS}{a b:Expr}{A B:E}{pos p:Pos}{x:Str}{e:Expr}{es:List Expr}{Xs:Es}
noncomputable def tZ(sc:Scope)(x:Str):Bool:=match sc.names.lookup x with
 |some k=>xM k
 |none=>false
noncomputable def H_(sc:Scope)(x:Str):Bool:=match sc.names.lookup x with
 |some .globalImplicit=>true
 |_=>false
theorem Ve{sc:Scope}{x:Str}(h:tZ sc x=true):∃k,sc.names.lookup x=some k/\xM k=true:=by
 unfold tZ at h;split at h
 ·rename_i k e;exact⟨k,e,h⟩
 ·cases h
theorem Vf{sc:Scope}{x:Str}(h:H_ sc x=true):sc.names.lookup x=some .globalImplicit:=by
 unfold H_ at h;split at h
 ·assumption
 ·cases h
theorem gk(h:H_ X.env.scope x=true:=by kernel_rfl):JK X x .globalImplicit:=⟨Vf h⟩
theorem jl(h:(match X.env.scope.names.lookup x with|some .local=>true|_=>false)=true:=by kernel_rfl):JK X x .local:=by
 split at h
 ·exact⟨by assumption⟩
 ·cases h
theorem jc(h:(match X.env.scope.names.lookup x with|some .cell=>true|_=>false)=true:=by kernel_rfl):JK X x .cell:=by
 split at h
 ·exact⟨by assumption⟩
 ·cases h
theorem oW{scope:Scope}{cl:List (Str×Addr)}{N:List Str}{Cc:Addr}{s3:Shared}{H3:Hp}{fp:List Addr}{ak:List (Addr×Obj)}(h:H_ scope x=true:=by kernel_rfl):JK (X.blk scope cl N Cc s3 H3 fp ak) x .globalImplicit:=TQ (Vf h) rfl
theorem gv(i:Nat)(h:(decide (X.N[i]?=some x)&&tZ X.env.scope x&&okN x)=true:=by kernel_rfl):JE X cA ao aj F EX (.Name x pos) (.v i):=by
 rw[fK,fK] at h;obtain⟨k,e,hv⟩:=Ve h.1.2;exact TV i (fH h.1.1) ⟨e⟩ hv h.2
theorem bK(i:Nat){scope:Scope}{cl:List (Str×Addr)}{N:List Str}{Cc:Addr}{s3:Shared}{H3:Hp}{fp:List Addr}{ak:List (Addr×Obj)}(h:(decide (N[i]?=some x)&&tZ scope x&&okN x)=true:=by kernel_rfl):JE (X.blk scope cl N Cc s3 H3 fp ak) cA ao aj F EX (.Name x pos) (.v i):=by
 rw[fK,fK] at h;obtain⟨k,e,hv⟩:=Ve h.1.2;by_cases hk:k=.free
 ·subst hk;exact zlK i (fH h.1.1) e h.2
 ·exact TV i (fH h.1.1) (TQ e (by cases k<;>first|rfl|exact absurd rfl hk)) hv h.2
theorem gc{f k:Nat}{cm:Bool}{st:Stmt}{ps:List Str}(Fo:dB X.prog X.w X.K X.mg X.base (i_ X.prog X.w) cm k (h_ X.K x) (fdOf X.K x st) ps (pR X.K cA (F f)))(D:D3 X.K X.mg x st ps)(hr:cD k X.A)(R:JR X EX)(g:JK X x .globalImplicit)(ha:JA X cA ao aj F EX (e::es) Xs)(h:okN x=true:=by kernel_rfl)
  (n8:cm=true->X.aj=true:=by first|exact λ_=>rfl|exact λz=>nomatch z) (he:aH e=true:=by rfl) (c7:es.all aH=true:=by rfl):JE X cA ao aj F EX (.Call (.Name x p) (e::es) [] pos) (.call f Xs):=
 zjf f Fo n8 hr D.m D.f.kp D.b R g ha h he c7
theorem nd(h:decide X.N.Nodup=true:=by kernel_rfl):X.N.Nodup:=fH h
end
theorem fJ{P:Program}{w:World}{K:W.Frag}{mg:Str->Option Value}{base:Heap}{cA:Cl}{ao:Nat->Nat->Bool}{T:Nat->Option Df}{x:Str}{st:Stmt}{ps:List Str}{k n:Nat}{cm:Bool}{df:Df}(D:D3 K mg x st ps)(N:List Str)(hT:T n=some df)
  (hb:∀(cdv:Value) (A:Around) (outer:List Env) (s:Shared) (H:Hp) (E:XK),cD k (A.deeper (envOfC x (au st) s.heap.objs.size (h_ K x) cdv))->
   JB (gH (i_ P w) P w K mg base N x (au st) (h_ K x) cdv A outer s H E cm) cA ao cm (λc=>call ao T k c) (λ_ C dx H'=>E C dx H') (aO st) df.body) (S:dU N ps (au st):=by exact⟨rfl,rfl,rfl,dk,rfl,dk,dk⟩) (hp:df.g_=ps.length:=by rfl) (hm:df.many=N.length:=by rfl) :
  dB P w K mg base (i_ P w) cm (k+1) (h_ K x) (fdOf K x st) ps (pR K cA (call ao T (k+1) cm n)):=zic D.f S hT hp hm hb
end Mi
namespace Mi
open PySem
theorem Vg{r:List Int}{x j:Int}(h0:0<=j)(h:j<(r.length:Int)+1):prim .ix [.fl (r.map .int++[.int x]),.int j]=some (.dat (.int (at' (r++[x]) j))):=by
 have:=zkB (fs:=r++[x]) h0 (by rw[bO];simp;lia)
 rwa [lY] at this
theorem jZ{α:Type}{l:List α}{g:α->Option D}:l.filterMap g=[]↔∀x∈l,g x=none:=by
 rw[List.filterMap_eq_nil_iff]
theorem Kbb{n:Nat}{c:List D}{b:D->Vs->MS}{J:Vs}{s:S}{Q:Out->S->Prop}(I:Nat->Vs->S->Prop)(h0:I 0 J s)(hl:∀i J s,I i J s->s[n]?=some (.lst c))(hb:∀i x J s,c[i]?=some x->I i J s->WS (b x J) s λo s'=>∃J',o=.nx J'/\I (i+1) J' s')
  (he:∀J s,I c.length J s->Q (.nx J) s):WS (cg (.live n) b (c.length+1) 0 J) s Q:=by
 have key:∀m i J s,i+m=c.length->I i J s->WS (cg (.live n) b (m+1) i J) s Q:=by
  intro m
  induction m with
  |zero=>
   intro i J s hi hI;have e:c[i]?=none:=by rw[lO];lia
   have e0:=hl i J s hI;have:i=c.length:=by lia
   subst this;refine⟨_,s,?_,he J s hI⟩;unfold cg;simp only[Src.at,e0,e]
  |succ m ih=>
   intro i J s hi hI;have e0:=hl i J s hI;have eZ:i<c.length:=by lia
   have e:c[i]?=some c[i]:=gj eZ;obtain⟨o,s',eb,J',rfl,qd⟩:=hb i c[i] J s e hI;obtain⟨o2,s2,e2,q⟩:=ih (i+1) J' s' gV qd;refine⟨o2,s2,?_,q⟩;unfold cg;simp only[Src.at,e0,e,eb];exact e2
 exact key c.length 0 J s gV h0
theorem Ia{n:Nat}{c:List D}{s:S}{P:Src×Nat->S->Prop}(e:s[n]?=some (.lst c))(h:P (.live n,c.length) s):W (src (.l n)) s P:=⟨_,s,by unfold src;simp only[e],h⟩
theorem W.c0{F:List Xv->M Xv}{xs:List Xv}{s:S}{e:D}{P:Xv->S->Prop}(h:W (F (cO 0 xs)) [] λv _=>v=.d e)(k:P (.d e) s)(hl:locs xs=[]:=by rfl):W (bJ F xs) s P:=tR hl (h.imp λ_ _ q=>⟨_,q,k⟩)
theorem W.c1{F:List Xv->M Xv}{xs:List Xv}{s:S}{P:Xv->S->Prop}(h:W (F (cO 0 xs)) [] λv _=>∃d,v=.d d)(k:∀d,P (.d d) s)(hl:locs xs=[]:=by rfl):W (bJ F xs) s P:=tR hl (h.imp λ_ _ ⟨d,q⟩=>⟨d,q,k d⟩)
theorem zg0{k':Nat}(hs:List Int):dJ (cJ k') (hs.map D.int) (hs.map D.int)=some true:=by
 have hi:∀a:Int,cJ k' (.int a) (.int a)=some (a==a):=by intro a;cases k'<;>rfl
 induction hs with
 |nil=>rfl
 |cons x r ih=>simp only[oY,dJ,ih,hi];simp
section
variable {n m:Int}{ps qs:List (Int×Int)}{x:D}{hs:List Int}
theorem Vh{us:List Int}{j:Int}(h0:0<=j)(h:j<us.length):at' us j∈us:=by
 obtain⟨i,hi,_,e⟩:=Ek h0 h;rw[e];exact List.getElem_mem _
end
section
variable {n k d:Int}{ps:List (Int×Int)}
noncomputable def aG(r:List Int):D:=.tup (r.map .int)
end
end Mi
namespace Mi
open PySem PySem.W L2
theorem zM:∀a:List Int,ltI a a=false
 |[]=>rfl
 |x::a=>by show (if x=x then ltI a a else _)=false;rw[if_pos rfl];exact zM a
theorem Oa:∀a b:List Int,ltI a b=true\/a=b\/ltI b a=true
 |[],[]=>.inr (.inl rfl)
 |[],y::b=>.inl rfl
 |x::a,[]=>.inr (.inr rfl)
 |x::a,y::b=>by
  show (if x=y then ltI a b else decide (x<y))=true\/_\/(if y=x then ltI b a else decide (y<x))=true;by_cases e:x=y
  ·subst e;rw[if_pos rfl,if_pos rfl];rcases Oa a b with h|h|h
   ·exact .inl h
   ·exact .inr (.inl (by rw[h]))
   ·exact .inr (.inr h)
  ·rw[if_neg e,if_neg (Ne.symm e)];by_cases h:x<y
   ·exact .inl (cX h)
   ·exact .inr (.inr (cX gV))
theorem Ob:∀{a b c:List Int},ltI a b=true->ltI b c=true->ltI a c=true
 |a,b,[],_,h=>by cases b<;>cases h
 |[],_,z::c,_,_=>rfl
 |x::a,[],z::c,h,_=>by cases h
 |x::a,y::b,z::c,h1,h2=>by
  have h1:(if x=y then ltI a b else decide (x<y))=true:=h1;have h2:(if y=z then ltI b c else decide (y<z))=true:=h2;show (if x=z then ltI a c else decide (x<z))=true;by_cases e1:x=y
  ·subst e1;rw[if_pos rfl] at h1;by_cases e2:x=z
   ·rw[if_pos e2] at h2 ⊢;exact Ob h1 h2
   ·rw[if_neg e2] at h2 ⊢;exact h2
  ·rw[if_neg e1] at h1;have h1:=fH h1;by_cases e2:y=z
   ·subst e2;rw[if_neg e1];exact cX h1
   ·rw[if_neg e2] at h2;have h2:=fH h2;rw[if_neg gV];exact cX gV
theorem Vi{a b:List Int}(h:ltI a b=true):ltI b a=false:=by
 cases e:ltI b a
 ·rfl
 ·have:=Ob h e;rw[zM] at this;cases this
theorem Vj{c d:List Int}:∀{a b:List Int},a.length=b.length->ltI a b=true->ltI (a++c) (b++d)=true
 |[],[],_,h=>by cases h
 |[],_::_,h,_=>by cases h
 |_::_,[],h,_=>by cases h
 |x::a,y::b,hl,h=>by
  have h:(if x=y then ltI a b else decide (x<y))=true:=h;show (if x=y then ltI (a++c) (b++d) else decide (x<y))=true;by_cases e:x=y
  ·rw[if_pos e] at h ⊢;exact Vj (Nat.succ.inj hl) h
  ·rw[if_neg e] at h ⊢;exact h
theorem Ib{b c:List Int}:∀a:List Int,ltI (a++b) (a++c)=ltI b c
 |[]=>rfl
 |x::a=>by show (if x=x then ltI (a++b) (a++c) else _)=_;rw[if_pos rfl];exact Ib a
abbrev zN(a b:List Int):Prop:=ltI a b=true
theorem Vk:∀{a b:List Int},jf (a.map .int) (b.map .int)=some (ltI a b)
 |[],[]=>rfl
 |[],_::_=>by simp[jf,ltI]
 |_::_,[]=>rfl
 |x::a,y::b=>by
  show (if x=y then jf (a.map .int) (b.map .int) else some (decide (x<y)))=some (if x=y then ltI a b else decide (x<y));by_cases e:x=y
  ·rw[if_pos e,if_pos e];exact Vk
  ·rw[if_neg e,if_neg e]
theorem Vl:∀{a b:List (List Int)},a.Pairwise zN->b.Pairwise zN->(∀x,x∈a↔x∈b)->a=b
 |[],[],_,_,_=>rfl
 |[],y::b,_,_,h=>absurd ((h y).mpr J0) J0
 |x::a,[],_,_,h=>absurd ((h x).mp J0) J0
 |x::a,y::b,ha,hb,h=>by
  rw[yx] at ha hb;have e:x=y:=by
   rcases iy.mp ((h x).mp J0) with e|e
   ·exact e
   ·rcases iy.mp ((h y).mpr J0) with e2|e2
    ·exact e2.symm
    ·have h1:ltI y x=true:=hb.1 x e;have h2:ltI x y=true:=ha.1 y e2;rw[Vi h2] at h1;cases h1
  subst e;rw[Vl ha.2 hb.2 λz=>?_];have hz:=h z;rw[iy,iy] at hz
  constructor
  ·intro q;rcases hz.mp (.inr q) with e|e
   ·subst e;have h1:ltI z z=true:=ha.1 z q;rw[zM] at h1;cases h1
   ·exact e
  ·intro q;rcases hz.mpr (.inr q) with e|e
   ·subst e;have h1:ltI z z=true:=hb.1 z q;rw[zM] at h1;cases h1
   ·exact e
def Oc(us:List (List Int))(i j:Nat):Prop:=ltI (us.getD j []) (us.getD i [])=false
theorem zfX{us:List (List Int)}{i j:Nat}(hi:i<us.length)(hj:j<us.length):pI (us.map aG) i j=some (ltI (us.getD i []) (us.getD j [])):=by
 unfold pI;rw[gZ,gZ,gj hi,gj hj];show jf _ _=_;rw[Vk];simp[ji,hi,hj]
theorem Od{us:List (List Int)}:Ord us.length (pI (us.map aG)) (Oc us) where
 ans i j hi hj:=by
  rw[zfX hi hj];cases e:ltI (us.getD i []) (us.getD j [])
  ·exact .inr ⟨rfl,e⟩
  ·exact .inl ⟨rfl,Vi e⟩
 tr i j k _ _ _ h1 h2:=by
  unfold Oc at *;generalize us.getD i []=a at *;generalize us.getD j []=b at *;generalize us.getD k []=c at *;cases e:ltI c a
  ·rfl
  ·rcases Oa b c with q|q|q
   ·rw[Ob q e] at h1;cases h1
   ·subst q;rw[e] at h1;cases h1
   ·rw[q] at h2;cases h2
theorem zfx{us:List (List Int)}(hl:us.length<64)(ne:∀r∈us,r≠[])(nd:us.Nodup):∃qs:List (List Int),pJ (us.map aG)=some (qs.map aG)/\qs.Pairwise zN/\∀x,x∈qs↔x∈us:=by
 have hk:((us.map aG).all gJ||(us.map aG).all fj)=true:=by
  rw[Gd]
  right
  rw[List.all_map,k_];intro r hr;cases r with
  |nil=>exact absurd rfl (ne _ hr)
  |cons x r=>rfl
 unfold pJ;rw[if_pos hk];unfold lG;rw[cH];by_cases h2:us.length<2
 ·rw[if_pos h2];refine⟨us,rfl,?_,λ_=>Iff.rfl⟩;cases us with
  |nil=>exact .nil
  |cons x t=>
   cases t with
   |nil=>exact List.pairwise_singleton ..
   |cons y t=>exact absurd h2 J0
 ·rw[if_neg h2,if_pos hl];obtain⟨p,e,hp,ha⟩:=ziZ (Od (us:=us)) gV;have hs:p.size=us.length:=hp.size;rw[e];dsimp only;rw[if_pos hs];have eZ:∀i∈p.toList,i<us.length:=λi hi=>by
   have:=(Array.Perm.toList hp).mem_iff.mp hi;simpa using this
  have hm:(p.toList.map λi=>us.getD i []).Perm us:=by
   have h1:(p.toList.map λi=>us.getD i []).Perm ((List.range us.length).map λi=>us.getD i []):=(Array.Perm.toList hp).map _;have h2:((List.range us.length).map λi=>us.getD i [])=us:=by
    apply List.ext_getElem
    ·simp
    ·intro i a b;simp[ji,b]
   rw[h2] at h1;exact h1
  refine⟨p.toList.map λi=>us.getD i [],?_,?_,λx=>hm.mem_iff⟩
  ·rw[List.map_map]
   congr 1
   refine List.map_congr_left λi hi=>?_;have:=eZ i hi;simp[ji,this]
  ·have nd:(p.toList.map λi=>us.getD i []).Nodup:=hm.nodup_iff.mpr nd;rw[Iw];intro i j hi hj yS;have hne:=Iw.mp nd i j hi hj yS;have wN:i<p.size:=by simpa using hi
   have hj':j<p.size:=by simpa using hj
   have hl:=ha i j yS gV;unfold Oc at hl;have e1:p.getD i 0=p[i]:=by simp[Array.getD,wN]
   have e2:p.getD j 0=p[j]:=by simp[Array.getD,hj']
   rw[e1,e2] at hl;simp only[List.getElem_map,Array.getElem_toList] at hne ⊢;rcases Oa (us.getD p[i] []) (us.getD p[j] []) with q|q|q
   ·exact q
   ·exact absurd q hne
   ·rw[q] at hl;cases hl
noncomputable def gA(l:Int):List Int->Int
 |[]=>l
 |x::e=>gA x e
theorem Vm{l:Int}{e:List Int}{x:Int}:gA l (e++[x])=x:=by
 induction e generalizing l with
 |nil=>rfl
 |cons y e ih=>exact ih
section
variable {nx:Int->List Int}{p:Int}
noncomputable def Ch(nx:Int->List Int)(p:Int):List Int->Int->List Int->Prop
 |_,_,[]=>True
 |r,l,x::e=>x∈nx l/\p<x/\x∉r/\Ch nx p (r++[x]) x e
theorem j8{x:Int}:∀{e r:List Int} {l:Int},Ch nx p r l (e++[x])↔Ch nx p r l e/\x∈nx (gA l e)/\p<x/\x∉r++e
 |[],r,l=>by
  show x∈nx l/\p<x/\x∉r/\True↔True/\x∈nx l/\p<x/\x∉r++[];rw[lZ];exact⟨λh=>⟨trivial,h.1,h.2.1,h.2.2.1⟩,λh=>⟨h.2.1,h.2.2.1,h.2.2.2,trivial⟩⟩
 |y::e,r,l=>by
  show y∈nx l/\p<y/\y∉r/\Ch nx p (r++[y]) y (e++[x])↔(y∈nx l/\p<y/\y∉r/\Ch nx p (r++[y]) y e)/\x∈nx (gA y e)/\p<x/\x∉r++y::e;rw[j8 (e:=e),vJ,List.singleton_append];exact⟨λh=>⟨⟨h.1,h.2.1,h.2.2.1,h.2.2.2.1⟩,h.2.2.2.2⟩,λh=>⟨h.1.1,h.1.2.1,h.1.2.2.1,h.1.2.2.2,h.2⟩⟩
noncomputable def iC(nx:Int->List Int)(p:Int):Nat->List Int->Int->List (List Int)
 |0,_,_=>[]
 |f+1,r,l=>(if p∈nx l then [r] else [])++((nx l).filter λx=>decide (p<x)&&decide (x∉r)).flatMap λx=>iC nx p f (r++[x]) x
theorem cV{q:List Int}:∀{f:Nat} {r:List Int} {l:Int},q∈iC nx p f r l↔∃e,q=r++e/\Ch nx p r l e/\p∈nx (gA l e)/\e.length<f
 |0,r,l=>⟨λh=>(by cases h),λ⟨_,_,_,_,h⟩=>absurd h (Ga _)⟩
 |f+1,r,l=>by
  unfold iC;rw[iG,yG]
  constructor
  ·rintro(h|⟨x,hx,h⟩)
   ·split at h
    ·rename_i hp;rw[mW] at h;exact⟨[],by rw[lZ];exact h,trivial,hp,Nat.zero_lt_succ _⟩
    ·cases h
   ·rw[iw,fK,j_,j_] at hx;obtain⟨e,rfl,hc,hp,hl⟩:=cV.mp h;exact⟨x::e,by simp,⟨hx.1,hx.2.1,hx.2.2,hc⟩,hp,Nat.succ_lt_succ hl⟩
  ·rintro⟨e,rfl,hc,hp,hl⟩;cases e with
   |nil=>left;rw[if_pos (show p∈nx l from hp),lZ];simp
   |cons x e=>
    right
    obtain⟨h1,h2,h3,h4⟩:=hc;refine⟨x,by rw[iw,fK,j_,j_];exact⟨h1,h2,h3⟩,?_⟩;exact cV.mpr ⟨e,by simp,h4,hp,Nat.lt_of_succ_lt_succ hl⟩
theorem Vn(hs:∀l,(nx l).Pairwise (·<·)):∀{f:Nat} {r:List Int} {l:Int},(iC nx p f r l).Pairwise zN
 |0,_,_=>.nil
 |f+1,r,l=>by
  unfold iC;have pre:∀x,∀q∈iC nx p f (r++[x]) x,∃e,q=r++x::e:=λx q hq=>by
   obtain⟨e,rfl,_⟩:=cV.mp hq;exact⟨e,by simp⟩
  rw[Jg];refine⟨by split<;>simp,?_,λa ha b hb=>?_⟩
  ·rw[Fw];refine⟨λx _=>Vn hs,((hs l).filter _).imp λ{x y} hxy a ha b hb=>?_⟩;obtain⟨e1,rfl⟩:=pre x a ha;obtain⟨e2,rfl⟩:=pre y b hb;show ltI _ _=true;rw[Ib];show (if x=y then _ else decide (x<y))=true;rw[if_neg gV];exact cX hxy
  ·obtain⟨x,_,hb⟩:=yG.mp hb;obtain⟨e,rfl⟩:=pre x b hb;split at ha
   ·rw[mW] at ha;subst ha;have:=Ib (b:=[]) (c:=x::e) a;rw[lZ] at this;show ltI _ _=true;rw[this];rfl
   ·cases ha
end
noncomputable def la:List Int->Int
 |[]=>0
 |p::e=>gA p e
section
variable {n:Int}{nx:Int->List Int}{p:Int}
noncomputable def oX(a b:Int):List Int:=(List.range (b-a).toNat).map λ(i:Nat)=>a+(i:Int)
theorem dX{a b x:Int}:x∈oX a b↔a<=x/\x<b:=by
 unfold oX;rw[jy]
 constructor
 ·rintro⟨i,hi,rfl⟩;rw[kh] at hi;lia
 ·intro h;exact⟨(x-a).toNat,by rw[kh];lia,by lia⟩
theorem nR{a b:Int}:(oX a b).Pairwise (·<·):=by
 unfold oX;rw[FQ];exact Fp.imp λ{i j} h=>by lia
noncomputable def nxt(n:Int)(nx:Int->List Int)(r:List Int):List (List Int):=((oX (at' r 0+1) n).filter λx=>decide (x∉r)&&decide (x∈nx (la r))).map λx=>r++[x]
noncomputable def lv(n:Int)(nx:Int->List Int):Nat->List (List Int)
 |0=>(List.range n.toNat).map λ(i:Nat)=>[(i:Int)]
 |j+1=>(lv n nx j).flatMap (nxt n nx)
theorem t_(hn:∀l x,x∈nx l->0<=x/\x<n):∀{j:Nat} {r:List Int},r∈lv n nx j↔∃p e,r=p::e/\e.length=j/\(0<=p/\p<n)/\Ch nx p [p] p e
 |0,r=>by
  unfold lv;rw[jy]
  constructor
  ·rintro⟨i,hi,rfl⟩;rw[kh] at hi;exact⟨i,[],rfl,rfl,by lia,trivial⟩
  ·rintro⟨p,e,rfl,he,hp,_⟩;cases e with
   |nil=>exact⟨p.toNat,by rw[kh];lia,by rw[show ((p.toNat:Nat):Int)=p by lia]⟩
   |cons _ _=>cases he
 |j+1,r=>by
  unfold lv;rw[yG]
  constructor
  ·rintro⟨r0,h0,h⟩;obtain⟨p,e,rfl,he,hp,hc⟩:=(t_ hn).mp h0;unfold nxt at h;obtain⟨x,hx,rfl⟩:=jy.mp h;rw[iw,fK,j_,j_,dX] at hx;have h0:at' (p::e) 0=p:=rfl;rw[h0] at hx;exact⟨p,e++[x],rfl,by simp[he],hp,j8.mpr ⟨hc,hx.2.2,by lia,hx.2.1⟩⟩
  ·rintro⟨p,e',rfl,he,hp,hc⟩;rcases List.eq_nil_or_concat e' with rfl|⟨e,x,rfl⟩
   ·cases he
   ·rw[List.concat_eq_append] at hc he ⊢;obtain⟨c1,c2,c3,c4⟩:=j8.mp hc;refine⟨p::e,(t_ hn).mpr ⟨p,e,rfl,by simpa using he,hp,c1⟩,?_⟩;unfold nxt;refine jy.mpr ⟨x,?_,rfl⟩;rw[iw,fK,j_,j_,dX];have h0:at' (p::e) 0=p:=rfl;rw[h0];have:=hn _ x c2;exact⟨by lia,c4,c2⟩
theorem Eu(hn:∀l x,x∈nx l->0<=x/\x<n){j:Nat}{r:List Int}(h:r∈lv n nx j):r.length=j+1:=by
 obtain⟨p,e,rfl,he,_⟩:=(t_ hn).mp h;simp[he]
theorem Vo(hn:∀l x,x∈nx l->0<=x/\x<n):∀{j:Nat},(lv n nx j).Pairwise zN
 |0=>by
  unfold lv;rw[FQ];refine Fp.imp λ{i j} h=>?_;show (if (i:Int)=j then _ else decide ((i:Int)<j))=true;rw[if_neg gV];exact cX gV
 |j+1=>by
  unfold lv;rw[Fw];refine⟨λr hr=>?_,?_⟩
  ·unfold nxt;rw[FQ];refine(nR.filter _).imp λ{x y} h=>?_;show ltI _ _=true;rw[Ib];show (if x=y then _ else decide (x<y))=true;rw[if_neg gV];exact cX h
  ·refine(Vo hn (j:=j)).imp_of_mem λ{r s} hr hs h a ha b hb=>?_;unfold nxt at ha hb;obtain⟨x,_,rfl⟩:=jy.mp ha;obtain⟨y,_,rfl⟩:=jy.mp hb;exact Vj (by rw[Eu hn hr,Eu hn hs]) h
theorem zhd{j i:Nat}(h:lv n nx j=[])(hi:j<=i):lv n nx i=[]:=by
 induction i with
 |zero=>rw[show (0:Nat)=j by lia];exact h
 |succ i ih=>
  by_cases e:j=i+1
  ·rw[<-e];exact h
  ·unfold lv;rw[ih gV];rfl
noncomputable def uc(nx:Int->List Int)(r:List Int):Bool:=decide (at' r 0∈nx (la r))
noncomputable def jx(n:Int)(nx:Int->List Int)(j:Nat):List (List Int):=(List.range j).flatMap λi=>(lv n nx (i+1)).filter (uc nx)
theorem Vp{j:Nat}:jx n nx (j+1)=jx n nx j++(lv n nx (j+1)).filter (uc nx):=by
 unfold jx;rw[Ab,rz];simp
theorem nU{j:Nat}{r:List Int}:r∈jx n nx j↔∃i,i<j/\r∈lv n nx (i+1)/\uc nx r=true:=by
 unfold jx;rw[yG]
 constructor
 ·rintro⟨i,hi,h⟩;rw[iw] at h;exact⟨i,kh.mp hi,h.1,h.2⟩
 ·rintro⟨i,hi,h1,h2⟩;exact⟨i,kh.mpr hi,iw.mpr ⟨h1,h2⟩⟩
theorem zd7(hn:∀l x,x∈nx l->0<=x/\x<n){j:Nat}:(jx n nx j).Nodup:=by
 unfold jx List.Nodup;rw[Fw];refine⟨λi _=>((Vo hn).filter _).imp λ{a b} h e=>?_,Fp.imp λ{i k} h a ha b hb e=>?_⟩
 ·subst e;have h:ltI a a=true:=h;rw[zM] at h;cases h
 ·subst e;have h1:=Eu hn (iw.mp ha).1;have h2:=Eu hn (iw.mp hb).1
  lia
noncomputable def cR(n:Int)(nx:Int->List Int)(f:Nat):List (List Int):=(List.range n.toNat).flatMap λ(i:Nat)=>iC nx i f [(i:Int)] i
theorem zge(hs:∀l,(nx l).Pairwise (·<·)){f:Nat}:(cR n nx f).Pairwise zN:=by
 unfold cR;rw[Fw];refine⟨λ_ _=>Vn hs,Fp.imp λ{i j} h a ha b hb=>?_⟩;obtain⟨e1,rfl,_⟩:=cV.mp ha;obtain⟨e2,rfl,_⟩:=cV.mp hb;show (if (i:Int)=j then _ else decide ((i:Int)<j))=true;rw[if_neg gV];exact cX gV
theorem zO(hn:∀l x,x∈nx l->0<=x/\x<n):∀{e r:List Int} {l:Int},Ch nx p r l e->r.Nodup->(∀x∈r,0<=x/\x<n)->(r++e).Nodup/\∀x∈r++e,0<=x/\x<n
 |[],r,l,_,h,hr=>by rw[lZ];exact⟨h,hr⟩
 |x::e,r,l,h,hd,hr=>by
  obtain⟨h1,h2,h3,h4⟩:=h;have:=zO hn h4 (by
   rw[yD];refine⟨hd,by simp,λa ha b hb=>?_⟩;rw[mW] at hb;subst hb;intro z;subst z;exact h3 ha) (λy hy=>by
   rcases iG.mp hy with hy|hy
   ·exact hr y hy
   ·rw[mW] at hy;subst hy;exact hn l y h1)
  rw[vJ] at this;exact this
theorem Ew{l:List Int}(nd:l.Nodup)(h:∀x∈l,0<=x/\x<n):l.length<=n.toNat:=by
 have:=Ej nd (m:=oX 0 n) λx hx=>dX.mpr (h x hx);unfold oX at this;rw[cH,lQ] at this
 lia
theorem zhe(hn:∀l x,x∈nx l->0<=x/\x<n)(Oe:∀x,x∉nx x){j:Nat}(h0:lv n nx j=[]){f:Nat}(hf:n.toNat<=f):∀r,r∈jx n nx j↔r∈cR n nx f:=by
 intro r;rw[nU];unfold cR;rw[yG]
 constructor
 ·rintro⟨i,hi,h1,h2⟩;obtain⟨p,e,rfl,he,hp,hc⟩:=(t_ hn).mp h1;refine⟨p.toNat,by rw[kh];lia,?_⟩;rw[show ((p.toNat:Nat):Int)=p by lia];have hl:=zO hn hc J0 (λx hx=>by rw[mW] at hx;subst hx;exact hp);have:=Ew hl.1 hl.2;exact cV.mpr ⟨e,rfl,hc,fH h2,by simp at this;lia⟩
 ·rintro⟨i,hi,h⟩;rw[kh] at hi;obtain⟨e,rfl,hc,hp,hl⟩:=cV.mp h;cases e with
  |nil=>exact absurd hp (Oe _)
  |cons x e=>
   have hm:[(i:Int)]++x::e∈lv n nx (e.length+1):=(t_ hn).mpr ⟨i,x::e,rfl,rfl,by lia,hc⟩;refine⟨e.length,?_,hm,cX hp⟩;rcases Nat.lt_or_ge e.length j with q|q
   ·exact q
   ·rw[zhd h0 gV] at hm;cases hm
end
noncomputable def hB:Nat->Bool->Nat->Nat
 |0,c,_=>c.toNat
 |a+1,c,b=>c.toNat+b*((List.range (a+2-b)).map λx=>max (hB a false x) (if c=true then 0 else hB a true x)).foldl max 0
theorem Vq{l:List Nat}{m x:Nat}(h:x∈l):x<=l.foldl max m:=by
 induction l generalizing m with
 |nil=>cases h
 |cons y l ih=>
  have low:∀(l:List Nat) (m:Nat),m<=l.foldl max m:=by
   intro l
   induction l with
   |nil=>intro m;exact bT _
   |cons z l ih=>intro m;exact kj (Nat.le_max_left m z) (ih _)
  rcases iy.mp h with rfl|h
  ·exact kj (Nat.le_max_right m x) (low l _)
  ·exact ih h
theorem zkc{l:List Int}{f:Int->List (List Int)}{m:Nat}(h:∀x∈l,(f x).length<=m):(l.flatMap f).length<=l.length*m:=by
 induction l with
 |nil=>simp
 |cons x l ih=>
  rw[List.flatMap_cons,bO,gB,yH];have h1:=h x J0;have h2:=ih λy hy=>h y (iD _ hy)
  lia
section
variable {n p:Int}{nx:Int->List Int}
theorem Vr(hnd:∀l,(nx l).Nodup)(Ey:∀l x y,x∈nx l->y∈nx l->y∉nx x):∀(f:Nat) (r qp:List Int) (l:Int),qp.Nodup->(∀l x,x∈nx l->p<x->x∉r->x∈qp)->(∀x∈qp,x∉r)->
  (iC nx p f r l).length<=hB qp.length (decide (p∈nx l)) ((nx l).filter λx=>decide (p<x)&&decide (x∉r)).length
 |0,r,qp,l,_,_,_=>uy _
 |f+1,r,qp,l,hU,dY,hout=>by
  unfold iC;have hF:∀x,x∈(nx l).filter (λx=>decide (p<x)&&decide (x∉r))↔x∈nx l/\p<x/\x∉r:=λx=>by
   rw[iw,fK,j_,j_]
  have Og:((nx l).filter λx=>decide (p<x)&&decide (x∉r)).Nodup:=(hnd l).filter _;generalize hFe:(nx l).filter (λx=>decide (p<x)&&decide (x∉r))=F at hF Og;have Oh:∀x∈F,x∈qp:=λx hx=>by obtain⟨a,b,c⟩:=(hF x).mp hx;exact dY l x a b c
  have hFl:=Ej Og Oh;rw[bO];have h1:(if p∈nx l then [r] else []).length=(decide (p∈nx l)).toNat:=by
   by_cases h:p∈nx l
   ·rw[if_pos h,cX h];rfl
   ·rw[if_neg h,eU h];rfl
  rw[h1];cases hu:qp.length with
  |zero=>
   have:F=[]:=List.length_eq_zero_iff.mp gV;rw[this];show _+0<=(decide (p∈nx l)).toNat
   lia
  |succ a=>
   show _<=(decide (p∈nx l)).toNat+F.length*_;refine Nat.add_le_add_left (zkc λx hx=>?_) _;obtain⟨x1,x2,x3⟩:=(hF x).mp hx;have hxU:=Oh x hx;have hUe:(qp.erase x).length=a:=by rw[List.length_erase_of_mem hxU];lia
   have ih:=Vr hnd Ey f (r++[x]) (qp.erase x) x (hU.erase x) (λl y h1 h2 h3=>by
    have hy:y∉r/\y≠x:=⟨λz=>h3 (yt _ z),λz=>h3 (by rw[z];simp)⟩;exact(List.mem_erase_of_ne hy.2).mpr (dY l y h1 h2 hy.1)) (λy hy z=>by
    have hy':=(hU.mem_erase_iff).mp hy;rcases iG.mp z with z|z
    ·exact hout y hy'.2 z
    ·rw[mW] at z;exact hy'.1 z)
   rw[hUe] at ih;refine kj ih ?_;have hG:∀y,y∈(nx x).filter (λy=>decide (p<y)&&decide (y∉r++[x]))↔y∈nx x/\p<y/\y∉r++[x]:=λy=>by
    rw[iw,fK,j_,j_]
   have Vt:((nx x).filter λy=>decide (p<y)&&decide (y∉r++[x])).Nodup:=(hnd x).filter _;generalize (nx x).filter (λy=>decide (p<y)&&decide (y∉r++[x]))=G at hG Vt;have hFG:G.length+F.length<=a+1:=by
    have:=Ej (l:=G++F) (m:=qp) (by
     rw[yD];refine⟨Vt,Og,λy hy z hz e=>?_⟩;subst e;exact Ey l x y x1 ((hF y).mp hz).1 ((hG y).mp hy).1) (λy hy=>by
     rcases iG.mp hy with hy|hy
     ·obtain⟨g1,g2,g3⟩:=(hG y).mp hy;exact dY x y g1 g2 λz=>g3 (yt _ z)
     ·exact Oh y hy)
    rw[bO] at this
    lia
   refine kj ?_ (Vq (jy.mpr ⟨G.length,kh.mpr gV,rfl⟩));by_cases hp:p∈nx x
   ·have hl:p∉nx l:=λz=>Ey l x p x1 z hp;rw[cX hp,eU hl];exact Nat.le_max_right _ _
   ·rw[eU hp];exact Nat.le_max_left _ _
noncomputable def tB(m:Nat):Nat:=((List.range m).map λi=>((List.range (m-i)).map λb=>hB (m-1-i) false b).foldl max 0).sum
theorem zk2:∀m,m<=6->tB m<64:=by decide
theorem zg5(hn:∀l x,x∈nx l->0<=x/\x<n)(Oe:∀x,x∉nx x)(hnd:∀l,(nx l).Nodup)(Ey:∀l x y,x∈nx l->y∈nx l->y∉nx x)(h6:n<=6){f:Nat}:(cR n nx f).length<64:=by
 refine FJ ?_ (zk2 n.toNat gV);unfold cR tB;rw[List.length_flatMap];have key:∀l:List Nat,(∀i∈l,i<n.toNat)->(l.map λ(i:Nat)=>(iC nx i f [(i:Int)] i).length).sum<=(l.map λi=>((List.range (n.toNat-i)).map λb=>hB (n.toNat-1-i) false b).foldl max 0).sum:=by
  intro l
  induction l with
  |nil=>intro _;exact bT _
  |cons i l ih=>
   intro h;rw[oY,oY,List.sum_cons,List.sum_cons];refine Nat.add_le_add ?_ (ih λj hj=>h j (iD _ hj));have hi:=h i J0;have hU:(oX ((i:Int)+1) n).length=n.toNat-1-i:=by unfold oX;rw[cH,lQ];lia
   have:=Vr (p:=(i:Int)) hnd Ey f [(i:Int)] (oX ((i:Int)+1) n) i (nR.imp λ{a b} h e=>by lia) (λl x h1 h2 _=>dX.mpr ⟨by lia,(hn l x h1).2⟩) (λx hx z=>by rw[mW] at z;have:=dX.mp hx;lia);rw[hU,eU (Oe i)] at this;refine kj this (Vq (jy.mpr ⟨_,kh.mpr ?_,rfl⟩));have:=Ej (l:=(nx i).filter λx=>decide ((i:Int)<x)&&decide (x∉[(i:Int)])) (m:=oX ((i:Int)+1) n) ((hnd i).filter _) (λx hx=>by
    rw[iw,fK,j_] at hx;exact dX.mpr ⟨by lia,(hn i x hx.1).2⟩)
   lia
 exact key _ λi hi=>kh.mp hi
end
end Mi
namespace dG
open PySem Mi
noncomputable def b0:bU:=(.cons (.ret (.and (.kE (.v 0) .int) (.not (.kE (.v 0) .bool)))) .nil)
noncomputable def b1:bU:=(.cons (.ret (.and (.call 0 (Ea (.v 0))) (.uK .le .le (.v 1) (.v 0) (.v 2)))) .nil)
noncomputable def b2:bU:=(.cons (.ret (.and (.kE (.v 0) .tuple) (.pr true .eq (Eb (.pr true .len (Ea (.v 0))) (.v 1))))) .nil)
noncomputable def b3:bU:=(.cons (.iff (.not (.call 2 (Eb (.v 0) (Ci 2)))) (.cons (.ret (.c (.bl false))) .nil) .nil) (.cons (.asg (.tp [1,2]) (.v 0)) (.cons (.ret (.and (.call 1 (Ec (.v 1) (Ci 1) (Ci 24))) (.call 1 (Ec (.v 2) (Ci 1) (.v 1))))) .nil)))
noncomputable def b4:bU:=(.cons (.ret (.call 1 (Ec (.v 1) (Ci 0) (.pr true .ao (Eb (Ei (.v 0) (Ci 0)) (Ci 1)))))) .nil)
noncomputable def b5:bU:=(.cons (.iff (.not (.call 3 (Ea (.v 0)))) (.cons .no .nil) .nil) .nil)
noncomputable def b6:bU:=(.cons (.asg (.nm 3) (.pr true .abs (Ea (.pr true .ao (Eb (.v 1) (.v 2)))))) (.cons (.ret (.pr true .min2 (Eb (.v 3) (.pr true .ao (Eb (Ei (.v 0) (Ci 0)) (.v 3)))))) .nil))
noncomputable def b7:bU:=(.cons (.iff (.not (.call 2 (Eb (.v 0) (Ci 2)))) (.cons (.ret (.c (.bl false))) .nil) .nil) (.cons (.asg (.tp [1,2]) (.v 0)) (.cons (.iff (.or (.not (.call 8 (Ea (.v 1)))) (.not (.kE (.v 2) .tuple))) (.cons (.ret (.c (.bl false))) .nil) .nil) (.cons (.iff (.not (.pr true .all (Ea (.comp true (.call 10 (Eb (.v 1) (.v 0))) [0] (.seq (.v 2)) [1] 1 .no)))) (.cons (.ret (.c (.bl false))) .nil) .nil) (.cons (.ret (.pr true .all (Ea (.comp true (.pr true .lt (Eb (.v 0) (.v 1))) [0,1] (.zip (.v 2) (.sl true (.v 2) (.yes (Ci 1)) .no)) [] 2 .no)))) .nil)))))
noncomputable def b8:bU:=(.cons (.ret (.call 1 (Ec (.v 0) (Ci 1) (Ci 8)))) .nil)
noncomputable def b9:bU:=(.cons (.ret (.call 1 (Ec (.v 1) (Ci 0) (.pr true .ao (Eb (.v 0) (Ci 1)))))) .nil)
noncomputable def b10:bU:=(.cons (.iff (.not (.call 2 (Eb (.v 1) (Ci 2)))) (.cons (.ret (.c (.bl false))) .nil) .nil) (.cons (.asg (.tp [2,3]) (.v 1)) (.cons (.ret (.and (.call 9 (Eb (.v 0) (.v 2))) (.and (.call 9 (Eb (.v 0) (.v 3))) (.pr true .lt (Eb (.v 2) (.v 3)))))) .nil)))
noncomputable def Oi:bU:=(.cons (.iff (.not (.call 7 (Ea (.v 0)))) (.cons .no .nil) .nil) .nil)
noncomputable def Oj:bU:=(.cons (.asg (.nm 2) (.comp true (.ite (.pr true .eq (Eb (.v 0) (.v 2))) (.v 1) (.v 0)) [0,1] (.seq (Ei (.v 0) (Ci 1))) [1] 2 (.yes (.pr true .inn (Eb (.v 2) (.tup (Eb (.v 0) (.v 1)))))))) (.cons (.ret (.pr true .tuple (Ea (.pr true .sorted (Ea (.v 2)))))) .nil))
noncomputable def Ol:bU:=(.cons (.ret (.comp true (.call 12 (Eb (.v 1) (.v 0))) [0] (.rg (Ci 0) (Ei (.v 0) (Ci 0))) [0] 1 .no)) .nil)
noncomputable def Om:bU:=(.cons (.ret (.and (.call 2 (Eb (.v 2) (Ei (.v 0) (Ci 0)))) (.pr true .all (Ea (.comp true (.call 4 (Eb (.v 1) (.v 0))) [0] (.seq (.v 2)) [1] 1 .no))))) .nil)
noncomputable def Oo:bU:=(.cons (.ret (.and (.call 14 (Ec (.v 0) (.v 1) (.v 2))) (.pr true .Cp (Ea (.call 17 (Ec (.v 0) (.v 1) (.v 2))))))) .nil)
noncomputable def Oq:bU:=(.cons (.ex (.call 11 (Ea (.v 0)))) (.cons (.ex (.call 5 (Ea (.v 1)))) (.cons (.iff (.not (.call 15 (Ec (.v 0) (.v 1) (.v 2)))) (.cons .no .nil) .nil) .nil)))
noncomputable def Ot:bU:=(.cons (.fr (.tp [3,4]) (.seq (Ei (.v 0) (Ci 1))) (.cons (.iff (.pr true .lt (Eb (.call 6 (Ec (.v 1) (Ei (.v 2) (.v 3)) (Ei (.v 2) (.v 4)))) (Ei (.v 1) (Ci 1)))) (.cons (.ret (.tup (Eb (.v 3) (.v 4)))) .nil) .nil) .nil)) (.cons (.ret (.c .non)) .nil))
noncomputable def Ou:bU:=(.cons (.ex (.call 16 (Ec (.v 0) (.v 1) (.v 2)))) (.cons (.ret (.call 20 (Ea (.call 19 (Ec (.v 0) (.v 1) (.v 2)))))) .nil))
noncomputable def Ov:bU:=(.cons (.asg (.tp [3,4]) (.v 1)) (.cons (.asg (.nm 5) (.lst false .nil)) (.cons (.fr (.tp [6,7]) (.enum (.call 13 (Ea (.v 0)))) (.cons (.asg (.nm 8) (.pr true .mod (Eb (.pr true .add (Eb (Ei (.v 2) (.v 6)) (.v 4))) (.v 3)))) (.cons (.ex (.push (.v 5) (.pr true .tuple (Ea (.comp true (.v 0) [0] (.seq (.v 7)) [2,8] 1 (.yes (.pr true .eq (Eb (Ei (.v 1) (.v 0)) (.v 2))))))))) .nil))) (.cons (.ret (.v 5)) .nil))))
noncomputable def Ow:bU:=(.cons (.asg (.nm 1) (.lst false .nil)) (.cons (.fr (.nm 2) (.rg (Ci 0) (.pr true .len (Ea (.v 0)))) (.cons (.ex (.call 21 (Ec (.v 0) (.tup (Ea (.v 2))) (.v 1)))) .nil)) (.cons (.ret (.v 1)) .nil)))
noncomputable def Ox:bU:=(.cons (.iff (.pr true .inn (Eb (Ei (.v 1) (Ci 0)) (Ei (.v 0) (Ei (.v 1) (.pr true .neg (Ea (Ci 1))))))) (.cons (.ex (.push (.v 2) (.v 1))) .nil) .nil) (.cons (.fr (.nm 3) (.seq (Ei (.v 0) (Ei (.v 1) (.pr true .neg (Ea (Ci 1)))))) (.cons (.iff (.and (.pr true .gt (Eb (.v 3) (Ei (.v 1) (Ci 0)))) (.pr true .nin (Eb (.v 3) (.v 1)))) (.cons (.ex (.call 21 (Ec (.v 0) (.pr true .add (Eb (.v 1) (.tup (Ea (.v 3))))) (.v 2)))) .nil) .nil) .nil)) .nil))
noncomputable def Oz:bU:=(.cons (.iff (.pr true .lt (Eb (.v 1) (.pr true .len (Ea (.v 0))))) (.cons (.ret (Ei (.v 0) (.v 1))) .nil) .nil) (.cons (.ret (Ci 0)) .nil))
noncomputable def OD:bU:=(.cons (.asg (.nm 1) (.pr true .max2 (Eb (.v 0) (.pr true .ao (Eb (Ci 0) (.v 0)))))) (.cons (.ret (.lst false (Eb (.v 1) (.pr true .rY (Ea (.pr true .ge (Eb (.v 1) (.pr true .pow (Eb (Ci 10) (Ci 18)))))))))) .nil))
noncomputable def OJ:bU:=(.cons (.iff (.pr true .eq (Eb (Ei (.v 0) (Ci 1)) (Ci 1))) (.cons (.asg (.tp [2,3]) (.pr true .divmod (Eb (Ei (.v 0) (Ci 0)) (.v 1)))) (.cons (.asg (.ao (.v 0) (Ci 0)) (.v 2)) (.cons (.ret (.v 3)) .nil))) .nil) (.cons (.asg (.nm 4) (.pr true .mod (Eb (.pr true .mul (Eb (.pr true .add (Eb (.pr true .mod (Eb (Ei (.v 0) (Ci 0)) (Ci 2147483647))) (Ci 40503))) (Ci 69621))) (Ci 2147483629)))) (.cons (.asg (.nm 4) (.pr true .mod (Eb (.pr true .add (Eb (.pr true .mul (Eb (.v 4) (.v 4))) (Ci 7817))) (Ci 2147483587)))) (.cons (.asg (.ao (.v 0) (Ci 0)) (.pr true .mod (Eb (.pr true .add (Eb (.pr true .mul (Eb (.v 4) (Ci 48271))) (Ci 11))) (Ci 2147483629)))) (.cons (.ret (.pr true .mod (Eb (.pr true .fdiv (Eb (Ei (.v 0) (Ci 0)) (Ci 32))) (.v 1)))) .nil)))))
noncomputable def Vu:bU:=(.cons (.ret (.and (.kE (.v 0) .int) (.not (.kE (.v 0) .bool)))) .nil)
noncomputable def O1:bU:=(.cons (.asg (.nm 2) (Ei (.lst true (Ec (Ci 2) (Ci 4) (Ci 6))) (.call 24 (Eb (.v 0) (Ci 3))))) (.cons (.asg (.nm 3) (.lst true .nil)) (.cons (.fr (.nm 4) (.rg (Ci 0) (.v 1)) (.cons (.asg (.nm 3) (.pr true .add (Eb (.v 3) (.comp true (.tup (Eb (.v 1) (.v 0))) [0] (.rg (.pr true .add (Eb (.v 4) (Ci 1))) (.v 1)) [4,0,2] 1 (.yes (.pr true .lt (Eb (.call 24 (Eb (.v 2) (Ci 8))) (.v 3)))))))) .nil)) (.cons (.ret (.tup (Eb (.v 1) (.pr true .tuple (Ea (.v 3)))))) .nil))))
noncomputable def Vv:bU:=(.cons (.asg (.nm 3) (.pr true .abs (Ea (.pr true .ao (Eb (.v 1) (.v 2)))))) (.cons (.ret (.pr true .min2 (Eb (.v 3) (.pr true .ao (Eb (.v 0) (.v 3)))))) .nil))
noncomputable def O2:bU:=(.cons (.ret (.pr true .eq (Eb (.comp true (.v 0) [0] (.seq (Ei (.v 0) (Ci 1))) [1,2] 1 (.yes (.pr true .lt (Eb (.call 27 (Ec (Ei (.v 1) (Ci 0)) (Ei (.v 2) (Ei (.v 0) (Ci 0))) (Ei (.v 2) (Ei (.v 0) (Ci 1))))) (Ei (.v 1) (Ci 1)))))) (.lst true .nil)))) .nil)
noncomputable def O4:bU:=(.cons (.iff (.and (.pr true .ne (Eb (Ei (.v 0) (Ci 1)) (.tup .nil))) (.pr true .lt (Eb (Ei (.v 1) (Ci 0)) (.pr true .mul (Eb (Ci 2) (Ei (.v 1) (Ci 1))))))) (.cons (.ret (.c .non)) .nil) .nil) (.cons (.asg (.nm 2) (.lst true .nil)) (.cons (.fr (.tp [3,4]) (.seq (Ei (.v 0) (Ci 1))) (.cons (.asg (.nm 5) (.comp true (.v 0) [0] (.rg (Ci 0) (Ei (.v 0) (Ci 0))) [3,0,4] 1 (.yes (.and (.pr true .inn (Eb (.tup (Eb (.v 1) (.v 0))) (Ei (.v 2) (Ci 1)))) (.pr true .inn (Eb (.tup (Eb (.v 3) (.v 0))) (Ei (.v 2) (Ci 1)))))))) (.cons (.asg (.nm 2) (.pr true .add (Eb (.v 2) (.v 5)))) .nil))) (.cons (.iff (.and (.pr true .ne (Eb (.v 2) (.lst true .nil))) (.pr true .lt (Eb (Ei (.v 1) (Ci 0)) (.pr true .mul (Eb (Ci 3) (Ei (.v 1) (Ci 1))))))) (.cons (.ret (.c .non)) .nil) .nil) (.cons (.asg (.nm 6) (.comp true (.v 0) [0] (.rg (Ci 0) (Ei (.v 0) (Ci 0))) [0] 1 (.yes (.pr true .eq (Eb (.comp true (.v 0) [0] (.seq (Ei (.v 1) (Ci 1))) [0] 1 (.yes (.pr true .inn (Eb (.v 1) (.v 0))))) (.lst true .nil)))))) (.cons (.asg (.nm 7) (.lst false (Ea (Ci 0)))) (.cons (.wh (.pr true .eq (Eb (Ei (.v 7) (Ci 0)) (Ci 0))) (.cons (.iff (.or (.pr true .eq (Eb (Ei (.v 7) (.pr true .neg (Ea (Ci 1)))) (Ei (.v 1) (Ci 0)))) (.and (.pr true .gt (Eb (Ei (.v 7) (.pr true .neg (Ea (Ci 1)))) (Ci 0))) (.pr true .inn (Eb (.pr true .ao (Eb (.pr true .len (Ea (.v 7))) (Ci 1))) (.v 6))))) (.cons (.ex (.pop (.v 7))) (.cons (.iff (.pr true .eq (Eb (.v 7) (.lst true .nil))) (.cons (.ret (.c .non)) .nil) .nil) (.cons (.asg (.ao (.v 7) (.pr true .neg (Ea (Ci 1)))) (.pr true .add (Eb (Ei (.v 7) (.pr true .neg (Ea (Ci 1)))) (Ci 1)))) .nil))) (.cons (.asg (.nm 8) (.comp true (.v 0) [0] (.seq (Ei (.v 0) (Ci 1))) [7] 1 (.yes (.pr true .eq (Eb (Ei (.v 0) (Ci 1)) (.pr true .ao (Eb (.pr true .len (Ea (.v 1))) (Ci 1)))))))) (.cons (.asg (.nm 9) (.comp true (.v 0) [0] (.seq (.v 8)) [1,7] 1 (.yes (.pr true .lt (Eb (.call 27 (Ec (Ei (.v 1) (Ci 0)) (Ei (.v 2) (Ei (.v 0) (Ci 0))) (Ei (.v 2) (.pr true .neg (Ea (Ci 1)))))) (Ei (.v 1) (Ci 1))))))) (.cons (.iff (.pr true .ne (Eb (.v 9) (.lst true .nil))) (.cons (.asg (.ao (.v 7) (.pr true .neg (Ea (Ci 1)))) (.pr true .add (Eb (Ei (.v 7) (.pr true .neg (Ea (Ci 1)))) (Ci 1)))) .nil) (.cons (.iff (.pr true .eq (Eb (.pr true .len (Ea (.v 7))) (Ei (.v 0) (Ci 0)))) (.cons (.ret (.pr true .tuple (Ea (.v 7)))) .nil) (.cons (.ex (.push (.v 7) (Ci 0))) .nil)) .nil)) .nil)))) .nil)) (.cons (.ret (.c .non)) .nil))))))))
noncomputable def O5:bU:=(.cons (.fr (.nm 2) (.seq (.lst true (.cons (.tup (Eb (Ci 2) (Ci 1))) (.cons (.tup (Eb (Ci 5) (Ci 2))) (.cons (.tup (Eb (Ci 7) (Ci 3))) (.cons (.tup (Eb (Ci 3) (Ci 1))) (.cons (.tup (Eb (Ci 7) (Ci 2))) (.cons (.tup (Eb (Ci 4) (Ci 1))) (Ec (.tup (Eb (Ci 9) (Ci 2))) (.tup (Eb (Ci 5) (Ci 1))) (.tup (Eb (Ci 6) (Ci 1)))))))))))) (.cons (.iff (.pr true .Cq (Ea (.call 29 (Eb (.v 1) (.v 2))))) (.cons (.ret (.ite (.pr true .gt (Eb (.call 24 (Eb (.v 0) (Ci 4))) (Ci 0))) (.v 2) (.tup (Eb (.pr true .mul (Eb (Ci 2) (Ei (.v 2) (Ci 0)))) (.pr true .mul (Eb (Ci 2) (Ei (.v 2) (Ci 1)))))))) .nil) .nil) .nil)) (.cons (.ret (.tup (Eb (.pr true .max2 (Eb (Ci 2) (Ei (.v 1) (Ci 0)))) (Ci 1)))) .nil))
noncomputable def O6:bU:=(.cons (.ret (Ei (.lst true (.cons (Ci 1) (.cons (Ci 2) (.cons (Ci 3) (.cons (Ci 4) (.cons (Ci 4) (.cons (Ci 5) (.cons (Ci 5) (Ec (Ci 3) (Ci 6) (Ci 4)))))))))) (.call 24 (Eb (.v 0) (Ci 10))))) .nil)
noncomputable def O7:bU:=(.cons (.asg (.nm 3) (.call 29 (Eb (.v 1) (.v 2)))) (.cons (.fr (.nm 4) (.rg (Ci 0) (.pr true .mul (Eb (Ci 2) (Ei (.v 1) (Ci 0))))) (.cons (.asg (.nm 5) (.call 24 (Eb (.v 0) (Ei (.v 1) (Ci 0))))) (.cons (.asg (.nm 6) (.pr true .add (Eb (.pr true .add (Eb (.sl true (.v 3) .no (.yes (.v 5))) (.tup (Ea (.call 24 (Eb (.v 0) (Ei (.v 2) (Ci 0)))))))) (.sl true (.v 3) (.yes (.pr true .add (Eb (.v 5) (Ci 1)))) .no)))) (.cons (.iff (.call 28 (Ec (.v 1) (.v 2) (.v 6))) (.cons (.asg (.nm 3) (.v 6)) .nil) .nil) .nil)))) (.cons (.ret (.v 3)) .nil)))
noncomputable def O8:bU:=(.cons (.iff (.pr true .nin (Eb (.tup (Eb (.pr true .min2 (Eb (.v 3) (.v 4))) (.pr true .max2 (Eb (.v 3) (.v 4))))) (Ei (.v 0) (Ci 1)))) (.cons (.ret (.c (.bl false))) .nil) .nil) (.cons (.ret (.pr true .eq (Eb (.pr true .mod (Eb (.pr true .ao (Eb (.pr true .add (Eb (Ei (.v 2) (.v 3)) (Ei (.v 1) (Ci 1)))) (Ei (.v 2) (.v 4)))) (Ei (.v 1) (Ci 0)))) (Ci 0)))) .nil))
noncomputable def O9:bU:=(.cons (.asg (.nm 3) (.lst true .nil)) (.cons (.asg (.nm 4) (.comp true (.tup (Ea (.v 0))) [0] (.rg (Ci 0) (Ei (.v 0) (Ci 0))) [] 1 .no)) (.cons (.wh (.pr true .ne (Eb (.v 4) (.lst true .nil))) (.cons (.asg (.nm 5) (.lst false .nil)) (.cons (.fr (.nm 6) (.seq (.v 4)) (.cons (.fr (.nm 7) (.rg (.pr true .add (Eb (Ei (.v 6) (Ci 0)) (Ci 1))) (Ei (.v 0) (Ci 0))) (.cons (.iff (.and (.pr true .nin (Eb (.v 7) (.v 6))) (.call 33 (.cons (.v 0) (.cons (.v 1) (Ec (.v 2) (Ei (.v 6) (.pr true .neg (Ea (Ci 1)))) (.v 7)))))) (.cons (.ex (.push (.v 5) (.pr true .add (Eb (.v 6) (.tup (Ea (.v 7))))))) .nil) .nil) .nil)) .nil)) (.cons (.asg (.nm 3) (.pr true .add (Eb (.v 3) (.comp true (.v 0) [0] (.seq (.v 5)) [0,1,2] 1 (.yes (.call 33 (.cons (.v 1) (.cons (.v 2) (Ec (.v 3) (Ei (.v 0) (.pr true .neg (Ea (Ci 1)))) (Ei (.v 0) (Ci 0))))))))))) (.cons (.asg (.nm 4) (.v 5)) .nil))))) (.cons (.ret (.pr true .sorted (Ea (.v 3)))) .nil))))
noncomputable def O_:bU:=(.cons (.asg (.nm 3) (.call 34 (Ec (.v 0) (.v 1) (.v 2)))) (.cons (.fr (.nm 4) (.rg (Ci 0) (Ci 2)) (.cons (.asg (.nm 5) (.call 18 (Ec (.v 0) (.v 1) (.v 2)))) (.cons (.iff (.or (.not (.kE (.v 5) .list)) (.or (.pr true .ne (Eb (.v 5) (.v 3))) (.not (.pr true .all (Ea (.comp true (.kE (.v 0) .tuple) [0] (.seq (.v 5)) [] 1 .no)))))) (.cons (.ret (.c (.bl false))) .nil) .nil) (.cons (.iff (.not (.pr true .all (Ea (.comp true (.pr true .all (Ea (.comp true (.call 25 (Ea (.v 0))) [0] (.seq (.v 0)) [] 1 .no))) [0] (.seq (.v 5)) [] 1 .no)))) (.cons (.ret (.c (.bl false))) .nil) .nil) (.cons (.ex (.push (.v 5) (.tup .nil))) .nil))))) (.cons (.ret (.c (.bl true))) .nil)))
noncomputable def Pa:bU:=(.cons (.iff (.or (.not (.call 35 (Ec (.tup (Eb (Ci 2) (.tup (Ea (.tup (Eb (Ci 0) (Ci 1))))))) (.tup (Eb (Ci 2) (Ci 1))) (.tup (Eb (Ci 0) (Ci 1)))))) (.not (.call 35 (Ec (.tup (Eb (Ci 1) (.tup .nil))) (.tup (Eb (Ci 1) (Ci 1))) (.tup (Ea (Ci 0))))))) (.cons (.ret (.c (.bl false))) .nil) .nil) (.cons (.iff (.not (.call 35 (Ec (.tup (Eb (Ci 3) (.tup (Ec (.tup (Eb (Ci 0) (Ci 1))) (.tup (Eb (Ci 0) (Ci 2))) (.tup (Eb (Ci 1) (Ci 2))))))) (.tup (Eb (Ci 3) (Ci 1))) (.tup (Ec (Ci 0) (Ci 1) (Ci 2)))))) (.cons (.ret (.c (.bl false))) .nil) .nil) (.cons (.fr (.nm 1) (.seq (.pr true .add (Eb (.lst true (Ea (.call 22 (Eb (.v 0) (Ci 0))))) (.sl true (.v 0) (.yes (Ci 1)) (.yes (Ci 4)))))) (.cons (.asg (.nm 2) (.call 23 (Ea (.v 1)))) (.cons (.asg (.nm 3) (.call 26 (Eb (.v 2) (.call 31 (Ea (.v 2)))))) (.cons (.asg (.nm 4) (.call 30 (Eb (.v 2) (.v 3)))) (.cons (.iff (.not (.call 35 (Ec (.v 3) (.v 4) (.call 32 (Ec (.v 2) (.v 3) (.v 4)))))) (.cons (.ret (.c (.bl false))) .nil) .nil) .nil))))) (.cons (.ret (.c (.bl true))) .nil))))
noncomputable def T(n:Nat):Option Df:=([⟨1,1,b0⟩,⟨3,3,b1⟩,⟨2,2,b2⟩,⟨3,1,b3⟩,⟨2,2,b4⟩,⟨1,1,b5⟩,⟨4,3,b6⟩,⟨3,1,b7⟩,⟨1,1,b8⟩,⟨2,2,b9⟩,⟨4,2,b10⟩,⟨1,1,Oi⟩,⟨3,2,Oj⟩,⟨1,1,Ol⟩,⟨3,3,Om⟩,⟨3,3,Oo⟩,⟨3,3,Oq⟩,⟨5,3,Ot⟩,⟨3,3,Ou⟩,⟨9,3,Ov⟩,⟨3,1,Ow⟩,⟨4,3,Ox⟩,⟨2,2,Oz⟩,⟨2,1,OD⟩,⟨5,2,OJ⟩,⟨1,1,Vu⟩,⟨5,2,O1⟩,⟨4,3,Vv⟩,⟨3,3,O2⟩,⟨10,2,O4⟩,⟨3,2,O5⟩,⟨1,1,O6⟩,⟨7,3,O7⟩,⟨5,5,O8⟩,⟨8,3,O9⟩,⟨6,3,O_⟩,⟨5,1,Pa⟩]:List Df)[n]?
theorem T_0:T 0=some ⟨1,1,b0⟩:=rfl
theorem T_1:T 1=some ⟨3,3,b1⟩:=rfl
theorem Vw:T 2=some ⟨2,2,b2⟩:=rfl
theorem Vx:T 3=some ⟨3,1,b3⟩:=rfl
theorem Vy:T 4=some ⟨2,2,b4⟩:=rfl
theorem Vz:T 5=some ⟨1,1,b5⟩:=rfl
theorem T_6:T 6=some ⟨4,3,b6⟩:=rfl
theorem VB:T 7=some ⟨3,1,b7⟩:=rfl
theorem VD:T 8=some ⟨1,1,b8⟩:=rfl
theorem VF:T 9=some ⟨2,2,b9⟩:=rfl
theorem VG:T 10=some ⟨4,2,b10⟩:=rfl
theorem VH:T 11=some ⟨1,1,Oi⟩:=rfl
theorem VJ:T 12=some ⟨3,2,Oj⟩:=rfl
theorem VL:T 13=some ⟨1,1,Ol⟩:=rfl
theorem VN:T 14=some ⟨3,3,Om⟩:=rfl
theorem VP:T 15=some ⟨3,3,Oo⟩:=rfl
theorem VR:T 16=some ⟨3,3,Oq⟩:=rfl
theorem V0:T 17=some ⟨5,3,Ot⟩:=rfl
theorem V1:T 18=some ⟨3,3,Ou⟩:=rfl
theorem V2:T 19=some ⟨9,3,Ov⟩:=rfl
theorem V3:T 20=some ⟨3,1,Ow⟩:=rfl
theorem V4:T 21=some ⟨4,3,Ox⟩:=rfl
theorem V5:T 22=some ⟨2,2,Oz⟩:=rfl
theorem V6:T 23=some ⟨2,1,OD⟩:=rfl
theorem V7:T 24=some ⟨5,2,OJ⟩:=rfl
theorem zlG:T 25=some ⟨1,1,Vu⟩:=rfl
theorem V8:T 26=some ⟨5,2,O1⟩:=rfl
theorem zlH:T 27=some ⟨4,3,Vv⟩:=rfl
theorem V9:T 28=some ⟨3,3,O2⟩:=rfl
theorem V_:T 29=some ⟨10,2,O4⟩:=rfl
theorem Wa:T 30=some ⟨3,2,O5⟩:=rfl
theorem Wb:T 31=some ⟨1,1,O6⟩:=rfl
theorem Wc:T 32=some ⟨7,3,O7⟩:=rfl
theorem Wd:T 33=some ⟨5,5,O8⟩:=rfl
theorem Wf:T 34=some ⟨8,3,O9⟩:=rfl
theorem Wg:T 35=some ⟨6,3,O_⟩:=rfl
theorem Wh:T 36=some ⟨5,1,Pa⟩:=rfl
noncomputable def ao:Nat->Nat->Bool:=λc e=>(let n:=λc=>if c<0 then c else 0;n e==0||n c==n e)
end dG
namespace dG
open PySem PySem.Spec PyProof.Rows L2 Mi
abbrev LK(i:Nat)(x:Str)(k:NameKind):Prop:=(au (top i)).names.lookup x=some k
noncomputable abbrev gI:NameKind:=.globalImplicit
abbrev N7:List Str:=["thing","many","ties"]
abbrev Wi:List Str:=["web","place","ends"]
abbrev Wj:List Str:=["web"]
abbrev Wm:List Str:=["web","ring","thing"]
abbrev Wn:List Str:=["web","ring","hues","k","d","rows","place","ends","spot"]
abbrev Wo:List Str:=["_law_pen_here","_law_many","_law_often","_law_ties","_law_one"]
abbrev Wq:List Str:=["_law_web_here","_law_ring","_law_spots"]
abbrev Ez:List Str:=["_law_web_here","_law_ring","_law_threes","_law_one","_law_other","_law_both_near","_law_loose","_law_row","_law_ties","_law_near"]
abbrev Pb:List Str:=["_law_web_here","_law_ring","_law_hues","_law_found","_law_rows","_law_more","_law_row","_law_place"]
abbrev Pg:List Str:=["_law_web_here","_law_ring","_law_hues","_law_due","_law_turn","_law_found"]
noncomputable def cl(K:W.Frag):Cl:=⟨gC (lk.L K),λ_=>[],λ_=>0,λ_=>[]⟩
structure Top(K:W.Frag)(mg:Str->Option Value):Prop where
 d0:D3 K mg "is_whole" (top 6) ["thing"]
 d1:D3 K mg "is_within" (top 7) ["thing","least","most"]
 d2:D3 K mg "is_row" (top 8) ["thing","many"]
 d3:D3 K mg "is_ring" (top 11) ["thing"]
 d4:D3 K mg "is_spot" (top 12) ["ring","thing"]
 d5:D3 K mg "check_ring" (top 13) ["thing"]
 d6:D3 K mg "gap_of" (top 14) ["ring","one","other"]
 d7:D3 K mg "is_web" (top 17) ["thing"]
 d8:D3 K mg "is_many" (top 18) ["thing"]
 d9:D3 K mg "is_place" (top 19) ["many","thing"]
 Pj:D3 K mg "is_tie" (top 20) ["many","thing"]
 Pk:D3 K mg "check_web" (top 21) ["thing"]
 Pn:D3 K mg "tied_to" (top 22) ["web","place"]
 Pq:D3 K mg "all_ends" (top 23) ["web"]
 Pu:D3 K mg "are_spots" (top 25) ["web","ring","thing"]
 Px:D3 K mg "are_hues" (top 26) ["web","ring","thing"]
 Py:D3 K mg "check_hues" (top 27) ["web","ring","thing"]
 Pz:D3 K mg "clash_of" (top 28) ["web","ring","spots"]
 PB:D3 K mg "full_rounds" (top 30) ["web","ring","hues"]
 PJ:D3 K mg "full_nexts" (top 31) ["web","ring","hues"]
 PK:D3 K mg "rounds_among" (top 32) ["nexts"]
 Ie:D3 K mg "gather_rounds" (top 33) ["nexts","path","found"]
 PL:D3 K mg "_law_cell" (top 35) ["_law_script","_law_k"]
 PN:D3 K mg "_law_pen" (top 36) ["_law_cell_here"]
 vD:D3 K mg "_law_draw" (top 37) ["_law_pen_here","_law_many"]
 PX:D3 K mg "_law_whole" (top 38) ["_law_thing"]
 P0:D3 K mg "_law_web" (top 39) ["_law_pen_here","_law_many"]
 Ig:D3 K mg "_law_apart" (top 40) ["_law_k","_law_one","_law_other"]
 P_:D3 K mg "_law_fit_spots" (top 41) ["_law_web_here","_law_ring","_law_spots"]
 Ih:D3 K mg "_law_first" (top 42) ["_law_web_here","_law_ring"]
 Qa:D3 K mg "_law_tight" (top 43) ["_law_pen_here","_law_web_here"]
 Qc:D3 K mg "_law_few" (top 44) ["_law_pen_here"]
 Qd:D3 K mg "_law_some_hues" (top 45) ["_law_pen_here","_law_web_here","_law_ring"]
 Ii:D3 K mg "_law_is_next" (top 46) ["_law_web_here","_law_ring","_law_hues","_law_one","_law_other"]
 Qe:D3 K mg "_law_rounds" (top 47) ["_law_web_here","_law_ring","_law_hues"]
 zP:D3 K mg "_law_right" (top 48) ["_law_web_here","_law_ring","_law_hues"]
 Ij:D3 K mg "law" (top 49) ["_law_script"]
 gb:∃t,mg "MOST_SPOTS"=some (.int 24 t)
 eO:∃t,mg "MOST_PLACES"=some (.int 8 t)
 z6:mg "abs"=none
 z8:mg "all"=none
 z2:mg "bool"=none
 Wr:mg "divmod"=none
 Ws:mg "enumerate"=none
 z1:mg "int"=none
 z0:mg "isinstance"=none
 z4:mg "len"=none
 Wt:mg "list"=none
 Ik:mg "max"=none
 z5:mg "min"=none
 qu:mg "range"=none
 z9:mg "sorted"=none
 z3:mg "tuple"=none
 z7:mg "zip"=none
theorem zjn{K:W.Frag}{h:Heap}{mg:Str->Option Value}(S:gU fs ms xs lk K)(X:K.In h)(G:h.Ns mainGlobals mg):Top K mg where
 d0:=oR S X G 0
 d1:=nO S X G 1
 d2:=qU S X G 2
 d3:=oR S X G 3
 d4:=qU S X G 4
 d5:=oR S X G 5
 d6:=nO S X G 6
 d7:=oR S X G 7
 d8:=oR S X G 8
 d9:=qU S X G 9
 Pj:=qU S X G 10
 Pk:=oR S X G 11
 Pn:=qU S X G 12
 Pq:=oR S X G 13
 Pu:=nO S X G 14
 Px:=nO S X G 15
 Py:=nO S X G 16
 Pz:=nO S X G 17
 PB:=nO S X G 18
 PJ:=nO S X G 19
 PK:=oR S X G 20
 Ie:=nO S X G 21
 PL:=qU S X G 22
 PN:=oR S X G 23
 vD:=qU S X G 24
 PX:=oR S X G 25
 P0:=qU S X G 26
 Ig:=nO S X G 27
 P_:=nO S X G 28
 Ih:=qU S X G 29
 Qa:=qU S X G 30
 Qc:=oR S X G 31
 Qd:=nO S X G 32
 Ii:=zlJ S X G 33
 Qe:=nO S X G 34
 zP:=nO S X G 35
 Ij:=oR S X G 36
 gb:=T_ (S.gd.it ("MOST_SPOTS",24) (mG 0)) X G
 eO:=T_ (S.gd.it ("MOST_PLACES",8) (mG 1)) X G
 z6:=mQ (S.gd.no "abs" (mG 0)) X G
 z8:=mQ (S.gd.no "all" (mG 1)) X G
 z2:=mQ (S.gd.no "bool" (mG 2)) X G
 Wr:=mQ (S.gd.no "divmod" (mG 3)) X G
 Ws:=mQ (S.gd.no "enumerate" (mG 4)) X G
 z1:=mQ (S.gd.no "int" (mG 5)) X G
 z0:=mQ (S.gd.no "isinstance" (mG 6)) X G
 z4:=mQ (S.gd.no "len" (mG 7)) X G
 Wt:=mQ (S.gd.no "list" (mG 8)) X G
 Ik:=mQ (S.gd.no "max" (mG 9)) X G
 z5:=mQ (S.gd.no "min" (mG 10)) X G
 qu:=mQ (S.gd.no "range" (mG 11)) X G
 z9:=mQ (S.gd.no "sorted" (mG 12)) X G
 z3:=mQ (S.gd.no "tuple" (mG 13)) X G
 z7:=mQ (S.gd.no "zip" (mG 14)) X G
abbrev FO(P:Program)(w:World)(K:W.Frag)(mg:Str->Option Value)(base:Heap)(k:Nat)(c:Bool)(x:Str)(i:Nat)(ps:List Str)(n:Nat):Prop:=dB P w K mg base (i_ P w) c k (h_ K x) (fdOf K x (top i)) ps (pR K (cl K) (call ao T k c n))
structure Fs(P:Program)(w:World)(K:W.Frag)(mg:Str->Option Value)(base:Heap)(k:Nat):Prop where
 t0:FO P w K mg base k true "is_whole" 6 ["thing"] 0
 t1:FO P w K mg base k true "is_within" 7 ["thing","least","most"] 1
 t2:FO P w K mg base k true "is_row" 8 ["thing","many"] 2
 t3:FO P w K mg base k true "is_ring" 11 ["thing"] 3
 t4:FO P w K mg base k true "is_spot" 12 ["ring","thing"] 4
 t5:FO P w K mg base k true "check_ring" 13 ["thing"] 5
 t6:FO P w K mg base k true "gap_of" 14 ["ring","one","other"] 6
 t7:FO P w K mg base k true "is_web" 17 ["thing"] 7
 t8:FO P w K mg base k true "is_many" 18 ["thing"] 8
 t9:FO P w K mg base k true "is_place" 19 ["many","thing"] 9
 t10:FO P w K mg base k true "is_tie" 20 ["many","thing"] 10
 t11:FO P w K mg base k true "check_web" 21 ["thing"] 11
 Wu:FO P w K mg base k true "tied_to" 22 ["web","place"] 12
 Wv:FO P w K mg base k true "all_ends" 23 ["web"] 13
 Ww:FO P w K mg base k true "are_spots" 25 ["web","ring","thing"] 14
 Wx:FO P w K mg base k true "are_hues" 26 ["web","ring","thing"] 15
 Wy:FO P w K mg base k true "check_hues" 27 ["web","ring","thing"] 16
 Wz:FO P w K mg base k true "clash_of" 28 ["web","ring","spots"] 17
 WD:FO P w K mg base k true "full_rounds" 30 ["web","ring","hues"] 18
 WK:FO P w K mg base k true "full_nexts" 31 ["web","ring","hues"] 19
 WL:FO P w K mg base k true "rounds_among" 32 ["nexts"] 20
 Qf:FO P w K mg base k true "gather_rounds" 33 ["nexts","path","found"] 21
 WM:FO P w K mg base k true "_law_cell" 35 ["_law_script","_law_k"] 22
 WQ:FO P w K mg base k true "_law_pen" 36 ["_law_cell_here"] 23
 xZ:FO P w K mg base k true "_law_draw" 37 ["_law_pen_here","_law_many"] 24
 WR:FO P w K mg base k true "_law_whole" 38 ["_law_thing"] 25
 WT:FO P w K mg base k true "_law_web" 39 ["_law_pen_here","_law_many"] 26
 Qg:FO P w K mg base k true "_law_apart" 40 ["_law_k","_law_one","_law_other"] 27
 WW:FO P w K mg base k true "_law_fit_spots" 41 ["_law_web_here","_law_ring","_law_spots"] 28
 Qh:FO P w K mg base k true "_law_first" 42 ["_law_web_here","_law_ring"] 29
 WX:FO P w K mg base k true "_law_tight" 43 ["_law_pen_here","_law_web_here"] 30
 WY:FO P w K mg base k true "_law_few" 44 ["_law_pen_here"] 31
 W0:FO P w K mg base k true "_law_some_hues" 45 ["_law_pen_here","_law_web_here","_law_ring"] 32
 Qi:FO P w K mg base k true "_law_is_next" 46 ["_law_web_here","_law_ring","_law_hues","_law_one","_law_other"] 33
 W2:FO P w K mg base k true "_law_rounds" 47 ["_law_web_here","_law_ring","_law_hues"] 34
 EY:FO P w K mg base k true "_law_right" 48 ["_law_web_here","_law_ring","_law_hues"] 35
 W3:FO P w K mg base k true "law" 49 ["_law_script"] 36
section
variable {P:Program}{w:World}{K:W.Frag}{mg:Str->Option Value}{base:Heap}{k:Nat}
theorem zhE(Tp:Top K mg)(Fk:Fs P w K mg base k):Fs P w K mg base (k+1) where
 t0:=fJ Tp.d0 ["thing"] T_0 λ_ _ _ _ _ _ hr=>(aJ (b_ (tG (vf rfl Tp.z0 gk (gv 0) (vd rfl Tp.z1 TF gk dk)) (u_ (TY (vf rfl Tp.z0 gk (gv 0) (vd rfl Tp.z2 TJ gk dk))))))
 aN)
 t1:=fJ Tp.d1 ["thing","least","most"] T_1 λ_ _ _ _ _ _ hr=>(aJ (b_ (tG (gc Fk.t0 Tp.d0 hr cL gk (aA (gv 0) aK)) (u_ (zk0 T3 T3 (gv 1) (gv 0) (gv 2)))))
 aN)
 t2:=fJ Tp.d2 ["thing","many"] Vw λ_ _ _ _ _ _ hr=>(aJ (b_ (tG (vf rfl Tp.z0 gk (gv 0) (vd rfl Tp.z3 Hu gk dk)) (u_ (zm (oN hr) (zx Tp.z4 gk (aA (gv 0) aK)) (gv 1)))))
 aN)
 t3:=fJ Tp.d3 ["thing","k","d"] Vx λ_ _ _ _ _ _ hr=>(aJ (gw (lV (jV (gc Fk.t2 Tp.d2 hr cL gk (aA (gv 0) (aA aC aK))))) (aJ (b_ oA)
 aN) aN)
 (aJ (DR 1 2 rfl rfl nd rfl rfl jl jl rfl rfl (gv 0))
 (aJ (b_ (tG (gc Fk.t1 Tp.d1 hr cL gk (aA (gv 1) (aA aC (aA (TX Tp.gb gk dk) aK)))) (u_ (gc Fk.t1 Tp.d1 hr cL gk (aA (gv 2) (aA aC (aA (gv 1) aK)))))))
 aN)))
 t4:=fJ Tp.d4 ["ring","thing"] Vy λ_ _ _ _ _ _ hr=>(aJ (b_ (gc Fk.t1 Tp.d1 hr cL gk (aA (gv 1) (aA aC (aA (cQ qP (bx (gv 0) aC) aC) aK)))))
 aN)
 t5:=fJ Tp.d5 ["thing"] Vz λ_ _ _ _ _ _ hr=>(aJ (gw (lV (jV (gc Fk.t3 Tp.d3 hr cL gk (aA (gv 0) aK)))) (aJ M_
 aN) aN)
 aN)
 t6:=fJ Tp.d6 ["ring","one","other","gap"] T_6 λ_ _ _ _ _ _ hr=>(aJ (gM 3 nd rfl jl rfl (T5 Tp.z6 gk (aA (cQ qP (gv 1) (gv 2)) aK)))
 (aJ (b_ (M8 rfl Tp.z5 gk (aA (gv 3) (aA (cQ qP (bx (gv 0) aC) (gv 3)) aK))))
 aN))
 t7:=fJ Tp.d7 N7 VB λ_ _ _ _ _ _ hr=>(aJ (gw (lV (jV (gc Fk.t2 Tp.d2 hr cL gk (aA (gv 0) (aA aC aK))))) (aJ (b_ oA)
 aN) aN)
 (aJ (DR 1 2 rfl rfl nd rfl rfl jc jl rfl rfl (gv 0))
 (aJ (gw (qQ (DG (lV (jV (gc Fk.t8 Tp.d8 hr cL gk (aA (gv 1) aK)))) (Hv (lV (jV (vf rfl Tp.z0 gk (gv 2) (vd rfl Tp.z3 Hu gk dk))))))) (aJ (b_ oA)
 aN) aN)
 (aJ (gw (lV (jV (zy rfl Tp.z8 gk (aA (qT (au (top 17)) N7 ["tie"] ["many"] [1] rfl rfl rfl Bd Bd (lU 0) Bd (kO (gv 2)) (λ_ _ _ _ _ _=>(lW 0 Bd rfl Bd)) (λ_ _ _ _ _ _=>vg) (λ_ _ _ _ _ _=>(gc Fk.t10 Tp.Pj hr vo oW (aA (bK 1) (aA (bK 0) aK))))) aK)))) (aJ (b_ oA)
 aN) aN)
 (aJ (b_ (zy rfl Tp.z8 gk (aA (qT (au (top 17)) N7 ["tie","later"] [] [] rfl rfl rfl Bd Bd (MJ 0 1) Bd (zk3 Tp.z7 gk (gv 2) (Hw (gv 2) (DK aC) M6)) (λ_ _ _ _ _ _=>(T7 0 1 rfl Bd rfl rfl Bd Bd)) (λ_ _ _ _ _ _=>vg) (λ_ _ _ _ _ _=>(zm (tH hr) (bK 0) (bK 1)))) aK)))
 aN)))))
 t8:=fJ Tp.d8 ["thing"] VD λ_ _ _ _ _ _ hr=>(aJ (b_ (gc Fk.t1 Tp.d1 hr cL gk (aA (gv 0) (aA aC (aA (TX Tp.eO gk dk) aK)))))
 aN)
 t9:=fJ Tp.d9 ["many","thing"] VF λ_ _ _ _ _ _ hr=>(aJ (b_ (gc Fk.t1 Tp.d1 hr cL gk (aA (gv 1) (aA aC (aA (cQ qP (gv 0) aC) aK)))))
 aN)
 t10:=fJ Tp.Pj ["many","thing","one","other"] VG λ_ _ _ _ _ _ hr=>(aJ (gw (lV (jV (gc Fk.t2 Tp.d2 hr cL gk (aA (gv 1) (aA aC aK))))) (aJ (b_ oA)
 aN) aN)
 (aJ (DR 2 3 rfl rfl nd rfl rfl jl jl rfl rfl (gv 1))
 (aJ (b_ (tG (gc Fk.t9 Tp.d9 hr cL gk (aA (gv 0) (aA (gv 2) aK))) (tG (gc Fk.t9 Tp.d9 hr cL gk (aA (gv 0) (aA (gv 3) aK))) (u_ (zm (tH hr) (gv 2) (gv 3))))))
 aN)))
 t11:=fJ Tp.Pk ["thing"] VH λ_ _ _ _ _ _ hr=>(aJ (gw (lV (jV (gc Fk.t7 Tp.d7 hr cL gk (aA (gv 0) aK)))) (aJ M_
 aN) aN)
 aN)
 Wu:=fJ Tp.Pn Wi VJ λ_ _ _ _ _ _ hr=>(aJ (zE 2 (au (top 22)) Wi ["one","other"] ["place"] [1] nd rfl jl rfl rfl rfl rfl Bd Bd (MJ 0 1) Bd (kO (bx (gv 0) aC)) (λ_ _ _ _ _ _=>(T7 0 1 rfl Bd rfl rfl Bd Bd)) (λ_ _ _ _ _ _=>(qR (eF (zj hr) (bK 2) (cZ (aA (bK 0) (aA (bK 1) aK)))))) (λ_ _ _ _ _ _=>(T4 (eF (oN hr) (bK 0) (bK 2)) (bK 1) (bK 0))))
 (aJ (b_ (Hx Tp.z3 gk (aA (Ub Tp.z9 gk (aA (gv 2) aK)) aK)))
 aN))
 Wv:=fJ Tp.Pq Wj VL λ_ _ _ _ _ _ hr=>(aJ (b_ (qT (au (top 23)) Wj ["place"] ["web"] [0] rfl rfl rfl Bd Bd (lU 0) Bd (vh Tp.qu gk (bx (gv 0) aC)) (λ_ _ _ _ _ _=>(lW 0 Bd rfl Bd)) (λ_ _ _ _ _ _=>vg) (λ_ _ _ _ _ _=>(gc Fk.Wu Tp.Pn hr vo oW (aA (bK 1) (aA (bK 0) aK))))))
 aN)
 Ww:=fJ Tp.Pu Wm VN λ_ _ _ _ _ _ hr=>(aJ (b_ (tG (gc Fk.t2 Tp.d2 hr cL gk (aA (gv 2) (aA (bx (gv 0) aC) aK))) (u_ (zy rfl Tp.z8 gk (aA (qT (au (top 25)) Wm ["spot"] ["ring"] [1] rfl rfl rfl Bd Bd (lU 0) Bd (kO (gv 2)) (λ_ _ _ _ _ _=>(lW 0 Bd rfl Bd)) (λ_ _ _ _ _ _=>vg) (λ_ _ _ _ _ _=>(gc Fk.t4 Tp.d4 hr vo oW (aA (bK 1) (aA (bK 0) aK))))) aK)))))
 aN)
 Wx:=fJ Tp.Px ["web","ring","thing"] VP λ_ _ _ _ _ _ hr=>(aJ (b_ (tG (gc Fk.Ww Tp.Pu hr cL gk (aA (gv 0) (aA (gv 1) (aA (gv 2) aK)))) (u_ (zkW (gc Fk.Wz Tp.Pz hr cL gk (aA (gv 0) (aA (gv 1) (aA (gv 2) aK))))))))
 aN)
 Wy:=fJ Tp.Py ["web","ring","thing"] VR λ_ _ _ _ _ _ hr=>(aJ (p8 (gc Fk.t11 Tp.Pk hr cL gk (aA (gv 0) aK)))
 (aJ (p8 (gc Fk.t5 Tp.d5 hr cL gk (aA (gv 1) aK)))
 (aJ (gw (lV (jV (gc Fk.Wx Tp.Px hr cL gk (aA (gv 0) (aA (gv 1) (aA (gv 2) aK)))))) (aJ M_
 aN) aN)
 aN)))
 Wz:=fJ Tp.Pz ["web","ring","spots","one","other"] V0 λ_ _ _ _ _ _ hr=>(aJ (oO nM rfl rfl (kO (bx (gv 0) aC)) (Ng 3 4 rfl rfl nd rfl rfl jl jl rfl rfl) (aJ (gw (eF (tH hr) (gc Fk.t6 Tp.d6 hr cL gk (aA (gv 1) (aA (bx (gv 2) (gv 3)) (aA (bx (gv 2) (gv 4)) aK)))) (bx (gv 1) aC)) (aJ (b_ (cZ (aA (gv 3) (aA (gv 4) aK))))
 aN) aN)
 aN))
 (aJ (b_ Dw)
 aN))
 WD:=fJ Tp.PB ["web","ring","hues"] V1 λ_ _ _ _ _ _ hr=>(aJ (p8 (gc Fk.Wy Tp.Py hr cL gk (aA (gv 0) (aA (gv 1) (aA (gv 2) aK)))))
 (aJ (b_ (gc Fk.WL Tp.PK hr cL gk (aA (gc Fk.WK Tp.PJ hr cL gk (aA (gv 0) (aA (gv 1) (aA (gv 2) aK)))) aK)))
 aN))
 WK:=fJ Tp.PJ Wn V2 λ_ _ _ _ _ _ hr=>(aJ (DR 3 4 rfl rfl nd rfl rfl jl jl rfl rfl (gv 1))
 (aJ (gM 5 nd rfl jl rfl (kJ aK))
 (aJ (oO nM rfl rfl (ziz Tp.Ws gk (gc Fk.Wv Tp.Pq hr cL gk (aA (gv 0) aK))) (Ng 6 7 rfl rfl nd rfl rfl jl jl rfl rfl) (aJ (gM 8 nd rfl jc rfl (cQ xO (cQ kI (bx (gv 2) (gv 6)) (gv 4)) (gv 3)))
 (aJ (p8 (DN (gv 5) (Hx Tp.z3 gk (aA (qT (au (top 31)) Wn ["end"] ["hues","spot"] [2,8] rfl rfl rfl Bd Bd (lU 0) Bd (kO (gv 7)) (λ_ _ _ _ _ _=>(lW 0 Bd rfl Bd)) (λ_ _ _ _ _ _=>(qR (eF (oN hr) (bx (bK 1) (bK 0)) (bK 2)))) (λ_ _ _ _ _ _=>(bK 0))) aK))))
 aN)))
 (aJ (b_ (gv 5))
 aN))))
 WL:=fJ Tp.PK ["nexts","found","place"] V3 λ_ _ _ _ _ _ hr=>(aJ (gM 1 nd rfl jl rfl (kJ aK))
 (aJ (oO nM rfl rfl (vh Tp.qu gk (zx Tp.z4 gk (aA (gv 0) aK))) (tK 2 nd rfl jl rfl) (aJ (p8 (gc Fk.Qf Tp.Ie hr cL gk (aA (gv 0) (aA (cZ (aA (gv 2) aK)) (aA (gv 1) aK)))))
 aN))
 (aJ (b_ (gv 1))
 aN)))
 Qf:=fJ Tp.Ie ["nexts","path","found","place"] V4 λ_ _ _ _ _ _ hr=>(aJ (gw (eF (zj hr) (bx (gv 1) aC) (bx (gv 0) (bx (gv 1) (pY aC)))) (aJ (p8 (DN (gv 2) (gv 1)))
 aN) aN)
 (aJ (oO nM rfl rfl (kO (bx (gv 0) (bx (gv 1) (pY aC)))) (tK 3 nd rfl jl rfl) (aJ (gw (qQ (zu (eF M4 (gv 3) (bx (gv 1) aC)) (zp (eF (M5 hr) (gv 3) (gv 1))))) (aJ (p8 (gc Fk.Qf Tp.Ie hr cL gk (aA (gv 0) (aA (cQ kI (gv 1) (cZ (aA (gv 3) aK))) (aA (gv 2) aK)))))
 aN) aN)
 aN))
 aN))
 WM:=fJ Tp.PL ["_law_script","_law_k"] V5 λ_ _ _ _ _ _ hr=>(aJ (gw (eF (tH hr) (gv 1) (zx Tp.z4 gk (aA (gv 0) aK))) (aJ (b_ (bx (gv 0) (gv 1)))
 aN) aN)
 (aJ (b_ aC)
 aN))
 WQ:=fJ Tp.PN ["_law_cell_here","_law_left"] V6 λ_ _ _ _ _ _ hr=>(aJ (gM 1 nd rfl jl rfl (M7 rfl Tp.Ik gk (aA (gv 0) (aA (cQ qP aC (gv 0)) aK))))
 (aJ (b_ (kJ (aA (gv 1) (aA (zjP Tp.z1 gk (aA (zm zlI (gv 1) (cQ zko aC aC)) aK)) aK))))
 aN))
 xZ:=fJ Tp.vD ["_law_pen_here","_law_many","_law_left","_law_found","_law_stir"] V7 λ_ _ _ _ _ _ hr=>(aJ (gw (eF (oN hr) (bx (gv 0) aC) aC) (aJ (DR 2 3 rfl rfl nd rfl rfl jl jl rfl rfl (zf5 Tp.Wr gk (aA (bx (gv 0) aC) (aA (gv 1) aK))))
 (aJ (Hy (gv 0) aC (gv 2))
 (aJ (b_ (gv 3))
 aN))) aN)
 (aJ (gM 4 nd rfl jl rfl (cQ xO (cQ u9 (cQ kI (cQ xO (bx (gv 0) aC) aC) aC) aC) aC))
 (aJ (gM 4 nd rfl jl rfl (cQ xO (cQ kI (cQ u9 (gv 4) (gv 4)) aC) aC))
 (aJ (Hy (gv 0) aC (cQ xO (cQ kI (cQ u9 (gv 4) aC) aC) aC))
 (aJ (b_ (cQ xO (cQ zjD (bx (gv 0) aC) aC) (gv 1)))
 aN)))))
 WR:=fJ Tp.PX ["_law_thing"] zlG λ_ _ _ _ _ _ hr=>(aJ (b_ (tG (vf rfl Tp.z0 gk (gv 0) (vd rfl Tp.z1 TF gk dk)) (u_ (TY (vf rfl Tp.z0 gk (gv 0) (vd rfl Tp.z2 TJ gk dk))))))
 aN)
 WT:=fJ Tp.P0 Wo V8 λ_ _ _ _ _ _ hr=>(aJ (gM 2 nd rfl jc rfl (bx (kJ (aA aC (aA aC (aA aC aK)))) (gc Fk.xZ Tp.vD hr cL gk (aA (gv 0) (aA aC aK)))))
 (aJ (gM 3 nd rfl jl rfl (kJ aK))
 (aJ (oO nM rfl rfl (vh Tp.qu gk (gv 1)) (tK 4 nd rfl jc rfl) (aJ (gM 3 nd rfl jl rfl (cQ kI (gv 3) (qT (au (top 39)) Wo ["_law_other"] ["_law_one","_law_pen_here","_law_often"] [4,0,2] rfl rfl rfl Bd Bd (lU 0) Bd (T6 Tp.qu gk (cQ kI (gv 4) aC) (gv 1)) (λ_ _ _ _ _ _=>(lW 0 Bd rfl Bd)) (λ_ _ _ _ _ _=>(qR (eF (tH hr) (gc Fk.xZ Tp.vD hr vo oW (aA (bK 2) (aA aC aK))) (bK 3)))) (λ_ _ _ _ _ _=>(cZ (aA (bK 1) (aA (bK 0) aK)))))))
 aN))
 (aJ (b_ (cZ (aA (gv 1) (aA (Hx Tp.z3 gk (aA (gv 3) aK)) aK))))
 aN))))
 Qg:=fJ Tp.Ig ["_law_k","_law_one","_law_other","_law_there"] zlH λ_ _ _ _ _ _ hr=>(aJ (gM 3 nd rfl jl rfl (T5 Tp.z6 gk (aA (cQ qP (gv 1) (gv 2)) aK)))
 (aJ (b_ (M8 rfl Tp.z5 gk (aA (gv 3) (aA (cQ qP (gv 0) (gv 3)) aK))))
 aN))
 WW:=fJ Tp.P_ Wq V9 λ_ _ _ _ _ _ hr=>(aJ (b_ (zm (oN hr) (qT (au (top 41)) Wq ["_law_tie"] ["_law_ring","_law_spots"] [1,2] rfl rfl rfl Bd Bd (lU 0) Bd (kO (bx (gv 0) aC)) (λ_ _ _ _ _ _=>(lW 0 Bd rfl Bd)) (λ_ _ _ _ _ _=>(qR (eF (tH hr) (gc Fk.Qg Tp.Ig hr vo oW (aA (bx (bK 1) aC) (aA (bx (bK 2) (bx (bK 0) aC)) (aA (bx (bK 2) (bx (bK 0) aC)) aK)))) (bx (bK 1) aC)))) (λ_ _ _ _ _ _=>(bK 0))) (kJ aK)))
 aN)
 Qh:=fJ Tp.Ih Ez V_ λ_ _ _ _ _ _ hr=>(aJ (gw (qQ (zu (eF (Dy hr) (bx (gv 0) aC) (cZ aK)) (zp (eF (tH hr) (bx (gv 1) aC) (cQ u9 aC (bx (gv 1) aC)))))) (aJ (b_ Dw)
 aN) aN)
 (aJ (gM 2 nd rfl jl rfl (kJ aK))
 (aJ (oO nM rfl rfl (kO (bx (gv 0) aC)) (Ng 3 4 rfl rfl nd rfl rfl jc jc rfl rfl) (aJ (zE 5 (au (top 42)) Ez ["_law_place"] ["_law_one","_law_web_here","_law_other"] [3,0,4] nd rfl jl rfl rfl rfl rfl Bd Bd (lU 0) Bd (vh Tp.qu gk (bx (gv 0) aC)) (λ_ _ _ _ _ _=>(lW 0 Bd rfl Bd)) (λ_ _ _ _ _ _=>(qR (qQ (zu (eF (zj hr) (cZ (aA (bK 1) (aA (bK 0) aK))) (bx (bK 2) aC)) (zp (eF (zj hr) (cZ (aA (bK 3) (aA (bK 0) aK))) (bx (bK 2) aC))))))) (λ_ _ _ _ _ _=>(bK 0)))
 (aJ (gM 2 nd rfl jl rfl (cQ kI (gv 2) (gv 5)))
 aN)))
 (aJ (gw (qQ (zu (eF (Dy hr) (gv 2) (kJ aK)) (zp (eF (tH hr) (bx (gv 1) aC) (cQ u9 aC (bx (gv 1) aC)))))) (aJ (b_ Dw)
 aN) aN)
 (aJ (zE 6 (au (top 42)) Ez ["_law_place"] ["_law_web_here"] [0] nd rfl jl rfl rfl rfl rfl Bd Bd (lU 0) Bd (vh Tp.qu gk (bx (gv 0) aC)) (λ_ _ _ _ _ _=>(lW 0 Bd rfl Bd)) (λ_ _ _ _ _ _=>(qR (eF (oN hr) (T8 ["_law_place","_law_web_here"] ["_law_tie"] ["_law_place"] [0] rfl rfl Bd Bd (lU 0) Bd (kO (bx (bK 1) aC)) (λ_ _ _ _ _ _=>(lW 0 Bd rfl Bd)) (λ_ _ _ _ _ _=>(qR (eF (zj hr) (bK 1) (bK 0)))) (λ_ _ _ _ _ _=>(bK 0))) (kJ aK)))) (λ_ _ _ _ _ _=>(bK 0)))
 (aJ (gM 7 nd rfl jc rfl (kJ (aA aC aK)))
 (aJ (T9 nM (eF (oN hr) (bx (gv 7) aC) aC) (aJ (gw (qQ (DG (eF (oN hr) (bx (gv 7) (pY aC)) (bx (gv 1) aC)) (Hv (qQ (zu (eF M4 (bx (gv 7) (pY aC)) aC) (zp (eF (zj hr) (cQ qP (zx Tp.z4 gk (aA (gv 7) aK)) aC) (gv 6)))))))) (aJ (p8 (zkY (gv 7)))
 (aJ (gw (eF (oN hr) (gv 7) (kJ aK)) (aJ (b_ Dw)
 aN) aN)
 (aJ (Hy (gv 7) (pY aC) (cQ kI (bx (gv 7) (pY aC)) aC))
 aN))) (aJ (zE 8 (au (top 42)) Ez ["_law_tie"] ["_law_row"] [7] nd rfl jl rfl rfl rfl rfl Bd Bd (lU 0) Bd (kO (bx (gv 0) aC)) (λ_ _ _ _ _ _=>(lW 0 Bd rfl Bd)) (λ_ _ _ _ _ _=>(qR (eF (oN hr) (bx (bK 0) aC) (cQ qP (zx Tp.z4 oW (aA (bK 1) aK)) aC)))) (λ_ _ _ _ _ _=>(bK 0)))
 (aJ (zE 9 (au (top 42)) Ez ["_law_tie"] ["_law_ring","_law_row"] [1,7] nd rfl jl rfl rfl rfl rfl Bd Bd (lU 0) Bd (kO (gv 8)) (λ_ _ _ _ _ _=>(lW 0 Bd rfl Bd)) (λ_ _ _ _ _ _=>(qR (eF (tH hr) (gc Fk.Qg Tp.Ig hr vo oW (aA (bx (bK 1) aC) (aA (bx (bK 2) (bx (bK 0) aC)) (aA (bx (bK 2) (pY aC)) aK)))) (bx (bK 1) aC)))) (λ_ _ _ _ _ _=>(bK 0)))
 (aJ (gw (eF (Dy hr) (gv 9) (kJ aK)) (aJ (Hy (gv 7) (pY aC) (cQ kI (bx (gv 7) (pY aC)) aC))
 aN) (aJ (gw (eF (oN hr) (zx Tp.z4 gk (aA (gv 7) aK)) (bx (gv 0) aC)) (aJ (b_ (Hx Tp.z3 gk (aA (gv 7) aK)))
 aN) (aJ (p8 (DN (gv 7) aC))
 aN))
 aN))
 aN))))
 aN))
 (aJ (b_ Dw)
 aN))))))))
 WX:=fJ Tp.Qa ["_law_pen_here","_law_web_here","_law_ring"] Wa λ_ _ _ _ _ _ hr=>(aJ (oO nM rfl rfl (kO (kJ (aA (cZ (aA aC (aA aC aK))) (aA (cZ (aA aC (aA aC aK))) (aA (cZ (aA aC (aA aC aK))) (aA (cZ (aA aC (aA aC aK))) (aA (cZ (aA aC (aA aC aK))) (aA (cZ (aA aC (aA aC aK))) (aA (cZ (aA aC (aA aC aK))) (aA (cZ (aA aC (aA aC aK))) (aA (cZ (aA aC (aA aC aK))) aK))))))))))) (tK 2 nd rfl jl rfl) (aJ (gw (zjF (gc Fk.Qh Tp.Ih hr cL gk (aA (gv 1) (aA (gv 2) aK)))) (aJ (b_ (T4 (eF M4 (gc Fk.xZ Tp.vD hr cL gk (aA (gv 0) (aA aC aK))) aC) (gv 2) (cZ (aA (cQ u9 aC (bx (gv 2) aC)) (aA (cQ u9 aC (bx (gv 2) aC)) aK)))))
 aN) aN)
 aN))
 (aJ (b_ (cZ (aA (M7 rfl Tp.Ik gk (aA aC (aA (bx (gv 1) aC) aK))) (aA aC aK))))
 aN))
 WY:=fJ Tp.Qc ["_law_pen_here"] Wb λ_ _ _ _ _ _ hr=>(aJ (b_ (bx (kJ (aA aC (aA aC (aA aC (aA aC (aA aC (aA aC (aA aC (aA aC (aA aC (aA aC aK))))))))))) (gc Fk.xZ Tp.vD hr cL gk (aA (gv 0) (aA aC aK)))))
 aN)
 W0:=fJ Tp.Qd ["_law_pen_here","_law_web_here","_law_ring","_law_found","_law_turn","_law_place","_law_other"] Wc λ_ _ _ _ _ _ hr=>(aJ (gM 3 nd rfl jl rfl (gc Fk.Qh Tp.Ih hr cL gk (aA (gv 1) (aA (gv 2) aK))))
 (aJ (oO nM rfl rfl (vh Tp.qu gk (cQ u9 aC (bx (gv 1) aC))) (tK 4 nd rfl jl rfl) (aJ (gM 5 nd rfl jl rfl (gc Fk.xZ Tp.vD hr cL gk (aA (gv 0) (aA (bx (gv 1) aC) aK))))
 (aJ (gM 6 nd rfl jl rfl (cQ kI (cQ kI (Hw (gv 3) M6 (DK (gv 5))) (cZ (aA (gc Fk.xZ Tp.vD hr cL gk (aA (gv 0) (aA (bx (gv 2) aC) aK))) aK))) (Hw (gv 3) (DK (cQ kI (gv 5) aC)) M6)))
 (aJ (gw (jV (gc Fk.WW Tp.P_ hr cL gk (aA (gv 1) (aA (gv 2) (aA (gv 6) aK))))) (aJ (gM 3 nd rfl jl rfl (gv 6))
 aN) aN)
 aN))))
 (aJ (b_ (gv 3))
 aN)))
 Qi:=fJ Tp.Ii ["_law_web_here","_law_ring","_law_hues","_law_one","_law_other"] Wd λ_ _ _ _ _ _ hr=>(aJ (gw (eF (M5 hr) (cZ (aA (M8 rfl Tp.z5 gk (aA (gv 3) (aA (gv 4) aK))) (aA (M7 rfl Tp.Ik gk (aA (gv 3) (aA (gv 4) aK))) aK))) (bx (gv 0) aC)) (aJ (b_ oA)
 aN) aN)
 (aJ (b_ (zm (oN hr) (cQ xO (cQ qP (cQ kI (bx (gv 2) (gv 3)) (bx (gv 1) aC)) (bx (gv 2) (gv 4))) (bx (gv 1) aC)) aC))
 aN))
 W2:=fJ Tp.Qe Pb Wf λ_ _ _ _ _ _ hr=>(aJ (gM 3 nd rfl jl rfl (kJ aK))
 (aJ (zE 4 (au (top 47)) Pb ["_law_place"] [] [] nd rfl jl rfl rfl rfl rfl Bd Bd (lU 0) Bd (vh Tp.qu gk (bx (gv 0) aC)) (λ_ _ _ _ _ _=>(lW 0 Bd rfl Bd)) (λ_ _ _ _ _ _=>vg) (λ_ _ _ _ _ _=>(cZ (aA (bK 0) aK))))
 (aJ (T9 nM (eF (Dy hr) (gv 4) (kJ aK)) (aJ (gM 5 nd rfl jl rfl (kJ aK))
 (aJ (oO nM rfl rfl (kO (gv 4)) (tK 6 nd rfl jl rfl) (aJ (oO nM rfl rfl (T6 Tp.qu gk (cQ kI (bx (gv 6) aC) aC) (bx (gv 0) aC)) (tK 7 nd rfl jl rfl) (aJ (gw (qQ (zu (eF (M5 hr) (gv 7) (gv 6)) (zp (jV (gc Fk.Qi Tp.Ii hr cL gk (aA (gv 0) (aA (gv 1) (aA (gv 2) (aA (bx (gv 6) (pY aC)) (aA (gv 7) aK)))))))))) (aJ (p8 (DN (gv 5) (cQ kI (gv 6) (cZ (aA (gv 7) aK)))))
 aN) aN)
 aN))
 aN))
 (aJ (gM 3 nd rfl jl rfl (cQ kI (gv 3) (qT (au (top 47)) Pb ["_law_row"] ["_law_web_here","_law_ring","_law_hues"] [0,1,2] rfl rfl rfl Bd Bd (lU 0) Bd (kO (gv 5)) (λ_ _ _ _ _ _=>(lW 0 Bd rfl Bd)) (λ_ _ _ _ _ _=>(qR (jV (gc Fk.Qi Tp.Ii hr vo oW (aA (bK 1) (aA (bK 2) (aA (bK 3) (aA (bx (bK 0) (pY aC)) (aA (bx (bK 0) aC) aK))))))))) (λ_ _ _ _ _ _=>(bK 0)))))
 (aJ (gM 4 nd rfl jl rfl (gv 5))
 aN)))))
 (aJ (b_ (Ub Tp.z9 gk (aA (gv 3) aK)))
 aN))))
 EY:=fJ Tp.zP Pg Wg λ_ _ _ _ _ _ hr=>(aJ (gM 3 nd rfl jl rfl (gc Fk.W2 Tp.Qe hr cL gk (aA (gv 0) (aA (gv 1) (aA (gv 2) aK)))))
 (aJ (oO nM rfl rfl (vh Tp.qu gk aC) (tK 4 nd rfl jl rfl) (aJ (gM 5 nd rfl jl rfl (gc Fk.WD Tp.PB hr cL gk (aA (gv 0) (aA (gv 1) (aA (gv 2) aK)))))
 (aJ (gw (qQ (DG (lV (jV (vf rfl Tp.z0 gk (gv 5) (vd rfl Tp.Wt zh0 gk dk)))) (DG (eF (Dy hr) (gv 5) (gv 3)) (Hv (lV (jV (zy rfl Tp.z8 gk (aA (qT (au (top 48)) Pg ["_law_row"] [] [] rfl rfl rfl Bd Bd (lU 0) Bd (kO (gv 5)) (λ_ _ _ _ _ _=>(lW 0 Bd rfl Bd)) (λ_ _ _ _ _ _=>vg) (λ_ _ _ _ _ _=>(vf rfl Tp.z0 oW (bK 0) (vd rfl Tp.z3 Hu oW dk)))) aK)))))))) (aJ (b_ oA)
 aN) aN)
 (aJ (gw (lV (jV (zy rfl Tp.z8 gk (aA (qT (au (top 48)) Pg ["_law_row"] [] [] rfl rfl rfl Bd Bd (lU 0) Bd (kO (gv 5)) (λ_ _ _ _ _ _=>(lW 0 Bd rfl Bd)) (λ_ _ _ _ _ _=>vg) (λ_ _ _ _ _ _=>(zy rfl Tp.z8 oW (aA (T8 ["_law_row"] ["_law_place"] [] [] rfl rfl Bd Bd (lU 0) Bd (kO (bK 0)) (λ_ _ _ _ _ _=>(lW 0 Bd rfl Bd)) (λ_ _ _ _ _ _=>vg) (λ_ _ _ _ _ _=>(gc Fk.WR Tp.PX hr vo oW (aA (bK 0) aK)))) aK)))) aK)))) (aJ (b_ oA)
 aN) aN)
 (aJ (p8 (DN (gv 5) (cZ aK)))
 aN)))))
 (aJ (b_ oA)
 aN)))
 W3:=fJ Tp.Ij ["_law_script","_law_cell_here","_law_pen_here","_law_web_here","_law_ring"] Wh λ_ _ _ _ _ _ hr=>(aJ (gw (qQ (DG (lV (jV (gc Fk.EY Tp.zP hr cL gk (aA (cZ (aA aC (aA (cZ (aA (cZ (aA aC (aA aC aK))) aK)) aK))) (aA (cZ (aA aC (aA aC aK))) (aA (cZ (aA aC (aA aC aK))) aK)))))) (Hv (lV (jV (gc Fk.EY Tp.zP hr cL gk (aA (cZ (aA aC (aA (cZ aK) aK))) (aA (cZ (aA aC (aA aC aK))) (aA (cZ (aA aC aK)) aK))))))))) (aJ (b_ oA)
 aN) aN)
 (aJ (gw (lV (jV (gc Fk.EY Tp.zP hr cL gk (aA (cZ (aA aC (aA (cZ (aA (cZ (aA aC (aA aC aK))) (aA (cZ (aA aC (aA aC aK))) (aA (cZ (aA aC (aA aC aK))) aK)))) aK))) (aA (cZ (aA aC (aA aC aK))) (aA (cZ (aA aC (aA aC (aA aC aK)))) aK)))))) (aJ (b_ oA)
 aN) aN)
 (aJ (oO nM rfl rfl (kO (cQ kI (kJ (aA (gc Fk.WM Tp.PL hr cL gk (aA (gv 0) (aA aC aK))) aK)) (Hw (gv 0) (DK aC) (DK aC)))) (tK 1 nd rfl jl rfl) (aJ (gM 2 nd rfl jl rfl (gc Fk.WQ Tp.PN hr cL gk (aA (gv 1) aK)))
 (aJ (gM 3 nd rfl jl rfl (gc Fk.WT Tp.P0 hr cL gk (aA (gv 2) (aA (gc Fk.WY Tp.Qc hr cL gk (aA (gv 2) aK)) aK))))
 (aJ (gM 4 nd rfl jl rfl (gc Fk.WX Tp.Qa hr cL gk (aA (gv 2) (aA (gv 3) aK))))
 (aJ (gw (lV (jV (gc Fk.EY Tp.zP hr cL gk (aA (gv 3) (aA (gv 4) (aA (gc Fk.W0 Tp.Qd hr cL gk (aA (gv 2) (aA (gv 3) (aA (gv 4) aK)))) aK)))))) (aJ (b_ oA)
 aN) aN)
 aN)))))
 (aJ (b_ oA)
 aN))))
theorem W4(Tp:Top K mg):∀k,Fs P w K mg base k
 |0=>⟨dD,dD,dD,dD,dD,dD,dD,dD,dD,dD,dD,dD,dD,dD,dD,dD,dD,dD,dD,dD,dD,dD,dD,dD,dD,dD,dD,dD,dD,dD,dD,dD,dD,dD,dD,dD,dD⟩
 |k+1=>zhE Tp (W4 Tp k)
end
theorem all_mk{l:PySem.W.OpenLaw}{w:World}{K:W.Frag}{h:Heap}{mg:Str->Option Value}{fa:Addr}(hm:∀ns:List Int,ns.length<=63->∃s',call ao T 60 true 36 [.d (.fl (ns.map D.int))] []=some (.ok (.d (.bl true)),s'))
  (S:gU fs ms xs lk K) (X:K.In h) (G:h.Ns mainGlobals mg) (Qj:mg "law"=some (.ref fa)) :
  ∃fd:FuncData,(∀(s:Shared) (u:Value),BindsTo s fd ⟨[u],[]⟩ [("_law_script",u)])/\∀base:Heap,K.In base->base.Ns mainGlobals mg->dB l.prog w K mg base (i_ l.prog w) true 60 fa fd ["_law_script"] (pX K):=by
 have Tp:Top K mg:=zjn S X G;have e:=Qj.symm.trans Tp.Ij.m;cases e;exact⟨_,xT Tp.Ij.f (λ_ _ _ _ _ _ _=>rfl),λbase _ _=>(W4 Tp 60).W3.imp (zhj hm)⟩
end dG
namespace dG
open PySem Mi
def lX(o:SO):Prop:=∃a b:Int,o=.lst [.int a,.int b]/\0<=a/\(b=0\/b=1)
theorem zjS{k:Nat}{o:SO}{m:Int}(ho:lX o)(hm:0<m)(W5:m<1073741824):W (call ao T (k+1) true 24 [.l 0,.d (.int m)]) [o] λv s=>∃d o',v=.d d/\s=[o']/\(∃r:Int,d=.int r/\0<=r/\r<m)/\lX o':=by
 obtain⟨a,b,rfl,ha,hb⟩:=ho;refine W.call V7 rfl ?_;unfold OJ;rcases hb with rfl|rfl
 ·refine Y ?_;exact⟨_,_,rfl,rfl,⟨_,rfl,Int.emod_nonneg _ gV,Int.emod_lt_of_pos _ hm⟩,⟨_,_,rfl,Int.emod_nonneg _ Dc,.inl rfl⟩⟩
 ·refine Y ?_;exact⟨_,_,rfl,rfl,⟨_,rfl,Int.emod_nonneg _ gV,Int.emod_lt_of_pos _ hm⟩,⟨_,_,rfl,Int.ediv_nonneg ha gV,.inr rfl⟩⟩
theorem zkX{k:Nat}{n:Int}:W (call ao T (k+1) true 23 [.d (.int n)]) [] λv s=>∃i o,v=.l i/\s[i]?=some o/\lX o:=by
 refine W.call V6 rfl ?_;unfold OD;refine Y ?_;refine⟨0,_,rfl,rfl,⟨_,_,rfl,?_,?_⟩⟩
 ·split<;>lia
 ·have:∀c:Bool,(if c=true then (1:Int) else 0)=0\/(if c=true then (1:Int) else 0)=1:=by intro c;cases c<;>simp
  exact this _
theorem zQ{k:Nat}{o:SO}{m:Int}{P:Xv->S->Prop}(ho:lX o)(hm:0<m)(W5:m<1073741824)(h:∀(r:Nat) o',(r:Int)<m->lX o'->P (.d (.int r)) [o']):W (bJ (call ao T (k+1) true 24) [.l 0,.d (.int m)]) [o] P:=by
 refine Ue (n:=0) (o:=o) rfl rfl ((zjS ho hm W5).imp λv s=>?_);rintro⟨d,o',rfl,rfl,⟨r,rfl,h0,h1⟩,hp⟩;obtain⟨n,rfl⟩:=Fl h0;exact⟨_,_,rfl,rfl,h n o' h1 hp⟩
theorem zii{k:Nat}{ns:List Int}:W (call ao T (k+1) true 22 [.d (.fl (ns.map D.int)),.d (.int 0)]) [] λv _=>∃n,v=.d (.int n):=by
 refine W.call V5 rfl ?_;unfold Oz;cases ns with
 |nil=>
  refine Y ?_;exact⟨_,rfl⟩
 |cons n r=>
  refine Y ?_;refine WS.ite (λ_=>?_) (λ_=>?_)
  ·refine Y ?_;refine bL (HB (i:=0) (x:=.int n) rfl) ?_;refine Y ?_;exact⟨_,rfl⟩
  ·refine Y ?_;exact⟨_,rfl⟩
theorem W6{k':Nat}{k a b:Int}:W (call ao T (k'+1) true 27 [.d (.int k),.d (.int a),.d (.int b)]) [] λv s=>v=.d (.int (dF k a b)):=W.eq (a:=.d (.int (dF k a b))) (s':=[]) rfl rfl
theorem zk7{k':Nat}{n k d:Int}{ps:List (Int×Int)}{hs:List Int}(h:Web n ps)(hl:(hs.length:Int)=n):W (call ao T (k'+2) true 28 [.d (aQ n ps),.d (aL k d),.d (.tup (hs.map .int))]) [] λv s=>v=.d (.bl (tW k d ps hs)):=by
 refine W.call V9 rfl ?_;unfold O2 aQ aL;have qZ:(100:Nat)<=sizeLine:=by decide
 have hlen:=h.len;have h8:=h.h8;refine Y ?_;refine oU (l:=ps) (f:=cG) (λp=>if d<=dF k (at' hs p.1) (at' hs p.2) then none else some (cG p)) gV ?_ (λp hp=>?_) ?_
 ·refine Y ?_;exact⟨rfl,rfl⟩
 ·obtain⟨a,b⟩:=p;have ht:=h.tie _ hp;dsimp only at ht;refine Y ?_;refine bL (ql gV gV) ?_;refine Y ?_;refine bL (ql gV gV) ?_;refine Y ?_;refine W.c0 W6 ?_;refine Y ?_;refine⟨rfl,λhb=>?_,λhb=>?_⟩
  ·refine Y ?_;have hb:=fH hb;exact⟨rfl,_,rfl,by rw[if_neg gV]⟩
  ·have hb:=FN hb;rw[if_pos gV]
 ·refine Y ?_;refine bL (zL (f:=id)) ?_;show Xv.d (D.bl (decide _))=_
  congr 2
  rw[Bool.eq_iff_iff,decide_eq_true_iff,jZ,lM]
  constructor
  ·intro h p hp;have:=h p hp;split at this
   ·assumption
   ·cases this
  ·intro h p hp;rw[if_pos (h p hp)]
theorem Il{r:List Int}{x:Int}:(((r.map D.int++[D.int x]).length:Nat):Int)=(r.length:Int)+1:=by simp
noncomputable def j9(n:Int)(ps:List (Int×Int)):List Int:=((List.range n.toNat).filter λ(i:Nat)=>ps.all λp=>decide (p.1≠(i:Int)/\p.2≠(i:Int))).map λ(i:Nat)=>(i:Int)
theorem zfA{n:Int}{ps:List (Int×Int)}:∀j∈j9 n ps,(0<=j/\j<n)/\∀p∈ps,p.1≠j/\p.2≠j:=by
 intro j hj;obtain⟨i,hi,rfl⟩:=jy.mp hj;obtain⟨h1,h2⟩:=iw.mp hi;have:=kh.mp h1;exact⟨by lia,λp hp=>fH (k_.mp h2 p hp)⟩
theorem W7{k':Nat}{n k d:Int}{ps:List (Int×Int)}(h:Web n ps)(hk:1<=k)(hd:1<=d)(hB:(n.toNat+1)*(k.toNat+1)^n.toNat+n.toNat<1000000000)(hd2:d<1000) :
  W (call ao T (k'+2) true 29 [.d (aQ n ps),.d (aL k d)]) [] λv s=>(v=.d .non/\∀hs,¬cB n k d ps hs)\/∃hs,v=.d (.tup (hs.map .int))/\cB n k d ps hs:=by
 refine W.call V_ rfl ?_;unfold O4;have qZ:(1000:Nat)<=sizeLine:=by decide
 have h1:=h.h1;have h8:=h.h8;have hlen:=h.len;have hwk:iM=1000000000000:=rfl;have yc:ps.map cG=[]↔ps=[]:=List.map_eq_nil_iff;unfold aQ aL;by_cases c1:ps≠[]/\k<2*d
 ·refine Y ?_;refine bL (UJ (f:=not)) ?_;rw[eU (λe=>c1.1 (yc.mp e))];refine Y ?_;rw[cX c1.2];refine Y ?_;exact .inl ⟨rfl,zji hd c1.1 c1.2⟩
 refine WS.cons (zJ ?_);refine W.imp (P:=λx s1=>x=.d (.bl false)/\s1=[]) ?_ λx s1 hx=>?_
 ·refine Y ?_;refine bL (UJ (f:=not)) ?_;by_cases e:ps=[]
  ·rw[cX (yc.mpr e)];refine Y ?_;exact⟨rfl,rfl⟩
  ·rw[eU (λz=>e (yc.mp z))];refine Y ?_;rw[eU (λz=>c1 ⟨e,z⟩)];exact⟨rfl,rfl⟩
 obtain⟨rfl,rfl⟩:=hx;refine W.bool (WS.zG ?_);refine Y ?_;refine qb (λi J s=>s=[]/\∃(ts:List Int) (a3 a4 a5:Option Xv),J=[some (.d (.tup [.int n,.tup (ps.map cG)])),some (.d (.tup [.int k,.int d])),some (.d (.fl (ts.map .int))),a3,a4,a5,none,none,none,none]/\ts.length<=8*i/\(ts≠[]->∃x y z,(x,y)∈ps/\(x,z)∈ps/\(y,z)∈ps)) ⟨rfl,[],_,_,_,rfl,by simp,λe=>absurd rfl e⟩ (λi x J s e hI=>?_) (λJ s hI=>?_)
 ·obtain⟨rfl,ts,a3,a4,a5,rfl,hl,Qk⟩:=hI;rw[gZ] at e;cases ep:ps[i]? with
  |none=>rw[ep] at e;cases e
  |some p=>
   rw[ep] at e;cases e;obtain⟨a,b⟩:=p;have hp:=fU ep;have hi:i<ps.length:=(fQ.mp ep).1;refine Y ?_;refine oU (l:=List.range (n-0).toNat) (f:=λ(j:Nat)=>.int (0+j)) (λ(j:Nat)=>if (a,0+(j:Int))∈ps/\(b,0+(j:Int))∈ps then some (.int (0+j)) else none) (by rw[lQ];lia) ?_ (λj hj=>?_) ?_
   ·refine Y ?_;refine⟨by rw[kW gV gV,kW gV gV];rfl,?_⟩;exact⟨rfl,rfl⟩
   ·refine Y ?_;refine bL (Nv (f:=id) (p:=(a,0+(j:Int)))) ?_;by_cases q1:(a,0+(j:Int))∈ps
    ·rw[cX q1];refine Y ?_;refine bL (Nv (f:=id) (p:=(b,0+(j:Int)))) ?_;refine Y ?_;refine⟨rfl,λhb=>?_,λhb=>?_⟩
     ·refine Y ?_;exact⟨rfl,_,rfl,by rw[if_pos ⟨q1,fH hb⟩]⟩
     ·rw[if_neg (λz=>absurd z.2 (FN hb))]
    ·rw[eU q1];refine Y ?_;refine⟨rfl,?_,λ_=>?_⟩
     ·intro hb;cases hb
     ·rw[if_neg (λz=>q1 z.1)]
   ·refine Y ?_;have e1:∀l:List Nat,∃us:List Int,l.filterMap (λ(j:Nat)=>if (a,0+(j:Int))∈ps/\(b,0+(j:Int))∈ps then some (D.int (0+j)) else none)=us.map .int/\us.length<=l.length/\(us≠[]->∃j:Int,(a,j)∈ps/\(b,j)∈ps):=by
     intro l
     induction l with
     |nil=>exact⟨[],rfl,bT _,λe=>absurd rfl e⟩
     |cons j r ih=>
      obtain⟨us,q1,q2,q3⟩:=ih;rw[rm];by_cases z:(a,0+(j:Int))∈ps/\(b,0+(j:Int))∈ps
      ·rw[if_pos z,q1];exact⟨(0+(j:Int))::us,rfl,by simp;lia,λ_=>⟨_,z⟩⟩
      ·rw[if_neg z,q1];exact⟨us,rfl,by simp;lia,q3⟩
    obtain⟨us,q1,q2,q3⟩:=e1 (List.range (n-0).toNat);rw[q1];rw[lQ] at q2;refine xV (HD ?_) ?_
    ·rw[cH,cH];lia
    refine Y ?_;refine⟨_,rfl,rfl,ts++us,_,_,some (.d (.fl (us.map .int))),by rw[lY];rfl,by rw[bO];lia,λhne=>?_⟩;by_cases t0:ts=[]
    ·subst t0;obtain⟨j,w1,w2⟩:=q3 (by simpa using hne);exact⟨a,b,j,hp,w1,w2⟩
    ·exact Qk t0
 ·obtain⟨rfl,ts,a3,a4,a5,rfl,hl,Qk⟩:=hI;have Ql:ts.map D.int=[]↔ts=[]:=List.map_eq_nil_iff;by_cases c2:ts≠[]/\k<3*d
  ·refine Y ?_;refine bL (zL (f:=not)) ?_;rw[eU (λe=>c2.1 (Ql.mp e))];refine Y ?_;rw[cX c2.2];refine Y ?_;exact .inl ⟨rfl,zf4 hd (Qk c2.1) c2.2⟩
  refine WS.cons (zJ ?_);refine W.imp (P:=λx s1=>x=.d (.bl false)/\s1=[]) ?_ λx s1 hx=>?_
  ·refine Y ?_;refine bL (zL (f:=not)) ?_;by_cases e:ts=[]
   ·rw[cX (Ql.mpr e)];refine Y ?_;exact⟨rfl,rfl⟩
   ·rw[eU (λz=>e (Ql.mp z))];refine Y ?_;rw[eU (λz=>c2 ⟨e,z⟩)];exact⟨rfl,rfl⟩
  obtain⟨rfl,rfl⟩:=hx;refine W.bool (WS.zG ?_);refine Y ?_;refine oU (l:=List.range (n-0).toNat) (f:=λ(j:Nat)=>.int (0+j)) (λ(j:Nat)=>if (ps.all λp=>decide (p.1≠(j:Int)/\p.2≠(j:Int)))=true then some (.int j) else none) (by rw[lQ];lia) ?_ (λj hj=>?_) ?_
  ·refine Y ?_;refine⟨by rw[kW gV gV,kW gV gV];rfl,?_⟩;exact⟨rfl,rfl⟩
  ·refine Y ?_;refine oU (l:=ps) (f:=cG) (λp=>if p.1=(j:Int)\/p.2=(j:Int) then some (cG p) else none) gV ?_ (λp hp=>?_) ?_
   ·refine Y ?_;exact⟨rfl,rfl⟩
   ·obtain⟨a,b⟩:=p;refine Y ?_;refine⟨rfl,λhb=>?_,λhb=>?_⟩
    ·refine Y ?_;simp at hb;exact⟨rfl,_,rfl,by rw[if_pos hb]⟩
    ·simp at hb;rw[if_neg (by simp;lia)]
   ·refine Y ?_;refine bL (zL (f:=id)) ?_;refine Y ?_;have pD:(ps.filterMap (λp=>if p.1=(j:Int)\/p.2=(j:Int) then some (cG p) else none)=[])↔(ps.all λp=>decide (p.1≠(j:Int)/\p.2≠(j:Int)))=true:=by
     rw[jZ,k_]
     constructor
     ·intro h p hp;have:=h p hp;apply cX;split at this
      ·cases this
      ·lia
     ·intro h p hp;have:=fH (h p hp);rw[if_neg gV]
    refine⟨rfl,λhb=>?_,λhb=>?_⟩
    ·refine Y ?_;rw[if_pos (pD.mp (fH hb))];exact⟨rfl,_,rfl,by congr 2;lia⟩
    ·rw[if_neg (λz=>absurd (pD.mpr z) (FN hb))]
  ·have el:(List.range (n-0).toNat).filterMap (λ(j:Nat)=>if (ps.all λp=>decide (p.1≠(j:Int)/\p.2≠(j:Int)))=true then some (D.int j) else none)=(j9 n ps).map .int:=by
    unfold j9;rw[List.map_map,show n-0=n by lia];generalize List.range n.toNat=l
    induction l with
    |nil=>rfl
    |cons j r ih=>
     rw[rm,qy];cases q:(ps.all λp=>decide (p.1≠(j:Int)/\p.2≠(j:Int)))
     ·simp[ih]
     ·simp[ih]
   rw[el];have hls:=zfA (n:=n) (ps:=ps);generalize j9 n ps=ls at hls;refine Y ?_;have hB0:left' (k.toNat+1) n.toNat [0]<=(n.toNat+1)*(k.toNat+1)^n.toNat+n.toNat:=by
    unfold left';have:=Nat.mul_le_mul_left (n.toNat+1) (Nat.sub_le ((k.toNat+1)^n.toNat) (val (k.toNat+1) [0] n.toNat))
    lia
   refine WS.wh (λm J s=>∃(r:List Int) (x:Int) (a8 a9:Option Xv),J=[some (.d (.tup [.int n,.tup (ps.map cG)])),some (.d (.tup [.int k,.int d])),some (.d (.fl (ts.map .int))),a3,a4,a5,some (.d (.fl (ls.map .int))),some (.l 0),a8,a9]/\s=[.lst (r.map .int++[.int x])]/\tX n k d ps ls r x/\m=left' (k.toNat+1) n.toNat (r++[x])) (m:=left' (k.toNat+1) n.toNat [0]) gV ⟨[],0,none,none,rfl,rfl,NZ h1 hk (λp hp=>⟨(h.tie p hp).1,(h.tie p hp).2.1⟩),rfl⟩ λm J s hI=>?_;obtain⟨r,x,a8,a9,rfl,rfl,St,rfl⟩:=hI;have g1:=St.len;have g2:=St.x0;have g3:=St.xk;have E_:∀z∈r,z<((k.toNat+1:Nat):Int):=λz hz=>by have:=St.lo z hz;lia
   refine Y ?_;refine bL (Vg gV gV) ?_;refine Y ?_;refine⟨λh0=>?_,λh0=>?_⟩
   ·have h0:at' (r++[x]) 0=0:=by simpa using h0
    by_cases cA:x=k\/(0<x/\(r.length:Int)∈ls)
    ·-- back
     have hne:r≠[]:=by
      rintro rfl;have:at' ([]++[x]) ((([]:List Int).length:Nat):Int)=x:=vA;have e0:at' ([]++[x]) 0=x:=this;rw[e0] at h0;rcases cA with e|e
      ·lia
      ·lia
     obtain⟨r',y,rfl⟩ : ∃r' y,r=r'++[y]:=⟨r.dropLast,r.getLast hne,(List.dropLast_concat_getLast hne).symm⟩;have hy:=St.lo y J0;have ou:(r'.length:Int)+1<n:=by rw[bO] at g1;simpa using g1
     refine WS.cons (zJ ?_);refine W.imp (P:=λv s1=>v=.d (.bl true)/\s1=[.lst ((r'++[y]).map .int++[.int x])]) ?_ λv s1 hv=>?_
     ·refine Y ?_;refine bL vB ?_;refine Y ?_;by_cases e:x=k
      ·subst e;refine W.D_ J0 ?_;refine Y ?_;exact⟨rfl,rfl⟩
      ·rcases cA with cA|cA
       ·exact absurd cA e
       refine W.zF (by simp;exact e) ?_;refine Y ?_;refine bL vB ?_;refine Y ?_;rw[cX cA.1];refine Y ?_;refine bL (UL (f:=id)) ?_;rw[Il,show ((r'++[y]).length:Int)+1-1=((r'++[y]).length:Int) by lia,cX cA.2];exact⟨rfl,rfl⟩
     obtain⟨rfl,rfl⟩:=hv;refine W.bool (WS.tU ?_);refine WS.cons (Ui ?_);refine W.pop (n:=0) (xs:=(r'++[y]).map .int) (x:=.int x) ?_;refine Y ?_;refine⟨rfl,rfl,?_⟩;rw[show [SO.lst ((r'++[y]).map D.int++[D.int x])].set 0 (.lst ((r'++[y]).map .int))=[.lst (r'.map .int++[.int y])] by rw[lY];rfl];refine Y ?_;refine bL (zL (f:=id)) ?_;rw[eU J0];refine Y ?_;refine bL vB ?_;refine Y ?_;refine oF.mk (a:=r'.length) ?_ ?_
     ·rw[bO,cH];exact NP
     refine Y ?_;refine .inl ⟨_,left' (k.toNat+1) n.toNat (r'++[y+1]),rfl,?_,r',y+1,a8,a9,rfl,?_,zh5 h St cA,rfl⟩
     ·exact zf8 hy.1 gV g2 gV (λz hz=>E_ z (yt _ hz)) gV
     ·have:(r'.map D.int++[D.int y]).set r'.length (.int (y+1))=r'.map .int++[.int (y+1)]:=by
       rw[List.set_append_right _ _ J0];simp
      show [SO.lst ((r'.map D.int++[D.int y]).set r'.length (.int (y+1)))]=_;rw[this]
    ·-- on
     have Im:x≠k:=λe=>cA (.inl e);refine WS.cons (zJ ?_);refine W.imp (P:=λv s1=>v=.d (.bl false)/\s1=[.lst (r.map .int++[.int x])]) ?_ λv s1 hv=>?_
     ·refine Y ?_;refine bL vB ?_;refine Y ?_;refine W.zF (by simp;exact Im) ?_;refine Y ?_;refine bL vB ?_;refine Y ?_;by_cases e:0<x
      ·rw[cX e];refine Y ?_;refine bL (UL (f:=id)) ?_;rw[Il,show (r.length:Int)+1-1=(r.length:Int) by lia,eU (λz=>cA (.inr ⟨e,z⟩))];exact⟨rfl,rfl⟩
      ·rw[eU e];refine Y ?_;exact⟨rfl,rfl⟩
     obtain⟨rfl,rfl⟩:=hv;refine W.bool (WS.zG ?_);refine Y ?_;refine oU (l:=ps) (f:=cG) (λp=>if p.2=(r.length:Int) then some (cG p) else none) gV ?_ (λp hp=>?_) ?_
     ·refine Y ?_;exact⟨rfl,rfl⟩
     ·obtain⟨a,b⟩:=p;refine Y ?_;rw[Il,show (r.length:Int)+1-1=(r.length:Int) by lia];refine⟨rfl,λhb=>?_,λhb=>?_⟩
      ·refine Y ?_;exact⟨rfl,_,rfl,by rw[if_pos (by simpa using hb)]⟩
      ·rw[if_neg (by simpa using hb)]
     ·have ef:ps.filterMap (λp=>if p.2=(r.length:Int) then some (cG p) else none)=(ps.filter λp=>decide (p.2=(r.length:Int))).map cG:=by
       generalize ps=l
       induction l with
       |nil=>rfl
       |cons p q ih=>
        rw[rm,qy];by_cases e:p.2=(r.length:Int)
        ·simp[e,ih]
        ·simp[e,ih]
      rw[ef];have hfl:(ps.filter λp=>decide (p.2=(r.length:Int))).length<=ps.length:=Fx _ _;refine Y ?_;refine oU (l:=ps.filter λp=>decide (p.2=(r.length:Int))) (f:=cG) (λp=>if dF k (at' (r++[x]) p.1) x<d then some (cG p) else none) gV ?_ (λp hp=>?_) ?_
      ·refine Y ?_;exact⟨rfl,rfl⟩
      ·obtain⟨Qm,hp2⟩:=iw.mp hp;have hp2:=fH hp2;have ht:=h.tie p Qm;obtain⟨a,b⟩:=p;dsimp only at hp2 ht;refine Y ?_;refine bL (Vg gV gV) ?_;refine Y ?_;refine bL vB ?_;refine Y ?_;refine W.c0 W6 ?_;refine Y ?_;refine⟨rfl,λhb=>?_,λhb=>?_⟩
       ·refine Y ?_;exact⟨rfl,_,rfl,by rw[if_pos (fH hb)]⟩
       ·rw[if_neg (FN hb)]
      ·refine Y ?_;refine bL (zL (f:=not)) ?_;by_cases cN:∃p∈ps,p.2=(r.length:Int)/\dF k (at' (r++[x]) p.1) x<d
       ·rw[eU (λz=>by
         obtain⟨p,hp,e1,e2⟩:=cN;have:=jZ.mp z p (iw.mpr ⟨hp,cX e1⟩);rw[if_pos e2] at this;cases this)]
        refine Y ?_;refine bL vB ?_;refine Y ?_;refine oF.mk (a:=r.length) ?_ ?_
        ·rw[bO,cH];exact NP
        refine Y ?_;refine .inl ⟨_,left' (k.toNat+1) n.toNat (r++[x+1]),rfl,?_,r,x+1,_,_,rfl,?_,zhW h St Im cN,rfl⟩
        ·exact zf2 g2 gV E_ gV
        ·have:(r.map D.int++[D.int x]).set r.length (.int (x+1))=r.map .int++[.int (x+1)]:=by
          rw[List.set_append_right _ _ J0];simp
         show [SO.lst ((r.map D.int++[D.int x]).set r.length (.int (x+1)))]=_;rw[this]
       ·have hN:∀p∈ps,p.2=(r.length:Int)->d<=dF k (at' (r++[x]) p.1) x:=λp hp e=>by
         by_cases z:dF k (at' (r++[x]) p.1) x<d
         ·exact absurd ⟨p,hp,e,z⟩ cN
         ·lia
        rw[cX (jZ.mpr λp hp=>by
         obtain⟨Qm,hp2⟩:=iw.mp hp;have:=hN p Qm (fH hp2);rw[if_neg gV])]
        refine Y ?_;rw[Il];by_cases cF:(r.length:Int)+1=n
        ·refine WS.D_ (by simp;exact cF) ?_;refine Y ?_;refine .inr ⟨_,rfl,.inr ⟨r++[x],by rw[lY];rfl,zfp St Im cF h.tie hN⟩⟩
        ·refine WS.zF (by simp;exact cF) ?_;refine Y ?_;refine⟨by rw[bO,cH];simp;lia,?_⟩;refine Y ?_;refine .inl ⟨_,left' (k.toNat+1) n.toNat (r++[x]++[0]),rfl,zeZ (by rw[bO];simp;lia),r++[x],0,_,_,rfl,?_,zgd St hk Im gV (λp hp=>⟨(h.tie p hp).1,(h.tie p hp).2.1⟩) hN,rfl⟩;rw[lY];rfl
   ·have h0:at' (r++[x]) 0≠0:=by simpa using h0
    refine Y ?_;refine .inl ⟨rfl,λhs hh=>?_⟩;obtain⟨g,hg⟩:=zgY h hd hk hls hh;have:=St.ge g hg 0 (by rw[bO];simp) (λi hi=>absurd hi (Ga _));have e1:at' (r++[x]) ((0:Nat):Int)=at' (r++[x]) 0:=rfl;have e2:at' g ((0:Nat):Int)=at' g 0:=rfl;rw[e1,e2,hg.z] at this;have KJ:0<=at' (r++[x]) 0:=by
     have hm:=HW (fs:=r++[x]) (j:=0) gV (by rw[bO];simp);rcases iG.mp hm with z|z
     ·exact(St.lo _ z).1
     ·have:at' (r++[x]) 0=x:=by simpa using z
      lia
    lia
theorem zho{k:Nat}{i:Int}:W (call ao T (k+1) true 0 [.d (.int i)]) [] λv s=>v=.d (.bl true):=W.eq (a:=.d (.bl true)) (s':=[]) rfl rfl
theorem Qn{k:Nat}{a b:D}:W (call ao T (k+1) true 2 [.d (.tup [a,b]),.d (.int 2)]) [] λv s=>v=.d (.bl true):=W.eq (a:=.d (.bl true)) (s':=[]) rfl rfl
theorem dO{k:Nat}{i a b:Int}:W (call ao T (k+2) true 1 [.d (.int i),.d (.int a),.d (.int b)]) [] λv s=>v=.d (.bl (decide (a<=i/\i<=b))):=by
 refine W.call T_1 rfl ?_;unfold b1;refine Y ?_;refine W.c0 zho ?_;refine Y ?_;refine W.ite (λh1=>?_) (λh1=>?_)
 ·refine Y ?_;have:=fH h1;simp[this]
 ·refine Y ?_;simp at h1;have:¬(a<=i/\i<=b):=by lia
  simp[this]
theorem zkd{k:Nat}{i:Int}(h1:1<=i)(h2:i<=8):W (call ao T (k+3) true 8 [.d (.int i)]) [] λv s=>v=.d (.bl true):=by
 refine W.call VD rfl ?_;unfold b8;refine Y ?_;exact tR rfl (dO.imp λv s e=>⟨_,e,by rw[cX (And.intro h1 h2)]⟩)
theorem W8{k:Nat}{n i:Int}:W (call ao T (k+3) true 9 [.d (.int n),.d (.int i)]) [] λv s=>v=.d (.bl (decide (0<=i/\i<n))):=by
 refine W.call VF rfl ?_;unfold b9;refine Y ?_;exact tR rfl (dO.imp λv s e=>⟨_,e,by rw[FZ.mpr (show 0<=i/\i<=n-1↔0<=i/\i<n by lia)]⟩)
theorem zkD{k:Nat}{n:Int}{p:Int×Int}(h:0<=p.1/\p.1<p.2/\p.2<n):W (call ao T (k+4) true 10 [.d (.int n),.d (cG p)]) [] λv s=>v=.d (.bl true):=by
 obtain⟨a,b⟩:=p;obtain⟨h1,h2,h3⟩:=h;unfold cG;dsimp only at h1 h2 h3 ⊢;refine W.call VG rfl ?_;unfold b10;refine Y ?_;refine W.c0 Qn ?_;refine Y ?_;refine W.c0 W8 ?_;rw[cX (show 0<=a/\a<n by lia)];refine Y ?_;refine W.c0 W8 ?_;rw[cX (show 0<=b/\b<n by lia)];refine Y ?_;rw[cX h2]
theorem zg6{k:Nat}{n:Int}{ps:List (Int×Int)}(h:Web n ps):W (call ao T (k+5) true 7 [.d (aQ n ps)]) [] λv s=>v=.d (.bl true):=by
 refine W.call VB rfl ?_;unfold b7 aQ;have hl:(ps.map cG).length<=100:=by rw[cH];have:=h.len;have:=h.h8;lia
 have hs:(100:Nat)<=sizeLine:=by decide
 refine Y ?_;refine W.c0 Qn ?_;refine Y ?_;refine W.c0 (zkd h.h1 h.h8) ?_;refine Y ?_;refine Uo (c:=ps.map cG) (λ_=>.bl true) gV ?_ (λx hx=>?_) ?_
 ·refine Y ?_;exact⟨rfl,rfl⟩
 ·obtain⟨p,hp,rfl⟩:=jy.mp hx;refine Y ?_;exact tR rfl ((zkD (h.tie p hp)).imp λv s e=>⟨_,e,rfl,rfl⟩)
 ·refine Y ?_;refine bL (zK ?_) ?_
  ·intro x hx;obtain⟨_,_,e⟩:=jy.mp hx;exact e.symm
  refine Y ?_;refine Uo (c:=List.zipWith (λ(p q:D)=>D.tup [p,q]) (ps.map cG) ((ps.map cG).drop 1)) (λ_=>.bl true) (by rw[List.length_zipWith];lia) ?_ (λx hx=>?_) ?_
  ·refine Y ?_;rw[Ny];exact⟨rfl,rfl⟩
  ·obtain⟨p,q,rfl,hpq⟩:=Uq h.inc x hx;refine Y ?_;rw[zkz hpq];exact⟨rfl,rfl⟩
  ·refine Y ?_;refine bL (zK ?_) ?_
   ·intro x hx;obtain⟨_,_,e⟩:=jy.mp hx;exact e.symm
   rfl
theorem zfu{k:Nat}{n:Int}{ps:List (Int×Int)}(h:Web n ps):W (call ao T (k+6) true 11 [.d (aQ n ps)]) [] λv s=>∃d,v=.d d:=by
 refine W.call VH rfl ?_;unfold Oi;refine Y ?_;refine W.c0 (zg6 h) ?_;refine Y ?_;exact⟨_,rfl⟩
theorem zfB{k:Nat}{n i:Int}{ps:List (Int×Int)}(h:Web n ps):W (call ao T (k+1) true 12 [.d (aQ n ps),.d (.int i)]) [] λv s=>v=.d (.tup ((aY i ps).map .int)):=by
 refine W.call VJ rfl ?_;unfold Oj aQ;have hl:(ps.map cG).length<=100:=by rw[cH];have:=h.len;have:=h.h8;lia
 have hs:(100:Nat)<=sizeLine:=by decide
 refine Y ?_;refine oU (l:=ps) (f:=cG) (λp=>(endOf i p).map .int) (by rw[cH] at hl;lia) ?_ (λp hp=>?_) ?_
 ·refine Y ?_;exact⟨rfl,rfl⟩
 ·obtain⟨a,b⟩:=p;refine Y ?_;refine⟨rfl,λhb=>?_,λhb=>?_⟩
  ·refine Y ?_;refine W.ite (λh1=>?_) (λh1=>?_)
   ·refine Y ?_;refine⟨rfl,_,rfl,?_⟩;have h1:a=i:=by simpa using h1
    simp[endOf,h1]
   ·refine Y ?_;refine⟨rfl,_,rfl,?_⟩;simp[yI] at h1 hb;rcases hb with hb|hb
    ·exact absurd hb h1
    ·simp[endOf,h1,hb]
  ·simp[yI] at hb;simp[endOf,hb]
 ·have he:ps.filterMap (λp=>(endOf i p).map D.int)=(aY i ps).map D.int:=by unfold aY;rw[List.map_filterMap]
  rw[he];refine Y ?_;refine xV (zfk (zfG ?_ (Ut h i))) ?_
  ·have:=zV (endOf i) ps;have:=h.len;have:=h.h8;unfold aY
   lia
  exact Y trivial
theorem zfZ{k':Nat}{k d:Int}(hd:1<=d)(Fb:d<=k)(hk:k<=24):W (call ao T (k'+3) true 3 [.d (aL k d)]) [] λv s=>v=.d (.bl true):=by
 refine W.call Vx rfl ?_;unfold b3 aL;refine Y ?_;refine W.c0 Qn ?_;refine Y ?_;refine W.c0 dO ?_;rw[cX (show 1<=k/\k<=24 by lia)];refine Y ?_;refine W.c0 dO ?_;rw[cX (show 1<=d/\d<=k by lia)]
theorem zeK{k':Nat}{k d:Int}(hd:1<=d)(Fb:d<=k)(hk:k<=24):W (call ao T (k'+4) true 5 [.d (aL k d)]) [] λv s=>∃d,v=.d d:=by
 refine W.call Vz rfl ?_;unfold b5;refine Y ?_;refine W.c0 (zfZ hd Fb hk) ?_;refine Y ?_;exact⟨_,rfl⟩
theorem zf1{k':Nat}{k d x:Int}:W (call ao T (k'+3) true 4 [.d (aL k d),.d (.int x)]) [] λv s=>v=.d (.bl (decide (0<=x/\x<k))):=by
 refine W.call Vy rfl ?_;unfold b4 aL;refine Y ?_;exact tR rfl (dO.imp λv s e=>⟨_,e,by rw[FZ.mpr (show 0<=x/\x<=k-1↔0<=x/\x<k by lia)]⟩)
theorem zhp{k':Nat}{k d a b:Int}:W (call ao T (k'+1) true 6 [.d (aL k d),.d (.int a),.d (.int b)]) [] λv s=>v=.d (.int (dF k a b)):=W.eq (a:=.d (.int (dF k a b))) (s':=[]) rfl rfl
theorem zj2{k':Nat}{xs:List D}{n:Int}(h:(xs.length:Int)=n):W (call ao T (k'+1) true 2 [.d (.tup xs),.d (.int n)]) [] λv s=>v=.d (.bl true):=by
 refine W.call Vw rfl ?_;unfold b2;refine Y ?_;simp[h]
section
variable {n k d:Int}{ps:List (Int×Int)}{hs:List Int}
theorem zdK{k':Nat}(hn:n<=8)(hl:(hs.length:Int)=n)(wH:∀x∈hs,0<=x/\x<k):W (call ao T (k'+4) true 14 [.d (aQ n ps),.d (aL k d),.d (.tup (hs.map .int))]) [] λv s=>v=.d (.bl true):=by
 refine W.call VN rfl ?_;unfold Om aQ;have qZ:(100:Nat)<=sizeLine:=by decide
 refine Y ?_;refine W.c0 (zj2 (by rw[cH];exact hl)) ?_;refine Y ?_;refine oU (l:=hs) (f:=D.int) (λ_=>some (.bl true)) gV ?_ (λx hx=>?_) ?_
 ·refine Y ?_;exact⟨rfl,rfl⟩
 ·refine Y ?_;refine⟨rfl,λ_=>?_,λhb=>by cases hb⟩;refine Y ?_;refine W.c0 zf1 ?_;rw[cX (wH x hx)];exact⟨rfl,_,rfl,rfl⟩
 ·refine Y ?_;refine bL (zK ?_) ?_
  ·intro x hx;obtain⟨_,_,e⟩:=ug.mp hx;exact(bR e).symm
  exact Y trivial
theorem zhG{k':Nat}(h:Web n ps)(hh:cB n k d ps hs):W (call ao T (k'+2) true 17 [.d (aQ n ps),.d (aL k d),.d (.tup (hs.map .int))]) [] λv s=>v=.d .non:=by
 refine W.call V0 rfl ?_;unfold Ot;have hl:=hh.len;have er:aL k d=.tup [.int k,.int d]:=rfl;refine Y ?_;refine qb (λi J s=>s=[]/\∃(a b:Option Xv),J=[some (.d (aQ n ps)),some (.d (aL k d)),some (.d (.tup (hs.map .int))),a,b]) ⟨rfl,_,_,rfl⟩ (λi x J s e hI=>?_) (λJ s hI=>?_)
 ·obtain⟨rfl,a,b,rfl⟩:=hI;have hm:=fU e;obtain⟨p,hp,rfl⟩:=jy.mp hm;have ht:=h.tie p hp;have hf:=hh.fit p hp;obtain⟨a,b⟩:=p;dsimp only at ht hf;refine Y ?_;refine bL (ql gV gV) ?_;refine Y ?_;refine bL (ql gV gV) ?_;refine Y ?_;refine W.c0 zhp ?_;unfold aL;refine Y ?_;rw[eU gV];refine Y ?_;exact⟨_,rfl,rfl,_,_,rfl⟩
 ·obtain⟨rfl,a,b,rfl⟩:=hI;exact Y trivial
theorem zed{k':Nat}(h:Web n ps)(hh:cB n k d ps hs):W (call ao T (k'+5) true 15 [.d (aQ n ps),.d (aL k d),.d (.tup (hs.map .int))]) [] λv s=>v=.d (.bl true):=by
 refine W.call VP rfl ?_;unfold Oo;refine Y ?_;refine W.c0 (zdK h.h8 hh.len hh.lo) ?_;refine Y ?_;refine W.c0 (zhG h hh) ?_;refine Y ?_;rfl
theorem ze8{k':Nat}(h:Web n ps)(hd:1<=d)(Fb:d<=k)(hk:k<=24)(hh:cB n k d ps hs):W (call ao T (k'+7) true 16 [.d (aQ n ps),.d (aL k d),.d (.tup (hs.map .int))]) [] λv s=>∃d,v=.d d:=by
 refine W.call VR rfl ?_;unfold Oq;refine Y ?_;refine W.c1 (zfu h) λ_=>?_;refine Y ?_;refine W.c1 (zeK hd Fb hk) λ_=>?_;refine Y ?_;refine W.c0 (zed h hh) ?_;refine Y ?_;exact⟨_,rfl⟩
end
theorem zfF{k:Nat}{o:SO}{n:Int}(ho:lX o)(h1:1<=n)(h8:n<=8):W (call ao T (k+2) true 26 [.l 0,.d (.int n)]) [o] λv s=>∃ps o',v=.d (aQ n ps)/\s=[o']/\Web n ps/\lX o':=by
 refine W.call V8 rfl ?_;unfold O1;have hs:(100:Nat)<=sizeLine:=by decide
 refine Y ?_;refine zQ ho Dc Dc λr o' hr hp=>?_;refine Y ?_;have uV:r<3:=by lia
 refine bL (HB (x:=.int (([2,4,6]:List Int)[r]'uV)) ?_) ?_
 ·revert uV;revert r;intro r _ uV;exact match r,uV with
  |0,_=>rfl|1,_=>rfl|2,_=>rfl
  |n+3,h=>absurd h gV
 generalize ([2,4,6]:List Int)[r]=often;refine Y ?_;refine⟨by rw[kW gV gV,kW gV gV];rfl,?_⟩;refine qb (λ(i:Nat) J s=>∃(ps:List (Int×Int)) (a:Option Xv) (o':SO),J=[some (.l 0),some (.d (.int n)),some (.d (.int often)),some (.d (.fl (ps.map cG))),a]/\s=[o']/\lX o'/\(∀p∈ps,0<=p.1/\p.1<(i:Int)/\p.1<p.2/\p.2<n)/\ps.Pairwise lx/\ps.length<=7*i)
  ⟨[],_,_,rfl,rfl,hp,by simp,by simp,by simp⟩ (λi x J s e hI=>?_) (λJ s hI=>?_)
 ·obtain⟨ps,a,o',rfl,rfl,hp,ht,yd,hlen⟩:=hI;obtain⟨rfl,hi⟩:=HJ e;have hi8:i<8:=by lia
  refine Y ?_;refine Kat (c:=gK (0+(i:Int)+1) n) (λ(j:Nat) acc s=>∃(es:List Int) (o':SO),acc=es.map (λe=>cG (0+(i:Int),e))/\es.Pairwise (·<·)/\(∀e∈es,(i:Int)<e/\e<(i:Int)+1+j)/\s=[o']/\lX o') ?_ (λj x acc s e hJ=>?_) (λacc s hJ=>?_)
  ·refine Y ?_;refine⟨by rw[kW gV gV,kW gV gV];rfl,?_⟩;exact⟨rfl,[],_,rfl,by simp,by simp,rfl,hp⟩
  ·obtain⟨es,o',rfl,zR,vG,rfl,hp⟩:=hJ;obtain⟨rfl,hj⟩:=HJ e;have hel:(es.length:Int)<=(i:Int)+1+j-((i:Int)+1):=Nz zR (λe he=>by have:=vG e he;lia) gV;refine Y ?_;refine zQ hp Dc Dc λr o' hr hp=>?_;refine Y ?_;refine⟨λhb=>?_,λhb=>?_⟩
   ·refine Y ?_;refine⟨_,rfl,by rw[cH];lia,es++[0+(i:Int)+1+j],o',?_,?_,?_,rfl,hp⟩
    ·rw[lY];rfl
    ·rw[Jg];refine⟨zR,by simp,λa ha b hb=>?_⟩;simp at hb;have:=vG a ha
     lia
    ·intro e he;rcases iG.mp he with he|he
     ·have:=vG e he;lia
     ·simp at he;lia
   ·exact⟨es,o',rfl,zR,λe he=>by have:=vG e he;lia,rfl,hp⟩
  ·obtain⟨es,o',rfl,zR,vG,rfl,hp⟩:=hJ;rw[HN] at vG;have hel:(es.length:Int)<=n-((i:Int)+1):=Nz zR (λe he=>by have:=vG e he;lia) gV;refine Y ?_;refine xV (HD ?_) ?_
   ·rw[cH,cH];lia
   refine Y ?_;refine⟨_,rfl,ps++es.map (λe=>(0+(i:Int),e)),some (.d (.int (0+(i:Int)))),o',?_,rfl,hp,?_,?_,?_⟩
   ·rw[lY,List.map_map];rfl
   ·intro p hp;rcases iG.mp hp with hp|hp
    ·have:=ht p hp;lia
    ·obtain⟨e,he,rfl⟩:=jy.mp hp;have:=vG e he;dsimp only
     lia
   ·rw[Jg,FQ];refine⟨yd,zR.imp λh=>.inr ⟨rfl,h⟩,λp hp q hq=>?_⟩;obtain⟨e,he,rfl⟩:=jy.mp hq;have:=ht p hp;exact .inl (by dsimp only;lia)
   ·rw[bO,cH];lia
 ·obtain⟨ps,a,o',rfl,rfl,hp,ht,yd,hlen⟩:=hI;rw[HN] at ht hlen;refine Y ?_;refine⟨ps,o',rfl,rfl,⟨h1,h8,λp hp=>?_,yd,by lia⟩,hp⟩;have:=ht p hp
  lia
theorem zgk{k:Nat}{c:Bool}{i:Int}:W (call ao T (k+1) c 25 [.d (.int i)]) [] λv s=>v=.d (.bl true):=W.eq (a:=.d (.bl true)) (s':=[]) rfl rfl
section
variable {n:Int}{ps:List (Int×Int)}
theorem zhB{k':Nat}{o:SO}(ho:lX o)(h:Web n ps)(hn:n<=6):W (call ao T (k'+3) true 30 [.l 0,.d (aQ n ps)]) [o] λv s=>∃(k d:Int) (o':SO),v=.d (aL k d)/\s=[o']/\(1<=d/\d<=k/\k<=18)/\(∃hs,cB n k d ps hs)/\lX o':=by
 refine W.call Wa rfl ?_;unfold O5;have h1:=h.h1;refine Y ?_;refine Kbc (λi J s=>∃(a:Option Xv),s=[o]/\J=[some (.l 0),some (.d (aQ n ps)),a]) ⟨_,rfl,rfl⟩ (λi x J s e hI=>?_) (λJ s hI=>?_)
 ·obtain⟨a,rfl,rfl⟩:=hI;obtain⟨k,d,rfl,hr⟩ : ∃k d:Int,x=aL k d/\1<=d/\d<=k/\k<=9:=by
   have:=fU e;simp only[iy,List.not_mem_nil,or_false] at this;rcases this with rfl|rfl|rfl|rfl|rfl|rfl|rfl|rfl|rfl
   all_goals exact⟨_,_,rfl,by decide⟩
  refine Y ?_;refine tR rfl ((W7 h gV hr.1 (Em hn gV) gV).imp λv s hv=>?_);rcases hv with ⟨rfl,_⟩|⟨hs,rfl,hh⟩
  ·refine⟨_,rfl,?_⟩;refine Y ?_;exact .inl ⟨_,rfl,_,rfl,rfl⟩
  ·refine⟨_,rfl,?_⟩;refine Y ?_;refine zQ ho Dc Dc λr o' ud hp=>?_;refine Y ?_;refine W.ite (λ_=>?_) (λ_=>?_)
   ·refine Y ?_;exact .inr ⟨_,rfl,_,_,_,rfl,rfl,⟨hr.1,hr.2.1,by lia⟩,⟨_,hh⟩,hp⟩
   ·unfold aL;refine Y ?_;exact .inr ⟨_,rfl,_,_,_,rfl,rfl,⟨by lia,by lia,by lia⟩,⟨_,zfT h hr.1 hh⟩,hp⟩
 ·obtain⟨a,rfl,rfl⟩:=hI;unfold aQ;refine Y ?_;refine⟨_,_,_,rfl,rfl,?_,⟨_,zhA h ?_⟩,ho⟩
  ·split<;>lia
  ·split<;>lia
theorem zdI{k':Nat}{o:SO}{k d:Int}(ho:lX o)(h:Web n ps)(hn:n<=6)(hr:1<=d/\d<=k/\k<=18)(hex:∃hs,cB n k d ps hs):W (call ao T (k'+3) true 32 [.l 0,.d (aQ n ps),.d (aL k d)]) [o] λv s=>∃(hs:List Int) (o':SO),v=.d (.tup (hs.map .int))/\s=[o']/\cB n k d ps hs/\lX o':=by
 refine W.call Wc rfl ?_;unfold O7;have h1:=h.h1;have qZ:(100:Nat)<=sizeLine:=by decide
 refine Y ?_;refine tR rfl ((W7 h gV hr.1 (Em hn gV) gV).imp λv s hv=>?_);rcases hv with ⟨rfl,Kh⟩|⟨hs,rfl,hh⟩
 ·obtain⟨hs,hh⟩:=hex;exact absurd hh (Kh hs)
 refine⟨_,rfl,?_⟩;have ew:aQ n ps=.tup [.int n,.tup (ps.map cG)]:=rfl;refine Y ?_;refine⟨by rw[kW gV gV,kW gV gV];rfl,?_⟩;refine qb (λi J s=>∃(hs:List Int) (o':SO) (a b c:Option Xv),s=[o']/\lX o'/\J=[some (.l 0),some (.d (aQ n ps)),some (.d (aL k d)),some (.d (.tup (hs.map .int))),a,b,c]/\cB n k d ps hs) ⟨hs,o,_,_,_,rfl,ho,rfl,hh⟩ (λi x J s e hI=>?_) (λJ s hI=>?_)
 ·obtain⟨hs,o',a,b,c,rfl,hp,rfl,hh⟩:=hI;have hl:=hh.len;have hml:(hs.map D.int).length=hs.length:=cH ..;refine Y ?_;refine zQ hp gV gV λr o2 ud hp2=>?_;refine Y ?_;rw[En gV];refine zQ hp2 gV gV λr3 o3 hr3 W9=>?_;refine Y ?_;refine bL (HX (by rw[rB];show _+1<=_;lia)) ?_;refine Y ?_;rw[show (r:Int)+1=((r+1:Nat):Int) by lia,tY gV];refine bL (HX (by rw[bO,rB,zZ];show _+1+_<=_;lia)) ?_;rw[zg1 gV];refine Y ?_;refine W.c0 (zk7 (hs:=hs.set r r3) h (by simp;lia)) ?_;cases hb:tW k d ps (hs.set r r3)
  ·refine Y ?_;exact⟨_,rfl,hs,o3,_,_,_,rfl,W9,rfl,hh⟩
  ·refine Y ?_;refine⟨_,rfl,hs.set r r3,o3,_,_,_,rfl,W9,rfl,⟨by simp;lia,λx hx=>?_,lM.mp hb⟩⟩;rcases List.mem_or_eq_of_mem_set hx with z|z
   ·exact hh.lo x z
   ·lia
 ·obtain⟨hs,o',a,b,c,rfl,hp,rfl,hh⟩:=hI;refine Y ?_;exact⟨_,_,rfl,rfl,hh,hp⟩
end
section
variable {n k d:Int}{ps:List (Int×Int)}{hs:List Int}
theorem zeY{k':Nat}(h:Web n ps):W (call ao T (k'+2) true 13 [.d (aQ n ps)]) [] λv s=>v=.d (.fl ((List.range n.toNat).map λ(i:Nat)=>.tup ((aY i ps).map .int))):=by
 refine W.call VL rfl ?_;unfold Ol;have qZ:(100:Nat)<=sizeLine:=by decide
 have h1:=h.h1;have h8:=h.h8;refine Y ?_;refine oU (l:=List.range (n-0).toNat) (f:=λ(j:Nat)=>.int (0+j)) (λ(i:Nat)=>some (.tup ((aY i ps).map .int))) (by rw[lQ];lia) ?_ (λj hj=>?_) ?_
 ·unfold aQ;refine Y ?_;refine⟨by rw[kW gV gV,kW gV gV];rfl,?_⟩;exact⟨rfl,rfl⟩
 ·refine Y ?_;refine⟨rfl,λ_=>?_,λhb=>by cases hb⟩;refine Y ?_;refine W.c0 (zfB h) ?_;exact⟨rfl,_,rfl,by rw[show (0:Int)+j=j by lia]⟩
 ·rw[show (List.range (n-0).toNat).filterMap (λ(i:Nat)=>some (D.tup ((aY i ps).map .int)))=(List.range n.toNat).map λ(i:Nat)=>D.tup ((aY i ps).map .int) by rw[U6,show n-0=n by lia]];exact Y trivial
noncomputable def iU(k d:Int)(ps:List (Int×Int))(hs:List Int)(i:Nat):D:=.tup ((aq k d ps hs i).map .int)
theorem zhS{k':Nat}(h:Web n ps)(hk:1<=k)(hh:cB n k d ps hs):W (call ao T (k'+3) true 19 [.d (aQ n ps),.d (aL k d),.d (.tup (hs.map .int))]) [] λv s=>∃j o,v=.l j/\s[j]?=some o/\o=.lst ((List.range n.toNat).map (iU k d ps hs)):=by
 refine W.call V2 rfl ?_;unfold Ov;have qZ:(100:Nat)<=sizeLine:=by decide
 have h1:=h.h1;have h8:=h.h8;have hl:=hh.len;have hlen:=h.len;have er:aL k d=.tup [.int k,.int d]:=rfl;refine Y ?_;refine W.c0 (zeY h) ?_;refine Y ?_;refine qb (λi J s=>s=[.lst ((List.range i).map (iU k d ps hs))]/\∃(a b c:Option Xv),J=[some (.d (aQ n ps)),some (.d (aL k d)),some (.d (.tup (hs.map .int))),some (.d (.int k)),some (.d (.int d)),some (.l 0),a,b,c]) ⟨rfl,_,_,_,rfl⟩ (λi x J s e hI=>?_) (λJ s hI=>?_)
 ·obtain⟨rfl,a,b,c,rfl⟩:=hI;rw[Ur,gZ] at e;cases ei:(List.range n.toNat)[i]? with
  |none=>rw[ei] at e;cases e
  |some j=>
   rw[ei] at e;obtain⟨Io,ej⟩:=fQ.mp ei;rw[List.getElem_range] at ej;rw[lQ] at Io;subst ej;have e:=bR e;subst e;have hz:((0+i:Nat):Int)=(i:Int):=by lia
   refine Y ?_;rw[hz];refine bL (ql gV gV) ?_;refine Y ?_;refine oU (l:=aY i ps) (f:=D.int) (λe=>if at' hs e=(at' hs i+d)%k then some (.int e) else none) ?_ ?_ (λe he=>?_) ?_
   ·have:=zV (endOf i) ps;unfold aY
    lia
   ·refine Y ?_;exact⟨rfl,rfl⟩
   ·have hm:=Uu h he;refine Y ?_;refine bL (ql gV gV) ?_;refine Y ?_;refine⟨rfl,λhb=>?_,λhb=>?_⟩
    ·refine Y ?_;exact⟨rfl,_,rfl,by rw[if_pos (by simpa using hb)]⟩
    ·rw[if_neg (by simpa using hb)]
   ·have ef:(aY i ps).filterMap (λe=>if at' hs e=(at' hs i+d)%k then some (D.int e) else none)=(aq k d ps hs i).map .int:=by
     unfold aq;generalize aY (i:Int) ps=l
     induction l with
     |nil=>rfl
     |cons x r ih=>
      rw[rm,qy];by_cases q:at' hs x=(at' hs i+d)%k
      ·simp[q,ih]
      ·simp[q,ih]
    rw[ef];refine Y ?_;refine⟨by rw[cH,lQ];lia,?_⟩;refine Y ?_;refine⟨_,rfl,?_,_,_,_,rfl⟩;rw[Ab,lY];rfl
 ·obtain⟨rfl,a,b,c,rfl⟩:=hI;rw[Us,cH,lQ];refine Y ?_;exact⟨0,_,rfl,rfl,rfl⟩
end
theorem W_{F:List Xv->M Xv}{x:D}{a b:SO}{P:Xv->S->Prop}(h:W (F [.l 0,.d x,.l 1]) [a,b] λv s1=>∃d b',v=.d d/\s1=[a,b']/\P (.d d) [a,b']):W (bJ F [.l 0,.d x,.l 1]) [a,b] P:=by
 obtain⟨v,s1,e,d,b',rfl,rfl,q⟩:=h;refine⟨.d d,[a,b'],?_,q⟩;have hl:locs [.l 0,.d x,.l 1]=[0,1]:=rfl;have hr:cO 0 [.l 0,.d x,.l 1]=[.l 0,.d x,.l 1]:=rfl;unfold bJ;rw[hl,hr,if_pos J0];simp only[f9,e,bZ,I8,yp];rfl
theorem Kap{F:List Xv->M Xv}{a:SO}{P:Xv->S->Prop}(h:W (F [.l 0]) [a] λv s1=>∃o,v=.l 1/\s1=[a,o]/\P (.l 1) [a,o]):W (bJ F [.l 0]) [a] P:=by
 obtain⟨v,s1,e,o,rfl,rfl,q⟩:=h;refine⟨.l 1,[a,o],?_,q⟩;have hl:locs [.l 0]=[0]:=rfl;have hr:cO 0 [.l 0]=[.l 0]:=rfl;unfold bJ;rw[hl,hr,if_pos J0];simp only[f9,e,bZ,I8,yp];rfl
theorem Ip{p:Int}{e:List Int}:prim .ix [aG (p::e),.int (-1)]=some (.dat (.int (gA p e))):=by
 rcases List.eq_nil_or_concat e with rfl|⟨e',x,rfl⟩
 ·rfl
 ·rw[List.concat_eq_append,Vm,<-vB (xs:=(p::e').map D.int) (x:=.int x)];unfold aG;rw[show (p::(e'++[x])).map D.int=(p::e').map D.int++[.int x] by simp];rfl
section
variable {n k d:Int}{ps:List (Int×Int)}{hs:List Int}
theorem Ir:∀{e:List Int} {p:Int},gA p e∈p::e
 |[],p=>by simp[gA]
 |x::e,p=>iD _ (Ir (e:=e) (p:=x))
theorem zT(h:Web n ps)(l x:Int)(hx:x∈aq k d ps hs l):0<=x/\x<n:=Uu h (iw.mp hx).1
noncomputable abbrev yg(n k d:Int)(ps:List (Int×Int))(hs:List Int):SO:=.lst ((List.range n.toNat).map (iU k d ps hs))
theorem Xa{l:Int}(hl:0<=l/\l<n):prim .ix [.fl ((List.range n.toNat).map (iU k d ps hs)),.int l]=some (.dat (.tup ((aq k d ps hs l).map .int))):=by
 refine NK hl.1 ?_;rw[gZ,Ji gV];show some (iU k d ps hs l.toNat)=_;unfold iU;rw[show ((l.toNat:Nat):Int)=l by lia]
theorem Xb(h:Web n ps):∀(f:Nat) {k':Nat} {p:Int} {e:List Int} {acc:List (List Int)},(p::e).Nodup->(∀x∈p::e,0<=x/\x<n)->n.toNat+1<=f+(e.length+1)->acc.length+(iC (aq k d ps hs) p f (p::e) (gA p e)).length<=1000->
  W (call ao T (k'+f) true 21 [.l 0,.d (aG (p::e)),.l 1]) [yg n k d ps hs,.lst (acc.map aG)] λv s=>∃c,v=.d c/\s=[yg n k d ps hs,.lst ((acc++iC (aq k d ps hs) p f (p::e) (gA p e)).map aG)]
 |0,k',p,e,acc,nd,lo,hf,_=>by
  have:=Ew nd lo;simp at this
  lia
 |f+1,k',p,e,acc,nd,lo,hf,hl=>by
  have qZ:(1000:Nat)<sizeLine:=by decide
  have hla:=lo _ (Ir (e:=e) (p:=p));show W (call ao T (k'+f+1) true _ _) _ _;refine W.call V4 rfl ?_;unfold Ox;have i0:prim .ix [aG (p::e),.int 0]=some (.dat (.int p)):=ql (fs:=p::e) (j:=0) Dc J0;refine Ka9 (λJ s'=>J=[some (.l 0),some (.d (aG (p::e))),some (.l 1),none]/\s'=[yg n k d ps hs,.lst ((acc++if p∈aq k d ps hs (gA p e) then [p::e] else []).map aG)]) ?_ (λJ s' hR=>?_)
  ·refine Y ?_;refine bL i0 ?_;refine Y ?_;refine bL Ip ?_;refine Y ?_;refine bL (Xa hla) ?_;refine Y ?_;refine bL (NT (f:=id)) ?_;refine Y ?_;refine WS.ite (λhb=>?_) (λhb=>?_)
   ·have hb:p∈aq k d ps hs (gA p e):=fH hb;refine Y ?_;refine⟨by rw[cH];lia,?_⟩;refine Y ?_;refine⟨_,rfl,rfl,?_⟩;rw[if_pos hb,lY];rfl
   ·have hb:¬p∈aq k d ps hs (gA p e):=λz=>hb (cX z);refine Y ?_;refine⟨_,rfl,rfl,?_⟩;rw[if_neg hb,lZ]
  obtain⟨rfl,rfl⟩:=hR;have eg:iC (aq k d ps hs) p (f+1) (p::e) (gA p e)=(if p∈aq k d ps hs (gA p e) then [p::e] else [])++((aq k d ps hs (gA p e)).filter λx=>decide (p<x)&&decide (x∉p::e)).flatMap λx=>iC (aq k d ps hs) p f (p::e++[x]) x:=rfl;rw[eg] at hl ⊢;rw[bO] at hl;generalize hC:(if p∈aq k d ps hs (gA p e) then [p::e] else [])=C at hl;have Xc:∀x∈aq k d ps hs (gA p e),0<=x/\x<n:=λx hx=>zT h _ x hx;refine Y ?_;refine bL Ip ?_;refine Y ?_;refine bL (Xa hla) ?_;refine Y ?_;generalize aq k d ps hs (gA p e)=L at hl Xc hC;refine qb (λi J s'=>∃a:Option Xv,J=[some (.l 0),some (.d (aG (p::e))),some (.l 1),a]/\s'=[yg n k d ps hs,.lst ((acc++C++((L.take i).filter λx=>decide (p<x)&&decide (x∉p::e)).flatMap λx=>iC (aq k d ps hs) p f (p::e++[x]) x).map aG)]) ⟨_,rfl,by simp⟩ (λi x J s' ei hI=>?_) (λJ s' hI=>?_)
  ·obtain⟨a,rfl,rfl⟩:=hI;rw[gZ,kZ] at ei;obtain⟨x,ex,rfl⟩:=ei;have Xd:=Xc x (fU ex);have et:L.take (i+1)=L.take i++[x]:=by rw[Ad,ex];rfl
   have hlen:(((L.take (i+1)).filter λx=>decide (p<x)&&decide (x∉p::e)).flatMap λx=>iC (aq k d ps hs) p f (p::e++[x]) x).length<=((L.filter λx=>decide (p<x)&&decide (x∉p::e)).flatMap λx=>iC (aq k d ps hs) p f (p::e++[x]) x).length:=by
    conv=>rhs;rw[<-Jd (i+1) L]
    rw[uo,rz,bO]
    lia
   rw[et,uo,rz,bO] at hlen;refine Y ?_;refine bL i0 ?_;refine Y ?_;refine W.ite (λc1=>?_) (λc1=>?_)
   ·have c1:x>p:=fH c1;refine Y ?_;refine bL (NT (f:=λb=>!b) (ls:=p::e)) ?_;refine Y ?_;refine WS.ite (λc2=>?_) (λc2=>?_)
    ·have c2:x∉p::e:=by simpa using c2
     have ef:[x].filter (λx=>decide (p<x)&&decide (x∉p::e))=[x]:=by
      rw[qy,cX (show p<x by lia),cX c2];rfl
     rw[ef] at hlen;rw[Fq] at hlen;refine Y ?_;refine bL (HX (by rw[cH];have:=Ew nd lo;have:=h.h8;show _+1<=_;lia)) ?_;refine Y ?_;have er:D.tup ((p::e).map .int++[.int x])=aG (p::(e++[x])):=by unfold aG;simp
     rw[er];have Qo:(p::(e++[x])).Nodup:=by
      have:=yD.mpr ⟨nd,(by simp:[x].Nodup),λa ha b hb z=>by rw[mW] at hb;subst hb;subst z;exact c2 ha⟩;exact this
     have Qp:∀y∈p::(e++[x]),0<=y/\y<n:=λy hy=>by
      have hy:y∈(p::e)++[x]:=hy;rcases iG.mp hy with hy|hy
      ·exact lo y hy
      ·rw[mW] at hy;subst hy;exact Xd
     have Xe:iC (aq k d ps hs) p f (p::e++[x]) x=iC (aq k d ps hs) p f (p::(e++[x])) (gA p (e++[x])):=by rw[Vm];rfl
     refine W_ ((Xb h f (acc:=acc++C++((L.take i).filter λx=>decide (p<x)&&decide (x∉p::e)).flatMap λx=>iC (aq k d ps hs) p f (p::e++[x]) x) Qo Qp (by simp;lia) (by rw[<-Xe,bO,bO];lia)).imp λv s hv=>?_);obtain⟨c,rfl,rfl⟩:=hv;refine⟨_,_,rfl,rfl,?_⟩;refine Y ?_;refine⟨_,rfl,_,rfl,?_⟩;rw[et,uo,ef,rz,Fq,<-Xe,vJ]
    ·have c2:x∈p::e:=by
      cases hq:decide (x∈p::e) with
      |true=>exact fH hq
      |false=>rw[hq] at c2;exact absurd rfl c2
     have ef:[x].filter (λx=>decide (p<x)&&decide (x∉p::e))=[]:=by
      rw[qy,show decide (x∉p::e)=false from eU λz=>z c2,Bool.and_false];rfl
     refine Y ?_;refine⟨_,rfl,_,rfl,?_⟩;rw[et,uo,ef,lZ]
   ·have c1:¬p<x:=λz=>c1 (cX z);have ef:[x].filter (λx=>decide (p<x)&&decide (x∉p::e))=[]:=by
     rw[qy,eU c1,Bool.false_and];rfl
    refine Y ?_;refine⟨_,rfl,_,rfl,?_⟩;rw[et,uo,ef,lZ]
  ·obtain⟨a,rfl,rfl⟩:=hI;rw[cH,yF];refine Y ?_;exact⟨_,rfl,by rw[vJ]⟩
theorem zg8{k':Nat}(h:Web n ps)(hl:(cR n (aq k d ps hs) 8).length<=900):W (call ao T (k'+9) true 20 [.l 0]) [yg n k d ps hs] λv s=>∃o,v=.l 1/\s=[yg n k d ps hs,o]/\o=.lst ((cR n (aq k d ps hs) 8).map aG):=by
 have qZ:(1000:Nat)<sizeLine:=by decide
 have h1:=h.h1;have h8:=h.h8;have hnn:((List.range n.toNat).map (iU k d ps hs)).length=n.toNat:=by rw[cH,lQ]
 refine W.call V3 rfl ?_;unfold Ow;refine Y ?_;rw[hnn];refine⟨by rw[kW gV gV,kW gV gV];rfl,?_⟩;refine qb (c:=gK 0 (n.toNat:Nat)) (λi J s'=>∃a:Option Xv,J=[some (.l 0),some (.l 1),a]/\s'=[yg n k d ps hs,.lst (((List.range i).flatMap λ(i:Nat)=>iC (aq k d ps hs) i 8 [(i:Int)] i).map aG)]) ⟨_,rfl,rfl⟩ (λi x J s' e hI=>?_) (λJ s' hI=>?_)
 ·obtain⟨a,rfl,rfl⟩:=hI;obtain⟨rfl,hi⟩:=HJ e;have hlen:((List.range (i+1)).flatMap λ(i:Nat)=>iC (aq k d ps hs) i 8 [(i:Int)] i).length<=(cR n (aq k d ps hs) 8).length:=by
   unfold cR
   conv=>rhs;rw[<-Jd (i+1) (List.range n.toNat)]
   rw[rz,bO,List.take_range,Nat.min_eq_left gV]
   lia
  rw[Ab,rz,bO,Fq] at hlen;refine Y ?_;rw[show (0:Int)+(i:Int)=i by lia];refine W_ ((Xb h 8 (k':=k') (p:=(i:Int)) (e:=[]) (acc:=(List.range i).flatMap λ(i:Nat)=>iC (aq k d ps hs) i 8 [(i:Int)] i) J0 (λx hx=>by rw[mW] at hx;subst hx;lia) (by simp;lia) (by show _+(iC (aq k d ps hs) i 8 [(i:Int)] i).length<=_;lia)).imp λv s hv=>?_);obtain⟨c,rfl,rfl⟩:=hv;refine⟨_,_,rfl,rfl,?_⟩;refine Y ?_;refine⟨_,rfl,_,rfl,?_⟩;rw[Ab,rz,Fq];rfl
 ·obtain⟨a,rfl,rfl⟩:=hI;rw[HN];refine Y ?_;refine⟨_,rfl,rfl,?_⟩;unfold cR;rw[show ((n.toNat:Int)-0).toNat=n.toNat by lia]
theorem zjO{k':Nat}(h:Web n ps)(hr:1<=d/\d<=k/\k<=24)(hh:cB n k d ps hs)(hl:(cR n (aq k d ps hs) 8).length<=900):W (call ao T (k'+11) true 18 [.d (aQ n ps),.d (aL k d),.d (.tup (hs.map .int))]) [] λv s=>∃j o,v=.l j/\s[j]?=some o/\o=.lst ((cR n (aq k d ps hs) 8).map aG):=by
 refine W.call V1 rfl ?_;unfold Ou;refine Y ?_;refine W.c1 (ze8 h hr.1 hr.2.1 hr.2.2 hh) λ_=>?_;refine Y ?_;refine Nm rfl ((zhS h gV hh).imp λv s=>?_);rintro⟨j,o,rfl,hj,rfl⟩;refine⟨j,_,rfl,hj,?_⟩;refine Y ?_;refine Kap ((zg8 h hl).imp λv s hv=>?_);obtain⟨o,rfl,rfl,rfl⟩:=hv;refine⟨_,rfl,rfl,?_⟩;refine Y ?_;exact⟨1,_,rfl,rfl,rfl⟩
end
theorem Xf{xs:List D}:prim .ne [.fl xs,.fl []]=some (.dat (.bl (!xs.isEmpty))):=by
 cases xs with
 |nil=>rfl
 |cons x r=>rfl
section
variable {n k d:Int}{ps:List (Int×Int)}{hs:List Int}
theorem zft{a b:Int}:b∈aY a ps↔∃p∈ps,(p.1=a/\p.2=b)\/(p.1≠a/\p.2=a/\p.1=b):=by
 unfold aY;rw[ug];refine exists_congr λp=>and_congr_right λ_=>?_;unfold endOf;by_cases h1:p.1=a
 ·rw[if_pos h1]
  constructor
  ·intro e;exact .inl ⟨h1,bR e⟩
  ·rintro(⟨_,e⟩|⟨e,_⟩)
   ·rw[e]
   ·exact absurd h1 e
 ·rw[if_neg h1];by_cases h2:p.2=a
  ·rw[if_pos h2]
   constructor
   ·intro e;exact .inr ⟨h1,h2,bR e⟩
   ·rintro(⟨e,_⟩|⟨_,_,e⟩)
    ·exact absurd e h1
    ·rw[e]
  ·rw[if_neg h2]
   constructor
   ·intro e;cases e
   ·rintro(⟨e,_⟩|⟨_,e,_⟩)
    ·exact absurd e h1
    ·exact absurd e h2
theorem Qq(h:Web n ps){a b:Int}:b∈aY a ps↔((if b<a then b else a,if b>a then b else a):Int×Int)∈ps:=by
 rw[zft]
 constructor
 ·rintro⟨⟨x,y⟩,hp,⟨rfl,rfl⟩|⟨h1,rfl,rfl⟩⟩
  ·have:=h.tie _ hp;dsimp only at this ⊢;rw[if_neg gV,if_pos gV];exact hp
  ·have:=h.tie _ hp;dsimp only at this ⊢;rw[if_pos gV,if_neg gV];exact hp
 ·intro hp;have ht:=h.tie _ hp;dsimp only at ht;by_cases c:b<a
  ·rw[if_pos c,if_neg gV] at hp;exact⟨_,hp,.inr ⟨by dsimp only;lia,rfl,rfl⟩⟩
  ·by_cases c2:b>a
   ·rw[if_neg c,if_pos c2] at hp;exact⟨_,hp,.inl ⟨rfl,rfl⟩⟩
   ·rw[if_neg c,if_neg c2] at ht
    lia
theorem Xg{k':Nat}{a b:Int}(h:Web n ps)(hk:1<=k)(hk2:k<=1000)(hh:cB n k d ps hs)(ha:0<=a/\a<n)(hb:0<=b/\b<n):W (call ao T (k'+1) true 33 [.d (aQ n ps),.d (aL k d),.d (.tup (hs.map .int)),.d (.int a),.d (.int b)]) [] λv s=>v=.d (.bl (decide (b∈aq k d ps hs a))):=by
 have hl:=hh.len;have ew:aQ n ps=.tup [.int n,.tup (ps.map cG)]:=rfl;have er:aL k d=.tup [.int k,.int d]:=rfl;refine W.call Wd rfl ?_;unfold O8;refine Y ?_;refine bL (Nv (f:=λb=>!b) (p:=(if b<a then b else a,if b>a then b else a))) ?_;refine Y ?_;have hm:(b∈aq k d ps hs a)↔((if b<a then b else a,if b>a then b else a):Int×Int)∈ps/\at' hs b=(at' hs a+d)%k:=by
  unfold aq;rw[iw,Qq h,j_]
 by_cases hp:((if b<a then b else a,if b>a then b else a):Int×Int)∈ps
 ·rw[cX hp];refine Y ?_;refine bL (ql gV gV) ?_;refine Y ?_;refine bL (ql gV gV) ?_;refine Y ?_;have hb':=hh.lo _ (Vh (us:=hs) hb.1 gV);show Xv.d (.bl _)=_
  congr 2
  show decide ((at' hs a+d-at' hs b)%k=0)=_;rw[FZ,hm]
  constructor
  ·intro e;refine⟨hp,?_⟩;have:=Int.emod_emod_of_dvd (at' hs a+d) (Int.dvd_refl k);have e2:(at' hs a+d)%k=(at' hs b)%k:=(Qu).mpr e;rw[e2,FT hb'.1 hb'.2]
  ·rintro⟨_,e⟩;refine(Qu).mp ?_;rw[<-e,FT hb'.1 hb'.2]
 ·rw[eU hp];refine Y ?_;rw[eU λz=>hp (hm.mp z).1]
theorem Xh{k':Nat}{s0:S}{acc:List (List Int)}{p:Int}{e:List Int}{a3 a4 a7:Option Xv}(h:Web n ps)(hk:1<=k/\k<=1000)(hh:cB n k d ps hs)(lo:∀x∈p::e,0<=x/\x<n)(he:e.length<=100)(hm:acc.length<=1000000){Q:Out->S->Prop}
  (q:∀a7,Q (.nx [some (.d (aQ n ps)),some (.d (aL k d)),some (.d (.tup (hs.map .int))),a3,a4,some (.l s0.length),some (.d (aG (p::e))),a7]) (s0++[.lst ((acc++nxt n (aq k d ps hs) (p::e)).map aG)])) :
  WS (exs ao true (λc=>Mi.call ao T (k'+1) c) (.cons (.fr (.nm 7) (.rg (.pr true .add (Eb (Ei (.v 6) (Ci 0)) (Ci 1))) (Ei (.v 0) (Ci 0))) (.cons (.iff (.and (.pr true .nin (Eb (.v 7) (.v 6))) (.call 33 (.cons (.v 0) (.cons (.v 1) (Ec (.v 2) (Ei (.v 6) (.pr true .neg (Ea (Ci 1)))) (.v 7)))))) (.cons (.ex (.push (.v 5) (.pr true .add (Eb (.v 6) (.tup (Ea (.v 7))))))) .nil) .nil) .nil)) .nil)
   [some (.d (aQ n ps)),some (.d (aL k d)),some (.d (.tup (hs.map .int))),a3,a4,some (.l s0.length),some (.d (aG (p::e))),a7]) (s0++[.lst (acc.map aG)]) Q:=by
 have qZ:(2000000:Nat)<=sizeLine:=by decide
 have h1:=h.h1;have h8:=h.h8;have hp:=lo p J0;have hla:=lo _ (Ir (e:=e) (p:=p));have ew:aQ n ps=.tup [.int n,.tup (ps.map cG)]:=rfl;have i0:prim .ix [aG (p::e),.int 0]=some (.dat (.int p)):=ql (fs:=p::e) (j:=0) Dc J0;refine Y ?_;refine bL i0 ?_;refine Y ?_;refine⟨by rw[kW gV gV,kW gV gV];rfl,?_⟩;refine qb (c:=gK (p+1) n) (λi J s'=>∃a7:Option Xv,J=[some (.d (aQ n ps)),some (.d (aL k d)),some (.d (.tup (hs.map .int))),a3,a4,some (.l s0.length),some (.d (aG (p::e))),a7]/\s'=s0++[.lst ((acc++((((List.range i).map λ(j:Nat)=>p+1+(j:Int)).filter λx=>decide (x∉p::e)&&decide (x∈aq k d ps hs (gA p e))).map λx=>p::e++[x])).map aG)]) ⟨_,rfl,by simp⟩ (λi x J s' ei hI=>?_) (λJ s' hI=>?_)
 ·obtain⟨a7,rfl,rfl⟩:=hI;obtain⟨rfl,hi⟩:=HJ ei;have et:(List.range (i+1)).map (λ(j:Nat)=>p+1+(j:Int))=(List.range i).map (λ(j:Nat)=>p+1+(j:Int))++[p+1+(i:Int)]:=by rw[Ab,lY];rfl
  have hle:((((List.range i).map λ(j:Nat)=>p+1+(j:Int)).filter λx=>decide (x∉p::e)&&decide (x∈aq k d ps hs (gA p e))).map λx=>p::e++[x]).length<=8:=by
   rw[cH];refine kj (Fx _ _) ?_;rw[cH,lQ]
   lia
  generalize hx:p+1+(i:Int)=x at et hi;refine Y ?_;refine bL (NT (f:=λb=>!b) (ls:=p::e)) ?_;refine Y ?_;refine W.ite (λc1=>?_) (λc1=>?_)
  ·have c1:x∉p::e:=by simpa using c1
   refine Y ?_;refine bL Ip ?_;refine Y ?_;refine W.c0 (Xg h hk.1 hk.2 hh hla gV) ?_;refine Y ?_;refine WS.ite (λc2=>?_) (λc2=>?_)
   ·have ef:[x].filter (λx=>decide (x∉p::e)&&decide (x∈aq k d ps hs (gA p e)))=[x]:=by
     rw[qy,cX c1,c2];rfl
    refine Y ?_;refine bL (HX (by rw[cH,gB];show _+1<=_;lia)) ?_;refine Y ?_;refine⟨by rw[cH,bO];lia,?_⟩;rw[zgc];refine Y ?_;refine⟨_,rfl,_,rfl,?_⟩;rw[et,uo,ef];generalize List.filter _ ((List.range i).map _)=G;unfold aG;simp[vJ]
   ·have ef:[x].filter (λx=>decide (x∉p::e)&&decide (x∈aq k d ps hs (gA p e)))=[]:=by
     rw[qy,show decide (x∈aq k d ps hs (gA p e))=false by simpa using c2,Bool.and_false];rfl
    refine Y ?_;refine⟨_,rfl,_,rfl,?_⟩;rw[et,uo,ef,lZ]
  ·have c1:x∈p::e:=by
    cases hq:decide (x∈p::e) with
    |true=>exact fH hq
    |false=>rw[hq] at c1;exact absurd rfl c1
   have ef:[x].filter (λx=>decide (x∉p::e)&&decide (x∈aq k d ps hs (gA p e)))=[]:=by
    rw[qy,show decide (x∉p::e)=false from eU λz=>z c1,Bool.false_and];rfl
   refine Y ?_;refine⟨_,rfl,_,rfl,?_⟩;rw[et,uo,ef,lZ]
 ·obtain⟨a7,rfl,rfl⟩:=hI;rw[HN];refine Y ?_;exact q _
theorem Xi(h:Web n ps)(l:Int):(aq k d ps hs l).Pairwise (·<·):=(Ut h l).filter _
theorem Xj(h:Web n ps)(l:Int):l∉aq k d ps hs l:=λz=>by
 have:=(Qq h).mp (iw.mp z).1;have:=h.tie _ this;dsimp only at this;rw[if_neg gV] at this
 lia
theorem zk1(h:Web n ps)(hd:1<=d)(hh:cB n k d ps hs)(l x y:Int)(h1:x∈aq k d ps hs l)(h2:y∈aq k d ps hs l):y∉aq k d ps hs x:=λh3=>by
 have q1:=fH (iw.mp h1).2;have q2:=fH (iw.mp h2).2;have q3:=fH (iw.mp h3).2;have hx:=zT h l x h1;have Xd:=hh.lo _ (Vh (us:=hs) hx.1 (by have:=hh.len;lia));have hp:=(Qq h).mp (iw.mp h1).1;have hg:=hh.fit _ hp;have hk:=(qW hd).mp hg;have Fb:d<k:=by lia
 have e:at' hs x=(at' hs x+d)%k:=by rw[<-q3,q2,q1]
 by_cases c:at' hs x+d<k
 ·rw[FT gV c] at e;lia
 ·have:(at' hs x+d)%k=at' hs x+d-k:=by
   rw[<-Int.sub_emod_right,FT gV gV]
  lia
theorem Xk(h:Web n ps)(h6:n<=6)(hd:1<=d)(hh:cB n k d ps hs):(cR n (aq k d ps hs) 8).length<64:=
 zg5 (λl x=>zT h l x) (Xj h) (λl=>(Xi h l).imp λ{a b} q e=>by lia) (zk1 h hd hh) h6
theorem Xl(h:Web n ps)(h6:n<=6):∀j,(lv n (aq k d ps hs) j).length<=6^(j+1)
 |0=>by unfold lv;rw[cH,lQ];lia
 |j+1=>by
  unfold lv;have key:∀l:List (List Int),(∀r∈l,0<=at' r 0)->(l.flatMap (nxt n (aq k d ps hs))).length<=l.length*6:=by
   intro l
   induction l with
   |nil=>intro _;simp
   |cons r l ih=>
    intro hr;rw[List.flatMap_cons,bO,gB,yH];have h1:(nxt n (aq k d ps hs) r).length<=6:=by
     unfold nxt;rw[cH];refine kj (Fx _ _) ?_;unfold oX;rw[cH,lQ];have:=hr r J0
     lia
    have:=ih λr uV=>hr r (iD _ uV)
    lia
  have:=key (lv n (aq k d ps hs) j) λr hr=>by
   obtain⟨p,e,rfl,_,hp,_⟩:=(t_ λl x=>zT h l x).mp hr;exact hp.1
  have ih:=Xl h h6 j;rw[Nat.pow_succ]
  lia
end
section
variable {n k d:Int}{ps:List (Int×Int)}{hs:List Int}
def Fd(x:Option Xv)(s:S)(rows:List (List Int)):Prop:=x=some (.d (.fl (rows.map aG)))\/∃j,x=some (.l j)/\s[j]?=some (.lst (rows.map aG))
theorem zfl{k':Nat}(h:Web n ps)(h6:n<=6)(hr:1<=d/\d<=k/\k<=24)(hh:cB n k d ps hs):W (call ao T (k'+2) true 34 [.d (aQ n ps),.d (aL k d),.d (.tup (hs.map .int))]) [] λv s=>v=.d (.fl ((cR n (aq k d ps hs) 8).map aG)):=by
 have qZ:(10000000:Nat)<=sizeLine:=by decide
 have h1:=h.h1;have ew:aQ n ps=.tup [.int n,.tup (ps.map cG)]:=rfl;have hn:∀l x,x∈aq k d ps hs l->0<=x/\x<n:=λl x=>zT h l x;have p6:∀j,j<=7->6^(j+1)<=1679616:=by decide
 refine W.call Wf rfl ?_;unfold O9;refine Y ?_;refine oU (l:=List.range (n-0).toNat) (f:=λ(j:Nat)=>.int (0+j)) (λ(j:Nat)=>some (aG [(j:Int)])) (by rw[lQ];lia) ?_ (λj hj=>?_) ?_
 ·refine Y ?_;refine⟨by rw[kW gV gV,kW gV gV];rfl,?_⟩;exact⟨rfl,rfl⟩
 ·refine Y ?_;refine⟨rfl,λ_=>?_,λhb=>by cases hb⟩;refine Y ?_;exact⟨rfl,_,rfl,by unfold aG;rw[show (0:Int)+j=j by lia];rfl⟩
 have e0:(List.range (n-0).toNat).filterMap (λ(j:Nat)=>some (aG [(j:Int)]))=(lv n (aq k d ps hs) 0).map aG:=by
  rw[U6,show n-0=n by lia];unfold lv;rw[List.map_map];rfl
 rw[e0];refine Y ?_;refine WS.imp (Q:=λo s'=>∃(j:Nat) (a4 a5 a6 a7:Option Xv),lv n (aq k d ps hs) j=[]/\o=.nx [some (.d (aQ n ps)),some (.d (aL k d)),some (.d (.tup (hs.map .int))),some (.d (.fl ((jx n (aq k d ps hs) j).map aG))),a4,a5,a6,a7]) ?_ (λo s' hR=>?_)
 ·refine WS.wh (λm J s'=>∃(j:Nat) (a4 a5 a6 a7:Option Xv),m+j=n.toNat+1/\J=[some (.d (aQ n ps)),some (.d (aL k d)),some (.d (.tup (hs.map .int))),some (.d (.fl ((jx n (aq k d ps hs) j).map aG))),a4,a5,a6,a7]/\Fd a4 s' (lv n (aq k d ps hs) j)/\(jx n (aq k d ps hs) j).length<=j*1679616) (m:=n.toNat+1) (by show _<iM;unfold iM;lia) ⟨0,_,_,_,_,by lia,rfl,.inl rfl,by simp[jx]⟩ (λm J s' hI=>?_);obtain⟨j,a4,a5,a6,a7,hmj,rfl,Fe,hfl⟩:=hI;have hne:∀rows:List (List Int),rows=lv n (aq k d ps hs) j->rows≠[]->j<n.toNat:=λrows e hne=>by
   subst e;obtain⟨r,hr⟩:=List.exists_mem_of_ne_nil _ hne;obtain⟨p,e,rfl,he,hp,hc⟩:=(t_ hn).mp hr;have hl:=zO hn hc J0 (λx hx=>by rw[mW] at hx;subst hx;exact hp);have:=Ew hl.1 hl.2;simp at this
   lia
  have test:W (ev ao true (call ao T (k'+1) true) (.pr true .ne (Eb (.v 4) (.lst true .nil))) [some (.d (aQ n ps)),some (.d (aL k d)),some (.d (.tup (hs.map .int))),some (.d (.fl ((jx n (aq k d ps hs) j).map aG))),a4,a5,a6,a7]) s' λx s1=>x=.d (.bl (!((lv n (aq k d ps hs) j).map aG).isEmpty))/\s1=s':=by
   rcases Fe with rfl|⟨i,rfl,hi⟩
   ·refine Y ?_;refine bL Xf ?_;exact⟨rfl,rfl⟩
   ·refine Y ?_;refine Nk hi ?_;refine Y ?_;refine bL Xf ?_;exact⟨rfl,rfl⟩
  refine test.imp λx s1 hx=>?_;obtain⟨rfl,rfl⟩:=hx;refine W.bool ⟨λhb=>?_,λhb=>?_⟩
  ·have hj:j<n.toNat:=hne _ rfl λz=>by rw[z] at hb;cases hb
   have p7:∀j,j<=5->6^(j+2)<=279936:=by decide
   have hll:(lv n (aq k d ps hs) (j+1)).length<=279936:=kj (Xl h h6 (j+1)) (p7 j gV);have elv:lv n (aq k d ps hs) (j+1)=(lv n (aq k d ps hs) j).flatMap (nxt n (aq k d ps hs)):=rfl;have rest:∀a4 a6 a7:Option Xv,WS (exs ao true (λc=>Mi.call ao T (k'+1) c) (.cons (.asg (.nm 3) (.pr true .add (Eb (.v 3) (.comp true (.v 0) [0] (.seq (.v 5)) [0,1,2] 1 (.yes (.call 33 (.cons (.v 1) (.cons (.v 2) (Ec (.v 3) (Ei (.v 0) (.pr true .neg (Ea (Ci 1)))) (Ei (.v 0) (Ci 0))))))))))) (.cons (.asg (.nm 4) (.v 5)) .nil))
     [some (.d (aQ n ps)),some (.d (aL k d)),some (.d (.tup (hs.map .int))),some (.d (.fl ((jx n (aq k d ps hs) j).map aG))),a4,some (.l s1.length),a6,a7]) (s1++[.lst ((lv n (aq k d ps hs) (j+1)).map aG)]) λo s3=>(∃J' m',o=.nx J'/\m'<m/\∃(j:Nat) (a4 a5 a6 a7:Option Xv),m'+j=n.toNat+1/\J'=[some (.d (aQ n ps)),some (.d (aL k d)),some (.d (.tup (hs.map .int))),some (.d (.fl ((jx n (aq k d ps hs) j).map aG))),a4,a5,a6,a7]/\Fd a4 s3 (lv n (aq k d ps hs) j)/\(jx n (aq k d ps hs) j).length<=j*1679616):=by
    intro a4 a6 a7;refine Y ?_;refine N5 (l:=lv n (aq k d ps hs) (j+1)) (f:=aG) (s1++[.lst ((lv n (aq k d ps hs) (j+1)).map aG)]) (λr=>if uc (aq k d ps hs) r=true then some (aG r) else none) gV ?_ (λr ud=>?_) ?_
    ·refine Y ?_;refine Ia (c:=(lv n (aq k d ps hs) (j+1)).map aG) tV ?_;refine⟨rfl,rfl,λi=>?_⟩;simp only[Src.at,tV]
    ·obtain⟨p,e,rfl,he,hp,hc⟩:=(t_ hn).mp ud;have hl:=zO hn hc J0 (λx hx=>by rw[mW] at hx;subst hx;exact hp);have i0:prim .ix [aG (p::e),.int 0]=some (.dat (.int p)):=ql (fs:=p::e) (j:=0) Dc J0;refine Y ?_;refine bL Ip ?_;refine Y ?_;refine bL i0 ?_;refine Y ?_;refine W.c0 (Xg h gV gV hh (hl.2 _ (Ir (e:=e) (p:=p))) hp) ?_;refine Y ?_;have ec:uc (aq k d ps hs) (p::e)=decide (p∈aq k d ps hs (gA p e)):=rfl;rw[ec];refine⟨rfl,λhb=>?_,λhb=>?_⟩
     ·refine Y ?_;exact⟨rfl,_,rfl,by rw[if_pos hb]⟩
     ·rw[if_neg (by rw[hb];decide)]
    ·have ef:(lv n (aq k d ps hs) (j+1)).filterMap (λr=>if uc (aq k d ps hs) r=true then some (aG r) else none)=((lv n (aq k d ps hs) (j+1)).filter (uc (aq k d ps hs))).map aG:=by
      generalize lv n (aq k d ps hs) (j+1)=l
      induction l with
      |nil=>rfl
      |cons r l ih=>
       rw[rm,qy];cases uc (aq k d ps hs) r
       ·simpa using ih
       ·simpa using ih
     rw[ef];have hlf:=Fx (uc (aq k d ps hs)) (lv n (aq k d ps hs) (j+1));refine Y ?_;refine xV (HD (by rw[cH,cH];lia)) ?_;refine Y ?_;refine⟨_,m-1,rfl,by lia,j+1,_,_,_,_,by lia,by rw[Vp,lY];rfl,.inr ⟨_,rfl,tV⟩,?_⟩;rw[Vp,bO]
     lia
   have key:∀(t:Nat) (r:List Int),(lv n (aq k d ps hs) j)[t]?=some r->∃p e,r=p::e/\(∀x∈p::e,0<=x/\x<n)/\e.length<=100/\((lv n (aq k d ps hs) j).take (t+1)).flatMap (nxt n (aq k d ps hs))=((lv n (aq k d ps hs) j).take t).flatMap (nxt n (aq k d ps hs))++nxt n (aq k d ps hs) (p::e)/\(((lv n (aq k d ps hs) j).take t).flatMap (nxt n (aq k d ps hs))).length<=1000000:=λt r er=>by
    obtain⟨p,e,rfl,he,hp,hc⟩:=(t_ hn).mp (fU er);have hl:=zO hn hc J0 (λx hx=>by rw[mW] at hx;subst hx;exact hp);refine⟨p,e,rfl,hl.2,by lia,by rw[Ad,er,rz];simp,?_⟩;have:(((lv n (aq k d ps hs) j).take t).flatMap (nxt n (aq k d ps hs))).length<=(lv n (aq k d ps hs) (j+1)).length:=by
     rw[elv]
     conv=>rhs;rw[<-Jd t (lv n (aq k d ps hs) j)]
     rw[rz,bO]
     lia
    lia
   have e5:((lv n (aq k d ps hs) j).take ((lv n (aq k d ps hs) j).map aG).length).flatMap (nxt n (aq k d ps hs))=lv n (aq k d ps hs) (j+1):=by rw[cH,yF];rfl
   refine WS.imp (Q:=_) ?_ λo s3 q=>.inl q;rcases Fe with rfl|⟨i,rfl,hi⟩
   ·refine Y ?_;refine qb (c:=(lv n (aq k d ps hs) j).map aG) (λt J s'=>∃(a6 a7:Option Xv),s'=s1++[.lst ((((lv n (aq k d ps hs) j).take t).flatMap (nxt n (aq k d ps hs))).map aG)]/\J=[some (.d (aQ n ps)),some (.d (aL k d)),some (.d (.tup (hs.map .int))),some (.d (.fl ((jx n (aq k d ps hs) j).map aG))),some (.d (.fl ((lv n (aq k d ps hs) j).map aG))),some (.l s1.length),a6,a7]) ⟨_,_,rfl,rfl⟩ (λt x J s' e hI=>?_) (λJ s' hI=>?_)
    ·obtain⟨a6,a7,rfl,rfl⟩:=hI;rw[gZ,kZ] at e;obtain⟨r,er,rfl⟩:=e;obtain⟨p,e,rfl,k1,k2,k3,k4⟩:=key t r er;refine Nt (Nu ?_);refine Xh h gV hh k1 k2 k4 λa7=>?_;exact⟨_,rfl,_,_,by rw[k3],rfl⟩
    ·obtain⟨a6,a7,rfl,rfl⟩:=hI;rw[e5];exact rest _ _ _
   ·refine Y ?_;have Io:i<s1.length:=(fQ.mp hi).1;refine Ia (c:=(lv n (aq k d ps hs) j).map aG) (by rw[kY Io];exact hi) ?_;refine Kbb (n:=i) (c:=(lv n (aq k d ps hs) j).map aG) (λt J s'=>∃(a6 a7:Option Xv),s'=s1++[.lst ((((lv n (aq k d ps hs) j).take t).flatMap (nxt n (aq k d ps hs))).map aG)]/\J=[some (.d (aQ n ps)),some (.d (aL k d)),some (.d (.tup (hs.map .int))),some (.d (.fl ((jx n (aq k d ps hs) j).map aG))),some (.l i),some (.l s1.length),a6,a7]) ⟨_,_,rfl,rfl⟩ (λt J s' hI=>?_) (λt x J s' e hI=>?_) (λJ s' hI=>?_)
    ·obtain⟨a6,a7,rfl,rfl⟩:=hI;rw[kY Io];exact hi
    ·obtain⟨a6,a7,rfl,rfl⟩:=hI;rw[gZ,kZ] at e;obtain⟨r,er,rfl⟩:=e;obtain⟨p,e,rfl,k1,k2,k3,k4⟩:=key t r er;refine Nt (Nu ?_);refine Xh h gV hh k1 k2 k4 λa7=>?_;exact⟨_,rfl,_,_,by rw[k3],rfl⟩
    ·obtain⟨a6,a7,rfl,rfl⟩:=hI;rw[e5];exact rest _ _ _
  ·refine⟨j,_,_,_,_,?_,rfl⟩;cases hl:lv n (aq k d ps hs) j with
   |nil=>rfl
   |cons r l=>rw[hl] at hb;cases hb
 ·obtain⟨j,a4,a5,a6,a7,h0,rfl⟩:=hR;have hfr:=zhe hn (Xj h) h0 (f:=8) gV;have hnd:=zd7 hn (n:=n) (nx:=aq k d ps hs) (j:=j);have hrd:=zge (n:=n) (nx:=aq k d ps hs) (Xi h) (f:=8);have hrn:(cR n (aq k d ps hs) 8).Nodup:=hrd.imp λ{a b} q e=>by subst e;have q:ltI a a=true:=q;rw[zM] at q;cases q
  have hpm:(jx n (aq k d ps hs) j).Perm (cR n (aq k d ps hs) 8):=(List.perm_ext_iff_of_nodup hnd hrn).mpr hfr;have Qs:(jx n (aq k d ps hs) j).length<64:=by rw[hpm.length_eq];exact Xk h h6 hr.1 hh
  obtain⟨qs,e1,e2,e3⟩:=zfx Qs (λr hr=>by
   obtain⟨i,_,hm,_⟩:=nU.mp hr;intro z;have:=Eu hn hm;rw[z] at this;simp at this) hnd
  have eq:qs=cR n (aq k d ps hs) 8:=Vl e2 hrd λx=>(e3 x).trans (hfr x);subst eq;refine Y ?_;refine xV (xs:=(cR n (aq k d ps hs) 8).map aG) (show (pJ _).map Rz.nw=_ by rw[e1];rfl) ?_;exact Y trivial
end
theorem Fg{xs:List Int}{r:Nat}{B:Int}(hb:∀z∈xs,1<=z/\z<=B)(hr:r<xs.length):∃z:Int,prim .ix [.fl (xs.map .int),.int r]=some (.dat (.int z))/\1<=z/\z<=B:=
 ⟨xs[r],HB (by rw[gZ,gj hr];rfl),hb _ (List.getElem_mem _)⟩
section
variable {n k d:Int}{ps:List (Int×Int)}{hs:List Int}
theorem zkU{k:Nat}{o:SO}(ho:lX o):W (call ao T (k+2) true 31 [.l 0]) [o] λv s=>∃(z:Int) (o':SO),v=.d (.int z)/\s=[o']/\(1<=z/\z<=6)/\lX o':=by
 refine W.call Wb rfl ?_;unfold O6;refine Y ?_;refine zQ ho Dc Dc λr o' hr hp=>?_;refine Y ?_;obtain⟨z,ez,hz⟩:=Fg (xs:=[1,2,3,4,4,5,5,3,6,4]) (r:=r) (B:=6) Dc (by show r<10;lia);refine bL ez ?_;refine Y ?_;exact⟨_,_,rfl,rfl,hz,hp⟩
theorem zhZ{j:Nat}(r:List Int):cJ (j+1) (aG r) (aG r)=some true:=zg0 r
theorem zkF{R:List (List Int)}:prim .ne [.fl (R.map aG),.fl (R.map aG)]=some (.dat (.bl false)):=by
 have:dJ (cJ 49) (R.map aG) (R.map aG)=some true:=by
  induction R with
  |nil=>rfl
  |cons r R ih=>simp only[oY,dJ,ih,zhZ];rfl
 show (dJ (cJ 49) (R.map aG) (R.map aG)).map _=_;rw[this];rfl
theorem Iu{k':Nat}(h:Web n ps)(h6:n<=6)(hr:1<=d/\d<=k/\k<=24)(hh:cB n k d ps hs):W (call ao T (k'+12) true 35 [.d (aQ n ps),.d (aL k d),.d (.tup (hs.map .int))]) [] λv s=>v=.d (.bl true):=by
 have qZ:(1000:Nat)<=sizeLine:=by decide
 have h64:=Xk h h6 hr.1 hh;have Xm:∀r∈cR n (aq k d ps hs) 8,r.length<=8:=λr ud=>by
  unfold cR at ud;obtain⟨i,hi,hm⟩:=yG.mp ud;rw[kh] at hi;obtain⟨e,rfl,hc,_⟩:=cV.mp hm;have hl:=zO (λl x=>zT h l x) hc J0 (λx hx=>by rw[mW] at hx;subst hx;lia);have:=Ew hl.1 hl.2
  lia
 refine W.call Wg rfl ?_;unfold O_;refine Y ?_;refine W.c0 (zfl (k':=k'+9) h h6 hr hh) ?_;refine Y ?_;generalize hR:cR n (aq k d ps hs) 8=R at h64 Xm;refine⟨rfl,?_⟩;refine qb (λ_ J s=>∃a b:Option Xv,J=[some (.d (aQ n ps)),some (.d (aL k d)),some (.d (.tup (hs.map .int))),some (.d (.fl (R.map aG))),a,b]) ⟨_,_,rfl⟩ (λi x J s e hI=>?_) (λJ s hI=>?_)
 ·obtain⟨a,b,rfl⟩:=hI;refine Y ?_;refine Nm rfl ((zjO h hr hh (by rw[hR];lia)).imp λv s1=>?_);rintro⟨j,o,rfl,hj,rfl⟩;rw[hR] at hj;refine⟨j,_,rfl,hj,?_⟩;refine Y ?_;refine bL zkF ?_;refine Y ?_;refine N5 (l:=R) (f:=aG) (s++[.lst (R.map aG)]) (λ_=>some (.bl true)) gV ?_ (λr ud=>?_) ?_
  ·refine Y ?_;refine Ia (c:=R.map aG) tV ?_;refine⟨rfl,rfl,λi=>?_⟩;simp only[Src.at,tV]
  ·unfold aG;refine Y ?_;refine⟨rfl,λ_=>?_,λhb=>by cases hb⟩;refine Y ?_;exact⟨rfl,_,rfl,rfl⟩
  have all1:∀x∈R.filterMap (λ_=>some (D.bl true)),x=.bl true:=λx hx=>by
   obtain⟨_,_,e⟩:=ug.mp hx;exact(bR e).symm
  refine Y ?_;refine bL (zK all1) ?_;refine Y ?_;refine N5 (l:=R) (f:=aG) (s++[.lst (R.map aG)]) (λ_=>some (.bl true)) gV ?_ (λr ud=>?_) ?_
  ·refine Y ?_;refine Ia (c:=R.map aG) tV ?_;refine⟨rfl,rfl,λi=>?_⟩;simp only[Src.at,tV]
  ·have hl8:=Xm r ud;unfold aG;refine Y ?_;refine⟨rfl,λ_=>?_,λhb=>by cases hb⟩;refine Y ?_;refine oU (l:=r) (f:=D.int) (λ_=>some (.bl true)) gV ?_ (λx hx=>?_) ?_
   ·refine Y ?_;exact⟨rfl,rfl⟩
   ·refine Y ?_;refine⟨rfl,λ_=>?_,λhb=>by cases hb⟩;refine Y ?_;refine W.c0 zgk ?_;exact⟨rfl,_,rfl,rfl⟩
   refine Y ?_;refine bL (zK λx hx=>by
    obtain⟨_,_,e⟩:=ug.mp hx;exact(bR e).symm) ?_
   refine Y ?_;exact⟨rfl,_,rfl,rfl⟩
  refine Y ?_;refine bL (zK all1) ?_;refine Y ?_;refine⟨by rw[cH];lia,?_⟩;refine Y ?_;exact⟨_,rfl,_,_,rfl⟩
 ·obtain⟨a,b,rfl⟩:=hI;exact Y trivial
end
theorem qw(ns:List Int)(hn:ns.length<=63):∃s',call ao T 60 true 36 [.d (.fl (ns.map D.int))] []=some (.ok (.d (.bl true)),s'):=by
 suffices h:W (call ao T 60 true 36 [.d (.fl (ns.map D.int))]) [] λv _=>v=.d (.bl true) by
  obtain⟨v,s',e,rfl⟩:=h;exact⟨s',e⟩
 have hs:(100:Nat)<=sizeLine:=by decide
 refine W.call (k:=59) Wh rfl ?_;unfold Pa;refine Y ?_;refine W.c0 (Iu (k':=47) (n:=2) (ps:=[(0,1)]) (k:=2) (d:=1) (hs:=[0,1]) ⟨by lia,by lia,by simp,by simp,by simp⟩ gV gV ⟨by simp,by simp,by decide⟩) ?_;refine Y ?_;refine W.c0 (Iu (k':=47) (n:=1) (ps:=[]) (k:=1) (d:=1) (hs:=[0]) ⟨by lia,by lia,by simp,by simp,by simp⟩ gV gV ⟨by simp,by simp,by simp⟩) ?_;refine Y ?_;refine W.c0 (Iu (k':=47) (n:=3) (ps:=[(0,1),(0,2),(1,2)]) (k:=3) (d:=1) (hs:=[0,1,2]) ⟨by lia,by lia,by simp,by simp[lx],by simp⟩ gV gV ⟨by simp,by simp,by decide⟩) ?_;refine Y ?_;refine tR rfl ((zii (k:=58)).imp λv _=>?_);rintro⟨n0,rfl⟩;refine⟨_,rfl,?_⟩;refine Y ?_;refine xV (HD ?_) ?_
 ·have:=zhI (ns:=ns) (lo:=some 1) (hi:=some 4);show 1+_<=_
  lia
 refine Y ?_;refine qb (λ_ J s=>∃(a b c d:Option Xv),J=[some (.d (.fl (ns.map D.int))),a,b,c,d]) ⟨_,_,_,_,rfl⟩ (λi x J s hx yh=>?_) (λJ s yh=>?_)
 ·obtain⟨m,rfl⟩ : ∃m,x=.int m:=by
   rcases iG.mp (fU hx) with z|z
   ·rcases iy.mp z with rfl|z
    ·exact⟨_,rfl⟩
    ·cases z
   ·exact zhc z
  obtain⟨a,b,c,d,rfl⟩:=yh;refine Y ?_;refine Nm rfl ((zkX (k:=58)).imp λv s1=>?_);rintro⟨j,o,rfl,hj,hp⟩;refine⟨j,o,rfl,hj,?_⟩;refine Y ?_;refine HS rfl ((zkU (k:=57) hp).imp λv s1=>?_);rintro⟨z,o1,rfl,rfl,⟨hz1,Qt⟩,hp⟩;refine⟨_,_,rfl,rfl,?_⟩;refine Y ?_;refine HS rfl ((zfF (k:=57) hp (n:=z) gV gV).imp λv s1=>?_);rintro⟨ps,o2,rfl,rfl,hw,hp⟩;refine⟨_,_,rfl,rfl,?_⟩;refine Y ?_;refine HS rfl ((zhB (k':=56) hp hw Qt).imp λv s1=>?_);rintro⟨kk,dd,o4,rfl,rfl,hr,hex,hp⟩;refine⟨_,_,rfl,rfl,?_⟩;refine Y ?_;refine HS rfl ((zdI (k':=56) hp hw Qt hr hex).imp λv s1=>?_);rintro⟨hs',o5,rfl,rfl,hh,hp⟩;refine⟨_,_,rfl,rfl,?_⟩;refine Y ?_;refine W.c0 (Iu (k':=47) hw Qt ⟨hr.1,hr.2.1,by lia⟩ hh) ?_;refine Y ?_;exact⟨_,rfl,_,_,_,_,rfl⟩
 ·obtain⟨a,b,c,d,rfl⟩:=yh;exact Y trivial
end dG
open PySem PySem.W PyProof.Rows
set_option maxRecDepth 100000 in
set_option maxHeartbeats 0 in
theorem PySem.Challenge.cw_ringhues_k25_full_rounds_told_holds : PySem.Challenge.rw_ringhues_k25_full_rounds_told.Holds := by
 refine PySem.W.holds_law dG.ws λsaid=>?_;refine holds_open (q:=dG.qv) (loose:=dG.loose) (Xt:=λs=>xlAt dG.qv [] s&&recOk [] s) (XP:=XL dG.qv []) (Yf:=(Mi.jw dG.fs dG.ms dG.xs dG.lk).obs) (Ya:=(Mi.jw dG.fs dG.ms dG.xs dG.lk).val) (YP:=(Mi.jw dG.fs dG.ms dG.xs dG.lk).says) (N:=20000) dG.left (Mi.jw dG.fs dG.ms dG.xs dG.lk).of (Mi.jw dG.fs dG.ms dG.xs dG.lk).keeps (λs e=>xl_of s (Je.mp e).1) XL.keeps (by rfl) (by rfl) (by rfl) (λs e=>recFacts_of (Je.mp e).2) (by rfl) (by first|assumption|decide +kernel) Bd ⟨rfl,rfl,rfl,rfl,rfl,by decide +kernel⟩ ?hw ?hc
 case hw=>w_witness2
 case hc=>exact Mi.DY (l:=PySem.Challenge.rw_ringhues_k25_full_rounds_told) (x:="_law_script") (k:=60) rfl rfl ⟨by decide,by decide,rfl⟩ (λw K mg fa h S X G Qj=>dG.all_mk dG.qw S X G Qj)
